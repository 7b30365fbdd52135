/- A cell: which of its slots counts; Read: walked. -/
import Derived.Test.YtnpognhgncnnpaaCelBev
namespace Go.Proofs.Ytnpognhgncnnpaa.Mat
open Go.RowKit Fld

/-! ### two slots -/
def cuB (a b : ByteArray) : Bool := tcB a || tcB b
def cuAt (a b : ByteArray) : Nat := if tcB a = true ∧ (tcB b = false ∨ tcV b ≤ tcV a) then 0 else 1
def cuT (a b : ByteArray) : Nat := if cuAt a b = 0 then tcV a else tcV b
def cuX (a b : ByteArray) : ByteArray := if cuAt a b = 0 then tcX a else tcX b
def cuE (a b : ByteArray) : Int := if cuB a b = true then 0 else 7
def two (a b : ByteArray) (i : Nat) : ByteArray := if i = 0 then a else b
theorem tcV_no {s : ByteArray} (h : tcB s = false) : tcV s = 0 := (tc_no h).2.1
theorem tcX_no {s : ByteArray} (h : tcB s = false) : tcX s = ByteArray.empty := (tc_no h).2.2
theorem cuAt_zero {a b : ByteArray} (ha : tcB a = true) (h : tcB b = false ∨ tcV b ≤ tcV a) : cuAt a b = 0 ∧ cuT a b = tcV a ∧ cuX a b = tcX a ∧ cuE a b = 0 ∧ cuB a b = true := by
  have e : cuAt a b = 0 := if_pos ⟨ha, h⟩
  have e2 : cuB a b = true := by unfold cuB; rw [ha]; rfl
  exact ⟨e, by unfold cuT; rw [if_pos e], by unfold cuX; rw [if_pos e], by unfold cuE; rw [if_pos e2], e2⟩
theorem cuAt_one {a b : ByteArray} (hb : tcB b = true) (h : tcB a = false ∨ tcV a < tcV b) : cuAt a b = 1 ∧ cuT a b = tcV b ∧ cuX a b = tcX b ∧ cuE a b = 0 ∧ cuB a b = true := by
  have e : cuAt a b = 1 := if_neg (fun hh => by
    rcases h with h | h
    · rw [h] at hh; cases hh.1
    · rcases hh.2 with h2 | h2
      · rw [hb] at h2; cases h2
      · omega)
  have e2 : cuB a b = true := by unfold cuB; rw [hb, Bool.or_true]
  exact ⟨e, by unfold cuT; rw [e]; rfl, by unfold cuX; rw [e]; rfl, by unfold cuE; rw [if_pos e2], e2⟩
theorem cuAt_none {a b : ByteArray} (ha : tcB a = false) (hb : tcB b = false) : cuAt a b = 1 ∧ cuT a b = 0 ∧ cuX a b = ByteArray.empty ∧ cuE a b = 7 ∧ cuB a b = false := by
  have e : cuAt a b = 1 := if_neg (fun hh => by rw [ha] at hh; cases hh.1)
  have e2 : cuB a b = false := by unfold cuB; rw [ha, hb]; rfl
  refine ⟨e, ?_, ?_, by unfold cuE; rw [e2]; rfl, e2⟩
  · unfold cuT; rw [e]; show tcV b = 0; exact tcV_no hb
  · unfold cuX; rw [e]; show tcX b = _; exact tcX_no hb
theorem cu_cases (a b : ByteArray) : (tcB a = true ∧ (tcB b = false ∨ tcV b ≤ tcV a)) ∨ (tcB b = true ∧ (tcB a = false ∨ tcV a < tcV b)) ∨ (tcB a = false ∧ tcB b = false) := by
  cases ha : tcB a <;> cases hb : tcB b
  · exact .inr (.inr ⟨rfl, rfl⟩)
  · exact .inr (.inl ⟨rfl, .inl rfl⟩)
  · exact .inl ⟨rfl, .inl rfl⟩
  · rcases Nat.lt_or_ge (tcV a) (tcV b) with h | h
    · exact .inr (.inl ⟨rfl, .inr h⟩)
    · exact .inl ⟨rfl, .inr h⟩
theorem cuAt_lt (a b : ByteArray) : cuAt a b = 0 ∨ cuAt a b = 1 := by
  unfold cuAt
  by_cases h : tcB a = true ∧ (tcB b = false ∨ tcV b ≤ tcV a)
  · rw [if_pos h]; exact .inl rfl
  · rw [if_neg h]; exact .inr rfl
theorem tcV_max (s : ByteArray) : tcV s < 18446744073709551616 := by
  unfold tcV
  by_cases h : tcB s = true
  · rw [if_pos h]; exact takeN_lt _
  · rw [if_neg h]; omega
theorem cuT_max (a b : ByteArray) : cuT a b < 18446744073709551616 := by
  unfold cuT
  by_cases h : cuAt a b = 0
  · rw [if_pos h]; exact tcV_max _
  · rw [if_neg h]; exact tcV_max _
/-- the better of two -/
theorem bst_two (a b : ByteArray) : bst (recs (two a b) 2) = ⟨cuAt a b, cuT a b, cuX a b, cuE a b⟩ := by
  have t0 : two a b 0 = a := rfl
  have t1 : two a b 1 = b := rfl
  cases ha : tcB a
  · have e1 : recs (two a b) 1 = [] := recs_no (by rw [t0]; exact ha)
    cases hb : tcB b
    · have e2 : recs (two a b) 2 = [] := by rw [recs_no (by rw [t1]; exact hb), e1]
      obtain ⟨h1, h2, h3, h4, _⟩ := cuAt_none ha hb
      rw [e2, h1, h2, h3, h4]; rfl
    · have e2 : recs (two a b) 2 = [(1, tcV b, tcX b)] := by rw [recs_yes (by rw [t1]; exact hb), e1, t1]; rfl
      obtain ⟨h1, h2, h3, h4, _⟩ := cuAt_one (a := a) hb (.inl ha)
      rw [e2, h1, h2, h3, h4]
      show bstep bst0 _ = _
      rw [bstep_yes (.inl (by show (7 : Int) ≠ 0; omega))]
  · have e1 : recs (two a b) 1 = [(0, tcV a, tcX a)] := by rw [recs_yes (by rw [t0]; exact ha), t0]; rfl
    have b1 : bst [(0, tcV a, tcX a)] = ⟨0, tcV a, tcX a, 0⟩ := by
      show bstep bst0 _ = _
      rw [bstep_yes (.inl (by show (7 : Int) ≠ 0; omega))]
    cases hb : tcB b
    · have e2 : recs (two a b) 2 = [(0, tcV a, tcX a)] := by rw [recs_no (by rw [t1]; exact hb), e1]
      obtain ⟨h1, h2, h3, h4, _⟩ := cuAt_zero ha (.inl hb)
      rw [e2, h1, h2, h3, h4, b1]
    · have e2 : recs (two a b) 2 = [(0, tcV a, tcX a)] ++ [(1, tcV b, tcX b)] := by rw [recs_yes (by rw [t1]; exact hb), e1, t1]
      rw [e2, bst_snoc, b1]
      rcases Nat.lt_or_ge (tcV a) (tcV b) with h | h
      · obtain ⟨h1, h2, h3, h4, _⟩ := cuAt_one hb (.inr h)
        rw [bstep_yes (.inr h), h1, h2, h3, h4]
      · obtain ⟨h1, h2, h3, h4, _⟩ := cuAt_zero ha (.inr h)
        rw [bstep_no (by rintro (h' | h'); exact h' rfl; exact absurd h' (by show ¬ tcV a < tcV b; omega)), h1, h2, h3, h4]

/-! ### a cell of a disk -/
def bothB (n : Nat) (base : Int) : Bool := decide (0 ≤ base ∧ base + 1 < n)
theorem both_iff {n : Nat} {base : Int} : bothB n base = true ↔ (0 ≤ base ∧ base + 1 < n) := decide_eq_true_iff
theorem both_niff {n : Nat} {base : Int} : bothB n base = false ↔ ¬ (0 ≤ base ∧ base + 1 < n) := decide_eq_false_iff_not
def s0 (d : Dk) (base : Int) : ByteArray := getS d base
def s1 (d : Dk) (base : Int) : ByteArray := getS d (base + 1)
theorem lastT_size {I : Nat → Int} {T : Nat → ByteArray} {slot : Int} {s : ByteArray} {L : Nat} (hs : s.size ≤ L) : ∀ (m : Nat), (∀ i, i < m → (T i).size ≤ L) → (lastT I T slot s m).size ≤ L
  | 0, _ => hs
  | m + 1, h => by
    show (if I m = slot then T m else lastT I T slot s m).size ≤ L
    by_cases e : I m = slot
    · rw [if_pos e]; exact h m (Nat.lt_succ_self m)
    · rw [if_neg e]; exact lastT_size hs m (fun i hi => h i (by omega))
theorem getS_size {d : Dk} (h : Sz d) (slot : Int) : (getS d slot).size ≤ 140737488351232 := by
  unfold getS
  by_cases e : hasB d.n slot = true
  · rw [if_pos e]
    obtain ⟨a, b⟩ := hasB_iff.1 e
    exact lastT_size (h.zs _ (by omega)) _ h.zt
  · rw [if_neg e]; simp
def rdE (d : Dk) (base : Int) : Int := if bothB d.n base = true then cuE (s0 d base) (s1 d base) else 1
def rdA (d : Dk) (base : Int) : Nat := if bothB d.n base = true then cuAt (s0 d base) (s1 d base) else 0
def rdT (d : Dk) (base : Int) : Nat := if bothB d.n base = true then cuT (s0 d base) (s1 d base) else 0
def rdX (d : Dk) (base : Int) : ByteArray := if bothB d.n base = true then cuX (s0 d base) (s1 d base) else ByteArray.empty
theorem rd_in {d : Dk} {base : Int} (h : bothB d.n base = true) : rdE d base = cuE (s0 d base) (s1 d base) ∧ rdA d base = cuAt (s0 d base) (s1 d base) ∧ rdT d base = cuT (s0 d base) (s1 d base) ∧ rdX d base = cuX (s0 d base) (s1 d base) := by
  unfold rdE rdA rdT rdX; rw [if_pos h, if_pos h, if_pos h, if_pos h]; exact ⟨rfl, rfl, rfl, rfl⟩
theorem rd_out {d : Dk} {base : Int} (h : bothB d.n base = false) : rdE d base = 1 ∧ rdA d base = 0 ∧ rdT d base = 0 ∧ rdX d base = ByteArray.empty := by
  unfold rdE rdA rdT rdX; rw [h]; exact ⟨rfl, rfl, rfl, rfl⟩
/-- the result's box of a record -/
theorem results_rec {fn : Func} {t u v : Tmp} (h : fn.results = #[.tmp u, .cell t 69, .tmp v]) (tmps : Array Value) (w : World) (g : Nat) {x : Nat} {y : ByteArray} (hp : tmps.getD t undef = .pointer (some ⟨g, 0, none⟩)) (hc : Has w g 69 2 (rc2 x y)) :
    (results fn tmps).run Try.prog w = .ok (.tuple #[tmps.getD u undef, .agg #[.int .u64 (x : Int), .string y], tmps.getD v undef]) w := by
  have hp' : tmps[t]?.getD undef = .pointer (some ⟨g, 0, none⟩) := by simpa using hp
  have q0 : w.cell? ⟨g, 0, none⟩ = some (.int .u64 (x : Int)) := hc.cell (show 0 < 2 by omega)
  have q1 : w.cell? ⟨g, 1, none⟩ = some (.string y) := hc.cell (show 1 < 2 by omega)
  simp [results, h, hp', asAddr, go_sem, q0, q1]
theorem rec_put {W : World} {g : Nat} {x : Nat} {y : ByteArray} (h : Has W g 69 2 (rc2 x y)) (t : Nat) (v : ByteArray) : Has ((W.setCell ⟨g, 0, none⟩ (.int .u64 (t : Int))).setCell ⟨g, 1, none⟩ (.string v)) g 69 2 (rc2 t v) :=
  ((h.set_ 0 (.int .u64 (t : Int))).set_ 1 (.string v)).congr (fun i hi => by rcases (show i = 0 ∨ i = 1 by omega) with rfl | rfl <;> rfl)
theorem two_st (w : World) (a b : ByteArray) : St (w.alloc (.cells #[.string a, .string b] 9)) (w.alloc (.cells #[.string a, .string b] 9)).heap.size (some ⟨w.heap.size, 0, none⟩) 2 (two a b) := by
  refine St.of_has (has_new w _ _ (fun i hi => ?_)) (by simp)
  rcases (show i = 0 ∨ i = 1 by omega) with rfl | rfl <;> rfl
section
variable {A B : Option Addr} {c k : Nat} {d : Dk} {w : World}
/-- a disk's box, and a record's beside it -/
theorem cur_start (h : DOk w A c B k d) : ∃ W, W = (w.alloc (.cells #[.slice A d.n c, .slice B d.m k, .int .i64 d.fuse, .bool d.off] 37)).alloc (.cells #[.int .u64 0, .string ⟨#[]⟩] 69) ∧
    Bx W w.heap.size (.slice A d.n c) (.slice B d.m k) (.int .i64 d.fuse) (.bool d.off) ∧ Has W (w.heap.size + 1) 69 2 (rc2 0 ByteArray.empty) ∧ DOk W A c B k d ∧ Below w.heap.size w W ∧ W.heap.size = w.heap.size + 1 + 1 := by
  have hb := (Below.refl w.heap.size w).alloc (Nat.le_refl _) (.cells #[.slice A d.n c, .slice B d.m k, .int .i64 d.fuse, .bool d.off] 37)
  have hb2 := hb.alloc hb.size (.cells #[.int .u64 0, .string ⟨#[]⟩] 69)
  refine ⟨_, rfl, (bx_new w _ _ _ _).alloc _, ?_, h.up hb2, hb2, by simp⟩
  have := has_rc (w.alloc (.cells #[.slice A d.n c, .slice B d.m k, .int .i64 d.fuse, .bool d.off] 37)) 0 ByteArray.empty
  rw [size_alloc] at this
  exact this
set_option maxRecDepth 100000 in
set_option maxHeartbeats 1600000 in
theorem current_any (h : DOk w A c B k d) (base : Int) (b0 : -9223372036854775808 ≤ base) (b1 : base ≤ 9223372036854775807) :
    Calls Try.prog 36 #[.agg #[.slice A d.n c, .slice B d.m k, .int .i64 d.fuse, .bool d.off], .int .i64 base] w (BetRet w (rdE d base) (rdA d base) (rdT d base) (rdX d base)) := by
  obtain ⟨W, hW, hX, hR, hD, hB, hz⟩ := cur_start h
  have hbn := h.sz.bn
  have c1 := fun W' (hb : Below W.heap.size W W') => get_any (hD.up hb) base
  have c2 := fun W' (hb : Below W.heap.size W W') => get_any (hD.up hb) (base + 1)
  have z0 := getS_size h.sz base
  have z1 := getS_size h.sz (base + 1)
  obtain ⟨x0, x1, x2, x3⟩ := hX.cells
  by_cases hh : hasB d.n base = true
  · obtain ⟨a0, a1⟩ := hasB_iff.1 hh
    have hwr : IntKind.i64.wrap (base + 1) = base + 1 := IntWalk.i64_in _ (by omega)
    have E1 := (get_in hh).1
    by_cases hh2 : hasB d.n (base + 1) = true
    · obtain ⟨a2, a3⟩ := hasB_iff.1 hh2
      have hbt : bothB d.n base = true := both_iff.2 ⟨a0, a3⟩
      obtain ⟨e1, e2, e3, e4⟩ := rd_in hbt
      rw [e1, e2, e3, e4]
      have E2 := (get_in hh2).1
      have hbe := bst_two (s0 d base) (s1 d base)
      have c3 := fun W => better_any (some ⟨W.heap.size, 0, none⟩) 2 2 (two (s0 d base) (s1 d base)) _ (two_st W (s0 d base) (s1 d base)) (by omega) (fun i hi => by
        rcases (show i = 0 ∨ i = 1 by omega) with rfl | rfl
        · exact z0
        · exact z1)
      rw [hbe] at c3
      have q0 : getS d base = s0 d base := rfl
      have q1 : getS d (base + 1) = s1 d base := rfl
      rw [q0] at c1
      rw [q1] at c2
      rw [E1] at c1
      rw [E2] at c2
      generalize cuE (s0 d base) (s1 d base) = E at *
      generalize cuAt (s0 d base) (s1 d base) = at_ at *
      generalize cuT (s0 d base) (s1 d base) = t at *
      generalize cuX (s0 d base) (s1 d base) = v at *
      generalize s0 d base = S0 at *
      generalize s1 d base = S1 at *
      have C1 := Lib.hid c1
      have C2 := Lib.hid c2
      have C3 := Lib.hid c3
      have HX := Lib.hid hX
      have HR := Lib.hid hR
      have HB := Lib.hid hB
      clear c1 c2 c3 e1 e2 e3 e4 E1 E2 hbe q0 q1 hbt hh hh2 a0 a1 a2 a3 z0 z1 hX hR hB hD h b0 b1 hbn
      go_enter Try.func36, Try.ntmps36
      go_upto_region 1 with fail
      rw [← hW]
      clear hW
      go_wp2_with fail
      refine (C1.out _ (Below.refl _ _)).mono ?_; rintro e w1 ⟨rfl, hb1⟩
      obtain ⟨y0, y1, y2, y3⟩ := (HX.out.up hb1).cells
      clear x0 x1 x2 x3
      go_wp2_with fail
      refine (C2.out _ hb1).mono ?_; rintro e w2 ⟨rfl, hb2⟩
      have hb12 := up_trans hb1 hb2
      clear y0 y1 y2 y3
      go_wp2_with fail
      refine (C3.out _).mono ?_; rintro e w3 ⟨rfl, hb3⟩
      have hb13 := up_trans (hb12.alloc hb12.size _) hb3
      have hr := HR.out.below hb13 HR.out.lt
      have r0 := hr.cell (show 0 < 2 by omega)
      have r1 := hr.cell (show 1 < 2 by omega)
      have f0 := hr.frozen (show 0 < 2 by omega)
      have f1 := hr.frozen (show 1 < 2 by omega)
      have HP := Lib.hid (rec_put hr t v)
      have HQ := Lib.hid (((up_trans HB.out hb13).setCell (p := ⟨w.heap.size + 1, 0, none⟩) (Nat.le_succ _) (.int .u64 (t : Nat))).setCell (p := ⟨w.heap.size + 1, 1, none⟩) (Nat.le_succ _) (.string v))
      clear hr
      go_wp2
      exact bodyPost_ret (results_rec rfl _ _ (w.heap.size + 1) rfl HP.out) rfl ⟨rfl, HQ.out⟩
    · have hh2' : hasB d.n (base + 1) = false := by simpa using hh2
      have hbt : bothB d.n base = false := both_niff.2 (fun q => hh2 (hasB_yes ⟨by omega, q.2⟩))
      obtain ⟨e1, e2, e3, e4⟩ := rd_out hbt
      rw [e1, e2, e3, e4]
      have E2 := (get_out hh2').1
      rw [E1] at c1
      rw [E2] at c2
      generalize getS d base = S0 at *
      generalize getS d (base + 1) = S1 at *
      have C1 := Lib.hid c1
      have C2 := Lib.hid c2
      have HX := Lib.hid hX
      have HR := Lib.hid hR
      have HB := Lib.hid hB
      clear c1 c2 e1 e2 e3 e4 E1 E2 hbt hh hh2 hh2' a0 a1 z0 z1 hX hR hB hD h b0 b1 hbn
      go_enter Try.func36, Try.ntmps36
      go_upto_region 1 with fail
      rw [← hW]
      clear hW
      go_wp2_with fail
      refine (C1.out _ (Below.refl _ _)).mono ?_; rintro e w1 ⟨rfl, hb1⟩
      obtain ⟨y0, y1, y2, y3⟩ := (HX.out.up hb1).cells
      clear x0 x1 x2 x3
      go_wp2_with fail
      refine (C2.out _ hb1).mono ?_; rintro e w2 ⟨rfl, hb2⟩
      have hb12 := up_trans hb1 hb2
      clear y0 y1 y2 y3
      have hr := HR.out.below hb12 HR.out.lt
      have r0 := hr.cell (show 0 < 2 by omega)
      have r1 := hr.cell (show 1 < 2 by omega)
      have f0 := hr.frozen (show 0 < 2 by omega)
      have f1 := hr.frozen (show 1 < 2 by omega)
      have HP := Lib.hid (rec_put hr 0 ByteArray.empty)
      have HQ := Lib.hid (((up_trans HB.out hb12).setCell (p := ⟨w.heap.size + 1, 0, none⟩) (Nat.le_succ _) (.int .u64 (0 : Nat))).setCell (p := ⟨w.heap.size + 1, 1, none⟩) (Nat.le_succ _) (.string ByteArray.empty))
      clear hr
      go_wp2
      exact bodyPost_ret (results_rec rfl _ _ (w.heap.size + 1) rfl HP.out) rfl ⟨rfl, HQ.out⟩
  · have hh' : hasB d.n base = false := by simpa using hh
    have hbt : bothB d.n base = false := both_niff.2 (fun q => hh (hasB_yes ⟨q.1, by omega⟩))
    obtain ⟨e1, e2, e3, e4⟩ := rd_out hbt
    rw [e1, e2, e3, e4]
    have E1 := (get_out hh').1
    rw [E1] at c1
    generalize getS d base = S0 at *
    have C1 := Lib.hid c1
    have HX := Lib.hid hX
    have HR := Lib.hid hR
    have HB := Lib.hid hB
    clear c1 c2 e1 e2 e3 e4 E1 hbt hh hh' z0 z1 hX hR hB hD h b0 b1 hbn
    go_enter Try.func36, Try.ntmps36
    go_upto_region 1 with fail
    rw [← hW]
    clear hW
    go_wp2_with fail
    refine (C1.out _ (Below.refl _ _)).mono ?_; rintro e w1 ⟨rfl, hb1⟩
    clear x0 x1 x2 x3
    have hr := HR.out.below hb1 HR.out.lt
    have r0 := hr.cell (show 0 < 2 by omega)
    have r1 := hr.cell (show 1 < 2 by omega)
    have f0 := hr.frozen (show 0 < 2 by omega)
    have f1 := hr.frozen (show 1 < 2 by omega)
    have HP := Lib.hid (rec_put hr 0 ByteArray.empty)
    have HQ := Lib.hid (((up_trans HB.out hb1).setCell (p := ⟨w.heap.size + 1, 0, none⟩) (Nat.le_succ _) (.int .u64 (0 : Nat))).setCell (p := ⟨w.heap.size + 1, 1, none⟩) (Nat.le_succ _) (.string ByteArray.empty))
    clear hr
    go_wp2
    exact bodyPost_ret (results_rec rfl _ _ (w.heap.size + 1) rfl HP.out) rfl ⟨rfl, HQ.out⟩
end
end Go.Proofs.Ytnpognhgncnnpaa.Mat
