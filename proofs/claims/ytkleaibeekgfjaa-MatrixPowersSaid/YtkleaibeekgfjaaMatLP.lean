/- The law MatrixPowers: walked. -/
import Derived.Test.YtkleaibeekgfjaaMatOpen
import Derived.Test.YtkleaibeekgfjaaMatR
namespace Go.Proofs.Ytkleaibeekgfjaa.Mat
open Go.RowKit Fld

/-- was j among the first s that were taken? -/
def hadB (s : Nat) (x : Nat → Nat) (j : Nat) : Bool := (List.range s).any fun i => x i == j
theorem hadB_iff {s : Nat} {x : Nat → Nat} {j : Nat} : hadB s x j = true ↔ ∃ i, i < s ∧ x i = j := by
  unfold hadB
  simp
theorem hadB_next (s : Nat) (x : Nat → Nat) (z j : Nat) : (if j = z then true else hadB s x j) = hadB (s + 1) (upd x s z) j := by
  rw [Bool.eq_iff_iff, hadB_iff]
  by_cases e : j = z
  · subst e
    simp only [if_true, true_iff]
    exact ⟨s, by omega, if_pos rfl⟩
  · rw [if_neg e, hadB_iff]
    constructor
    · rintro ⟨i, hi, h⟩; exact ⟨i, by omega, by unfold upd; rw [if_neg (by omega)]; exact h⟩
    · rintro ⟨i, hi, h⟩
      unfold upd at h
      by_cases ei : i = s
      · rw [if_pos ei] at h; exact absurd h.symm e
      · rw [if_neg ei] at h; exact ⟨i, by omega, h⟩
/-- the rows that were taken -/
def took (s m : Nat) (x : Nat → Nat) (RA : Nat → Option Addr) (RC : Nat → Nat) : List Value := (List.range s).map fun j => .slice (RA (x j)) m (RC (x j))
theorem took_get {s m : Nat} {x : Nat → Nat} {RA : Nat → Option Addr} {RC : Nat → Nat} {i : Nat} (h : i < s) : (took s m x RA RC)[i]? = some (.slice (RA (x i)) m (RC (x i))) := by unfold took; simp [h]
theorem took_next (s m z : Nat) (x : Nat → Nat) (RA : Nat → Option Addr) (RC : Nat → Nat) : took s m x RA RC ++ [.slice (RA z) m (RC z)] = took (s + 1) m (upd x s z) RA RC := by
  unfold took
  rw [List.range_succ, List.map_append]
  congr 1
  · refine List.map_congr_left fun j hj => ?_
    have := List.mem_range.1 hj
    unfold upd; rw [if_neg (by omega)]
  · unfold upd; simp

/-- s rows are taken, at v -/
structure Taken (w wr : World) (hb s m : Nat) (v : Value) (x : Nat → Nat) (RA : Nat → Option Addr) (RC : Nat → Nat) : Prop where
  own : wr.ownsRow w.heap.size 39 1 v s (took s m x RA RC)
  had : Has wr hb 4 32 (fun j => .bool (hadB s x j))
  low : w.heap.size ≤ hb
  lt : ∀ i, i < s → x i < 32
  inj : ∀ i j, i < s → j < s → x i = x j → i = j
  below : Below w.heap.size w wr
theorem infoBool : (Try.prog.info? 4).map (fun i => (i.zero, i.size, i.bytes)) = some (some (.bool false), 1, 1) := by kernel_rfl
def had0 : Array Value := madeCells #[.bool false] 32
theorem Taken.start (w : World) (m : Nat) (x RA RC) : Taken w (w.alloc (.cells had0 4)) w.heap.size 0 m (.slice none 0 0) x RA RC :=
  ⟨World.ownsRow_nil _ _ _ _, .of_is ((World.rowIs_made w _ 32 _).congr (fun j _ => rfl)), Nat.le_refl _, fun i hi => absurd hi (by omega), fun i j hi _ _ => absurd hi (by omega), (Below.refl _ _).alloc (Nat.le_refl _) _⟩
theorem Taken.next {w wr w' : World} {hb s m z : Nat} {v v' : Value} {x : Nat → Nat} {RA : Nat → Option Addr} {RC : Nat → Nat} {o : Obj} (h : Taken w wr hb s m v x RA RC) (hz : z < 32) (hn : ¬ ∃ i, i < s ∧ x i = z)
    (hown : w'.ownsRow w.heap.size 39 1 v' (s + 1) (took s m x RA RC ++ [.slice (RA z) m (RC z)])) (hgrow : ((wr.setCell ⟨hb, z, none⟩ (.bool true)).alloc o).grownBy w' v.ownBlock) :
    Taken w w' hb (s + 1) m v' (upd x s z) RA RC := by
  rw [took_next] at hown
  have hh := ((h.had.set_ z (.bool true)).congr (g := fun j => .bool (hadB (s + 1) (upd x s z) j)) (fun j _ => by rw [← hadB_next]; split <;> rfl))
  have ne : some hb ≠ v.ownBlock := has_ne_own h.had h.own (by decide)
  refine ⟨hown, (hh.alloc o).grown hgrow ne, h.low, fun i hi => ?_, fun i j hi hj e => ?_, ?_⟩
  · unfold upd
    by_cases e : i = s
    · rw [if_pos e]; exact hz
    · rw [if_neg e]; exact h.lt i (by omega)
  · unfold upd at e
    by_cases e1 : i = s <;> by_cases e2 : j = s
    · omega
    · rw [if_pos e1, if_neg e2] at e; exact absurd ⟨j, by omega, e.symm⟩ hn
    · rw [if_neg e1, if_pos e2] at e; exact absurd ⟨i, by omega, e⟩ hn
    · rw [if_neg e1, if_neg e2] at e; exact h.inj i j (by omega) (by omega) e
  · have hs : (wr.setCell ⟨hb, z, none⟩ (.bool true)).heap.size = wr.heap.size := by simp [World.setCell]
    have b1 := (h.below.setCell (p := ⟨hb, z, none⟩) h.low (.bool true))
    exact (b1.alloc b1.size o).grown hgrow (by rw [size_alloc]; have := b1.size; omega) (fun k hk => (h.own.lt k hk).1)
/-- .. as a matrix -/
theorem Taken.mt {w wr : World} {hb s m : Nat} {v : Value} {x : Nat → Nat} {RA : Nat → Option Addr} {RC : Nat → Nat} {A A2 : Option Addr} {c : Nat} (h : Taken w wr hb s m v x RA RC) (hs : 0 < s)
    (hp : Mt w w.heap.size A 32 (fun _ => m) RA RC pwm) (hv : v = .slice A2 s c) :
    Mt wr wr.heap.size A2 s (fun _ => m) (fun j => RA (x j)) (fun j => RC (x j)) (fun j c => pwm (x j) c) := by
  subst hv
  obtain ⟨b, rfl, hb1, hb2, _, hb3⟩ := Has.of_owns h.own hs (f := fun j => .slice (RA (x j)) m (RC (x j))) (fun i hi => took_get hi)
  exact fun _ => ⟨_, rfl, hb3.lt, fun r hr => by
    obtain ⟨ad, _, _, _, q2, q3⟩ := hp.row (h.lt r hr)
    exact ⟨by rw [add_lit]; exact hb3.cell hr, q2, q3.below h.below h.below.size⟩⟩
theorem pwm_inv {m : Nat} {x : Nat → Nat} (h1 : ∀ i, i < m → x i < 32) (h2 : ∀ i j, i < m → j < m → x i = x j → i = j) : Inv m (fun r c => pwm (x r) c) :=
  powers_inv m (fun r => BitVec.ofNat 8 (x r)) (fun i j hi hj e => h2 i j hi hj (by
    have h := congrArg BitVec.toNat e
    have a := h1 i hi
    have b := h1 j hj
    simp only [BitVec.toNat_ofNat] at h
    omega))

theorem grownBy_setCell (w : World) (p : Addr) (u : Value) : w.grownBy (w.setCell p u) (some p.block) :=
  ⟨rfl, rfl, rfl, by simp [World.setCell], fun k _ hne => Below.heap_setCell _ _ _ _ (fun e => hne (by rw [e]))⟩
set_option maxRecDepth 1000000 in
set_option maxHeartbeats 3200000 in
theorem lawPowers {W : World} (cols : Int) (A : Option Addr) (N cap : Nat) (f : Nat → Int) (h1 : -9223372036854775808 ≤ cols) (h2 : cols ≤ 9223372036854775807) (hN : N ≤ 9223372036854775807) (hf : Is W W.heap.size A N f) :
    Calls Try.prog 9 #[.int .i64 cols, .slice A N cap] W fun e w' => e = .returned (.bool true) ∧ Below W.heap.size W w' := by
  obtain ⟨i0, hi, hz0, hz1, hz2⟩ := info_parts infoRow
  by_cases hc : cols < 1 ∨ 12 < cols
  · by_cases g : cols < 1
    · have g1 : decide (cols < 1) = true := by simpa using g
      clear hc g h1 h2 hf
      go_enter Try.func9, Try.ntmps9
      go_wp2_with fail
      refine (shown_any _).mono ?_; rintro e w1 ⟨rfl, hb1⟩
      go_wp2
      go_ret
      exact ⟨rfl, hb1⟩
    · have g1 : decide (cols < 1) = false := by simpa using g
      have g2 : decide (12 < cols) = true := by simp; omega
      clear hc g h1 h2 hf
      go_enter Try.func9, Try.ntmps9
      go_wp2_with fail
      refine (shown_any _).mono ?_; rintro e w1 ⟨rfl, hb1⟩
      go_wp2
      go_ret
      exact ⟨rfl, hb1⟩
  · obtain ⟨m, rfl⟩ : ∃ m : Nat, cols = (m : Int) := ⟨cols.toNat, by omega⟩
    have m1 : 1 ≤ m := by omega
    have m2 : m ≤ 12 := by omega
    have g1 : decide ((m : Int) < 1) = false := by simp; omega
    have g2 : decide ((12 : Int) < (m : Int)) = false := by simp; omega
    have HF := Lib.hid hf
    clear hc h1 h2 hf
    have hmk : ∀ w : World, (Instr.makeSlice 42 (.int .i64 32) (.int .i64 32)).run Try.prog w = .ok (.slice (some ⟨w.heap.size, 0, none⟩) 32 32) (w.alloc (.cells had0 4)) :=
      fun w => run_make_row' (P := Try.prog) 42 4 (.bool false) 1 Try.underlying42 infoBool rfl .i64 .i64 32 (by omega) (by omega) w
    go_enter Try.func9, Try.ntmps9
    go_wp2_with fail
    refine (shown_any _).mono ?_; rintro e w1 ⟨rfl, hb1⟩
    have B1 := Lib.hid hb1
    clear hb1
    go_wp2_with fail
    refine (powers_yes 32 m (by omega) (by omega) m1 (by omega) _).mono ?_; rintro e w2 ⟨A2, c2, RA2, RC2, rfl, hM2, hB2⟩
    have B2 := Lib.hid (up_trans B1.out hB2)
    obtain ⟨ad2, rfl, hb2, _⟩ := hM2 (by omega)
    have M2 := Lib.hid hM2
    clear hM2 hB2 B1
    go_wp2
    clear g1 g2 hmk
    go_loopg [8, 10] N (fun gh v i wr => ∃ (k s : Nat) (A3 : Option Addr) (c3 : Nat) (x : Nat → Nat), k ≤ N ∧ gh = N - k ∧ i = .int .i64 k ∧ s ≤ m ∧ v = .slice A3 s c3 ∧ Taken w2 wr w2.heap.size s m (.slice A3 s c3) x RA2 RC2)
    case atStart => exact ⟨0, 0, none, 0, _, Nat.zero_le _, rfl, rfl, Nat.zero_le _, rfl, Taken.start w2 m (fun _ => 0) RA2 RC2⟩
    case round =>
      obtain ⟨k, s, A3, c3, x, hk, rfl, rfl, hs, rfl, hT⟩ := hrel
      have HT := Lib.hid hT
      have hsz := hT.below.size
      clear hT
      by_cases hgo : k < N ∧ s < m
      · obtain ⟨hkN, hsm⟩ := hgo
        have t1 : decide ((k : Int) < (N : Int)) = true := by simp; omega
        have t2 : decide ((s : Int) < (m : Int)) = true := by simp; omega
        obtain ⟨ap, rfl, hbp, hp⟩ := HF.out (by omega)
        obtain ⟨p1, p2, p3⟩ := hp k hkN
        have p4 : wr.cell? (ap.add k) = some (.int .i64 (f k)) := by rw [HT.out.below.cell (by rw [block_of_add]; have := B2.out.size; omega), B2.out.cell (by rw [block_of_add]; exact hbp)]; exact p1
        have hkz : (k : Int) < (N : Int) := by omega
        generalize f k = z at p2 p3 p4
        clear hp p1
        by_cases z1 : z < 0
        · have u1 : decide (z < 0) = true := by simpa using z1
          clear z1
          go_wp2
          go_roundg (N - (k + 1))
          case measure => go_light; omega
          case rel => go_light; exact ⟨k + 1, s, A3, c3, x, by omega, rfl, by simp, hs, rfl, HT.out⟩
        · have u1 : decide (z < 0) = false := by simpa using z1
          by_cases z2 : 31 < z
          · have u2 : decide (31 < z) = true := by simpa using z2
            clear z1 z2
            go_wp2
            go_roundg (N - (k + 1))
            case measure => go_light; omega
            case rel => go_light; exact ⟨k + 1, s, A3, c3, x, by omega, rfl, by simp, hs, rfl, HT.out⟩
          · have u2 : decide (31 < z) = false := by simpa using z2
            obtain ⟨Z, rfl⟩ : ∃ Z : Nat, z = (Z : Int) := ⟨z.toNat, by omega⟩
            have hZ : Z < 32 := by omega
            have hZz : (Z : Int) < 32 := by omega
            have b1 : wr.cell? ⟨w2.heap.size, Z, none⟩ = some (.bool (hadB s x Z)) := HT.out.had.cell hZ
            have b2 : wr.frozen? ⟨w2.heap.size, Z, none⟩ = false := HT.out.had.frozen hZ
            by_cases hh : ∃ i, i < s ∧ x i = Z
            · rw [hadB_iff.2 hh] at b1
              clear hh z1 z2
              go_wp2
              go_roundg (N - (k + 1))
              case measure => go_light; omega
              case rel => go_light; exact ⟨k + 1, s, A3, c3, x, by omega, rfl, by simp, hs, rfl, HT.out⟩
            · have hb0 : hadB s x Z = false := by
                cases hb : hadB s x Z
                · rfl
                · exact absurd (hadB_iff.1 hb) hh
              rw [hb0] at b1
              have HH := Lib.hid hh
              obtain ⟨ad3, e3, _, d1, _⟩ := M2.out.row hZ
              injection e3 with e3; subst e3
              have d2 : ∀ v, (wr.setCell ⟨w2.heap.size, Z, none⟩ v).cell? (ad2.add Z) = some (.slice (RA2 Z) m (RC2 Z)) := fun v => by
                rw [World.cell?_setCell_other _ _ _ _ (fun e => by have := congrArg Addr.block e; rw [block_of_add] at this; simp at this; omega), HT.out.below.cell (by rw [block_of_add]; exact hb2)]
                exact d1
              have d3 : ∀ v, (wr.setCell ⟨w2.heap.size, Z, none⟩ v).cell? (ap.add k) = some (.int .i64 (Z : Int)) := fun v => by
                rw [World.cell?_setCell_other _ _ _ _ (fun e => by have := congrArg Addr.block e; rw [block_of_add] at this; simp at this; have := B2.out.size; omega)]
                exact p4
              clear hh hb0 z1 z2 d1
              have ho : Hid ((wr.setCell ⟨w2.heap.size, Z, none⟩ (.bool true)).ownsRow w2.heap.size 39 1 (.slice A3 s c3) s (took s m x RA2 RC2)) :=
                Lib.hid (HT.out.own.kept (grownBy_setCell wr ⟨w2.heap.size, Z, none⟩ _) (.inr (fun e => has_ne_own HT.out.had HT.out.own (by decide) e.symm)))
              have hz : (wr.setCell ⟨w2.heap.size, Z, none⟩ (.bool true)).heap.size = wr.heap.size := by simp [World.setCell]
              have Hz := Lib.hid hz; clear hz
              go_wp2_with (at_builtin; refine wpList_append_lies _ rfl (.tmp 73) (.tmp 81) 22 rfl w2.heap.size 39 i0 (.slice none 0 0) 1 24 Try.underlying22 hi hz0 hz1 hz2 rfl (by decide) _ _ _ rfl (ho.out.alloc _) ⟨wr.heap.size, 0, none⟩ 1 1 [.slice (RA2 Z) m (RC2 Z)] rfl rfl (by rw [← Hz.out]; exact one_news _ _) (by simp [Value.oneCell']) (by decide) (by unfold maxLen; omega) (by omega) (by rw [size_alloc, Hz.out]; omega) _ rfl ?_)
              intro g cap' w' hown hgrow _ _
              have HN := Lib.hid (HT.out.next hZ HH.out hown hgrow)
              clear hown hgrow b1 b2 d2 d3
              go_wp2
              go_roundg (N - (k + 1))
              case measure => go_light; omega
              case rel => go_light; exact ⟨k + 1, s + 1, _, _, _, by omega, rfl, by simp, by omega, rfl, HN.out⟩
      · have HE : Hid (k < N → s = m) := Lib.hid (fun h => by omega)
        by_cases hkN : k < N
        · have hsm : s = m := HE.out hkN
          subst hsm
          have t1 : decide ((k : Int) < (N : Int)) = true := by simp; omega
          have t2 : decide ((s : Int) < (s : Int)) = false := by simp
          clear hgo HE
          have MT := Lib.hid (HT.out.mt (by omega) M2.out rfl)
          have HV := Lib.hid (pwm_inv HT.out.lt HT.out.inj)
          have B3 := Lib.hid (up_trans B2.out HT.out.below)
          go_wp2_with fail
          refine (inverse_yes MT.out (ok_sq m1 (by omega)) rfl HV.out).mono ?_; rintro e w5 ⟨A5, c5, RA5, RC5, rfl, hM5, hB5⟩
          have B5 := Lib.hid (up_trans B3.out hB5)
          clear hM5 hB5
          go_wp2
          go_ret
          exact ⟨rfl, B5.out⟩
        · have t1 : decide ((k : Int) < (N : Int)) = false := by simp; omega
          clear hgo HE
          by_cases hsm : s < m
          · have t2 : decide ((s : Int) < (m : Int)) = true := by simp; omega
            have B3 := Lib.hid (up_trans B2.out HT.out.below)
            go_wp2
            go_ret
            exact ⟨rfl, B3.out⟩
          · obtain rfl : s = m := by omega
            have t2 : decide ((s : Int) < (s : Int)) = false := by simp
            clear hsm
            have MT := Lib.hid (HT.out.mt (by omega) M2.out rfl)
            have HV := Lib.hid (pwm_inv HT.out.lt HT.out.inj)
            have B3 := Lib.hid (up_trans B2.out HT.out.below)
            go_wp2_with fail
            refine (inverse_yes MT.out (ok_sq m1 (by omega)) rfl HV.out).mono ?_; rintro e w5 ⟨A5, c5, RA5, RC5, rfl, hM5, hB5⟩
            have B5 := Lib.hid (up_trans B3.out hB5)
            clear hM5 hB5
            go_wp2
            go_ret
            exact ⟨rfl, B5.out⟩
end Go.Proofs.Ytkleaibeekgfjaa.Mat
