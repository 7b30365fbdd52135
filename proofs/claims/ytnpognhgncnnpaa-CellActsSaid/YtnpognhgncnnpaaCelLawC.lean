/- The law CellLasts: walked. -/
import Derived.Test.YtnpognhgncnnpaaCelHist
import Derived.Test.YtnpognhgncnnpaaCelLawB
namespace Go.Proofs.Ytnpognhgncnnpaa.Mat
open Go.RowKit Fld

/-! ### rows that an append leaves alone -/
theorem cell_same {W W' : World} {a : Addr} (h : W'.heap[a.block]? = W.heap[a.block]?) : W'.cell? a = W.cell? a := by
  unfold World.cell?
  rw [h]
theorem dok_grown {W W' : World} {row : Option Nat} {A B : Option Addr} {c k : Nat} {D : Dk} {N : Nat} (h : DOk W A c B k D) (hg : W.grownBy W' row) (hr : ∀ g, row = some g → g < N) (fa : Fr N A D.n) (fb : Fr N B D.m) : DOk W' A c B k D := by
  have hz := hg.size
  refine ⟨fun hn => ?_, fun hn => ?_, h.fa, h.fb, h.sz⟩
  · obtain ⟨ad, e, hl, hc⟩ := h.st hn
    obtain ⟨ad', e', hb⟩ := fa hn
    rw [e] at e'
    injection e' with e'
    subst e'
    refine ⟨ad, e, by omega, fun r hr' => ?_⟩
    have q0 := cell_same (W := W) (W' := W') (a := ad.add r) (by rw [block_of_add]; exact hg.block _ hl (fun q => by have := hr _ q.symm; omega))
    rw [q0]
    exact hc r hr'
  · obtain ⟨ad, e, hl, hc⟩ := h.pc hn
    obtain ⟨ad', e', hb⟩ := fb hn
    rw [e] at e'
    injection e' with e'
    subst e'
    refine ⟨ad, e, by omega, fun r hr' => ?_⟩
    have q0 := cell_same (W := W) (W' := W') (a := ad.add (r * 2)) (by rw [block_of_add]; exact hg.block _ hl (fun q => by have := hr _ q.symm; omega))
    have q1 := cell_same (W := W) (W' := W') (a := ad.add (r * 2 + 1)) (by rw [block_of_add]; exact hg.block _ hl (fun q => by have := hr _ q.symm; omega))
    rw [q0, q1]
    exact hc r hr'
/-- behind a write: what is laid into a new box, with rows of its own -/
def StepH (w wr : World) (g0 : Nat) (D D1 : Dk) (E : Int) (A : Option Addr) (c : Nat) (B : Option Addr) (k : Nat) (s9 s10 : Value) (wx : World) : Prop :=
  ∃ g A' c' B' k', s9 = .pointer (some ⟨g, 0, none⟩) ∧ s10 = .int .i64 E ∧ g ≠ g0 ∧ w.heap.size ≤ g ∧ Vr wx g D1 A' c' B' k' ∧ Vr wx g0 D A c B k ∧ Below w.heap.size w wx ∧ Below wr.heap.size wr wx ∧ Fr wr.heap.size A' D1.n ∧ Fr wr.heap.size B' D1.m
section
variable {w wr w5 : World} {g0 : Nat} {D D1 : Dk} {A B A5 B5 : Option Addr} {c k c5 k5 : Nat} {E : Int}
theorem stepH_after (hV : Vr wr g0 D A c B k) (hB : Below w.heap.size w wr) (hb : Below wr.heap.size wr w5) (ok : DOk w5 A5 c5 B5 k5 D1) (fa : Fr wr.heap.size A5 D1.n) (fb : Fr wr.heap.size B5 D1.m) :
    StepH w wr g0 D D1 E A c B k (.pointer (some ⟨w5.heap.size, 0, none⟩)) (.int .i64 E) (w5.alloc (.cells #[.slice A5 D1.n c5, .slice B5 D1.m k5, .int .i64 D1.fuse, .bool D1.off] 37)) := by
  have h5 := hV.up hb
  have hl := h5.bx.lt_
  have hs0 := hB.size
  have hs1 := hb.size
  have hbb := up_trans hB hb
  exact ⟨_, A5, c5, B5, k5, rfl, rfl, by omega, by omega, Vr.new ok, h5.alloc _, hbb.alloc hbb.size _, hb.alloc hb.size _, fa, fb⟩
theorem stepH_before (hV : Vr wr g0 D A c B k) (hB : Below w.heap.size w wr)
    (hb : Below (wr.alloc (.cells #[.slice none 0 0, .slice none 0 0, .int .i64 0, .bool false] 37)).heap.size (wr.alloc (.cells #[.slice none 0 0, .slice none 0 0, .int .i64 0, .bool false] 37)) w5) (ok : DOk w5 A5 c5 B5 k5 D1)
    (fa : Fr (wr.alloc (.cells #[.slice none 0 0, .slice none 0 0, .int .i64 0, .bool false] 37)).heap.size A5 D1.n) (fb : Fr (wr.alloc (.cells #[.slice none 0 0, .slice none 0 0, .int .i64 0, .bool false] 37)).heap.size B5 D1.m) :
    Vr w5 wr.heap.size voidD none 0 none 0 ∧ StepH w wr g0 D D1 E A c B k (.pointer (some ⟨wr.heap.size, 0, none⟩)) (.int .i64 E) (put4 w5 wr.heap.size (.slice A5 D1.n c5) (.slice B5 D1.m k5) (.int .i64 D1.fuse) (.bool D1.off)) := by
  have hz := (void_new wr).up hb
  have h5 := (hV.alloc (.cells #[.slice none 0 0, .slice none 0 0, .int .i64 0, .bool false] 37)).up hb
  have hl := hV.bx.lt_
  have hs0 := hB.size
  have hbb := up_trans (hB.alloc hB.size (.cells #[.slice none 0 0, .slice none 0 0, .int .i64 0, .bool false] 37)) hb
  have hbr := box_tr hb
  rw [size_alloc] at fa fb
  exact ⟨hz, _, A5, c5, B5, k5, rfl, rfl, by omega, by omega, hz.put ok, h5.other hz (by omega) _ _ _ _, put4_below hbb (by omega) _ _ _ _, put4_below hbr (Nat.le_refl _) _ _ _ _, fa.low (Nat.le_succ _), fb.low (Nat.le_succ _)⟩
theorem StepH.drew {s9 s10 : Value} {wx : World} (h : StepH w wr g0 D D1 E A c B k s9 s10 wx) : StepH w wr g0 D D1 E A c B k s9 s10 wx.drew := by
  obtain ⟨g, A', c', B', k', h1, h2, h3, h4, h5, h6, h7, h8, h9, h10⟩ := h
  exact ⟨g, A', c', B', k', h1, h2, h3, h4, h5.drew, h6.drew, h7.drew, h8.drew, h9, h10⟩
end
/-! ### is it among them? -/
def tx (l : List ByteArray) (i : Nat) : ByteArray := (l[i]?).getD ByteArray.empty
def inL (s : ByteArray) (e0 : Bool) (LL : Nat → ByteArray) : Nat → Bool
  | 0 => false
  | i + 1 => inL s e0 LL i || (decide (LL i = s) && (decide (0 < i) || e0))
theorem inL_true {s : ByteArray} {e0 : Bool} {LL : Nat → ByteArray} {p : Nat} (hp : LL p = s) (he : 0 < p ∨ e0 = true) : ∀ q, p < q → inL s e0 LL q = true
  | 0, h => absurd h (Nat.not_lt_zero _)
  | q + 1, h => by
    show (inL s e0 LL q || (decide (LL q = s) && (decide (0 < q) || e0))) = true
    by_cases e : p = q
    · subst e
      rw [decide_eq_true hp]
      rcases he with he | he
      · rw [decide_eq_true he]; simp
      · rw [he]; simp
    · rw [inL_true hp he q (by omega)]; rfl
theorem chosen_all {w a : World} {v : Value} {l : List ByteArray} (h : Chosen w a 9 v (l.map Value.string)) : ∃ A cap, v = .slice A l.length cap ∧ St a a.heap.size A l.length (tx l) := by
  obtain ⟨A, cap, e, _, _, hb⟩ := h.has (n := l.length) (f := fun i => .string (tx l i)) (by simp) (fun i hi => by
    rw [List.getElem?_map, List.getElem?_eq_getElem hi]
    unfold tx
    rw [List.getElem?_eq_getElem hi]
    rfl)
  refine ⟨A, cap, e, fun hn => ?_⟩
  obtain ⟨b, e2, _, hlt, hh⟩ := hb hn
  subst e2
  exact St.of_has hh hlt hn
theorem chosen_lit (w a : World) (hb : Below w.heap.size w a) (s : ByteArray) : Chosen w (a.alloc (.cells #[.string s] 9)) 9 (.slice (some ⟨a.heap.size, 0, none⟩) 1 1) ([s].map Value.string) :=
  ⟨World.ownsRow_lit a #[.string s] 1 hb.size (by unfold maxLen; omega) rfl, hb.alloc hb.size _⟩
section
variable {w : World} {d : Dk} {A B C : Option Addr} {c k ln lc : Nat} {T : Nat → ByteArray}
set_option maxRecDepth 100000 in
set_option maxHeartbeats 6400000 in
theorem lawLasts (h : DOk w A c B k d) (base : Int) (b0 : -9223372036854775808 ≤ base) (b1 : base ≤ 9223372036854775807) (hL : St w w.heap.size C ln T) (hl : ln * 16 ≤ 140737488351232) (hz : ∀ i, i < ln → (T i).size ≤ 140737488351232) (keep tear : Int) :
    Calls Try.prog 6 #[.agg #[.slice A d.n c, .slice B d.m k, .int .i64 d.fuse, .bool d.off, .int .i64 base, .slice C ln lc, .int .i64 keep, .int .i64 tear]] w (BoolRet w true) := by
  obtain ⟨i0, hi0, hz0, hz1, hz2⟩ := info_parts infoStr
  have c1 := fun W A c B k (h : DOk W A c B k d) => refFlush_any h
  have c2 := fun W A c B k (h : DOk W A c B k (flushD d)) => read_any h base b0 b1
  have hst := fun (h : flushE d = 0) hb => hist_start (base := base) h hb
  generalize flushE d = E1 at *
  generalize flushD d = D0 at *
  have C1 := Lib.hid c1
  have C2 := Lib.hid c2
  have HST := Lib.hid hst
  have HL := Lib.hid hL
  have HZ := Lib.hid hz
  have HBZ := Lib.hid (And.intro b0 b1)
  have hl63 : ln ≤ 9223372036854775807 := by omega
  obtain ⟨hV, hB⟩ := law_start h (.cells #[.slice A d.n c, .slice B d.m k, .int .i64 d.fuse, .bool d.off, .int .i64 base, .slice C ln lc, .int .i64 keep, .int .i64 tear] 50)
  have Hd := Lib.hid hV
  have HB0 := Lib.hid hB
  clear c1 c2 hst hL hz hl h hV hB b0 b1
  go_enter Try.func6, Try.ntmps6
  go_upto_region 6 with fail
  generalize (w.alloc (.cells #[.slice A d.n c, .slice B d.m k, .int .i64 d.fuse, .bool d.off, .int .i64 base, .slice C ln lc, .int .i64 keep, .int .i64 tear] 50)).alloc (.cells #[.slice A d.n c, .slice B d.m k, .int .i64 d.fuse, .bool d.off] 37) = w0 at *
  go_wp2_with fail
  refine (shown_any _).mono ?_; rintro e w1 ⟨rfl, hb1⟩
  have Nd := Lib.hid (Hd.out.up hb1)
  clear Hd
  have Hd := Nd
  clear Nd
  have HB1 := Lib.hid (up_trans HB0.out hb1)
  clear hb1 HB0
  obtain ⟨da, db, dc, dd⟩ := Hd.out.cells
  go_wp2_with fail
  clear da db dc dd
  refine (C1.out _ _ _ _ _ Hd.out.ok).mono ?_; rintro e w2 ⟨A2, c2, B2, k2, rfl, ok2, hb2⟩
  have h2 := Hd.out.up hb2
  obtain ⟨y0, y1, y2, y3⟩ := h2.cells
  obtain ⟨f0, f1, f2, f3⟩ := h2.bx.free
  have Nd := Lib.hid (h2.put ok2)
  clear Hd
  have Hd := Nd
  clear Nd
  have HB2 := Lib.hid (put4_below (up_trans HB1.out hb2) (show w.heap.size ≤ w.heap.size + 1 by omega) (.slice A2 D0.n c2) (.slice B2 D0.m k2) (.int .i64 D0.fuse) (.bool D0.off))
  clear h2 ok2 hb2 HB1
  go_wp2_with fail
  clear y0 y1 y2 y3 f0 f1 f2 f3
  refine (C2.out _ _ _ _ _ Hd.out.ok).mono ?_; rintro e w3 ⟨rfl, hb3⟩
  have Nd := Lib.hid (Hd.out.up hb3)
  clear Hd
  have Hd := Nd
  clear Nd
  have HB3 := Lib.hid (up_trans HB2.out hb3)
  clear hb3 HB2
  by_cases hE1 : E1 = 0
  rotate_left
  · have g1 : (E1 != 0) = true := by rw [bne_iff_ne]; exact hE1
    clear hE1
    go_wp2
    go_ret
    exact ⟨rfl, HB3.out⟩
  have g1 : (E1 != 0) = false := by rw [bne_eq_false_iff_eq]; exact hE1
  cases hbt : bothB D0.n base
  · have g2 : (rdE D0 base == 1) = true := by rw [(rd_out hbt).1]; rfl
    clear hbt hE1
    go_wp2
    go_ret
    exact ⟨rfl, HB3.out⟩
  have g2 : (rdE D0 base == 1) = false := by
    rcases rdE_in hbt with e | e <;> rw [e] <;> rfl
  by_cases ht : 4611686018427387904 < rdT D0 base
  · have g3 : decide ((rdT D0 base : Int) > 4611686018427387904) = true := decide_eq_true (by omega)
    clear hbt hE1
    go_wp2
    go_ret
    exact ⟨rfl, HB3.out⟩
  have g3 : decide ((rdT D0 base : Int) > 4611686018427387904) = false := decide_eq_false (by omega)
  obtain ⟨hs0, hm0⟩ := HST.out hE1 hbt
  have HS0 := Lib.hid hs0
  have HM0 := Lib.hid hm0
  have HBT := Lib.hid hbt
  have HE7 := Lib.hid (rdE_in hbt)
  have HT0 : Hid (rdT D0 base ≤ 4611686018427387904) := Lib.hid (by omega)
  have HLIT := Lib.hid (chosen_lit w w3 HB3.out (rdX D0 base))
  have HV3 := Lib.hid (Hd.out.alloc (.cells #[.string (rdX D0 base)] 9))
  clear hs0 hm0 hbt hE1 ht HST C1 C2 Hd HB3
  have hx0 : ∃ X0, X0 = rdX D0 base := ⟨_, rfl⟩
  obtain ⟨X0, hX0⟩ := hx0
  rw [← hX0] at HLIT HV3 ⊢
  have hE0' : ∃ E0, E0 = rdE D0 base := ⟨_, rfl⟩
  obtain ⟨E0, hE0⟩ := hE0'
  rw [← hE0] at HE7 g2 ⊢
  have HX0 := Lib.hid hX0
  have HE0 := Lib.hid hE0
  clear hX0 hE0
  generalize htt : rdT D0 base = t0 at *
  clear htt
  go_upto_region 12 with fail
  generalize w3.alloc (.cells #[.string X0] 9) = w4 at *
  generalize w3.heap.size = g13 at *
  go_wp2
  clear g1 g2 g3
  have hl63' := hl63
  go_loopg [13, 14] 100 (fun gh v x wr => ∃ (i : Nat) (vv : Value) (D : Dk) (A' : Option Addr) (c' : Nat) (B' : Option Addr) (k' : Nat) (ls : List ByteArray) (vals : Nat → ByteArray), i ≤ 100 ∧ i ≤ ln ∧ gh = 100 - i ∧ x = .int .i64 (i : Nat) ∧ vv = v ∧ Chosen w wr 9 vv ((X0 :: ls).map Value.string) ∧ ls.length ≤ i ∧ (∀ j, j < D.m → vals j ∈ ls) ∧ Hist D0 D base t0 i vals ∧ Vr wr (w.heap.size + 1) D A' c' B' k')
  case atStart => exact ⟨0, _, D0, _, _, _, _, [], _, Nat.zero_le _, Nat.zero_le _, rfl, rfl, rfl, HLIT.out, Nat.le_refl _, fun j hj => absurd hj (by have := HM0.out; omega), HS0.out, HV3.out⟩
  case round =>
    obtain ⟨i, vv, D, A1, c1, B1, k1, ls, vals, hi100, hiln, hgh, rfl, hvv, hC, hls, hvals, hH, hV⟩ := hrel
    subst hvv
    clear HLIT HV3 HS0
    by_cases hlt : i < ln
    rotate_left
    · have hiz : ¬ (i : Int) < (ln : Int) := by omega
      obtain ⟨A9, c9, rfl, hS9⟩ := chosen_all hC
      have HS9 := Lib.hid hS9
      have HV := Lib.hid hV
      have HB := Lib.hid hC.below
      have htold := hH.told HBT.out (by have := HT0.out; omega) HM0.out keep tear
      rw [← HX0.out, ← HE0.out] at htold
      have hc1 := fun W A c B k (h : DOk W A c B k D) => refCrash_any h keep tear
      have hc2 := fun W A c B k (h : DOk W A c B k (crashD D keep tear)) => read_any h base HBZ.out.1 HBZ.out.2
      generalize rdT (crashD D keep tear) base = t2 at *
      generalize rdX (crashD D keep tear) base = s at *
      generalize rdE (crashD D keep tear) base = G at *
      generalize crashD D keep tear = D2 at *
      have HC1 := Lib.hid hc1
      have HC2 := Lib.hid hc2
      obtain ⟨x0, x1, x2, x3⟩ := hV.cells
      have hq : (X0 :: ls).length = ls.length + 1 := rfl
      generalize hlen : (X0 :: ls).length = q at *
      have HQ := Lib.hid hlen
      have HQ2 : Hid (q ≤ 101) := Lib.hid (by omega)
      clear hV hc1 hc2 hlen hq hC
      go_wp2_with fail
      clear x0 x1 x2 x3
      refine (HC1.out _ _ _ _ _ HV.out.ok).mono ?_; rintro e w5 ⟨A5, c5, B5, k5, rfl, ok5, hb5⟩
      have HB5 := Lib.hid (up_trans HB.out hb5)
      have HS5 := Lib.hid (HS9.out.up hb5)
      have HK5 := Lib.hid ok5
      clear ok5 hb5
      go_wp2_with fail
      refine (HC2.out _ _ _ _ _ HK5.out).mono ?_; rintro e w6 ⟨rfl, hb6⟩
      have HB6 := Lib.hid (up_trans HB5.out hb6)
      have HS6 := Lib.hid (HS5.out.up hb6)
      clear hb6
      by_cases hG : G = 7
      · have gg : (G == 7) = true := beq_iff_eq.2 hG
        have ge : (E0 == 7) = true := by
          rcases htold with ⟨e1, _⟩ | ⟨e1, _⟩
          · rw [← e1]; exact gg
          · omega
        clear hG htold
        go_wp2
        go_ret
        exact ⟨rfl, HB6.out⟩
      have gg : (G == 7) = false := beq_eq_false_iff_ne.2 hG
      have HIN : Hid (G = 0 ∧ inL s (E0 == 0) (tx (X0 :: ls)) q = true) := Lib.hid (by
        rcases htold with ⟨e1, e2⟩ | ⟨e1, j, hj, e2⟩
        · have hE : E0 = 0 := by rcases HE7.out with e | e <;> omega
          exact ⟨by omega, inL_true (p := 0) (by rw [e2]; rfl) (.inr (by rw [hE]; rfl)) q (by have := HQ.out; simp at this; omega)⟩
        · obtain ⟨ix, hix, e3⟩ := List.getElem_of_mem (hvals j hj)
          refine ⟨e1, inL_true (p := ix + 1) ?_ (.inl (Nat.succ_pos _)) q (by have := HQ.out; simp at this; omega)⟩
          rw [e2]
          unfold tx
          rw [List.getElem?_cons_succ, List.getElem?_eq_getElem hix, e3]
          rfl)
      clear hG htold hvals hH
      go_wp2
      clear gg
      go_loopg [20, 21] q (fun gh u x wz => ∃ p : Nat, p ≤ q ∧ gh = q - p ∧ u = .bool (inL s (E0 == 0) (tx (X0 :: ls)) p) ∧ x = .int .i64 (p : Nat) ∧ wz = w6)
      case atStart => exact ⟨0, Nat.zero_le _, rfl, rfl, rfl, rfl⟩
      case round =>
        obtain ⟨p, hp, hgh2, rfl, rfl, rfl⟩ := hrel
        by_cases hpq : p < q
        rotate_left
        · have hpz : ¬ (p : Int) < (q : Int) := by omega
          obtain rfl : p = q := by omega
          have gin := HIN.out.2
          have gG : (G == 0) = true := by rw [HIN.out.1]; rfl
          generalize inL s (E0 == 0) (tx (X0 :: ls)) p = bz at *
          subst gin
          go_wp2
          go_ret
          exact ⟨ret_bool (by first | rfl | simp), HB6.out⟩
        have hpz : (p : Int) < (q : Int) := by omega
        obtain ⟨ad9, e9, _, k9⟩ := HS6.out.at_ hpq
        subst e9
        have hp1 : p ≤ 101 := by have := HQ2.out; omega
        have hnext : inL s (E0 == 0) (tx (X0 :: ls)) (p + 1) = (inL s (E0 == 0) (tx (X0 :: ls)) p || (decide (tx (X0 :: ls) p = s) && (decide (0 < p) || (E0 == 0)))) := rfl
        cases hbp : inL s (E0 == 0) (tx (X0 :: ls)) p
        rotate_left
        · have HBN : Hid (inL s (E0 == 0) (tx (X0 :: ls)) (p + 1) = true) := Lib.hid (by rw [hnext, hbp]; rfl)
          clear hnext hbp
          go_wp2
          go_roundg (q - (p + 1))
          case measure => go_light; omega
          case rel => go_light; exact ⟨p + 1, by omega, rfl, by rw [HBN.out], by simp, rfl⟩
        by_cases heq : tx (X0 :: ls) p = s
        · obtain ⟨q1, q2⟩ := str_yes heq
          by_cases hp0 : 0 < p
          · have HBN : Hid (inL s (E0 == 0) (tx (X0 :: ls)) (p + 1) = true) := Lib.hid (by rw [hnext, hbp, decide_eq_true heq, decide_eq_true hp0]; rfl)
            have gp : (0 : Int) < (p : Int) := by omega
            clear heq hnext hbp
            go_wp2
            go_roundg (q - (p + 1))
            case measure => go_light; omega
            case rel => go_light; exact ⟨p + 1, by omega, rfl, by rw [HBN.out], by simp, rfl⟩
          · have gp : ¬ (0 : Int) < (p : Int) := by omega
            by_cases he0 : E0 = 0
            · have ge0 : (E0 == 0) = true := by rw [he0]; rfl
              have HBN : Hid (inL s (E0 == 0) (tx (X0 :: ls)) (p + 1) = true) := Lib.hid (by rw [hnext, hbp, decide_eq_true heq, ge0]; simp)
              clear heq hnext hbp he0
              go_wp2
              go_roundg (q - (p + 1))
              case measure => go_light; omega
              case rel => go_light; exact ⟨p + 1, by omega, rfl, by rw [HBN.out], by simp, rfl⟩
            · have ge0 : (E0 == 0) = false := beq_eq_false_iff_ne.2 he0
              have HBN : Hid (inL s (E0 == 0) (tx (X0 :: ls)) (p + 1) = false) := Lib.hid (by rw [hnext, hbp, decide_eq_true heq, decide_eq_false hp0, ge0]; rfl)
              clear heq hnext hbp he0
              go_wp2
              go_roundg (q - (p + 1))
              case measure => go_light; omega
              case rel => go_light; exact ⟨p + 1, by omega, rfl, by rw [HBN.out], by simp, rfl⟩
        · obtain ⟨q1, q2⟩ := str_no heq
          have HBN : Hid (inL s (E0 == 0) (tx (X0 :: ls)) (p + 1) = false) := Lib.hid (by rw [hnext, hbp, decide_eq_false heq]; rfl)
          clear heq hnext hbp
          go_wp2
          go_roundg (q - (p + 1))
          case measure => go_light; omega
          case rel => go_light; exact ⟨p + 1, by omega, rfl, by rw [HBN.out], by simp, rfl⟩
    have hiz : (i : Int) < (ln : Int) := by omega
    by_cases h100 : i < 100
    rotate_left
    · have hi1z : ¬ (i : Int) < 100 := by omega
      obtain ⟨A9, c9, rfl, hS9⟩ := chosen_all hC
      have HS9 := Lib.hid hS9
      have HV := Lib.hid hV
      have HB := Lib.hid hC.below
      have htold := hH.told HBT.out (by have := HT0.out; omega) HM0.out keep tear
      rw [← HX0.out, ← HE0.out] at htold
      have hc1 := fun W A c B k (h : DOk W A c B k D) => refCrash_any h keep tear
      have hc2 := fun W A c B k (h : DOk W A c B k (crashD D keep tear)) => read_any h base HBZ.out.1 HBZ.out.2
      generalize rdT (crashD D keep tear) base = t2 at *
      generalize rdX (crashD D keep tear) base = s at *
      generalize rdE (crashD D keep tear) base = G at *
      generalize crashD D keep tear = D2 at *
      have HC1 := Lib.hid hc1
      have HC2 := Lib.hid hc2
      obtain ⟨x0, x1, x2, x3⟩ := hV.cells
      have hq : (X0 :: ls).length = ls.length + 1 := rfl
      generalize hlen : (X0 :: ls).length = q at *
      have HQ := Lib.hid hlen
      have HQ2 : Hid (q ≤ 101) := Lib.hid (by omega)
      clear hV hc1 hc2 hlen hq hC
      go_wp2_with fail
      clear x0 x1 x2 x3
      refine (HC1.out _ _ _ _ _ HV.out.ok).mono ?_; rintro e w5 ⟨A5, c5, B5, k5, rfl, ok5, hb5⟩
      have HB5 := Lib.hid (up_trans HB.out hb5)
      have HS5 := Lib.hid (HS9.out.up hb5)
      have HK5 := Lib.hid ok5
      clear ok5 hb5
      go_wp2_with fail
      refine (HC2.out _ _ _ _ _ HK5.out).mono ?_; rintro e w6 ⟨rfl, hb6⟩
      have HB6 := Lib.hid (up_trans HB5.out hb6)
      have HS6 := Lib.hid (HS5.out.up hb6)
      clear hb6
      by_cases hG : G = 7
      · have gg : (G == 7) = true := beq_iff_eq.2 hG
        have ge : (E0 == 7) = true := by
          rcases htold with ⟨e1, _⟩ | ⟨e1, _⟩
          · rw [← e1]; exact gg
          · omega
        clear hG htold
        go_wp2
        go_ret
        exact ⟨rfl, HB6.out⟩
      have gg : (G == 7) = false := beq_eq_false_iff_ne.2 hG
      have HIN : Hid (G = 0 ∧ inL s (E0 == 0) (tx (X0 :: ls)) q = true) := Lib.hid (by
        rcases htold with ⟨e1, e2⟩ | ⟨e1, j, hj, e2⟩
        · have hE : E0 = 0 := by rcases HE7.out with e | e <;> omega
          exact ⟨by omega, inL_true (p := 0) (by rw [e2]; rfl) (.inr (by rw [hE]; rfl)) q (by have := HQ.out; simp at this; omega)⟩
        · obtain ⟨ix, hix, e3⟩ := List.getElem_of_mem (hvals j hj)
          refine ⟨e1, inL_true (p := ix + 1) ?_ (.inl (Nat.succ_pos _)) q (by have := HQ.out; simp at this; omega)⟩
          rw [e2]
          unfold tx
          rw [List.getElem?_cons_succ, List.getElem?_eq_getElem hix, e3]
          rfl)
      clear hG htold hvals hH
      go_wp2
      clear gg
      go_loopg [20, 21] q (fun gh u x wz => ∃ p : Nat, p ≤ q ∧ gh = q - p ∧ u = .bool (inL s (E0 == 0) (tx (X0 :: ls)) p) ∧ x = .int .i64 (p : Nat) ∧ wz = w6)
      case atStart => exact ⟨0, Nat.zero_le _, rfl, rfl, rfl, rfl⟩
      case round =>
        obtain ⟨p, hp, hgh2, rfl, rfl, rfl⟩ := hrel
        by_cases hpq : p < q
        rotate_left
        · have hpz : ¬ (p : Int) < (q : Int) := by omega
          obtain rfl : p = q := by omega
          have gin := HIN.out.2
          have gG : (G == 0) = true := by rw [HIN.out.1]; rfl
          generalize inL s (E0 == 0) (tx (X0 :: ls)) p = bz at *
          subst gin
          go_wp2
          go_ret
          exact ⟨ret_bool (by first | rfl | simp), HB6.out⟩
        have hpz : (p : Int) < (q : Int) := by omega
        obtain ⟨ad9, e9, _, k9⟩ := HS6.out.at_ hpq
        subst e9
        have hp1 : p ≤ 101 := by have := HQ2.out; omega
        have hnext : inL s (E0 == 0) (tx (X0 :: ls)) (p + 1) = (inL s (E0 == 0) (tx (X0 :: ls)) p || (decide (tx (X0 :: ls) p = s) && (decide (0 < p) || (E0 == 0)))) := rfl
        cases hbp : inL s (E0 == 0) (tx (X0 :: ls)) p
        rotate_left
        · have HBN : Hid (inL s (E0 == 0) (tx (X0 :: ls)) (p + 1) = true) := Lib.hid (by rw [hnext, hbp]; rfl)
          clear hnext hbp
          go_wp2
          go_roundg (q - (p + 1))
          case measure => go_light; omega
          case rel => go_light; exact ⟨p + 1, by omega, rfl, by rw [HBN.out], by simp, rfl⟩
        by_cases heq : tx (X0 :: ls) p = s
        · obtain ⟨q1, q2⟩ := str_yes heq
          by_cases hp0 : 0 < p
          · have HBN : Hid (inL s (E0 == 0) (tx (X0 :: ls)) (p + 1) = true) := Lib.hid (by rw [hnext, hbp, decide_eq_true heq, decide_eq_true hp0]; rfl)
            have gp : (0 : Int) < (p : Int) := by omega
            clear heq hnext hbp
            go_wp2
            go_roundg (q - (p + 1))
            case measure => go_light; omega
            case rel => go_light; exact ⟨p + 1, by omega, rfl, by rw [HBN.out], by simp, rfl⟩
          · have gp : ¬ (0 : Int) < (p : Int) := by omega
            by_cases he0 : E0 = 0
            · have ge0 : (E0 == 0) = true := by rw [he0]; rfl
              have HBN : Hid (inL s (E0 == 0) (tx (X0 :: ls)) (p + 1) = true) := Lib.hid (by rw [hnext, hbp, decide_eq_true heq, ge0]; simp)
              clear heq hnext hbp he0
              go_wp2
              go_roundg (q - (p + 1))
              case measure => go_light; omega
              case rel => go_light; exact ⟨p + 1, by omega, rfl, by rw [HBN.out], by simp, rfl⟩
            · have ge0 : (E0 == 0) = false := beq_eq_false_iff_ne.2 he0
              have HBN : Hid (inL s (E0 == 0) (tx (X0 :: ls)) (p + 1) = false) := Lib.hid (by rw [hnext, hbp, decide_eq_true heq, decide_eq_false hp0, ge0]; rfl)
              clear heq hnext hbp he0
              go_wp2
              go_roundg (q - (p + 1))
              case measure => go_light; omega
              case rel => go_light; exact ⟨p + 1, by omega, rfl, by rw [HBN.out], by simp, rfl⟩
        · obtain ⟨q1, q2⟩ := str_no heq
          have HBN : Hid (inL s (E0 == 0) (tx (X0 :: ls)) (p + 1) = false) := Lib.hid (by rw [hnext, hbp, decide_eq_false heq]; rfl)
          clear heq hnext hbp
          go_wp2
          go_roundg (q - (p + 1))
          case measure => go_light; omega
          case rel => go_light; exact ⟨p + 1, by omega, rfl, by rw [HBN.out], by simp, rfl⟩
    have hi1z : (i : Int) < 100 := by omega
    have hB := hC.below
    have HB := Lib.hid hB
    have HV := Lib.hid hV
    have HC := Lib.hid hC
    have HLS := Lib.hid hls
    have HMEM := Lib.hid hvals
    obtain ⟨ad, rfl, _, k0⟩ := (HL.out.below hB hB.size).at_ hlt
    obtain ⟨x0, x1, x2, x3⟩ := hV.cells
    have hw := hH.write HBT.out (by have := HT0.out; omega) (T i)
    have hput := fun W A c B k (h : DOk W A c B k D) => write_fresh h (by have := hH.m; omega) base HBZ.out.1 HBZ.out.2 (T i) (HZ.out i hlt)
    have hHM := hH.more
    generalize wrD D base (T i) = D1 at *
    generalize wrE D base (T i) = E5 at *
    have HPUT := Lib.hid hput
    have HW := Lib.hid hw
    have HHM := Lib.hid hHM
    have HOWN : Hid (∀ g, vv.ownBlock = some g → g < wr.heap.size) := Lib.hid (fun g hg => (hC.own.lt g hg).2)
    clear hput hw hHM hB hV hC hls hvals hH
    have KS : Hid (∀ W, Below wr.heap.size wr W → (W.cell? ⟨w.heap.size + 1, 0, none⟩ = some (.slice A1 D.n c1) ∧ W.cell? ⟨w.heap.size + 1, 1, none⟩ = some (.slice B1 D.m k1) ∧ W.cell? ⟨w.heap.size + 1, 2, none⟩ = some (.int .i64 D.fuse) ∧ W.cell? ⟨w.heap.size + 1, 3, none⟩ = some (.bool D.off)) ∧ W.cell? (ad.add i) = some (.string (T i))) := Lib.hid (fun W hb => by
      obtain ⟨ad', e, _, q⟩ := ((HL.out.below HB.out HB.out.size).below hb hb.size).at_ hlt
      injection e with e
      subst e
      exact ⟨(HV.out.up hb).cells, q⟩)
    have HV2 := Lib.hid (HV.out.alloc (.cells #[.slice none 0 0, .slice none 0 0, .int .i64 0, .bool false] 37))
    go_upto_region 15 with fail
    go_cut [15, 16] from 68 to 77 (fun s9 s10 wx => StepH w wr (w.heap.size + 1) D D1 E5 A1 c1 B1 k1 s9 s10 wx)
    case first =>
      go_region_held3 (fun W => (W.cell? ⟨w.heap.size + 1, 0, none⟩ = some (.slice A1 D.n c1) ∧ W.cell? ⟨w.heap.size + 1, 1, none⟩ = some (.slice B1 D.m k1) ∧ W.cell? ⟨w.heap.size + 1, 2, none⟩ = some (.int .i64 D.fuse) ∧ W.cell? ⟨w.heap.size + 1, 3, none⟩ = some (.bool D.off)) ∧ W.cell? (ad.add i) = some (.string (T i)))
        (first | exact ⟨⟨x0, x1, x2, x3⟩, k0⟩ | exact KS.out _ b5.out | exact KS.out _ ((below_dr _ _).alloc (Nat.le_refl _) _) | exact KS.out _ (b5.out.alloc b5.out.size _) | exact KS.out _ (put4_below b5.out (Nat.le_refl _) _ _ _ _) | exact KS.out _ (put4_below b5.out b5.out.size _ _ _ _) | go_keep)
        (first
          | (go_at_call 17; (with_reducible refine Calls.mono (HPUT.out _ _ _ _ _ HV.out.ok.drew) ?_); rintro e w5 ⟨A5, c5, B5, k5, rfl, ok5, hb5, fa5, fb5⟩; have b5 : Hid (Below wr.heap.size wr w5) := Lib.hid ⟨hb5.os, hb5.tape, hb5.output, hb5.size, hb5.block⟩; have QP := Lib.hid (stepH_after (E := E5) HV.out HB.out b5.out ok5 fa5 fb5); clear hb5 fa5 fb5)
          | (go_at_call 17; (with_reducible first | refine Calls.mono (HPUT.out _ _ _ _ _ HV2.out.ok.drew) ?_ | refine Calls.mono (HPUT.out _ _ _ _ _ (HV.out.drew.alloc _).ok) ?_); rintro e w5 ⟨A5, c5, B5, k5, rfl, ok5, hb5, fa5, fb5⟩; have b5 : Hid (Below wr.heap.size wr w5) := Lib.hid (box_tr ⟨hb5.os, hb5.tape, hb5.output, hb5.size, hb5.block⟩); have q5 := stepH_before (E := E5) HV.out HB.out ⟨hb5.os, hb5.tape, hb5.output, hb5.size, hb5.block⟩ ok5 fa5 fb5; obtain ⟨hz5, hq5⟩ := q5; have QP := Lib.hid hq5; obtain ⟨y0, y1, y2, y3⟩ := hz5.cells; obtain ⟨u0, u1, u2, u3⟩ := hz5.bx.free; clear hq5 hz5 hb5 fa5 fb5))
      all_goals
        go_wp2_with fail
        go_meet
        case rel => go_light; first | exact QP.out | exact QP.out.drew
    case rest =>
      obtain ⟨g, A6, c6, B6, k6, rfl, rfl, hg, hgl, hV6, hV7, hB6, hR6, fa6, fb6⟩ := hcut
      clear x0 x1 x2 x3 k0
      obtain ⟨x0, x1, x2, x3⟩ := hV6.cells
      obtain ⟨y0, y1, y2, y3⟩ := hV7.cells
      obtain ⟨u0, u1, u2, u3⟩ := hV7.bx.free
      have HV9 := Lib.hid (hV7.put hV6.ok)
      have HB9 := Lib.hid (put4_below hB6 (show w.heap.size ≤ w.heap.size + 1 by omega) (.slice A6 D1.n c6) (.slice B6 D1.m k6) (.int .i64 D1.fuse) (.bool D1.off))
      have HO9 := Lib.hid (own_put4 hV7.bx (own_up HC.out.own hR6) (by decide) (.slice A6 D1.n c6) (.slice B6 D1.m k6) (.int .i64 D1.fuse) (.bool D1.off))
      have FA6 := Lib.hid fa6
      have FB6 := Lib.hid fb6
      have HLEN : Hid (((X0 :: ls).map Value.string).length ≤ 101) := Lib.hid (by have := HLS.out; simp; omega)
      have hgg : g ≠ w.heap.size + 1 := hg
      clear hV6 hV7 hB6 hg hgl hR6 fa6 fb6 HV HV2 HB KS HPUT
      go_upto_region 17 with fail
      change Code.wp _ _ _ _ (put4 wc (w.heap.size + 1) (.slice A6 D1.n c6) (.slice B6 D1.m k6) (.int .i64 D1.fuse) (.bool D1.off))
      generalize put4 wc (w.heap.size + 1) (.slice A6 D1.n c6) (.slice B6 D1.m k6) (.int .i64 D1.fuse) (.bool D1.off) = W9 at *
      clear x0 x1 x2 x3 y0 y1 y2 y3 u0 u1 u2 u3
      have HC9 : Hid (Chosen w W9 9 vv ((X0 :: ls).map Value.string)) := Lib.hid ⟨HO9.out, HB9.out⟩
      rcases HW.out with ⟨e4, eD⟩ | ⟨he, vals', hH2, hvl⟩
      · have t1 : (E5 == 0) = false := by rw [e4]; rfl
        have t2 : (E5 == 6) = false := by rw [e4]; rfl
        have ED := Lib.hid eD
        clear e4 eD
        go_wp2
        go_roundg (100 - (i + 1))
        case measure => go_light; omega
        case rel => go_light; exact ⟨i + 1, _, D1, _, _, _, _, ls, vals, by omega, by omega, rfl, by simp, rfl, HC9.out, by have := HLS.out; omega, fun j hj => HMEM.out j (by rw [← ED.out]; exact hj), by rw [ED.out]; exact HHM.out, HV9.out⟩
      · have HH2 := Lib.hid hH2
        have HVL := Lib.hid hvl
        clear hH2 hvl
        rcases he with he | he
        · have t1 : (E5 == 0) = true := by rw [he]; rfl
          clear he
          go_upto_region 18 with fail
          have k9 : W9.cell? (ad.add i) = some (.string (T i)) := by
            obtain ⟨ad', e, _, q⟩ := (HL.out.below HB9.out HB9.out.size).at_ hlt
            injection e with e
            subst e
            exact q
          go_wp2_with (at_builtin; refine wpList_append_own _ rfl (.tmp 85) (.tmp 90) 34 rfl w.heap.size 9 i0 (.string ByteArray.empty) 1 16 Try.underlying34 hi0 hz0 hz1 hz2 rfl (by decide) _ _ _ rfl (HC9.out.own.alloc _) ⟨W9.heap.size, 0, none⟩ 1 1 [.string (T i)] rfl rfl (one_news _ _) (by simp [Value.oneCell']) (by have := HLEN.out; unfold maxLen; omega) (by have := HLEN.out; omega) (by rw [size_alloc]; have := HB9.out.size; omega) ?_)
          intro v' w' hown hgrow _
          have HN : Hid (Chosen w w' 9 v' ((X0 :: ls).map Value.string ++ [.string (T i)])) := Lib.hid (HC9.out.next (Below.refl _ _) (by simpa using hown) hgrow)
          have hv9 := HV9.out.alloc (.cells #[.string (T i)] 9)
          have ho9 := HC9.out.own.alloc (.cells #[.string (T i)] 9)
          have HVN : Hid (Vr w' (w.heap.size + 1) D1 A6 c6 B6 k6) := Lib.hid ⟨hv9.bx.grown hgrow (has_ne_own hv9.bx ho9 (by decide)), dok_grown hv9.ok hgrow HOWN.out FA6.out FB6.out⟩
          clear hv9 ho9
          clear hown hgrow
          go_wp2
          go_roundg (100 - (i + 1))
          case measure => go_light; omega
          case rel => go_light; exact ⟨i + 1, _, D1, _, _, _, _, ls ++ [T i], vals', by omega, by omega, rfl, by simp, rfl, by have := HN.out; simpa using this, by have := HLS.out; simp; omega, fun j hj => (by
            rcases HVL.out j hj with e | ⟨e1, e2⟩
            · rw [e]; exact List.mem_append_right _ (List.mem_singleton.2 rfl)
            · rw [e2]; exact List.mem_append_left _ (HMEM.out j e1)), HH2.out, HVN.out⟩
        · have t1 : (E5 == 0) = false := by rw [he]; rfl
          have t2 : (E5 == 6) = true := by rw [he]; rfl
          clear he
          go_upto_region 18 with fail
          have k9 : W9.cell? (ad.add i) = some (.string (T i)) := by
            obtain ⟨ad', e, _, q⟩ := (HL.out.below HB9.out HB9.out.size).at_ hlt
            injection e with e
            subst e
            exact q
          go_wp2_with (at_builtin; refine wpList_append_own _ rfl (.tmp 85) (.tmp 90) 34 rfl w.heap.size 9 i0 (.string ByteArray.empty) 1 16 Try.underlying34 hi0 hz0 hz1 hz2 rfl (by decide) _ _ _ rfl (HC9.out.own.alloc _) ⟨W9.heap.size, 0, none⟩ 1 1 [.string (T i)] rfl rfl (one_news _ _) (by simp [Value.oneCell']) (by have := HLEN.out; unfold maxLen; omega) (by have := HLEN.out; omega) (by rw [size_alloc]; have := HB9.out.size; omega) ?_)
          intro v' w' hown hgrow _
          have HN : Hid (Chosen w w' 9 v' ((X0 :: ls).map Value.string ++ [.string (T i)])) := Lib.hid (HC9.out.next (Below.refl _ _) (by simpa using hown) hgrow)
          have hv9 := HV9.out.alloc (.cells #[.string (T i)] 9)
          have ho9 := HC9.out.own.alloc (.cells #[.string (T i)] 9)
          have HVN : Hid (Vr w' (w.heap.size + 1) D1 A6 c6 B6 k6) := Lib.hid ⟨hv9.bx.grown hgrow (has_ne_own hv9.bx ho9 (by decide)), dok_grown hv9.ok hgrow HOWN.out FA6.out FB6.out⟩
          clear hv9 ho9
          clear hown hgrow
          go_wp2
          go_roundg (100 - (i + 1))
          case measure => go_light; omega
          case rel => go_light; exact ⟨i + 1, _, D1, _, _, _, _, ls ++ [T i], vals', by omega, by omega, rfl, by simp, rfl, by have := HN.out; simpa using this, by have := HLS.out; simp; omega, fun j hj => (by
            rcases HVL.out j hj with e | ⟨e1, e2⟩
            · rw [e]; exact List.mem_append_right _ (List.mem_singleton.2 rfl)
            · rw [e2]; exact List.mem_append_left _ (HMEM.out j e1)), HH2.out, HVN.out⟩
end
end Go.Proofs.Ytnpognhgncnnpaa.Mat
