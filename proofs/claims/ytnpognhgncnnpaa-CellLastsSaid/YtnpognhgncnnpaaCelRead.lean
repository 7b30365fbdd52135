/- Read of both sides, and the document's choice: walked. -/
import Derived.Test.YtnpognhgncnnpaaCelCur
namespace Go.Proofs.Ytnpognhgncnnpaa.Mat
open Go.RowKit Fld

/-- a call answers a text, a number, and an error -/
def RdRet (w : World) (E : Int) (v : ByteArray) (t : Nat) (e : Ending) (w' : World) : Prop := e = .returned (.tuple #[.string v, .int .u64 (t : Int), .int .i64 E]) ∧ Below w.heap.size w w'
/-- .. a place, a number, a text, and whether -/
def Cu4 (w : World) (base : Int) (at_ t : Nat) (v : ByteArray) (is : Bool) (e : Ending) (w' : World) : Prop := e = .returned (.tuple #[.int .i64 (base + (at_ : Int)), .int .u64 (t : Int), .string v, .bool is]) ∧ Below w.heap.size w w'
theorem results_four {fn : Func} {p q r s : Tmp} (h : fn.results = #[.tmp p, .tmp q, .tmp r, .tmp s]) (tmps : Array Value) (P : Program) (w : World) :
    (results fn tmps).run P w = .ok (.tuple #[tmps.getD p undef, tmps.getD q undef, tmps.getD r undef, tmps.getD s undef]) w := by
  simp [results, h, go_sem]
section
variable {A B : Option Addr} {c k : Nat} {d : Dk} {w : World}
theorem disk_box (h : DOk w A c B k d) : ∃ W, W = w.alloc (.cells #[.slice A d.n c, .slice B d.m k, .int .i64 d.fuse, .bool d.off] 37) ∧ Bx W w.heap.size (.slice A d.n c) (.slice B d.m k) (.int .i64 d.fuse) (.bool d.off) ∧ DOk W A c B k d ∧ Below w.heap.size w W := by
  have hb := (Below.refl w.heap.size w).alloc (Nat.le_refl _) (.cells #[.slice A d.n c, .slice B d.m k, .int .i64 d.fuse, .bool d.off] 37)
  exact ⟨_, rfl, bx_new w _ _ _ _, h.up hb, hb⟩
set_option maxRecDepth 100000 in
set_option maxHeartbeats 800000 in
theorem read_any (h : DOk w A c B k d) (base : Int) (b0 : -9223372036854775808 ≤ base) (b1 : base ≤ 9223372036854775807) :
    Calls Try.prog 15 #[.agg #[.slice A d.n c, .slice B d.m k, .int .i64 d.fuse, .bool d.off], .int .i64 base] w (RdRet w (rdE d base) (rdX d base) (rdT d base)) := by
  obtain ⟨W, hW, hX, hD, hB⟩ := disk_box h
  have c1 := current_any hD base b0 b1
  obtain ⟨x0, x1, x2, x3⟩ := hX.cells
  have HB := Lib.hid hB
  generalize rdE d base = E at *
  generalize rdA d base = at_ at *
  generalize rdX d base = v at *
  generalize rdT d base = t at *
  have C1 := Lib.hid c1
  clear c1 h b0 b1 hX hD hB
  go_enter Try.func15, Try.ntmps15
  go_upto_region 1 with fail
  rw [← hW]
  clear hW
  go_wp2_with fail
  refine C1.out.mono ?_; rintro e w1 ⟨rfl, hb1⟩
  have hr := has_rc w1 t v
  have r0 : (w1.alloc (.cells #[.int .u64 (t : Int), .string v] 69)).cell? ⟨w1.heap.size, 0, none⟩ = some (.int .u64 (t : Int)) := hr.cell (show 0 < 2 by omega)
  have r1 : (w1.alloc (.cells #[.int .u64 (t : Int), .string v] 69)).cell? ⟨w1.heap.size, 1, none⟩ = some (.string v) := hr.cell (show 1 < 2 by omega)
  have HBB := Lib.hid ((up_trans HB.out hb1).alloc (up_trans HB.out hb1).size (.cells #[.int .u64 (t : Int), .string v] 69))
  clear hr x0 x1 x2 x3 hb1
  go_upto_region 2 with fail
  generalize w1.alloc (.cells #[.int .u64 (t : Int), .string v] 69) = w2 at *
  go_quiet (fail)
  go_wp2
  go_ret3
  exact ⟨rfl, below_drewN HBB.out _⟩

set_option maxRecDepth 100000 in
set_option maxHeartbeats 3200000 in
theorem refCurrent_any (h : DOk w A c B k d) (base : Int) (hb : bothB d.n base = true) :
    Calls Try.prog 37 #[.agg #[.slice A d.n c, .slice B d.m k, .int .i64 d.fuse, .bool d.off], .int .i64 base] w (Cu4 w base (cuAt (s0 d base) (s1 d base)) (cuT (s0 d base) (s1 d base)) (cuX (s0 d base) (s1 d base)) (cuB (s0 d base) (s1 d base))) := by
  obtain ⟨W, hW, hX, hD, hB⟩ := disk_box h
  obtain ⟨a0, a3⟩ := both_iff.1 hb
  have hbn := h.sz.bn
  have hwr : IntKind.i64.wrap (base + 1) = base + 1 := IntWalk.i64_in _ (by omega)
  have c1 := fun W' (hb : Below W.heap.size W W') => refGet_any (hD.up hb) base
  have c2 := fun W' (hb : Below W.heap.size W W') => refGet_any (hD.up hb) (base + 1)
  have z0 : (s0 d base).size ≤ 140737488351232 := getS_size h.sz base
  have z1 : (s1 d base).size ≤ 140737488351232 := getS_size h.sz (base + 1)
  have c3 := fun W => refTakeRec_any (s0 d base) z0 W
  have c4 := fun W => refTakeRec_any (s1 d base) z1 W
  rw [show getS d base = s0 d base from rfl] at c1
  rw [show getS d (base + 1) = s1 d base from rfl] at c2
  generalize getE d base = E1 at *
  generalize getE d (base + 1) = E2 at *
  generalize s0 d base = S0 at *
  generalize s1 d base = S1 at *
  obtain ⟨x0, x1, x2, x3⟩ := hX.cells
  have HX := Lib.hid hX
  have HB := Lib.hid hB
  clear z0 z1 hX hB hD h hb a0 a3 hbn
  cases ha : tcB S0 <;> cases hb : tcB S1
  · obtain ⟨h1, h2, h3, _, h5⟩ := cuAt_none ha hb
    rw [h1, h2, h3, h5]
    clear h1 h2 h3 h5
    rw [(tc_no ha).1] at c3
    rw [(tc_no hb).1] at c4
    generalize tcV S0 = v0 at *
    generalize tcX S0 = X0 at *
    generalize tcV S1 = v1 at *
    generalize tcX S1 = X1 at *
    clear ha hb
    have C1 := Lib.hid c1
    have C2 := Lib.hid c2
    have C3 := Lib.hid c3
    have C4 := Lib.hid c4
    clear c1 c2 c3 c4
    go_enter Try.func37, Try.ntmps37
    go_upto_region 1 with fail
    rw [← hW]
    clear hW
    go_wp2_with fail
    refine (C1.out _ (Below.refl _ _)).mono ?_; rintro e w1 ⟨rfl, hb1⟩
    obtain ⟨y0, y1, y2, y3⟩ := (HX.out.up hb1).cells
    clear x0 x1 x2 x3
    go_wp2_with fail
    refine (C2.out _ hb1).mono ?_; rintro e w2 ⟨rfl, hb2⟩
    clear y0 y1 y2 y3
    have hb12 := up_trans hb1 hb2
    go_wp2_with fail
    refine (C3.out _).mono ?_; rintro e w3 ⟨rfl, hb3⟩
    have hb13 := up_trans hb12 hb3
    go_wp2_with fail
    refine (C4.out _).mono ?_; rintro e w4 ⟨rfl, hb4⟩
    have hb14 := up_trans hb13 hb4
    go_wp2
    refine bodyPost_ret (results_four rfl _ _ _) rfl ⟨by first | rfl | simp, up_trans HB.out hb14⟩
  · obtain ⟨h1, h2, h3, _, h5⟩ := cuAt_one (a := S0) hb (.inl ha)
    rw [h1, h2, h3, h5]
    clear h1 h2 h3 h5
    rw [(tc_no ha).1] at c3
    rw [(tc_yes hb).1] at c4
    generalize tcV S0 = v0 at *
    generalize tcX S0 = X0 at *
    generalize tcV S1 = v1 at *
    generalize tcX S1 = X1 at *
    clear ha hb
    have C1 := Lib.hid c1
    have C2 := Lib.hid c2
    have C3 := Lib.hid c3
    have C4 := Lib.hid c4
    clear c1 c2 c3 c4
    go_enter Try.func37, Try.ntmps37
    go_upto_region 1 with fail
    rw [← hW]
    clear hW
    go_wp2_with fail
    refine (C1.out _ (Below.refl _ _)).mono ?_; rintro e w1 ⟨rfl, hb1⟩
    obtain ⟨y0, y1, y2, y3⟩ := (HX.out.up hb1).cells
    clear x0 x1 x2 x3
    go_wp2_with fail
    refine (C2.out _ hb1).mono ?_; rintro e w2 ⟨rfl, hb2⟩
    clear y0 y1 y2 y3
    have hb12 := up_trans hb1 hb2
    go_wp2_with fail
    refine (C3.out _).mono ?_; rintro e w3 ⟨rfl, hb3⟩
    have hb13 := up_trans hb12 hb3
    go_wp2_with fail
    refine (C4.out _).mono ?_; rintro e w4 ⟨rfl, hb4⟩
    have hb14 := up_trans hb13 hb4
    go_wp2
    refine bodyPost_ret (results_four rfl _ _ _) rfl ⟨by first | rfl | simp, up_trans HB.out hb14⟩
  · obtain ⟨h1, h2, h3, _, h5⟩ := cuAt_zero (b := S1) ha (.inl hb)
    rw [h1, h2, h3, h5]
    clear h1 h2 h3 h5
    rw [(tc_yes ha).1] at c3
    rw [(tc_no hb).1] at c4
    generalize tcV S0 = v0 at *
    generalize tcX S0 = X0 at *
    generalize tcV S1 = v1 at *
    generalize tcX S1 = X1 at *
    clear ha hb
    have C1 := Lib.hid c1
    have C2 := Lib.hid c2
    have C3 := Lib.hid c3
    have C4 := Lib.hid c4
    clear c1 c2 c3 c4
    go_enter Try.func37, Try.ntmps37
    go_upto_region 1 with fail
    rw [← hW]
    clear hW
    go_wp2_with fail
    refine (C1.out _ (Below.refl _ _)).mono ?_; rintro e w1 ⟨rfl, hb1⟩
    obtain ⟨y0, y1, y2, y3⟩ := (HX.out.up hb1).cells
    clear x0 x1 x2 x3
    go_wp2_with fail
    refine (C2.out _ hb1).mono ?_; rintro e w2 ⟨rfl, hb2⟩
    clear y0 y1 y2 y3
    have hb12 := up_trans hb1 hb2
    go_wp2_with fail
    refine (C3.out _).mono ?_; rintro e w3 ⟨rfl, hb3⟩
    have hb13 := up_trans hb12 hb3
    go_wp2_with fail
    refine (C4.out _).mono ?_; rintro e w4 ⟨rfl, hb4⟩
    have hb14 := up_trans hb13 hb4
    go_wp2
    refine bodyPost_ret (results_four rfl _ _ _) rfl ⟨by first | rfl | simp, up_trans HB.out hb14⟩
  · rcases Nat.lt_or_ge (tcV S0) (tcV S1) with hlt | hlt
    · obtain ⟨h1, h2, h3, _, h5⟩ := cuAt_one (a := S0) hb (.inr hlt)
      rw [h1, h2, h3, h5]
      clear h1 h2 h3 h5
      rw [(tc_yes ha).1] at c3
      rw [(tc_yes hb).1] at c4
      generalize tcV S0 = v0 at *
      generalize tcX S0 = X0 at *
      generalize tcV S1 = v1 at *
      generalize tcX S1 = X1 at *
      have hle : ¬ v1 ≤ v0 := by omega
      clear ha hb
      have C1 := Lib.hid c1
      have C2 := Lib.hid c2
      have C3 := Lib.hid c3
      have C4 := Lib.hid c4
      clear c1 c2 c3 c4
      go_enter Try.func37, Try.ntmps37
      go_upto_region 1 with fail
      rw [← hW]
      clear hW
      go_wp2_with fail
      refine (C1.out _ (Below.refl _ _)).mono ?_; rintro e w1 ⟨rfl, hb1⟩
      obtain ⟨y0, y1, y2, y3⟩ := (HX.out.up hb1).cells
      clear x0 x1 x2 x3
      go_wp2_with fail
      refine (C2.out _ hb1).mono ?_; rintro e w2 ⟨rfl, hb2⟩
      clear y0 y1 y2 y3
      have hb12 := up_trans hb1 hb2
      go_wp2_with fail
      refine (C3.out _).mono ?_; rintro e w3 ⟨rfl, hb3⟩
      have hb13 := up_trans hb12 hb3
      go_wp2_with fail
      refine (C4.out _).mono ?_; rintro e w4 ⟨rfl, hb4⟩
      have hb14 := up_trans hb13 hb4
      go_wp2
      refine bodyPost_ret (results_four rfl _ _ _) rfl ⟨by first | rfl | simp, up_trans HB.out hb14⟩
    · obtain ⟨h1, h2, h3, _, h5⟩ := cuAt_zero (b := S1) ha (.inr hlt)
      rw [h1, h2, h3, h5]
      clear h1 h2 h3 h5
      rw [(tc_yes ha).1] at c3
      rw [(tc_yes hb).1] at c4
      generalize tcV S0 = v0 at *
      generalize tcX S0 = X0 at *
      generalize tcV S1 = v1 at *
      generalize tcX S1 = X1 at *
      have hle : v1 ≤ v0 := by omega
      clear ha hb
      have C1 := Lib.hid c1
      have C2 := Lib.hid c2
      have C3 := Lib.hid c3
      have C4 := Lib.hid c4
      clear c1 c2 c3 c4
      go_enter Try.func37, Try.ntmps37
      go_upto_region 1 with fail
      rw [← hW]
      clear hW
      go_wp2_with fail
      refine (C1.out _ (Below.refl _ _)).mono ?_; rintro e w1 ⟨rfl, hb1⟩
      obtain ⟨y0, y1, y2, y3⟩ := (HX.out.up hb1).cells
      clear x0 x1 x2 x3
      go_wp2_with fail
      refine (C2.out _ hb1).mono ?_; rintro e w2 ⟨rfl, hb2⟩
      clear y0 y1 y2 y3
      have hb12 := up_trans hb1 hb2
      go_wp2_with fail
      refine (C3.out _).mono ?_; rintro e w3 ⟨rfl, hb3⟩
      have hb13 := up_trans hb12 hb3
      go_wp2_with fail
      refine (C4.out _).mono ?_; rintro e w4 ⟨rfl, hb4⟩
      have hb14 := up_trans hb13 hb4
      go_wp2
      refine bodyPost_ret (results_four rfl _ _ _) rfl ⟨by first | rfl | simp, up_trans HB.out hb14⟩

set_option maxRecDepth 100000 in
set_option maxHeartbeats 1600000 in
theorem refRead_any (h : DOk w A c B k d) (base : Int) (b0 : -9223372036854775808 ≤ base) (b1 : base ≤ 9223372036854775807) :
    Calls Try.prog 16 #[.agg #[.slice A d.n c, .slice B d.m k, .int .i64 d.fuse, .bool d.off], .int .i64 base] w (RdRet w (rdE d base) (rdX d base) (rdT d base)) := by
  obtain ⟨W, hW, hX, hD, hB⟩ := disk_box h
  have hbn := h.sz.bn
  obtain ⟨x0, x1, x2, x3⟩ := hX.cells
  have HB := Lib.hid hB
  by_cases hbt : bothB d.n base = true
  · obtain ⟨e1, e2, e3, e4⟩ := rd_in hbt
    rw [e1, e3, e4]
    obtain ⟨a0, a1⟩ := both_iff.1 hbt
    have g1 : decide (base < 0) = false := decide_eq_false (by omega)
    have g2 : decide (base ≥ (d.n : Int)) = false := decide_eq_false (by omega)
    have hwr : IntKind.i64.wrap ((d.n : Int) - base) = (d.n : Int) - base := IntWalk.i64_in _ (by omega)
    have g3 : decide ((d.n : Int) - base < 2) = false := decide_eq_false (by omega)
    have c1 := refCurrent_any hD base hbt
    generalize hat : cuAt (s0 d base) (s1 d base) = at_ at *
    by_cases hc : cuB (s0 d base) (s1 d base) = true
    · have e5 : cuE (s0 d base) (s1 d base) = 0 := if_pos hc
      rw [e5]
      rw [hc] at c1
      generalize cuT (s0 d base) (s1 d base) = t at *
      generalize cuX (s0 d base) (s1 d base) = v at *
      have C1 := Lib.hid c1
      clear c1 e1 e2 e3 e4 e5 hc hat hbt a0 a1 h hX hD hB b0 b1 hbn
      go_enter Try.func16, Try.ntmps16
      go_upto_region 1 with fail
      rw [← hW]
      clear hW
      go_wp2_with fail
      refine C1.out.mono ?_; rintro e w1 ⟨rfl, hb1⟩
      go_wp2
      go_ret3
      exact ⟨rfl, up_trans HB.out hb1⟩
    · have hc' : cuB (s0 d base) (s1 d base) = false := by simpa using hc
      have e5 : cuE (s0 d base) (s1 d base) = 7 := if_neg hc
      have hn : cuT (s0 d base) (s1 d base) = 0 ∧ cuX (s0 d base) (s1 d base) = ByteArray.empty := by
        have hab : tcB (s0 d base) = false ∧ tcB (s1 d base) = false := by unfold cuB at hc'; simpa using hc'
        exact ⟨(cuAt_none hab.1 hab.2).2.1, (cuAt_none hab.1 hab.2).2.2.1⟩
      rw [e5, hn.1, hn.2]
      rw [hc'] at c1
      generalize cuT (s0 d base) (s1 d base) = t at *
      generalize cuX (s0 d base) (s1 d base) = v at *
      have C1 := Lib.hid c1
      clear c1 e1 e2 e3 e4 e5 hc hc' hn hat hbt a0 a1 h hX hD hB b0 b1 hbn
      go_enter Try.func16, Try.ntmps16
      go_upto_region 1 with fail
      rw [← hW]
      clear hW
      go_wp2_with fail
      refine C1.out.mono ?_; rintro e w1 ⟨rfl, hb1⟩
      go_wp2
      go_ret3
      exact ⟨rfl, up_trans HB.out hb1⟩
  · have hbf : bothB d.n base = false := by simpa using hbt
    obtain ⟨e1, e2, e3, e4⟩ := rd_out hbf
    rw [e1, e3, e4]
    have hno := both_niff.1 hbf
    by_cases g : base < 0
    · have g1 : decide (base < 0) = true := decide_eq_true g
      clear e1 e2 e3 e4 hbt hbf hno g h hX hD hB b0 b1 hbn
      go_enter Try.func16, Try.ntmps16
      go_upto_region 1 with fail
      rw [← hW]
      clear hW
      go_wp2
      go_ret3
      exact ⟨rfl, HB.out⟩
    · have g1 : decide (base < 0) = false := decide_eq_false g
      by_cases g' : base ≥ (d.n : Int)
      · have g2 : decide (base ≥ (d.n : Int)) = true := decide_eq_true g'
        clear e1 e2 e3 e4 hbt hbf hno g g' h hX hD hB b0 b1 hbn
        go_enter Try.func16, Try.ntmps16
        go_upto_region 1 with fail
        rw [← hW]
        clear hW
        go_wp2
        go_ret3
        exact ⟨rfl, HB.out⟩
      · have g2 : decide (base ≥ (d.n : Int)) = false := decide_eq_false g'
        have hwr : IntKind.i64.wrap ((d.n : Int) - base) = (d.n : Int) - base := IntWalk.i64_in _ (by omega)
        have g3 : decide ((d.n : Int) - base < 2) = true := decide_eq_true (by omega)
        clear e1 e2 e3 e4 hbt hbf hno g g' h hX hD hB b0 b1 hbn
        go_enter Try.func16, Try.ntmps16
        go_upto_region 1 with fail
        rw [← hW]
        clear hW
        go_wp2
        go_ret3
        exact ⟨rfl, HB.out⟩
end
end Go.Proofs.Ytnpognhgncnnpaa.Mat
