/- The document's example of cells: walked. -/
import Derived.Test.YtnpognhgncnnpaaCelWri
namespace Go.Proofs.Ytnpognhgncnnpaa.Mat
open Go.RowKit Fld

theorem cellShown_nums : ∃ D1 D2 D3 D4 D5 : Dk, newD 2 = D1 ∧ newE 2 = 0 ∧ (D1.m + 1) * 24 ≤ 140737488355328 ∧ wrD D1 0 ⟨#[120]⟩ = D2 ∧ wrE D1 0 ⟨#[120]⟩ = 0 ∧ flushD D2 = D3 ∧ flushE D2 = 0 ∧ (D3.m + 1) * 24 ≤ 140737488355328 ∧ wrD D3 0 ⟨#[121]⟩ = D4 ∧ wrE D3 0 ⟨#[121]⟩ = 0 ∧ crashD D4 0 3 = D5 ∧ rdE D5 0 = 0 ∧ rdX D5 0 = ⟨#[120]⟩ ∧ rdT D5 0 = 1 :=
  ⟨_, _, _, _, _, rfl, by decide +kernel, by decide +kernel, rfl, by decide +kernel, rfl, by decide +kernel, by decide +kernel, rfl, by decide +kernel, rfl, by decide +kernel, by decide +kernel, by decide +kernel⟩

set_option maxRecDepth 100000 in
set_option maxHeartbeats 1600000 in
theorem shown_any (w : World) : Calls Try.prog 10 #[] w (BoolRet w true) := by
  obtain ⟨D1, D2, D3, D4, D5, e1, f1, m1, e2, f2, e3, f3, m3, e4, f4, e5, f5, g5, t5⟩ := cellShown_nums
  have c1 := fun W => refNew_any 2 W
  have c2 := fun W A c B k (h : DOk W A c B k D1) => write_any h m1 0 (by omega) (by omega) ⟨#[120]⟩ (by decide)
  have c3 := fun W A c B k (h : DOk W A c B k D2) => refFlush_any h
  have c4 := fun W A c B k (h : DOk W A c B k D3) => write_any h m3 0 (by omega) (by omega) ⟨#[121]⟩ (by decide)
  have c5 := fun W A c B k (h : DOk W A c B k D4) => refCrash_any h 0 3
  have c6 := fun W A c B k (h : DOk W A c B k D5) => read_any h 0 (by omega) (by omega)
  rw [e1, f1] at c1
  rw [e2, f2] at c2
  rw [e3, f3] at c3
  rw [e4, f4] at c4
  rw [e5] at c5
  rw [f5, g5, t5] at c6
  have C1 := Lib.hid c1
  have C2 := Lib.hid c2
  have C3 := Lib.hid c3
  have C4 := Lib.hid c4
  have C5 := Lib.hid c5
  have C6 := Lib.hid c6
  clear c1 c2 c3 c4 c5 c6 e1 f1 m1 e2 f2 e3 f3 m3 e4 f4 e5 f5 g5 t5
  go_enter Try.func10, Try.ntmps10
  go_wp2_with fail
  refine (C1.out _).mono ?_; rintro e w1 ⟨A1, c1, B1, k1, rfl, ok1, hb1⟩
  have HV1 := Lib.hid (Vr.new ok1)
  have HG := Lib.hid hb1.size
  have HB1 := Lib.hid (hb1.alloc hb1.size (.cells #[.slice A1 D1.n c1, .slice B1 D1.m k1, .int .i64 D1.fuse, .bool D1.off] 37))
  clear ok1 hb1
  go_upto_region 2 with fail
  generalize w1.alloc (.cells #[.slice A1 D1.n c1, .slice B1 D1.m k1, .int .i64 D1.fuse, .bool D1.off] 37) = W1 at *
  generalize w1.heap.size = g at *
  obtain ⟨x0, x1, x2, x3⟩ := HV1.out.cells
  go_wp2_with fail
  clear x0 x1 x2 x3
  refine (C2.out _ _ _ _ _ HV1.out.ok).mono ?_; rintro e w2 ⟨A2, c2, B2, k2, rfl, ok2, hb2⟩
  have h2 := HV1.out.up hb2
  obtain ⟨x0, x1, x2, x3⟩ := h2.cells
  obtain ⟨y0, y1, y2, y3⟩ := h2.bx.free
  have HV2 := Lib.hid (h2.put ok2)
  have HB2 := Lib.hid (put4_below (up_trans HB1.out hb2) HG.out (.slice A2 D2.n c2) (.slice B2 D2.m k2) (.int .i64 D2.fuse) (.bool D2.off))
  clear h2 ok2 hb2 HB1 HV1
  go_wp2_with fail
  clear x0 x1 x2 x3 y0 y1 y2 y3
  refine (C3.out _ _ _ _ _ HV2.out.ok).mono ?_; rintro e w3 ⟨A3, c3, B3, k3, rfl, ok3, hb3⟩
  have h3 := HV2.out.up hb3
  obtain ⟨x0, x1, x2, x3⟩ := h3.cells
  obtain ⟨y0, y1, y2, y3⟩ := h3.bx.free
  have HV3 := Lib.hid (h3.put ok3)
  have HB3 := Lib.hid (put4_below (up_trans HB2.out hb3) HG.out (.slice A3 D3.n c3) (.slice B3 D3.m k3) (.int .i64 D3.fuse) (.bool D3.off))
  clear h3 ok3 hb3 HB2 HV2
  go_wp2_with fail
  clear x0 x1 x2 x3 y0 y1 y2 y3
  refine (C4.out _ _ _ _ _ HV3.out.ok).mono ?_; rintro e w4 ⟨A4, c4, B4, k4, rfl, ok4, hb4⟩
  have h4 := HV3.out.up hb4
  obtain ⟨x0, x1, x2, x3⟩ := h4.cells
  obtain ⟨y0, y1, y2, y3⟩ := h4.bx.free
  have HV4 := Lib.hid (h4.put ok4)
  have HB4 := Lib.hid (put4_below (up_trans HB3.out hb4) HG.out (.slice A4 D4.n c4) (.slice B4 D4.m k4) (.int .i64 D4.fuse) (.bool D4.off))
  clear h4 ok4 hb4 HB3 HV3
  go_wp2_with fail
  clear x0 x1 x2 x3 y0 y1 y2 y3
  refine (C5.out _ _ _ _ _ HV4.out.ok).mono ?_; rintro e w5 ⟨A5, c5, B5, k5, rfl, ok5, hb5⟩
  have HB5 := Lib.hid (up_trans HB4.out hb5)
  have HK5 := Lib.hid ok5
  clear ok5 hb5
  go_wp2_with fail
  refine (C6.out _ _ _ _ _ HK5.out).mono ?_; rintro e w6 ⟨rfl, hb6⟩
  have HB6 := Lib.hid (up_trans HB5.out hb6)
  clear hb6
  go_wp2
  go_ret
  exact ⟨ret_bool (by first | rfl | decide | simp), HB6.out⟩
end Go.Proofs.Ytnpognhgncnnpaa.Mat
