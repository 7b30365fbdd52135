/- Products of both sides, held against each other: walked. -/
import Derived.Test.YtjegopkaficbpaaTurnG
namespace Go.Proofs.Ytjegopkaficbpaa.Mat
open Go.RowKit Fld Flt Trn

set_option maxRecDepth 100000 in
set_option maxHeartbeats 1600000 in
theorem lawMuls (a b c d : Int) (n : Nat) (hn : n < 18446744073709551616) (w : World) :
    Calls Try.prog 3 #[tv a b, tv c d, .int .u64 (n : Nat)] w (BoolRet w true) := by
  have HN := Lib.hid hn
  clear hn
  go_enter Try.func3, Try.ntmps3
  go_wp2_with fail
  have f0 := Lib.hid (F2.start w a b c d)
  refine (shown_any _).mono ?_; rintro e w1 ⟨rfl, hb1⟩
  have H1 := Lib.hid (f0.out.up hb1)
  clear hb1 f0
  obtain ⟨x0, x1, _, _⟩ := H1.out.cx
  obtain ⟨y0, y1, _, _⟩ := H1.out.cz
  have K : Hid (∀ W, Below w1.heap.size w1 W → W.cell? ⟨w.heap.size, 0, none⟩ = some (.int .i64 a) ∧ W.cell? ⟨w.heap.size, 1, none⟩ = some (.int .i64 b) ∧ W.cell? ⟨w.heap.size + 1, 0, none⟩ = some (.int .i64 c) ∧ W.cell? ⟨w.heap.size + 1, 1, none⟩ = some (.int .i64 d)) :=
    Lib.hid (fun W hb => ⟨(H1.out.up hb).cx.1, (H1.out.up hb).cx.2.1, (H1.out.up hb).cz.1, (H1.out.up hb).cz.2.1⟩)
  go_upto_region 2 with fail
  go_region_held3 (fun W => W.cell? ⟨w.heap.size, 0, none⟩ = some (.int .i64 a) ∧ W.cell? ⟨w.heap.size, 1, none⟩ = some (.int .i64 b) ∧ W.cell? ⟨w.heap.size + 1, 0, none⟩ = some (.int .i64 c) ∧ W.cell? ⟨w.heap.size + 1, 1, none⟩ = some (.int .i64 d))
    (first | exact ⟨x0, x1, y0, y1⟩ | exact K.out _ b7.out | exact K.out _ b6.out | exact K.out _ b5.out | exact K.out _ b4.out | exact K.out _ b3.out | exact K.out _ b2.out | go_keep)
    (first
      | (go_at_call 11; (with_reducible refine Calls.mono (may_any a b _) ?_); rintro e w2 ⟨rfl, hb2⟩; have b2 := Lib.hid (below_of_drew hb2))
      | (go_at_call 12; (with_reducible refine Calls.mono (refMay_any a b _) ?_); rintro e w3 ⟨rfl, hb3⟩; have b3 := Lib.hid (up_trans b2.out hb3))
      | (go_at_call 13; (with_reducible refine Calls.mono (mul_any a b c d _) ?_); rintro e w4 ⟨rfl, hb4⟩; have b4 := Lib.hid (up_trans b3.out hb4))
      | (go_at_call 14; (with_reducible refine Calls.mono (refMul_any a b c d _) ?_); rintro e w5 ⟨rfl, hb5⟩; have b5 := Lib.hid (up_trans b4.out hb5))
      | (go_at_call 15; (with_reducible refine Calls.mono (powerT_any n HN.out _) ?_); rintro e w6 ⟨rfl, hb6⟩; have b6 := Lib.hid (up_trans b5.out hb6))
      | (go_at_call 16; (with_reducible refine Calls.mono (refPower_any n HN.out _) ?_); rintro e w7 ⟨rfl, hb7⟩; have b7 := Lib.hid (up_trans b6.out hb7)))
  go_wp2
  go_ret
  exact ⟨rfl, up_trans H1.out.below b7.out⟩

end Go.Proofs.Ytjegopkaficbpaa.Mat
