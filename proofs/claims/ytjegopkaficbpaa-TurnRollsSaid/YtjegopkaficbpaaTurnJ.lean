/- The print of two texts: walked. -/
import Derived.Test.YtjegopkaficbpaaTurnI
namespace Go.Proofs.Ytjegopkaficbpaa.Mat
open Go.RowKit Fld Flt Trn

def join (x y : Tn) (n : Nat) : Tn := md (ad (mu x (md (px st n))) y)
def joinE (x y : Tn) (n : Int) : Int := if may x ∧ may y ∧ 0 ≤ n then 0 else 1
def joinT (x y : Tn) (n : Int) : Tn := if may x ∧ may y ∧ 0 ≤ n then join x y n.toNat else (0, 0)

theorem mu_small27 {x y : Tn} (hx : may x) (hy : may y) : (mu x y).1.natAbs < 2 ^ 28 ∧ (mu x y).2.natAbs < 2 ^ 28 := by
  obtain ⟨x0, x1, x2, x3⟩ := hx
  obtain ⟨y0, y1, y2, y3⟩ := hy
  obtain ⟨p, hp, p1⟩ := mul_bd x0 x1 y0 y1
  obtain ⟨q, hq, q1⟩ := mul_bd x2 x3 y2 y3
  obtain ⟨r, hr, r1⟩ := mul_bd x0 x1 y2 y3
  obtain ⟨s, hs, s1⟩ := mul_bd x2 x3 y0 y1
  constructor
  · show (x.1 * y.1 - x.2 * y.2).natAbs < _; rw [hp, hq]; omega
  · show (x.1 * y.2 + x.2 * y.1).natAbs < _; rw [hr, hs]; omega
set_option maxRecDepth 100000 in
set_option maxHeartbeats 800000 in
theorem join_yes {a b c d : Int} {n : Nat} (h : may (a, b)) (h' : may (c, d)) (hn : n ≤ 9223372036854775807) (w : World) :
    Calls Try.prog 21 #[tv a b, tv c d, .int .i64 (n : Nat)] w (TurnErrRet w (join (a, b) (c, d) n) 0) := by
  have HF := Lib.hid (mayB_yes h)
  have HG := Lib.hid (mayB_yes h')
  have HM := Lib.hid h
  have HM' := Lib.hid h'
  have HN : Hid (n < 18446744073709551616) := Lib.hid (by omega)
  have HW : Hid (IntKind.u64.wrap (n : Int) = (n : Int)) := Lib.hid (IntWalk.u64_in _ (by omega))
  have hp := may_md (px st n)
  have m1 := mulc_run (mulc_may h hp)
  obtain ⟨s1, s2⟩ := mu_small27 h hp
  have h3 := h'
  obtain ⟨c0, c1, d0, d1⟩ := h3
  simp only at c0 c1 d0 d1
  have m2 := addc_run (csum_R (a := (mu (a, b) (md (px st n))).1) (b := (mu (a, b) (md (px st n))).2) (c := c) (d := d) (by omega) (by omega) (by omega) (by omega))
  have HR : Hid (∀ w, Calls Try.prog 25 #[.complex .f64 (R ((mu (a, b) (md (px st n))).1 + c)) (R ((mu (a, b) (md (px st n))).2 + d))] w fun e w' => e = .returned (.complex .f64 (R (join (a, b) (c, d) n).1) (R (join (a, b) (c, d) n).2)) ∧ w = w') :=
    Lib.hid (rest_any _ _ (Sm.of (by omega)) (Sm.of (by omega)))
  have HS : Hid (may (join (a, b) (c, d) n)) := Lib.hid (may_md _)
  clear h h' hp s1 s2 c0 c1 d0 d1
  generalize join (a, b) (c, d) n = z at *
  generalize (mu (a, b) (md (px st n))).1 + c = q1 at *
  generalize (mu (a, b) (md (px st n))).2 + d = q2 at *
  generalize (mu (a, b) (md (px st n))).1 = q3 at *
  generalize (mu (a, b) (md (px st n))).2 = q4 at *
  have hn0 : (0 : Int) ≤ (n : Int) := by omega
  go_enter Try.func21, Try.ntmps21
  go_wp2_with fail
  have h0 := F3.start w a b c d 0 0
  refine (may_any a b _).mono ?_; rintro e w1 ⟨rfl, hb1⟩
  rw [HF.out]
  have h1 := h0.up hb1
  obtain ⟨y0, y1⟩ := h1.cy
  have H1 := Lib.hid h1
  clear h0 h1 hb1
  go_wp2_with fail
  refine (may_any c d _).mono ?_; rintro e w2 ⟨rfl, hb2⟩
  rw [HG.out]
  have h2 := H1.out.up hb2
  obtain ⟨x0, x1⟩ := h2.cx
  obtain ⟨y0, y1⟩ := h2.cy
  have H2 := Lib.hid h2
  clear h2 hb2 H1
  have K : Hid (∀ W, Below w2.heap.size w2 W → W.cell? ⟨w.heap.size, 0, none⟩ = some (.int .i64 a) ∧ W.cell? ⟨w.heap.size, 1, none⟩ = some (.int .i64 b) ∧ W.cell? ⟨w.heap.size + 1, 0, none⟩ = some (.int .i64 c) ∧ W.cell? ⟨w.heap.size + 1, 1, none⟩ = some (.int .i64 d)) :=
    Lib.hid (fun W hb => ⟨(H2.out.up hb).cx.1, (H2.out.up hb).cx.2, (H2.out.up hb).cy.1, (H2.out.up hb).cy.2⟩)
  go_upto_region 3 with fail
  go_region_held3 (fun W => W.cell? ⟨w.heap.size, 0, none⟩ = some (.int .i64 a) ∧ W.cell? ⟨w.heap.size, 1, none⟩ = some (.int .i64 b) ∧ W.cell? ⟨w.heap.size + 1, 0, none⟩ = some (.int .i64 c) ∧ W.cell? ⟨w.heap.size + 1, 1, none⟩ = some (.int .i64 d))
    (first | exact ⟨x0, x1, y0, y1⟩ | exact K.out _ b3.out | exact K.out _ b4.out | exact K.out _ b5.out | exact ⟨hp.out.x.pair.1, hp.out.x.pair.2, hp.out.y.pair.1, hp.out.y.pair.2⟩ | go_keep)
    (first
      | (go_at_call 26; (with_reducible refine Calls.mono (number_any a b HM.out _) ?_); rintro e w3 ⟨rfl, hb3⟩; have b3 := Lib.hid (below_of_drew hb3))
      | (go_at_call 27; rw [HW.out]; (with_reducible refine Calls.mono (power_any n HN.out _) ?_); rintro e w5 ⟨rfl, rfl⟩)
      | (go_at_call 26; (with_reducible refine Calls.mono (number_any c d HM'.out _) ?_); rintro e w4 ⟨rfl, hb4⟩; have b4 := Lib.hid (up_trans b3.out hb4))
      | (go_at_call 25; (with_reducible refine Calls.mono (HR.out _) ?_); rintro e w5 ⟨rfl, rfl⟩)
      | (go_at_call 24; (with_reducible refine Calls.mono (told_any _ _ (small40 HS.out).1 (small40 HS.out).2 _) ?_); rintro e w5 ⟨rfl, hb5⟩; have b5 := Lib.hid (up_trans b4.out hb5); obtain ⟨z0, z1, z2, z3⟩ := (H2.out.up b5.out).cz; have hp := Lib.hid ((H2.out.up b5.out).put z.1 z.2)))
  go_wp2
  refine bodyPost_ret (results_turn_err rfl _ _ (w.heap.size + 1 + 1) rfl hp.out.z.pair) rfl ⟨rfl, hp.out.below⟩

set_option maxRecDepth 100000 in
set_option maxHeartbeats 800000 in
theorem join_no1 {a b c d n : Int} (h : ¬ may (a, b)) (w : World) : Calls Try.prog 21 #[tv a b, tv c d, .int .i64 n] w (TurnErrRet w (0, 0) 1) := by
  have HF := Lib.hid (mayB_no h)
  clear h
  go_enter Try.func21, Try.ntmps21
  go_wp2_with fail
  have h0 := F3.start w a b c d 0 0
  refine (may_any a b _).mono ?_; rintro e w1 ⟨rfl, hb1⟩
  rw [HF.out]
  have h1 := h0.up hb1
  obtain ⟨z0, z1, z2, z3⟩ := h1.cz
  have H1 := Lib.hid h1
  clear h0 h1 hb1
  go_wp2
  have hp := H1.out.put 0 0
  refine bodyPost_ret (results_turn_err rfl _ _ (w.heap.size + 1 + 1) rfl hp.z.pair) rfl ⟨rfl, hp.below⟩
set_option maxRecDepth 100000 in
set_option maxHeartbeats 800000 in
theorem join_no2 {a b c d n : Int} (h : may (a, b)) (h' : ¬ may (c, d)) (w : World) : Calls Try.prog 21 #[tv a b, tv c d, .int .i64 n] w (TurnErrRet w (0, 0) 1) := by
  have HF := Lib.hid (mayB_yes h)
  have HG := Lib.hid (mayB_no h')
  clear h h'
  go_enter Try.func21, Try.ntmps21
  go_wp2_with fail
  have h0 := F3.start w a b c d 0 0
  refine (may_any a b _).mono ?_; rintro e w1 ⟨rfl, hb1⟩
  rw [HF.out]
  have h1 := h0.up hb1
  obtain ⟨y0, y1⟩ := h1.cy
  have H1 := Lib.hid h1
  clear h0 h1 hb1
  go_wp2_with fail
  refine (may_any c d _).mono ?_; rintro e w2 ⟨rfl, hb2⟩
  rw [HG.out]
  have h2 := H1.out.up hb2
  obtain ⟨z0, z1, z2, z3⟩ := h2.cz
  have H2 := Lib.hid h2
  clear h2 hb2 H1 y0 y1
  go_wp2
  have hp := H2.out.put 0 0
  refine bodyPost_ret (results_turn_err rfl _ _ (w.heap.size + 1 + 1) rfl hp.z.pair) rfl ⟨rfl, hp.below⟩
set_option maxRecDepth 100000 in
set_option maxHeartbeats 800000 in
theorem join_no3 {a b c d n : Int} (h : may (a, b)) (h' : may (c, d)) (hn : n < 0) (w : World) : Calls Try.prog 21 #[tv a b, tv c d, .int .i64 n] w (TurnErrRet w (0, 0) 1) := by
  have HF := Lib.hid (mayB_yes h)
  have HG := Lib.hid (mayB_yes h')
  clear h h'
  go_enter Try.func21, Try.ntmps21
  go_wp2_with fail
  have h0 := F3.start w a b c d 0 0
  refine (may_any a b _).mono ?_; rintro e w1 ⟨rfl, hb1⟩
  rw [HF.out]
  have h1 := h0.up hb1
  obtain ⟨y0, y1⟩ := h1.cy
  have H1 := Lib.hid h1
  clear h0 h1 hb1
  go_wp2_with fail
  refine (may_any c d _).mono ?_; rintro e w2 ⟨rfl, hb2⟩
  rw [HG.out]
  have h2 := H1.out.up hb2
  obtain ⟨z0, z1, z2, z3⟩ := h2.cz
  have H2 := Lib.hid h2
  clear h2 hb2 H1 y0 y1
  go_wp2
  have hp := H2.out.put 0 0
  refine bodyPost_ret (results_turn_err rfl _ _ (w.heap.size + 1 + 1) rfl hp.z.pair) rfl ⟨rfl, hp.below⟩
theorem join_any (a b c d n : Int) (hn : n ≤ 9223372036854775807) (w : World) :
    Calls Try.prog 21 #[tv a b, tv c d, .int .i64 n] w (TurnErrRet w (joinT (a, b) (c, d) n) (joinE (a, b) (c, d) n)) := by
  unfold joinT joinE
  by_cases h : may (a, b)
  · by_cases h' : may (c, d)
    · by_cases h0 : 0 ≤ n
      · rw [if_pos ⟨h, h', h0⟩, if_pos ⟨h, h', h0⟩]
        obtain ⟨m, rfl⟩ : ∃ m : Nat, n = m := ⟨n.toNat, by omega⟩
        rw [Int.toNat_natCast]
        exact join_yes h h' (by omega) w
      · rw [if_neg (fun e => h0 e.2.2), if_neg (fun e => h0 e.2.2)]; exact join_no3 h h' (by omega) w
    · rw [if_neg (fun e => h' e.2.1), if_neg (fun e => h' e.2.1)]; exact join_no2 h h' w
  · rw [if_neg (fun e => h e.1), if_neg (fun e => h e.1)]; exact join_no1 h w
end Go.Proofs.Ytjegopkaficbpaa.Mat
