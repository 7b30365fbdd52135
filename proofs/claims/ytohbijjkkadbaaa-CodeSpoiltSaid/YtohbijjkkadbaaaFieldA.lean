/- The functions of package field, walked. -/
import Derived.Test.YtohbijjkkadbaaaRows
import Derived.Test.YtohbijjkkadbaaaFieldInt
import Derived.WalkKit
import Derived.WalkSpells
import Derived.WalkLawsBesides
import Derived.Lib.Hide
import Derived.Outline
namespace Go.Proofs.Ytohbijjkkadbaaa.Fld
open Go.RowKit

theorem ret_int {k : IntKind} {a b : Int} (h : a = b) : Ending.returned (.int k a) = .returned (.int k b) := by rw [h]

set_option maxRecDepth 100000 in
set_option maxHeartbeats 400000 in
theorem double_any (a : Int) (h0 : 0 ≤ a) (h1 : a < 256) (w : World) :
    Calls Try.prog 65 #[.int .u8 a] w fun e w' => e = .returned (.int .u8 (V (dbl (B a)))) ∧ w = w' := by
  go_enter Try.func65, Try.ntmps65
  go_wp2
  go_ret
  exact ⟨ret_int (dbl_num a h0 h1), rfl⟩

set_option maxRecDepth 100000 in
set_option maxHeartbeats 400000 in
theorem mul_any (a b : Int) (h0 : 0 ≤ a) (h1 : a < 256) (h2 : 0 ≤ b) (h3 : b < 256) (w : World) :
    Calls Try.prog 54 #[.int .u8 a, .int .u8 b] w fun e w' => e = .returned (.int .u8 (V (gm (B a) (B b)))) ∧ w = w' := by
  go_enter Try.func54, Try.ntmps54
  go_wp2
  go_loop [5, 8] (fun p i => ∃ k : Nat, k ≤ 8 ∧ i = .int .i64 k ∧ p = .int .u8 (V (mk (B a) (B b) k))) (fun _ i => 8 - (intOf i).toNat)
  case atStart => exact ⟨0, by omega, rfl, rfl⟩
  case round =>
    obtain ⟨k, hk, rfl, rfl⟩ := hrel
    by_cases hlt : k < 8
    · go_wp2_with (go_at_call 65; refine (double_any _ (V_lo _) (V_hi _) _).mono ?_; rintro e w' ⟨rfl, rfl⟩)
      go_round
      case rel => exact ⟨k + 1, by omega, by go_num, by rw [mul_round a b k h0 h1 h2 h3 hlt]⟩
      case measure => simp [intOf]; omega
    · go_wp2
      go_ret
      obtain rfl : k = 8 := by omega
      exact ⟨rfl, rfl⟩

set_option maxRecDepth 100000 in
set_option maxHeartbeats 400000 in
theorem refMul_any (a b : Int) (h0 : 0 ≤ a) (h1 : a < 256) (h2 : 0 ≤ b) (h3 : b < 256) (w : World) :
    Calls Try.prog 59 #[.int .u8 a, .int .u8 b] w fun e w' => e = .returned (.int .u8 (V (gm (B a) (B b)))) ∧ w = w' := by
  have e0 : U (up (B a) 0) = a := by rw [up_zero, V_B a h0 h1]
  have e1 : V (B b) / 2 ^ 0 = b := by rw [V_B b h2 h3]; omega
  have E0 := Lib.hid e0
  have E1 := Lib.hid e1
  clear e0 e1
  go_enter Try.func59, Try.ntmps59
  go_wp2
  go_loop [5, 6, 7] (fun p x y => ∃ k : Nat, k ≤ 8 ∧ p = .int .i64 (U (cl (B a) (B b) k)) ∧ x = .int .i64 (U (up (B a) k)) ∧ y = .int .i64 (V (B b) / 2 ^ k)) (fun _ _ y => (intOf y).toNat)
  case atStart => exact ⟨0, by omega, rfl, by rw [E0.out], by rw [E1.out]⟩
  case round =>
    obtain ⟨k, hk, rfl, rfl, rfl⟩ := hrel
    have u0 := U_lo (cl (B a) (B b) k)
    have u1 := U_hi (cl (B a) (B b) k)
    have v0 := U_lo (up (B a) k)
    have v1 := U_hi (up (B a) k)
    have y0 : 0 ≤ V (B b) / 2 ^ k := Int.ediv_nonneg (V_lo _) (Int.pow_nonneg (by omega))
    have y1 : V (B b) / 2 ^ k < 256 := Int.lt_of_le_of_lt (Int.ediv_le_self _ (V_lo _)) (V_hi _)
    generalize hP : U (cl (B a) (B b) k) = P at *
    generalize hA : U (up (B a) k) = A at *
    generalize hY : V (B b) / 2 ^ k = Y at *
    have HP := Lib.hid hP; clear hP
    have HA := Lib.hid hA; clear hA
    have HY := Lib.hid hY; clear hY
    by_cases hlt : 0 < Y
    · go_wp2
      all_goals
        go_round
        case rel =>
          have hk8 := k_lt HY.out hk hlt
          refine ⟨k + 1, by omega, ?_, ?_, ?_⟩
          · first | rw [cl_yes HP.out HA.out HY.out (by assumption)] | rw [← cl_no HP.out HY.out (by assumption)]
          · rw [← up_next _ k hk8, HA.out]
          · rw [← half_num, HY.out]
        case measure => simp [intOf]; omega
    · have hq := Lib.hid (cl_end HP.out HY.out hk y0 hlt)
      clear HP HA HY
      go_wp2
      go_loop [5, 8] (fun p x => ∃ j : Nat, j ≤ 8 ∧ p = .int .i64 (U (red (cl (B a) (B b) 8) j)) ∧ x = .int .i64 (kk j)) (fun _ x => (intOf x).toNat)
      case atStart => exact ⟨0, by omega, by rw [red_start hq.out], by rw [kk_zero]⟩
      case round =>
        obtain ⟨j, hj, rfl, rfl⟩ := hrel
        have q0 := U_lo (red (cl (B a) (B b) 8) j)
        have q1 := U_hi (red (cl (B a) (B b) 8) j)
        have r0 := kk_lo j
        have r1 := kk_hi j
        generalize hR : U (red (cl (B a) (B b) 8) j) = R at *
        generalize hK : kk j = K at *
        have HR := Lib.hid hR; clear hR
        have HK := Lib.hid hK; clear hK
        by_cases hk1 : 1 ≤ K
        · go_wp2
          all_goals
            go_round
            case rel =>
              have hj8 := j_lt HK.out hj hk1
              refine ⟨j + 1, by omega, ?_, ?_⟩
              · first | rw [red_yes HR.out HK.out hj8 (by assumption)] | rw [← red_no HR.out HK.out hj8 (by omega)]
              · rw [← kk_next, HK.out]
            case measure => simp [intOf]; omega
        · obtain rfl := j_end HK.out hj hk1
          go_wp2
          go_ret
          exact ⟨ret_int (by rw [← HR.out]; exact red_end _ _), rfl⟩
end Go.Proofs.Ytohbijjkkadbaaa.Fld
