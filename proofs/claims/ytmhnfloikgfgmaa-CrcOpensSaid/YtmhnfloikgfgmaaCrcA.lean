/- The small functions of package crc, walked. -/
import Derived.Test.YtmhnfloikgfgmaaRows
import Derived.Test.YtmhnfloikgfgmaaCrcInt
import Derived.WalkKit
import Derived.WalkSpells
import Derived.WalkLawsBesides
import Derived.Lib.Hide
namespace Go.Proofs.Ytmhnfloikgfgmaa.Crc
open Go.RowKit

theorem ret_int {k : IntKind} {a b : Int} (h : a = b) : Ending.returned (.int k a) = .returned (.int k b) := by rw [h]

set_option maxHeartbeats 400000 in
theorem stepBit_any (a x : Int) (h0 : 0 ≤ a) (h1 : a < 4294967296) (h2 : 0 ≤ x) (h3 : x ≤ 1) (w : World) :
    Calls Try.prog 21 #[.int .u32 a, .int .u32 x] w fun e w' => e = .returned (.int .u32 (V (sb (B a) (one x)))) ∧ w = w' := by
  go_enter Try.func21, Try.ntmps21
  go_wp2
  go_ret
  exact ⟨ret_int (sb_num a x h0 h1 h2 h3), rfl⟩

set_option maxHeartbeats 400000 in
theorem step_any (a b : Int) (h0 : 0 ≤ a) (h1 : a < 4294967296) (h2 : 0 ≤ b) (h3 : b < 256) (w : World) :
    Calls Try.prog 13 #[.int .u32 a, .int .u8 b] w fun e w' => e = .returned (.int .u32 (V (st (B a) (B8 b)))) ∧ w = w' := by
  go_enter Try.func13, Try.ntmps13
  go_wp2
  go_loop [0, 6] (fun r i => ∃ k : Nat, k ≤ 8 ∧ i = .int .i64 k ∧ r = .int .u32 (V (stL (B a) ((bits8 (B8 b)).take k)))) (fun _ i => 8 - (intOf i).toNat)
  case atStart => exact ⟨0, by omega, rfl, by rw [List.take_zero, stL_nil, V_B a h0 h1]⟩
  case round =>
    obtain ⟨k, hk, rfl, rfl⟩ := hrel
    by_cases hlt : k < 8
    · go_wp2_with (go_at_call 21; refine (stepBit_any _ _ (V_lo _) (V_hi _) (bit_lo b k h2 h3 hlt) (bit_hi b k h2 h3 hlt) _).mono ?_; rintro e w' ⟨rfl, rfl⟩)
      go_round
      case rel => exact ⟨k + 1, by omega, by go_num, by rw [step_round _ b k h2 h3 hlt]⟩
      case measure => simp [intOf]; omega
    · go_wp2
      go_ret
      obtain rfl : k = 8 := by omega
      exact ⟨rfl, rfl⟩

set_option maxRecDepth 100000 in
set_option maxHeartbeats 400000 in
theorem refStep_any (a b : Int) (h0 : 0 ≤ a) (h1 : a < 4294967296) (h2 : 0 ≤ b) (h3 : b < 256) (w : World) :
    Calls Try.prog 14 #[.int .u32 a, .int .u8 b] w fun e w' => e = .returned (.int .u32 (V (st (B a) (B8 b)))) ∧ w = w' := by
  go_enter Try.func14, Try.ntmps14
  go_wp2
  go_loop [0, 1, 5] (fun r b' i => ∃ k : Nat, k ≤ 8 ∧ i = .int .i64 k ∧ r = .int .u32 (V (stL (B a) ((bits8 (B8 b)).take k))) ∧ b' = .int .u8 (V8 (B8 b <<< k))) (fun _ _ i => 8 - (intOf i).toNat)
  case atStart => exact ⟨0, by omega, rfl, by rw [List.take_zero, stL_nil, V_B a h0 h1], by rw [BitVec.shiftLeft_zero, V8_B8 b h2 h3]⟩
  case round =>
    obtain ⟨k, hk, rfl, rfl, rfl⟩ := hrel
    by_cases hlt : k < 8
    · have v0 := V_lo (stL (B a) ((bits8 (B8 b)).take k))
      have v1 := V_hi (stL (B a) ((bits8 (B8 b)).take k))
      have v2 := V8_lo (B8 b <<< k)
      have v3 := V8_hi (B8 b <<< k)
      generalize hR : V (stL (B a) ((bits8 (B8 b)).take k)) = R at *
      generalize hX : V8 (B8 b <<< k) = X at *
      have HR := Lib.hid hR; clear hR
      have HX := Lib.hid hX; clear hX
      go_wp2
      all_goals
        go_round
        case rel => 
          refine ⟨k + 1, by omega, by go_num, ?_, ?_⟩
          · first | rw [ref_yes HR.out HX.out hlt (by assumption)] | rw [ref_no HR.out HX.out hlt (by assumption)]
          · rw [ref_byte HX.out]
        case measure => simp [intOf]; omega
    · go_wp2
      go_ret
      obtain rfl : k = 8 := by omega
      exact ⟨rfl, rfl⟩
end Go.Proofs.Ytmhnfloikgfgmaa.Crc
