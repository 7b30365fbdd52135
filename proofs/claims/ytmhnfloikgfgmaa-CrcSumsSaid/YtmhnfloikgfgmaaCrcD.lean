/- The laws of package crc, walked (but CrcBursts). -/
import Derived.Test.YtmhnfloikgfgmaaCrcC
namespace Go.Proofs.Ytmhnfloikgfgmaa.Crc
open Go.RowKit

set_option maxRecDepth 100000 in
set_option maxHeartbeats 400000 in
theorem lawSteps (a b : Int) (h0 : 0 ≤ a) (h1 : a < 4294967296) (h2 : 0 ≤ b) (h3 : b < 256) (w : World) :
    Calls Try.prog 3 #[.int .u32 a, .int .u8 b] w fun e w' => e = .returned (.bool true) ∧ Below w.heap.size w w' := by
  go_enter Try.func3, Try.ntmps3
  go_wp2_with fail
  refine (shown_any _).mono ?_; rintro e w1 ⟨rfl, hb1⟩
  go_wp2_with fail
  refine (step_any a b h0 h1 h2 h3 _).mono ?_; rintro e w2 ⟨rfl, rfl⟩
  go_wp2_with fail
  refine (refStep_any a b h0 h1 h2 h3 _).mono ?_; rintro e w2 ⟨rfl, rfl⟩
  go_wp2
  go_ret
  exact ⟨rfl, hb1⟩

set_option maxRecDepth 100000 in
set_option maxHeartbeats 400000 in
theorem lawSums (s : ByteArray) (hs : s.size ≤ 140737488351232) (w : World) :
    Calls Try.prog 4 #[.string s] w fun e w' => e = .returned (.bool true) ∧ Below w.heap.size w w' := by
  go_enter Try.func4, Try.ntmps4
  go_wp2_with fail
  refine (shown_any _).mono ?_; rintro e w1 ⟨rfl, hb1⟩
  go_wp2_with fail
  refine (sum_any _ _ (by unfold maxLen; omega)).mono ?_; rintro e w2 ⟨rfl, hb2⟩
  go_wp2_with fail
  refine (refSum_any _ _ (by unfold maxLen; omega)).mono ?_; rintro e w3 ⟨rfl, rfl⟩
  go_wp2_with fail
  refine (seal_any _ _ (by omega)).mono ?_; rintro e w3 ⟨rfl, hb3⟩
  go_wp2_with fail
  refine (refSeal_any _ _ (by omega)).mono ?_; rintro e w4 ⟨rfl, hb4⟩
  go_wp2
  go_ret
  have s1 := hb1.size
  have s2 := hb2.size
  have s3 := hb3.size
  exact ⟨rfl, ((hb1.trans (hb2.mono s1)).trans (hb3.mono (by omega))).trans (hb4.mono (by omega))⟩

set_option maxRecDepth 100000 in
set_option maxHeartbeats 400000 in
theorem lawOpens (s : ByteArray) (hs : s.size ≤ 140737488351232) (w : World) :
    Calls Try.prog 5 #[.string s] w fun e w' => e = .returned (.bool true) ∧ Below w.heap.size w w' := by
  go_enter Try.func5, Try.ntmps5
  go_wp2_with fail
  refine (shown_any _).mono ?_; rintro e w1 ⟨rfl, hb1⟩
  go_wp2_with fail
  refine (open_any _ _ (by omega)).mono ?_; rintro e w2 ⟨rfl, hb2⟩
  go_wp2_with fail
  refine (refOpen_any _ _ (by omega)).mono ?_; rintro e w3 ⟨rfl, hb3⟩
  go_wp2
  go_ret
  have s1 := hb1.size
  have s2 := hb2.size
  exact ⟨rfl, (hb1.trans (hb2.mono s1)).trans (hb3.mono (by omega))⟩

theorem open_seal (s : ByteArray) : openS (sealS s) = s ∧ openE (sealS s) = 0 := by
  have h : (sealS s).data.toList = s.data.toList ++ laidL (sumL s.data.toList) := by rw [← ByteArray.toList_eq, seal_toList]
  unfold openS openE
  rw [h, openL_seal]
  exact ⟨by obtain ⟨⟨l⟩⟩ := s; rfl, rfl⟩
theorem sealS_size (s : ByteArray) : (sealS s).size = s.size + 4 := by
  unfold sealS; rw [ByteArray.size_append]; rfl

set_option maxRecDepth 100000 in
set_option maxHeartbeats 400000 in
theorem lawBack (s : ByteArray) (hs : s.size ≤ 140737488351232) (w : World) :
    Calls Try.prog 6 #[.string s] w fun e w' => e = .returned (.bool true) ∧ Below w.heap.size w w' := by
  go_enter Try.func6, Try.ntmps6
  go_wp2_with fail
  refine (shown_any _).mono ?_; rintro e w1 ⟨rfl, hb1⟩
  go_wp2_with fail
  refine (seal_any _ _ (by omega)).mono ?_; rintro e w2 ⟨rfl, hb2⟩
  go_wp2_with fail
  refine (open_any _ _ (by rw [sealS_size]; omega)).mono ?_; rintro e w3 ⟨rfl, hb3⟩
  rw [(open_seal s).1, (open_seal s).2]
  go_wp2
  go_ret
  have s1 := hb1.size
  have s2 := hb2.size
  exact ⟨rfl, (hb1.trans (hb2.mono s1)).trans (hb3.mono (by omega))⟩

theorem short_test (s : ByteArray) : ((openE s == 2) == decide ((s.size : Int) < 4)) = true := by
  by_cases h : s.size < 4
  · rw [openE_short s h, decide_eq_true (by omega)]; rfl
  · have e : openE s = 0 ∨ openE s = 13 := by
      unfold openE openL
      rw [if_neg (by simpa using h)]
      split
      · exact .inl rfl
      · exact .inr rfl
    rw [decide_eq_false (by omega)]
    rcases e with e | e <;> rw [e] <;> rfl

set_option maxRecDepth 100000 in
set_option maxHeartbeats 400000 in
theorem lawShort (s : ByteArray) (hs : s.size ≤ 140737488351232) (w : World) :
    Calls Try.prog 10 #[.string s] w fun e w' => e = .returned (.bool true) ∧ Below w.heap.size w w' := by
  have ht := short_test s
  go_enter Try.func10, Try.ntmps10
  go_wp2_with fail
  refine (shown_any _).mono ?_; rintro e w1 ⟨rfl, hb1⟩
  go_wp2_with fail
  refine (open_any _ _ (by omega)).mono ?_; rintro e w2 ⟨rfl, hb2⟩
  go_wp2
  go_ret
  have s1 := hb1.size
  exact ⟨rfl, hb1.trans (hb2.mono s1)⟩

theorem rest_end (s : ByteArray) : V (rk (sealS s) (sealS s).size) = 3338984827 := by
  unfold rk
  have h : (sealS s).data.toList = s.data.toList ++ laidL (sumL s.data.toList) := by rw [← ByteArray.toList_eq, seal_toList]
  rw [List.take_of_length_le (by simp), h, rg_seal]
  decide +kernel

set_option maxRecDepth 100000 in
set_option maxHeartbeats 400000 in
theorem lawRests (s : ByteArray) (hs : s.size ≤ 140737488351232) (w : World) :
    Calls Try.prog 11 #[.string s] w fun e w' => e = .returned (.bool true) ∧ Below w.heap.size w w' := by
  go_enter Try.func11, Try.ntmps11
  go_wp2_with fail
  refine (shown_any _).mono ?_; rintro e w1 ⟨rfl, hb1⟩
  go_wp2_with fail
  refine (seal_any _ _ (by omega)).mono ?_; rintro e w2 ⟨rfl, hb2⟩
  have hsz : (sealS s).size ≤ 140737488351236 := by rw [sealS_size]; omega
  have he := rest_end s
  generalize sealS s = f at hsz he ⊢
  have HE := Lib.hid he; clear he
  go_wp2
  go_loop [5, 6] (fun r i => ∃ k : Nat, k ≤ f.size ∧ i = .int .i64 k ∧ r = .int .u32 (V (rk f k))) (fun _ i => f.size - (intOf i).toNat)
  case atStart => exact ⟨0, Nat.zero_le _, rfl, by rw [rk_zero]; rfl⟩
  case round =>
    obtain ⟨k, hk, rfl, rfl⟩ := hrel
    by_cases hlt : k < f.size
    · go_wp2_with (go_at_call 13; refine (step_any _ _ (V_lo _) (V_hi _) (by omega) (byte_hi _) _).mono ?_; rintro e w' ⟨rfl, rfl⟩)
      go_round
      case rel => exact ⟨k + 1, by omega, by go_num, by rw [rk_next f k hlt]⟩
      case measure => simp [intOf]; omega
    · obtain rfl : k = f.size := by omega
      rw [HE.out]
      go_wp2
      go_ret
      have s1 := hb1.size
      exact ⟨rfl, hb1.trans (hb2.mono s1)⟩

theorem xor32 (a b : Int) (h0 : 0 ≤ a) (h1 : a < 4294967296) (h2 : 0 ≤ b) (h3 : b < 4294967296) : bits .xor .u32 a b = V (B a ^^^ B b) := by
  rw [← xor_V, V_B a h0 h1, V_B b h2 h3]
theorem xor8 (a b : Int) (h0 : 0 ≤ a) (h1 : a < 256) (h2 : 0 ≤ b) (h3 : b < 256) : bits .xor .u8 a b = V8 (B8 a ^^^ B8 b) := by
  rw [← xor_V8, V8_B8 a h0 h1, V8_B8 b h2 h3]

set_option maxRecDepth 100000 in
set_option maxHeartbeats 400000 in
theorem lawLines (a b x y : Int) (h0 : 0 ≤ a) (h1 : a < 4294967296) (h2 : 0 ≤ b) (h3 : b < 4294967296) (h4 : 0 ≤ x) (h5 : x < 256) (h6 : 0 ≤ y) (h7 : y < 256) (w : World) :
    Calls Try.prog 8 #[.agg #[.int .u32 a, .int .u32 b, .int .u8 x, .int .u8 y]] w fun e w' => e = .returned (.bool true) ∧ Below w.heap.size w w' := by
  go_enter Try.func8, Try.ntmps8
  go_wp2_with fail
  refine (shown_any _).mono ?_; rintro e w1 ⟨rfl, hb1⟩
  go_wp2_with fail
  rw [xor32 a b h0 h1 h2 h3, xor8 x y h4 h5 h6 h7]
  refine (step_any _ _ (V_lo _) (V_hi _) (V8_lo _) (V8_hi _) _).mono ?_; rintro e w2 ⟨rfl, rfl⟩
  rw [B_V, B8_V8, st_xor]
  go_wp2_with fail
  refine (step_any _ _ h0 h1 h4 h5 _).mono ?_; rintro e w2 ⟨rfl, rfl⟩
  go_wp2_with fail
  refine (step_any _ _ h2 h3 h6 h7 _).mono ?_; rintro e w2 ⟨rfl, rfl⟩
  go_wp2
  go_ret
  exact ⟨congrArg (fun t => Ending.returned (.bool t)) (show (V (st (B a) (B8 x) ^^^ st (B b) (B8 y)) == bits .xor .u32 (V (st (B a) (B8 x))) (V (st (B b) (B8 y)))) = true by rw [xor_V, beq_self_eq_true]), ((Below.refl _ _).alloc (Nat.le_refl _) _).trans (hb1.mono (by simp))⟩

theorem V_beq (a b : BitVec 32) : (V a == V b) = (a == b) := by
  rw [Bool.eq_iff_iff, beq_iff_eq, beq_iff_eq]; exact ⟨V_inj, fun h => by rw [h]⟩
theorem turns_reg (a b x : Int) (h0 : 0 ≤ a) (h1 : a < 4294967296) (h2 : 0 ≤ b) (h3 : b < 4294967296) :
    ((V (st (B a) (B8 x)) == V (st (B b) (B8 x))) == (a == b)) = true := by
  rw [V_beq, beq_iff_eq, Bool.eq_iff_iff, beq_iff_eq, beq_iff_eq, st_inj_reg]
  exact ⟨fun h => by rw [← V_B a h0 h1, h, V_B b h2 h3], fun h => by rw [h]⟩
theorem turns_byte (a x y : Int) (h0 : 0 ≤ x) (h1 : x < 256) (h2 : 0 ≤ y) (h3 : y < 256) :
    ((V (st (B a) (B8 x)) == V (st (B a) (B8 y))) == (x == y)) = true := by
  rw [V_beq, beq_iff_eq, Bool.eq_iff_iff, beq_iff_eq, beq_iff_eq, st_inj_byte]
  exact ⟨fun h => by rw [← V8_B8 x h0 h1, h, V8_B8 y h2 h3], fun h => by rw [h]⟩

set_option maxRecDepth 100000 in
set_option maxHeartbeats 400000 in
theorem lawTurns (a b x y : Int) (h0 : 0 ≤ a) (h1 : a < 4294967296) (h2 : 0 ≤ b) (h3 : b < 4294967296) (h4 : 0 ≤ x) (h5 : x < 256) (h6 : 0 ≤ y) (h7 : y < 256) (w : World) :
    Calls Try.prog 9 #[.agg #[.int .u32 a, .int .u32 b, .int .u8 x, .int .u8 y]] w fun e w' => e = .returned (.bool true) ∧ Below w.heap.size w w' := by
  have t1 := turns_reg a b x h0 h1 h2 h3
  have t2 := turns_byte a x y h4 h5 h6 h7
  go_enter Try.func9, Try.ntmps9
  go_wp2_with fail
  refine (shown_any _).mono ?_; rintro e w1 ⟨rfl, hb1⟩
  go_wp2_with fail
  refine (step_any _ _ h0 h1 h4 h5 _).mono ?_; rintro e w2 ⟨rfl, rfl⟩
  go_wp2_with fail
  refine (step_any _ _ h2 h3 h4 h5 _).mono ?_; rintro e w2 ⟨rfl, rfl⟩
  go_wp2_with fail
  refine (step_any _ _ h0 h1 h4 h5 _).mono ?_; rintro e w2 ⟨rfl, rfl⟩
  go_wp2_with fail
  refine (step_any _ _ h0 h1 h6 h7 _).mono ?_; rintro e w2 ⟨rfl, rfl⟩
  go_wp2
  go_ret
  exact ⟨rfl, ((Below.refl _ _).alloc (Nat.le_refl _) _).trans (hb1.mono (by simp))⟩
end Go.Proofs.Ytmhnfloikgfgmaa.Crc
