/- The laws FieldMuls, FieldInvs, FieldTables and FieldRing, walked. -/
import Derived.Test.YtkhjokpikbbbkaaFieldD
namespace Go.Proofs.Ytkhjokpikbbbkaa.Fld
open Go.RowKit

theorem shown_1 : ivV 2 = 142 := by decide +kernel
theorem shown_2 : lgV 8 = 3 := by decide +kernel
theorem shown_3 : V (gm (B 2) (B 128)) = 29 := by decide +kernel
theorem shown_4 : V (gm (B 3) (B 7)) = 9 := by decide +kernel

set_option maxRecDepth 100000 in
set_option maxHeartbeats 400000 in
theorem shown_any (w : World) :
    Calls Try.prog 11 #[] w fun e w' => e = .returned (.bool true) ∧ Below w.heap.size w w' := by
  go_enter Try.func11, Try.ntmps11
  go_wp2_with fail
  refine (inv_any 2 (by omega) (by omega) _).mono ?_; rintro e w1 ⟨rfl, rfl⟩
  rw [shown_1, show ivE 2 = 0 from rfl]
  go_wp2_with fail
  refine (log_any 8 (by omega) (by omega) _).mono ?_; rintro e w1 ⟨rfl, hb1⟩
  rw [shown_2, show ivE 8 = 0 from rfl]
  go_wp2_with fail
  refine (mul_any 2 128 (by omega) (by omega) (by omega) (by omega) _).mono ?_; rintro e w2 ⟨rfl, rfl⟩
  rw [shown_3]
  go_wp2_with fail
  refine (mul_any 3 7 (by omega) (by omega) (by omega) (by omega) _).mono ?_; rintro e w2 ⟨rfl, rfl⟩
  rw [shown_4]
  go_wp2
  go_ret
  exact ⟨rfl, hb1⟩

theorem add_bits (a b : Int) (h0 : 0 ≤ a) (h1 : a < 256) (h2 : 0 ≤ b) (h3 : b < 256) (w : World) :
    Calls Try.prog 12 #[.int .u8 a, .int .u8 b] w fun e w' => e = .returned (.int .u8 (bits .xor .u8 a b)) ∧ w = w' := by
  have e : bits .xor .u8 a b = V (B a ^^^ B b) := by rw [← xor_V, V_B a h0 h1, V_B b h2 h3]
  rw [e]; exact add_any a b h0 h1 h2 h3 w

set_option maxRecDepth 100000 in
set_option maxHeartbeats 400000 in
theorem lawMuls (a b n : Int) (h0 : 0 ≤ a) (h1 : a < 256) (h2 : 0 ≤ b) (h3 : b < 256) (h4 : 0 ≤ n) (h5 : n < 18446744073709551616) (w : World) :
    Calls Try.prog 3 #[.int .u8 a, .int .u8 b, .int .u64 n] w fun e w' => e = .returned (.bool true) ∧ Below w.heap.size w w' := by
  obtain ⟨m, rfl⟩ := Int.eq_ofNat_of_zero_le h4
  have hm : m < 18446744073709551616 := by omega
  have HM := Lib.hid hm
  clear hm h4 h5
  go_enter Try.func3, Try.ntmps3
  go_wp2_with fail
  refine (shown_any _).mono ?_; rintro e w1 ⟨rfl, hb1⟩
  go_wp2_with fail
  refine (add_bits a b h0 h1 h2 h3 _).mono ?_; rintro e w2 ⟨rfl, rfl⟩
  go_wp2_with fail
  refine (mul_any a b h0 h1 h2 h3 _).mono ?_; rintro e w2 ⟨rfl, rfl⟩
  go_wp2_with fail
  refine (refMul_any a b h0 h1 h2 h3 _).mono ?_; rintro e w2 ⟨rfl, rfl⟩
  go_wp2_with fail
  refine (pow_any a m h0 h1 _).mono ?_; rintro e w2 ⟨rfl, rfl⟩
  go_wp2_with fail
  refine (refPow_any a m h0 h1 HM.out _).mono ?_; rintro e w2 ⟨rfl, rfl⟩
  go_wp2
  go_ret
  exact ⟨rfl, hb1⟩

set_option maxRecDepth 100000 in
set_option maxHeartbeats 400000 in
theorem lawInvs (a b : Int) (h0 : 0 ≤ a) (h1 : a < 256) (h2 : 0 ≤ b) (h3 : b < 256) (w : World) :
    Calls Try.prog 4 #[.int .u8 a, .int .u8 b] w fun e w' => e = .returned (.bool true) ∧ Below w.heap.size w w' := by
  go_enter Try.func4, Try.ntmps4
  go_wp2_with fail
  refine (shown_any _).mono ?_; rintro e w1 ⟨rfl, hb1⟩
  go_wp2_with fail
  refine (inv_any a h0 h1 _).mono ?_; rintro e w2 ⟨rfl, rfl⟩
  go_wp2_with fail
  refine (refInv_any a h0 h1 _).mono ?_; rintro e w2 ⟨rfl, rfl⟩
  go_wp2_with fail
  refine (div_any a b h0 h1 h2 h3 _).mono ?_; rintro e w2 ⟨rfl, rfl⟩
  go_wp2_with fail
  refine (refDiv_any a b h0 h1 h2 h3 _).mono ?_; rintro e w2 ⟨rfl, rfl⟩
  go_wp2_with fail
  refine (log_any a h0 h1 _).mono ?_; rintro e w2 ⟨rfl, hb2⟩
  go_wp2_with fail
  refine (refLog_any a h0 h1 _).mono ?_; rintro e w3 ⟨rfl, rfl⟩
  go_wp2
  go_ret
  exact ⟨rfl, hb1.trans (hb2.mono hb1.size)⟩

set_option maxRecDepth 100000 in
set_option maxHeartbeats 400000 in
theorem lawRing (a b c : Int) (h0 : 0 ≤ a) (h1 : a < 256) (h2 : 0 ≤ b) (h3 : b < 256) (h4 : 0 ≤ c) (h5 : c < 256) (w : World) :
    Calls Try.prog 6 #[.int .u8 a, .int .u8 b, .int .u8 c] w fun e w' => e = .returned (.bool true) ∧ Below w.heap.size w w' := by
  have e1 : V (gm (B a) (B 1)) = a := by rw [show B 1 = 1#8 from rfl, gm_one_right, V_B a h0 h1]
  have e2 : V (gm (B a) (B 0)) = 0 := by rw [show B 0 = 0#8 from rfl, gm_zero_right]; rfl
  have e3 : V (B a ^^^ B b ^^^ B b) = a := by rw [BitVec.xor_assoc, BitVec.xor_self, BitVec.xor_zero, V_B a h0 h1]
  have E1 := Lib.hid e1
  have E2 := Lib.hid e2
  have E3 := Lib.hid e3
  clear e1 e2 e3
  go_enter Try.func6, Try.ntmps6
  go_wp2_with fail
  refine (shown_any _).mono ?_; rintro e w1 ⟨rfl, hb1⟩
  go_wp2_with fail
  refine (mul_any a b h0 h1 h2 h3 _).mono ?_; rintro e w2 ⟨rfl, rfl⟩
  go_wp2_with fail
  refine (mul_any b a h2 h3 h0 h1 _).mono ?_; rintro e w2 ⟨rfl, rfl⟩
  rw [gm_comm (B b) (B a)]
  go_wp2_with fail
  refine (mul_any a b h0 h1 h2 h3 _).mono ?_; rintro e w2 ⟨rfl, rfl⟩
  go_wp2_with fail
  refine (mul_any _ c (V_lo _) (V_hi _) h4 h5 _).mono ?_; rintro e w2 ⟨rfl, rfl⟩
  rw [B_V, gm_assoc]
  go_wp2_with fail
  refine (mul_any b c h2 h3 h4 h5 _).mono ?_; rintro e w2 ⟨rfl, rfl⟩
  go_wp2_with fail
  refine (mul_any a _ h0 h1 (V_lo _) (V_hi _) _).mono ?_; rintro e w2 ⟨rfl, rfl⟩
  rw [B_V]
  go_wp2_with fail
  refine (add_any b c h2 h3 h4 h5 _).mono ?_; rintro e w2 ⟨rfl, rfl⟩
  go_wp2_with fail
  refine (mul_any a _ h0 h1 (V_lo _) (V_hi _) _).mono ?_; rintro e w2 ⟨rfl, rfl⟩
  rw [B_V, gm_xor]
  go_wp2_with fail
  refine (mul_any a b h0 h1 h2 h3 _).mono ?_; rintro e w2 ⟨rfl, rfl⟩
  go_wp2_with fail
  refine (mul_any a c h0 h1 h4 h5 _).mono ?_; rintro e w2 ⟨rfl, rfl⟩
  go_wp2_with fail
  refine (add_any _ _ (V_lo _) (V_hi _) (V_lo _) (V_hi _) _).mono ?_; rintro e w2 ⟨rfl, rfl⟩
  rw [B_V, B_V]
  go_wp2_with fail
  refine (mul_any a 1 h0 h1 (by omega) (by omega) _).mono ?_; rintro e w2 ⟨rfl, rfl⟩
  rw [E1.out]
  go_wp2_with fail
  refine (mul_any a 0 h0 h1 (by omega) (by omega) _).mono ?_; rintro e w2 ⟨rfl, rfl⟩
  rw [E2.out]
  go_wp2_with fail
  refine (add_any a b h0 h1 h2 h3 _).mono ?_; rintro e w2 ⟨rfl, rfl⟩
  go_wp2_with fail
  refine (add_any _ b (V_lo _) (V_hi _) h2 h3 _).mono ?_; rintro e w2 ⟨rfl, rfl⟩
  rw [B_V, E3.out]
  go_wp2
  go_ret
  exact ⟨rfl, hb1⟩

set_option maxRecDepth 100000 in
set_option maxHeartbeats 400000 in
theorem lawTables (a : Int) (h0 : 0 ≤ a) (h1 : a < 256) (w : World) :
    Calls Try.prog 5 #[.int .u8 a] w fun e w' => e = .returned (.bool true) ∧ Below w.heap.size w w' := by
  have hzP := (zero_of_info infoP).1
  have hzL := (zero_of_info infoL).1
  have szP : powZ.size = powW.size := by rw [powZ_size, powW_size]
  have szL : logZ.size = logW.size := by rw [logZ_size, logW_size]
  have allP : powW.all (·.oneCell') = true := powA_all 255
  have allL : logW.all (·.oneCell') = true := logA_all 255
  have P1 := Lib.hid szP
  have P2 := Lib.hid szL
  have P3 := Lib.hid allP
  have P4 := Lib.hid allL
  clear szP szL allP allL
  by_cases hz : a = 0
  · subst hz
    have hl := logW_zero
    go_enter Try.func5, Try.ntmps5
    go_wp2_with fail
    refine (shown_any _).mono ?_; rintro e w1 ⟨rfl, hb1⟩
    go_wp2_with fail
    refine (tables_any _).mono ?_; rintro e w2 ⟨rfl, hb2⟩
    go_wp2_with (first | (refine wpList_store_row rfl 39 _ _ rfl w2.heap.size powW rfl rfl 39 powZ (heap_alloc2_old _ _ _) infoPw P1.out P3.out ?_; rw [setRow_alloc_old]) | (refine wpList_store_row rfl 40 _ _ rfl (w2.heap.size + 1) logW rfl rfl 40 logZ (heap_alloc2_new _ _ _) infoLw P2.out P4.out ?_; rw [setRow_alloc2_new]) | (go_at_call 22; refine (refLog_any 0 (by omega) (by omega) _).mono ?_; rintro e w' ⟨rfl, rfl⟩; rw [show lgV 0 = 0 from rfl, show ivE 0 = 1 from rfl]))
    go_ret
    exact ⟨rfl, (((hb1.trans (hb2.mono hb1.size)).alloc (by have := hb1.size; have := hb2.size; omega) _).alloc (by have := hb1.size; have := hb2.size; simp; omega) _)⟩
  · have hv : lgV a = (L (B a) : Int) := by unfold lgV; rw [if_neg hz]
    have he : ivE a = 0 := by unfold ivE; rw [if_neg hz]
    have hb : (a == 0) = false := by simpa using hz
    have hx := B_nz a h0 h1 hz
    have hlt := L_lt (B a) hx
    have hl : logW[a.toNat]? = some (.int .i64 (L (B a))) := by
      have := logW_get (B a) hx
      have e : (B a).toNat = a.toNat := by rw [← V_toNat, V_B a h0 h1]
      rwa [e] at this
    have hp : powW[L (B a)]? = some (.int .u8 a) := by
      have := powW_get (L (B a)) hlt
      rwa [E_L (B a) hx, V_B a h0 h1] at this
    generalize L (B a) = l at hl hp hv hlt
    have HV := Lib.hid hv
    have HE := Lib.hid he
    clear hv he hz hx
    go_enter Try.func5, Try.ntmps5
    go_wp2_with fail
    refine (shown_any _).mono ?_; rintro e w1 ⟨rfl, hb1⟩
    go_wp2_with fail
    refine (tables_any _).mono ?_; rintro e w2 ⟨rfl, hb2⟩
    go_wp2_with (first | (refine wpList_store_row rfl 39 _ _ rfl w2.heap.size powW rfl rfl 39 powZ (heap_alloc2_old _ _ _) infoPw P1.out P3.out ?_; rw [setRow_alloc_old]) | (refine wpList_store_row rfl 40 _ _ rfl (w2.heap.size + 1) logW rfl rfl 40 logZ (heap_alloc2_new _ _ _) infoLw P2.out P4.out ?_; rw [setRow_alloc2_new]) | (go_at_call 22; refine (refLog_any a h0 h1 _).mono ?_; rintro e w' ⟨rfl, rfl⟩; rw [HV.out, HE.out]))
    go_ret
    exact ⟨rfl, (((hb1.trans (hb2.mono hb1.size)).alloc (by have := hb1.size; have := hb2.size; omega) _).alloc (by have := hb1.size; have := hb2.size; simp; omega) _)⟩
end Go.Proofs.Ytkhjokpikbbbkaa.Fld
