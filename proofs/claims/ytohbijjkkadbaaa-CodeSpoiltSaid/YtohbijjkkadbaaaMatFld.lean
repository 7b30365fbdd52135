/- Sums, powers and inverses of elements: walked. -/
import Derived.Test.YtohbijjkkadbaaaFieldA
namespace Go.Proofs.Ytohbijjkkadbaaa.Fld
open Go.RowKit

/-- what the calls answer, with their errors -/
def ivV (a : Int) : Int := if a = 0 then 0 else V (iv (B a))
def ivE (a : Int) : Int := if a = 0 then 1 else 0
def dvV (a b : Int) : Int := if b = 0 then 0 else V (gm (B a) (iv (B b)))
def lgV (a : Int) : Int := if a = 0 then 0 else (L (B a) : Int)

theorem add_any (a b : Int) (h0 : 0 ≤ a) (h1 : a < 256) (h2 : 0 ≤ b) (h3 : b < 256) (w : World) :
    Calls Try.prog 53 #[.int .u8 a, .int .u8 b] w fun e w' => e = .returned (.int .u8 (V (B a ^^^ B b))) ∧ w = w' := by
  go_enter Try.func53, Try.ntmps53
  go_wp2
  go_ret
  exact ⟨ret_int (by rw [← xor_V, V_B a h0 h1, V_B b h2 h3]), rfl⟩

theorem and1_num (N : Nat) : bits .and .u64 (N : Int) 1 = ((N % 2 : Nat) : Int) := by
  show IntKind.u64.wrap ((BitVec.ofInt 64 (N : Int) &&& BitVec.ofInt 64 ((1 : Nat) : Int)).toNat : Int) = _
  rw [BitVec.toNat_and, BitVec.ofInt_natCast, BitVec.ofInt_natCast, BitVec.toNat_ofNat, BitVec.toNat_ofNat, show 1 % 2 ^ 64 = 1 from rfl, Nat.and_one_is_mod, IntKind.wrap_u64]
  omega
theorem mod_yes {N : Nat} (h : ((N : Int) % 2 == 1) = true) : N % 2 = 1 := by
  rw [beq_iff_eq] at h; omega
theorem mod_no {N : Nat} (h : ((N : Int) % 2 == 1) = false) : N % 2 = 0 := by
  rw [beq_eq_false_iff_ne] at h; omega
theorem wrap_half {N : Nat} (h : N < 18446744073709551616) : IntKind.u64.wrap ((N : Int) / 2) = ((N / 2 : Nat) : Int) := by
  rw [IntKind.wrap_u64]; omega
theorem and1_yes {N : Nat} (h : (bits .and .u64 (N : Int) 1 == 1) = true) : N % 2 = 1 := by
  rw [and1_num, beq_iff_eq] at h; omega
theorem and1_no {N : Nat} (h : (bits .and .u64 (N : Int) 1 == 1) = false) : N % 2 = 0 := by
  rw [and1_num, beq_eq_false_iff_ne] at h; omega

set_option maxRecDepth 100000 in
set_option maxHeartbeats 400000 in
theorem pow_any (a : Int) (n : Nat) (h0 : 0 ≤ a) (h1 : a < 256) (w : World) :
    Calls Try.prog 46 #[.int .u8 a, .int .u64 n] w fun e w' => e = .returned (.int .u8 (V (pw (B a) n))) ∧ w = w' := by
  generalize hT : pw (B a) n = T
  have HT := Lib.hid hT; clear hT
  go_enter Try.func46, Try.ntmps46
  go_wp2
  go_loop [0, 1, 5] (fun x m p => ∃ (N : Nat) (X P : BitVec 8), m = .int .u64 N ∧ x = .int .u8 (V X) ∧ p = .int .u8 (V P) ∧ Hid (gm P (pw X N) = T)) (fun _ m _ => (intOf m).toNat)
  case atStart => exact ⟨n, B a, 1#8, rfl, by rw [V_B a h0 h1], rfl, Lib.hid (by rw [gm_one_left, HT.out])⟩
  case round =>
    obtain ⟨N, X, P, rfl, rfl, rfl, HP⟩ := hrel
    by_cases hlt : 0 < N
    · go_wp2_with (go_at_call 54; refine (mul_any _ _ (V_lo _) (V_hi _) (V_lo _) (V_hi _) _).mono ?_; rintro e w' ⟨rfl, rfl⟩)
      all_goals
        go_round
        case rel =>
          refine ⟨N / 2, gm X X, ?_, by go_num, by rw [B_V], ?_, ?_⟩
          rotate_left
          · first | (have _t : N % 2 = 1 := and1_yes (by assumption)); exact congrArg (Value.int .u8) (by rw [B_V, B_V]) | rfl
          · rw [← HP.out]
            first | exact Lib.hid (by rw [pw_odd P X N (and1_yes (by assumption))]) | exact Lib.hid (by rw [pw_even P X N (and1_no (by assumption))])
        case measure => simp [intOf]; omega
    · go_wp2
      go_ret
      obtain rfl : N = 0 := by omega
      exact ⟨ret_int (by have := HP.out; rw [pw_zero, gm_one_right] at this; rw [this]), rfl⟩

set_option maxRecDepth 100000 in
set_option maxHeartbeats 400000 in
theorem refPow_any (a : Int) (n : Nat) (h0 : 0 ≤ a) (h1 : a < 256) (hn : n < 18446744073709551616) (w : World) :
    Calls Try.prog 55 #[.int .u8 a, .int .u64 n] w fun e w' => e = .returned (.int .u8 (V (pw (B a) n))) ∧ w = w' := by
  generalize hT : pw (B a) n = T
  have HT := Lib.hid hT; clear hT
  have HN := Lib.hid hn; clear hn
  go_enter Try.func55, Try.ntmps55
  go_wp2
  go_loop [0, 1, 5] (fun x m p => ∃ (N : Nat) (X P : BitVec 8), N ≤ n ∧ m = .int .u64 N ∧ x = .int .u8 (V X) ∧ p = .int .u8 (V P) ∧ Hid (gm P (pw X N) = T)) (fun _ m _ => (intOf m).toNat)
  case atStart => exact ⟨n, B a, 1#8, Nat.le_refl _, rfl, by rw [V_B a h0 h1], rfl, Lib.hid (by rw [gm_one_left, HT.out])⟩
  case round =>
    obtain ⟨N, X, P, hN, rfl, rfl, rfl, HP⟩ := hrel
    by_cases hlt : 0 < N
    · go_wp2_with (go_at_call 59; refine (refMul_any _ _ (V_lo _) (V_hi _) (V_lo _) (V_hi _) _).mono ?_; rintro e w' ⟨rfl, rfl⟩)
      all_goals
        have hw2 := wrap_half (N := N) (by have := HN.out; omega)
        go_round
        case rel =>
          refine ⟨N / 2, gm X X, ?_, by omega, by rw [hw2], by rw [B_V], ?_, ?_⟩
          rotate_left
          · first | (have _t : N % 2 = 1 := mod_yes (by assumption)); exact congrArg (Value.int .u8) (by rw [B_V, B_V]) | rfl
          · rw [← HP.out]
            first | exact Lib.hid (by rw [pw_odd P X N (mod_yes (by assumption))]) | exact Lib.hid (by rw [pw_even P X N (mod_no (by assumption))])
        case measure => rw [hw2]; simp [intOf]; omega
    · go_wp2
      go_ret
      obtain rfl : N = 0 := by omega
      exact ⟨ret_int (by have := HP.out; rw [pw_zero, gm_one_right] at this; rw [this]), rfl⟩

set_option maxRecDepth 100000 in
set_option maxHeartbeats 400000 in
theorem inv_any (a : Int) (h0 : 0 ≤ a) (h1 : a < 256) (w : World) :
    Calls Try.prog 62 #[.int .u8 a] w fun e w' => e = .returned (.tuple #[.int .u8 (ivV a), .int .i64 (ivE a)]) ∧ w = w' := by
  by_cases hz : a = 0
  · subst hz
    go_enter Try.func62, Try.ntmps62
    go_wp2
    go_ret2
    exact ⟨rfl, rfl⟩
  · have hv : ivV a = V (pw (B a) 254) := by unfold ivV; rw [if_neg hz, pw_iv _ (B_nz a h0 h1 hz)]
    have he : ivE a = 0 := by unfold ivE; rw [if_neg hz]
    have hb : (a == 0) = false := by simpa using hz
    rw [hv, he]
    clear hv he hz
    go_enter Try.func62, Try.ntmps62
    go_wp2_with fail
    refine (pow_any a 254 h0 h1 _).mono ?_; rintro e w' ⟨rfl, rfl⟩
    go_wp2
    go_ret2
    exact ⟨rfl, rfl⟩

theorem iv_lo (x : BitVec 8) : 1 ≤ (iv x).toNat := by
  have h := iv_nz x
  rcases Nat.eq_zero_or_pos (iv x).toNat with e | e
  · exact absurd (BitVec.eq_of_toNat_eq e) h
  · exact e
theorem look_yes {x : BitVec 8} {k : Nat} (hx : x ≠ 0#8) (hk : k < 256) (h : (V (gm x (B (k : Int))) != 1) = false) : (k : Int) = V (iv x) := by
  have e : V (gm x (B (k : Int))) = V 1#8 := by rw [V_one]; simpa using h
  have e2 := (iv_one x _ hx).1 (V_inj e)
  rw [← e2, V_B _ (by omega) (by omega)]
theorem look_no {x : BitVec 8} {k : Nat} (hx : x ≠ 0#8) (h : (V (gm x (B (k : Int))) != 1) = true) : k ≠ (iv x).toNat := by
  intro e
  have e1 : B (k : Int) = iv x := by rw [e]; exact B_V (iv x)
  rw [e1, gm_iv x hx, V_one] at h
  simp at h

set_option maxRecDepth 100000 in
set_option maxHeartbeats 400000 in
theorem refInv_any (a : Int) (h0 : 0 ≤ a) (h1 : a < 256) (w : World) :
    Calls Try.prog 58 #[.int .u8 a] w fun e w' => e = .returned (.tuple #[.int .u8 (ivV a), .int .i64 (ivE a)]) ∧ w = w' := by
  by_cases hz : a = 0
  · subst hz
    go_enter Try.func58, Try.ntmps58
    go_wp2
    go_ret2
    exact ⟨rfl, rfl⟩
  · have hv : ivV a = V (iv (B a)) := by unfold ivV; rw [if_neg hz]
    have he : ivE a = 0 := by unfold ivE; rw [if_neg hz]
    have hb : (a == 0) = false := by simpa using hz
    have hx := B_nz a h0 h1 hz
    rw [hv, he]
    have i0 := iv_lo (B a)
    have i1 := (iv (B a)).isLt
    generalize hI : (iv (B a)).toNat = I at i0 i1
    have HI := Lib.hid hI; clear hI
    have HX := Lib.hid hx; clear hx
    clear hv he hz
    go_enter Try.func58, Try.ntmps58
    go_wp2
    go_loop [4] (fun y => ∃ k : Nat, 1 ≤ k ∧ k ≤ I ∧ y = .int .u8 k) (fun y => 255 - (intOf y).toNat)
    case atStart => exact ⟨1, by omega, by omega, rfl⟩
    case round =>
      obtain ⟨k, hk0, hk1, rfl⟩ := hrel
      by_cases hlt : k < 255
      · go_wp2_with (go_at_call 59; refine (refMul_any a _ h0 h1 (by omega) (by omega) _).mono ?_; rintro e w' ⟨rfl, rfl⟩)
        · have hne := look_no (k := k) HX.out (by assumption)
          rw [HI.out] at hne
          go_round
          case rel => exact ⟨k + 1, by omega, by omega, by go_num⟩
          case measure => simp [intOf]; omega
        · have heq := look_yes (k := k) HX.out (by omega) (by assumption)
          go_ret2
          exact ⟨congrArg (fun t => Ending.returned (.tuple #[.int .u8 t, .int .i64 0])) heq, rfl⟩
      · have heq : (k : Int) = V (iv (B a)) := by have := HI.out; unfold V; omega
        go_wp2
        go_ret2
        exact ⟨rfl, rfl⟩

end Go.Proofs.Ytohbijjkkadbaaa.Fld
