/- Numbers as the walk spells them, and registers. No dump is imported. -/
import Derived.Test.YtmhnfloikgfgmaaCrcMath
import Derived.WalkKit
namespace Go.Proofs.Ytmhnfloikgfgmaa.Crc
open Go.RowKit

/-- a register as a number -/
def V (r : BitVec 32) : Int := (r.toNat : Int)
/-- a number as a register -/
def B (a : Int) : BitVec 32 := BitVec.ofNat 32 a.toNat
/-- a byte as a number, and back -/
def V8 (b : BitVec 8) : Int := (b.toNat : Int)
def B8 (a : Int) : BitVec 8 := BitVec.ofNat 8 a.toNat
/-- a bit of a number -/
def one (x : Int) : Bool := x == 1

theorem V_lo (r : BitVec 32) : 0 ≤ V r := by unfold V; omega
theorem V_hi (r : BitVec 32) : V r < 4294967296 := by have := r.isLt; unfold V; omega
theorem V8_lo (r : BitVec 8) : 0 ≤ V8 r := by unfold V8; omega
theorem V8_hi (r : BitVec 8) : V8 r < 256 := by have := r.isLt; unfold V8; omega
theorem B_V (r : BitVec 32) : B (V r) = r := by unfold B V; simp
theorem V_B (a : Int) (h0 : 0 ≤ a) (h1 : a < 4294967296) : V (B a) = a := by
  unfold B V; rw [BitVec.toNat_ofNat, Nat.mod_eq_of_lt (by omega)]; omega
theorem B8_V8 (r : BitVec 8) : B8 (V8 r) = r := by unfold B8 V8; simp
theorem V8_B8 (a : Int) (h0 : 0 ≤ a) (h1 : a < 256) : V8 (B8 a) = a := by
  unfold B8 V8; rw [BitVec.toNat_ofNat, Nat.mod_eq_of_lt (by omega)]; omega
theorem V_inj {a b : BitVec 32} (h : V a = V b) : a = b := by rw [← B_V a, h, B_V]

theorem xor_V (a b : BitVec 32) : bits .xor .u32 (V a) (V b) = V (a ^^^ b) := by
  unfold V; rw [u32_xor_nat _ _ a.isLt b.isLt, BitVec.toNat_xor]
theorem xor_V8 (a b : BitVec 8) : bits .xor .u8 (V8 a) (V8 b) = V8 (a ^^^ b) := by
  unfold V8; rw [u8_xor_nat _ _ a.isLt b.isLt, BitVec.toNat_xor]

theorem shl_V (a : BitVec 32) (k : Nat) : V a * ((2 ^ k : Nat) : Int) % 4294967296 = V (a <<< k) := by
  unfold V; rw [BitVec.toNat_shiftLeft, Nat.shiftLeft_eq]; rw [show (2 ^ 32 : Nat) = 4294967296 from rfl]
  rw [Int.natCast_emod, Int.natCast_mul]; rfl

theorem shl1_V (a : BitVec 32) : V a * (2 : Int) % (4294967296 : Int) = V (a <<< (1 : Nat)) := by
  have h := shl_V a 1
  simpa using h
theorem shl8_V (a : BitVec 32) : V a * (256 : Int) % (4294967296 : Int) = V (a <<< (8 : Nat)) := by
  have h := shl_V a 8
  simpa using h

theorem shr_V (a : BitVec 32) (k : Nat) : V a / ((2 ^ k : Nat) : Int) = V (a >>> k) := by
  unfold V; rw [BitVec.toNat_ushiftRight, Nat.shiftRight_eq_div_pow, Int.natCast_ediv]

theorem top_V (a : BitVec 32) : V a / 16777216 = V8 (top a) := by
  unfold V V8 top
  have := a.isLt
  rw [BitVec.toNat_setWidth, BitVec.toNat_ushiftRight, Nat.shiftRight_eq_div_pow]
  omega

theorem msb_V (a : BitVec 32) : V a / 2147483648 = if a.msb then 1 else 0 := by
  have h := a.isLt
  unfold V
  rw [BitVec.msb_eq_decide]
  by_cases hc : 2 ^ (32 - 1) ≤ a.toNat <;> simp [hc] <;> omega

theorem sb_num (a x : Int) (h0 : 0 ≤ a) (h1 : a < 4294967296) (h2 : 0 ≤ x) (h3 : x ≤ 1) :
    bits .xor .u32 (a * 2 % 4294967296) (bits .xor .u32 (a / 2147483648) x * 79764919 % 4294967296) = V (sb (B a) (one x)) := by
  have ha : a = V (B a) := (V_B a h0 h1).symm
  rw [ha, B_V, msb_V, shl1_V]
  generalize B a = r
  have hx : x = 0 ∨ x = 1 := by omega
  unfold sb
  have e00 : bits .xor .u32 0 0 = 0 := by decide +kernel
  have e01 : bits .xor .u32 0 1 = 1 := by decide +kernel
  have e10 : bits .xor .u32 1 0 = 1 := by decide +kernel
  have e11 : bits .xor .u32 1 1 = 0 := by decide +kernel
  have z : (0 : Int) * 79764919 % 4294967296 = V 0#32 := by decide +kernel
  have o : (1 : Int) * 79764919 % 4294967296 = V 0x04c11db7#32 := by decide +kernel
  rcases hx with rfl | rfl <;> cases r.msb <;> simp only [if_true, if_false, Bool.false_eq_true, e00, e01, e10, e11, one] <;> first | rw [z, xor_V] | rw [o, xor_V]
  all_goals rfl

/-- the bit number k of a byte, the highest one first, as the walk spells it -/
theorem bit_num (b : Int) (k : Nat) (h0 : 0 ≤ b) (h1 : b < 256) (hk : k < 8) :
    bits .and .u8 (b / 2 ^ (7 - k)) 1 % 4294967296 = if (B8 b).getLsbD (7 - k) then 1 else 0 := by
  have hb : b = V8 (B8 b) := (V8_B8 b h0 h1).symm
  have e : ∀ c : Fin 8, ∀ x : BitVec 8, bits .and .u8 (V8 x / 2 ^ (7 - c.val)) 1 % 4294967296 = if x.getLsbD (7 - c.val) then 1 else 0 := by
    decide +kernel
  have := e ⟨k, hk⟩ (B8 b)
  rw [← hb] at this
  exact this

theorem bit_lo (b : Int) (k : Nat) (h0 : 0 ≤ b) (h1 : b < 256) (hk : k < 8) : 0 ≤ bits .and .u8 (b / 2 ^ (7 - k)) 1 % 4294967296 := by
  rw [bit_num b k h0 h1 hk]; split <;> omega
theorem bit_hi (b : Int) (k : Nat) (h0 : 0 ≤ b) (h1 : b < 256) (hk : k < 8) : bits .and .u8 (b / 2 ^ (7 - k)) 1 % 4294967296 ≤ 1 := by
  rw [bit_num b k h0 h1 hk]; split <;> omega
theorem bit_one (b : Int) (k : Nat) (h0 : 0 ≤ b) (h1 : b < 256) (hk : k < 8) : one (bits .and .u8 (b / 2 ^ (7 - k)) 1 % 4294967296) = (B8 b).getLsbD (7 - k) := by
  rw [bit_num b k h0 h1 hk]; unfold one; cases (B8 b).getLsbD (7 - k) <;> rfl

theorem bits8_take (x : BitVec 8) (k : Nat) (hk : k < 8) : (bits8 x).take (k + 1) = (bits8 x).take k ++ [x.getLsbD (7 - k)] := by
  unfold bits8
  match k, hk with
  | 0, _ | 1, _ | 2, _ | 3, _ | 4, _ | 5, _ | 6, _ | 7, _ => rfl

theorem step_round (r : BitVec 32) (b : Int) (k : Nat) (h0 : 0 ≤ b) (h1 : b < 256) (hk : k < 8) :
    V (sb (B (V (stL r ((bits8 (B8 b)).take k)))) (one (bits .and .u8 (b / 2 ^ (7 - k)) 1 % 4294967296))) = V (stL r ((bits8 (B8 b)).take (k + 1))) := by
  rw [B_V, bit_one b k h0 h1 hk, bits8_take _ k hk, stL_append]; rfl
theorem step_end (r : BitVec 32) (b : BitVec 8) : stL r ((bits8 b).take 8) = st r b := rfl


/-! ### the document's own step -/
theorem msb_V8 (x : BitVec 8) : V8 x / 128 = if x.msb then 1 else 0 := by
  have h := x.isLt
  unfold V8
  rw [BitVec.msb_eq_decide]
  by_cases hc : 2 ^ (8 - 1) ≤ x.toNat <;> simp [hc] <;> omega
theorem msb_shl8 (x : BitVec 8) (k : Nat) (hk : k < 8) : (x <<< k).msb = x.getLsbD (7 - k) := by
  rw [BitVec.msb_eq_getLsbD_last, BitVec.getLsbD_shiftLeft]
  simp [show 7 < 8 by omega, show ¬ 7 < k by omega]
theorem rem_V (r : BitVec 32) : V r % 2147483648 * 2 = V (r <<< (1 : Nat)) := by
  rw [← shl1_V]; have := V_lo r; have := V_hi r; omega
theorem shl1_V8 (x : BitVec 8) : V8 x % 128 * 2 = V8 (x <<< (1 : Nat)) := by
  unfold V8; rw [BitVec.toNat_shiftLeft, Nat.shiftLeft_eq]; omega
theorem test_bits (r : BitVec 32) (x : BitVec 8) : (bits .xor .u32 (V r / 2147483648) (V8 x / 128) == 1) = (r.msb ^^ x.msb) := by
  rw [msb_V, msb_V8]
  cases r.msb <;> cases x.msb <;> decide +kernel

theorem ref_yes {r : BitVec 32} {bb : BitVec 8} {k : Nat} {R X : Int} (hR : V (stL r ((bits8 bb).take k)) = R) (hX : V8 (bb <<< k) = X) (hk : k < 8)
    (h : (bits .xor .u32 (R / 2147483648) (X / 128) == 1) = true) : bits .xor .u32 (R % 2147483648 * 2) 79764919 = V (stL r ((bits8 bb).take (k + 1))) := by
  subst hR hX
  rw [test_bits, msb_shl8 _ k hk] at h
  rw [bits8_take _ k hk, stL_append, rem_V, show (79764919 : Int) = V 0x04c11db7#32 from by decide +kernel, xor_V]
  show _ = V (sb _ _)
  unfold sb
  rw [h]; rfl
theorem ref_no {r : BitVec 32} {bb : BitVec 8} {k : Nat} {R X : Int} (hR : V (stL r ((bits8 bb).take k)) = R) (hX : V8 (bb <<< k) = X) (hk : k < 8)
    (h : (bits .xor .u32 (R / 2147483648) (X / 128) == 1) = false) : R % 2147483648 * 2 = V (stL r ((bits8 bb).take (k + 1))) := by
  subst hR hX
  rw [test_bits, msb_shl8 _ k hk] at h
  rw [bits8_take _ k hk, stL_append, rem_V]
  show _ = V (sb _ _)
  unfold sb
  rw [h]; simp
theorem ref_byte {bb : BitVec 8} {k : Nat} {X : Int} (hX : V8 (bb <<< k) = X) : X % 128 * 2 = V8 (bb <<< (k + 1)) := by
  subst hX; rw [shl1_V8, BitVec.shiftLeft_add]

end Go.Proofs.Ytmhnfloikgfgmaa.Crc
