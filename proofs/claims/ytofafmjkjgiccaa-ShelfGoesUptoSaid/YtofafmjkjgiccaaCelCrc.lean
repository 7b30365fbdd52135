/- XCrcMath XCrcInt XCrcTab, as far as this dump goes. -/
import Derived.WalkKit
/- Plain facts on registers of 32 bits that are stepped bit by bit (CRC-32 of 04C11DB7, highest bit first). No dump is imported. -/
namespace Go.Proofs.Ytofafmjkjgiccaa.Crc

/-- a register, stepped by a bit -/
def sb (r : BitVec 32) (x : Bool) : BitVec 32 := (r <<< 1) ^^^ (if (r.msb ^^ x) then 0x04c11db7#32 else 0#32)

/-- a register, stepped by the bits of a list -/
def stL (r : BitVec 32) (l : List Bool) : BitVec 32 := l.foldl sb r

/-- the eight bits of a byte, the highest one first -/
def bits8 (b : BitVec 8) : List Bool := [b.getLsbD 7, b.getLsbD 6, b.getLsbD 5, b.getLsbD 4, b.getLsbD 3, b.getLsbD 2, b.getLsbD 1, b.getLsbD 0]

/-- a register, stepped by a byte -/
def st (r : BitVec 32) (b : BitVec 8) : BitVec 32 := stL r (bits8 b)

theorem stL_nil (r : BitVec 32) : stL r [] = r := rfl
theorem stL_cons (r : BitVec 32) (x : Bool) (l : List Bool) : stL r (x :: l) = stL (sb r x) l := rfl
theorem stL_append (r : BitVec 32) (l m : List Bool) : stL r (l ++ m) = stL (stL r l) m := by simp [stL, List.foldl_append]

theorem sb_xor (a b : BitVec 32) (x y : Bool) : sb (a ^^^ b) (x ^^ y) = sb a x ^^^ sb b y := by
  unfold sb
  rw [BitVec.shiftLeft_xor_distrib, BitVec.msb_xor]
  have e : ∀ p t : BitVec 32, t = p ^^^ (p ^^^ t) := fun p t => by rw [← BitVec.xor_assoc, BitVec.xor_self, BitVec.zero_xor]
  cases a.msb <;> cases b.msb <;> cases x <;> cases y <;> simp <;> first | ac_rfl | (rw [e 79764919#32 (a <<< 1 ^^^ b <<< 1)]; ac_rfl)

/-- xor of two lists, bit by bit -/
def xl (l m : List Bool) : List Bool := List.zipWith Bool.xor l m

theorem stL_xor : ∀ (l m : List Bool) (a b : BitVec 32), l.length = m.length → stL (a ^^^ b) (xl l m) = stL a l ^^^ stL b m
  | [], [], _, _, _ => rfl
  | x :: l, y :: m, a, b, h => by
    have ih := stL_xor l m (sb a x) (sb b y) (by simpa using h)
    have e : xl (x :: l) (y :: m) = (x ^^ y) :: xl l m := rfl
    rw [e, stL_cons, stL_cons, stL_cons, sb_xor, ih]
  | [], _ :: _, _, _, h => by simp at h
  | _ :: _, [], _, _, h => by simp at h

theorem sb_zero : sb 0#32 false = 0#32 := by decide

theorem stL_zeros : ∀ n, stL 0#32 (List.replicate n false) = 0#32
  | 0 => rfl
  | n + 1 => by rw [List.replicate_succ, stL_cons, sb_zero, stL_zeros n]

theorem bit0_shl (r : BitVec 32) : (r <<< 1).getLsbD 0 = false := by simp

/-- no two registers, or bits, meet -/
theorem sb_inj0 (r : BitVec 32) (x : Bool) (h : sb r x = 0#32) (hx : x = false) : r = 0#32 := by
  subst hx
  unfold sb at h
  have h0 : ((r <<< 1) ^^^ (if (r.msb ^^ false) then 0x04c11db7#32 else 0#32)).getLsbD 0 = false := by rw [h]; rfl
  cases hm : r.msb
  · rw [hm] at h
    simp at h
    apply BitVec.eq_of_getLsbD_eq
    intro i hi
    rcases Nat.lt_or_ge i 31 with h1 | h1
    · have h2 : (r <<< 1).getLsbD (i + 1) = false := by rw [h]; simp
      rw [BitVec.getLsbD_shiftLeft] at h2
      simp [show i + 1 < 32 by omega] at h2
      simp [h2]
    · have : i = 31 := by omega
      subst this
      have h3 : r.msb = r.getLsbD 31 := by simp [BitVec.msb_eq_getLsbD_last]
      rw [← h3, hm]; simp
  · rw [hm] at h0
    simp at h0

theorem stL_zeros_inj : ∀ (n : Nat) (r : BitVec 32), stL r (List.replicate n false) = 0#32 → r = 0#32
  | 0, _, h => h
  | n + 1, r, h => by
    rw [List.replicate_succ, stL_cons] at h
    exact sb_inj0 r false (stL_zeros_inj n _ h) rfl


/-! ### bytes -/

theorem bits8_xor (x y : BitVec 8) : bits8 (x ^^^ y) = xl (bits8 x) (bits8 y) := by
  simp [bits8, xl]

theorem bits8_length (x : BitVec 8) : (bits8 x).length = 8 := rfl

theorem st_xor (a b : BitVec 32) (x y : BitVec 8) : st (a ^^^ b) (x ^^^ y) = st a x ^^^ st b y := by
  unfold st; rw [bits8_xor, stL_xor _ _ _ _ (by rfl)]

/-- the eight highest bits -/
def top (r : BitVec 32) : BitVec 8 := (r >>> 24).setWidth 8

theorem msb_shl (r : BitVec 32) (k : Nat) (hk : k < 32) : (r <<< k).msb = r.getLsbD (31 - k) := by
  rw [BitVec.msb_eq_getLsbD_last, BitVec.getLsbD_shiftLeft]
  simp [show 31 < 32 by omega, show ¬ 31 < k by omega]

theorem sb_self (r : BitVec 32) (k : Nat) (hk : k < 32) : sb (r <<< k) (r.getLsbD (31 - k)) = r <<< (k + 1) := by
  unfold sb
  rw [msb_shl r k hk, BitVec.shiftLeft_add]
  simp

theorem bits8_top (r : BitVec 32) : bits8 (top r) = [r.getLsbD 31, r.getLsbD 30, r.getLsbD 29, r.getLsbD 28, r.getLsbD 27, r.getLsbD 26, r.getLsbD 25, r.getLsbD 24] := by
  simp [bits8, top]

theorem st_self (r : BitVec 32) : st r (top r) = r <<< 8 := by
  unfold st
  rw [bits8_top]
  have h0 := sb_self r 0 (by omega)
  rw [BitVec.shiftLeft_zero] at h0
  rw [stL_cons, h0, stL_cons, sb_self r 1 (by omega), stL_cons, sb_self r 2 (by omega), stL_cons, sb_self r 3 (by omega), stL_cons, sb_self r 4 (by omega), stL_cons, sb_self r 5 (by omega), stL_cons, sb_self r 6 (by omega), stL_cons, sb_self r 7 (by omega)]
  rfl

/-- the byte step by a table -/
theorem st_table (r : BitVec 32) (b : BitVec 8) : st r b = (r <<< 8) ^^^ st 0#32 (top r ^^^ b) := by
  have h := st_xor r 0#32 (top r) (top r ^^^ b)
  rw [st_self, BitVec.xor_zero, ← BitVec.xor_assoc, BitVec.xor_self, BitVec.zero_xor] at h
  exact h

theorem bits8_zero : bits8 0#8 = List.replicate 8 false := by decide

theorem st_inj_reg (a b : BitVec 32) (x : BitVec 8) : st a x = st b x ↔ a = b := by
  constructor
  · intro h
    have h2 := st_xor a b x x
    rw [h, BitVec.xor_self, BitVec.xor_self] at h2
    have h3 : a ^^^ b = 0#32 := by
      apply stL_zeros_inj 8
      rw [← bits8_zero]; exact h2
    exact BitVec.xor_eq_zero_iff.mp h3
  · intro h; rw [h]

theorem st_zero_byte (c : BitVec 8) : top ((c.setWidth 32) <<< 24) = c := by
  apply BitVec.eq_of_getLsbD_eq
  intro i hi
  simp [top, BitVec.getLsbD_setWidth, BitVec.getLsbD_ushiftRight, BitVec.getLsbD_shiftLeft, hi]
  simp [show 24 + i < 32 by omega, show i < 32 by omega]

theorem shl32 (r : BitVec 32) (k : Nat) (hk : 32 ≤ k) : r <<< k = 0#32 := by
  apply BitVec.eq_of_getLsbD_eq
  intro i hi
  simp [BitVec.getLsbD_shiftLeft]
  omega

theorem st_inj_byte (a : BitVec 32) (x y : BitVec 8) : st a x = st a y ↔ x = y := by
  constructor
  · intro h
    have h2 := st_xor a a x y
    rw [h, BitVec.xor_self, BitVec.xor_self] at h2
    -- the register c · 2^24, stepped by the byte c and by 0
    have h3 := st_self (((x ^^^ y).setWidth 32) <<< 24)
    rw [st_zero_byte, ← BitVec.shiftLeft_add, shl32 _ (24 + 8) (by omega)] at h3
    have h4 := st_xor (((x ^^^ y).setWidth 32) <<< 24) 0#32 (x ^^^ y) (x ^^^ y)
    rw [h3, h2, BitVec.xor_zero, BitVec.xor_self, BitVec.xor_self] at h4
    have h5 : ((x ^^^ y).setWidth 32) <<< 24 = 0#32 := by
      apply stL_zeros_inj 8
      rw [← bits8_zero]; exact h4
    have h6 := st_zero_byte (x ^^^ y)
    rw [h5] at h6
    exact BitVec.xor_eq_zero_iff.mp h6.symm
  · intro h; rw [h]

/-- a register, stepped by bytes -/
def rg (r : BitVec 32) (l : List UInt8) : BitVec 32 := l.foldl (fun r b => st r b.toBitVec) r

theorem rg_nil (r : BitVec 32) : rg r [] = r := rfl
theorem rg_cons (r : BitVec 32) (b : UInt8) (l : List UInt8) : rg r (b :: l) = rg (st r b.toBitVec) l := rfl
theorem rg_append (r : BitVec 32) (l m : List UInt8) : rg r (l ++ m) = rg (rg r l) m := by simp [rg, List.foldl_append]

/-- the bits of bytes -/
def bitsL (l : List UInt8) : List Bool := l.flatMap fun b => bits8 b.toBitVec

theorem bitsL_nil : bitsL [] = [] := rfl
theorem bitsL_cons (b : UInt8) (l : List UInt8) : bitsL (b :: l) = bits8 b.toBitVec ++ bitsL l := rfl
theorem bitsL_append (l m : List UInt8) : bitsL (l ++ m) = bitsL l ++ bitsL m := by simp [bitsL]
theorem bitsL_length : ∀ l : List UInt8, (bitsL l).length = 8 * l.length
  | [] => rfl
  | b :: l => by rw [bitsL_cons, List.length_append, bits8_length, bitsL_length l, List.length_cons]; omega

theorem rg_bits : ∀ (l : List UInt8) (r : BitVec 32), rg r l = stL r (bitsL l)
  | [], _ => rfl
  | b :: l, r => by rw [rg_cons, rg_bits l, bitsL_cons, stL_append]; rfl

/-- a text's sum -/
def sumL (l : List UInt8) : BitVec 32 := rg 0xffffffff#32 l ^^^ 0xffffffff#32

/-- a sum's four bytes, the highest one first -/
def laidL (v : BitVec 32) : List UInt8 := [UInt8.ofBitVec (top v), UInt8.ofBitVec (top (v <<< 8)), UInt8.ofBitVec (top (v <<< 16)), UInt8.ofBitVec (top (v <<< 24))]

theorem top_xor (a b : BitVec 32) : top (a ^^^ b) = top a ^^^ top b := by
  simp [top, BitVec.ushiftRight_xor_distrib, BitVec.setWidth_xor]

theorem rg_laid (r v : BitVec 32) : rg r (laidL v) = st (st (st (st r (top v)) (top (v <<< 8))) (top (v <<< 16))) (top (v <<< 24)) := rfl

theorem rg_laid_xor (a b v u : BitVec 32) : rg (a ^^^ b) (laidL (v ^^^ u)) = rg a (laidL v) ^^^ rg b (laidL u) := by
  simp only [rg_laid, BitVec.shiftLeft_xor_distrib, top_xor, st_xor]

theorem rg_laid_self (r : BitVec 32) : rg r (laidL r) = 0#32 := by
  rw [rg_laid, st_self, st_self, ← BitVec.shiftLeft_add, st_self, ← BitVec.shiftLeft_add, st_self, ← BitVec.shiftLeft_add, shl32 _ _ (by omega)]

/-- what every sealed text's register is -/
theorem rg_seal (l : List UInt8) : rg 0xffffffff#32 (l ++ laidL (sumL l)) = 3338984827#32 := by
  rw [rg_append]
  unfold sumL
  have h := rg_laid_xor (rg 0xffffffff#32 l) 0#32 (rg 0xffffffff#32 l) 0xffffffff#32
  rw [BitVec.xor_zero, rg_laid_self, BitVec.zero_xor] at h
  rw [h]
  decide +kernel

/-- what a sealed text opens to: bytes, and the number of an error -/
def openL (l : List UInt8) : List UInt8 × Int :=
  if l.length < 4 then ([], 2)
  else if l.drop (l.length - 4) = laidL (sumL (l.take (l.length - 4))) then (l.take (l.length - 4), 0) else ([], 13)

theorem openL_short (l : List UInt8) (h : l.length < 4) : openL l = ([], 2) := if_pos h
theorem openL_sum (l : List UInt8) (h : ¬ l.length < 4) (h2 : l.drop (l.length - 4) ≠ laidL (sumL (l.take (l.length - 4)))) : openL l = ([], 13) := by
  unfold openL; rw [if_neg h, if_neg h2]
theorem openL_ok (l : List UInt8) (h : ¬ l.length < 4) (h2 : l.drop (l.length - 4) = laidL (sumL (l.take (l.length - 4)))) : openL l = (l.take (l.length - 4), 0) := by
  unfold openL; rw [if_neg h, if_pos h2]

theorem laidL_length (v : BitVec 32) : (laidL v).length = 4 := rfl

theorem openL_seal (l : List UInt8) : openL (l ++ laidL (sumL l)) = (l, 0) := by
  have hl : (l ++ laidL (sumL l)).length - 4 = l.length := by rw [List.length_append, laidL_length]; omega
  have ht : (l ++ laidL (sumL l)).take l.length = l := List.take_left
  have hd : (l ++ laidL (sumL l)).drop l.length = laidL (sumL l) := List.drop_left
  rw [openL_ok]
  · rw [hl, ht]
  · rw [List.length_append, laidL_length]; omega
  · rw [hl, ht, hd]

/-- what opens is sealed -/
theorem openL_of_reg (l : List UInt8) (h : ¬ l.length < 4) (hr : rg 0xffffffff#32 l ≠ 3338984827#32) : openL l = ([], 13) := by
  apply openL_sum _ h
  intro h2
  apply hr
  have e : l = l.take (l.length - 4) ++ laidL (sumL (l.take (l.length - 4))) := by
    conv => lhs; rw [← List.take_append_drop (l.length - 4) l, h2]
  rw [e]
  exact rg_seal _

/-! ### bursts -/

/-- the 32 bits of a number, the highest one first -/
def bits32 (v : BitVec 32) : List Bool := bits8 (top v) ++ bits8 (top (v <<< 8)) ++ bits8 (top (v <<< 16)) ++ bits8 (top (v <<< 24))

theorem bits32_laid (v : BitVec 32) : bits32 v = bitsL (laidL v) := by
  simp [bits32, bitsL, laidL]

theorem stL_bits32 (v : BitVec 32) : stL 0#32 (bits32 v) = stL v (List.replicate 32 false) := by
  have h := rg_laid_xor v v 0#32 v
  rw [BitVec.xor_self, rg_laid_self, BitVec.xor_zero, BitVec.zero_xor] at h
  rw [bits32_laid, ← rg_bits, h, rg_bits]
  congr 1

theorem xl_zeros : ∀ l : List Bool, xl (List.replicate l.length false) l = l
  | [] => rfl
  | x :: l => by
    have : xl (List.replicate (x :: l).length false) (x :: l) = (false ^^ x) :: xl (List.replicate l.length false) l := rfl
    rw [this, xl_zeros l]; simp

theorem burst_told (l m : List UInt8) (at_ : Nat) (v : BitVec 32) (hv : v ≠ 0#32) (hlen : m.length = l.length) (hat : at_ + 32 ≤ 8 * l.length)
    (hm : bitsL m = xl (bitsL l) (List.replicate at_ false ++ bits32 v ++ List.replicate (8 * l.length - 32 - at_) false))
    (hl : rg 0xffffffff#32 l = 3338984827#32) : openL m = ([], 13) := by
  apply openL_of_reg
  · omega
  · intro h
    have hx := stL_xor (bitsL l) (List.replicate at_ false ++ bits32 v ++ List.replicate (8 * l.length - 32 - at_) false) 0xffffffff#32 0#32
      (by rw [bitsL_length, List.length_append, List.length_append, List.length_replicate, List.length_replicate, bits32_laid, bitsL_length, laidL_length]; omega)
    rw [BitVec.xor_zero, ← hm, ← rg_bits, ← rg_bits, h, hl] at hx
    have h0 : stL 0#32 (List.replicate at_ false ++ bits32 v ++ List.replicate (8 * l.length - 32 - at_) false) = 0#32 := by
      have h1 := congrArg (fun t => 3338984827#32 ^^^ t) hx
      simp only [← BitVec.xor_assoc, BitVec.xor_self, BitVec.zero_xor] at h1
      exact h1.symm
    rw [stL_append, stL_append, stL_zeros] at h0
    have h2 := stL_zeros_inj _ _ h0
    rw [stL_bits32] at h2
    exact hv (stL_zeros_inj _ _ h2)

end Go.Proofs.Ytofafmjkjgiccaa.Crc


/- Numbers as the walk spells them, and registers. No dump is imported. -/
namespace Go.Proofs.Ytofafmjkjgiccaa.Crc
open Go.RowKit

/-- a register as a number -/
def V (r : BitVec 32) : Int := (r.toNat : Int)
/-- a number as a register -/
def B (a : Int) : BitVec 32 := BitVec.ofNat 32 a.toNat
/-- a byte as a number, and back -/
def V8 (b : BitVec 8) : Int := (b.toNat : Int)
def B8 (a : Int) : BitVec 8 := BitVec.ofNat 8 a.toNat
/-- a bit of a number -/
def one (x : Int) : Bool := x == 1

theorem V_lo (r : BitVec 32) : 0 ≤ V r := by unfold V; omega
theorem V_hi (r : BitVec 32) : V r < 4294967296 := by have := r.isLt; unfold V; omega
theorem V8_lo (r : BitVec 8) : 0 ≤ V8 r := by unfold V8; omega
theorem V8_hi (r : BitVec 8) : V8 r < 256 := by have := r.isLt; unfold V8; omega
theorem B_V (r : BitVec 32) : B (V r) = r := by unfold B V; simp
theorem V_B (a : Int) (h0 : 0 ≤ a) (h1 : a < 4294967296) : V (B a) = a := by
  unfold B V; rw [BitVec.toNat_ofNat, Nat.mod_eq_of_lt (by omega)]; omega
theorem B8_V8 (r : BitVec 8) : B8 (V8 r) = r := by unfold B8 V8; simp
theorem V8_B8 (a : Int) (h0 : 0 ≤ a) (h1 : a < 256) : V8 (B8 a) = a := by
  unfold B8 V8; rw [BitVec.toNat_ofNat, Nat.mod_eq_of_lt (by omega)]; omega
theorem V_inj {a b : BitVec 32} (h : V a = V b) : a = b := by rw [← B_V a, h, B_V]

theorem xor_V (a b : BitVec 32) : bits .xor .u32 (V a) (V b) = V (a ^^^ b) := by
  unfold V; rw [u32_xor_nat _ _ a.isLt b.isLt, BitVec.toNat_xor]
theorem xor_V8 (a b : BitVec 8) : bits .xor .u8 (V8 a) (V8 b) = V8 (a ^^^ b) := by
  unfold V8; rw [u8_xor_nat _ _ a.isLt b.isLt, BitVec.toNat_xor]

theorem shl_V (a : BitVec 32) (k : Nat) : V a * ((2 ^ k : Nat) : Int) % 4294967296 = V (a <<< k) := by
  unfold V; rw [BitVec.toNat_shiftLeft, Nat.shiftLeft_eq]; rw [show (2 ^ 32 : Nat) = 4294967296 from rfl]
  rw [Int.natCast_emod, Int.natCast_mul]; rfl

theorem shl1_V (a : BitVec 32) : V a * (2 : Int) % (4294967296 : Int) = V (a <<< (1 : Nat)) := by
  have h := shl_V a 1
  simpa using h
theorem shl8_V (a : BitVec 32) : V a * (256 : Int) % (4294967296 : Int) = V (a <<< (8 : Nat)) := by
  have h := shl_V a 8
  simpa using h

theorem shr_V (a : BitVec 32) (k : Nat) : V a / ((2 ^ k : Nat) : Int) = V (a >>> k) := by
  unfold V; rw [BitVec.toNat_ushiftRight, Nat.shiftRight_eq_div_pow, Int.natCast_ediv]

theorem top_V (a : BitVec 32) : V a / 16777216 = V8 (top a) := by
  unfold V V8 top
  have := a.isLt
  rw [BitVec.toNat_setWidth, BitVec.toNat_ushiftRight, Nat.shiftRight_eq_div_pow]
  omega

theorem msb_V (a : BitVec 32) : V a / 2147483648 = if a.msb then 1 else 0 := by
  have h := a.isLt
  unfold V
  rw [BitVec.msb_eq_decide]
  by_cases hc : 2 ^ (32 - 1) ≤ a.toNat <;> simp [hc] <;> omega

theorem sb_num (a x : Int) (h0 : 0 ≤ a) (h1 : a < 4294967296) (h2 : 0 ≤ x) (h3 : x ≤ 1) :
    bits .xor .u32 (a * 2 % 4294967296) (bits .xor .u32 (a / 2147483648) x * 79764919 % 4294967296) = V (sb (B a) (one x)) := by
  have ha : a = V (B a) := (V_B a h0 h1).symm
  rw [ha, B_V, msb_V, shl1_V]
  generalize B a = r
  have hx : x = 0 ∨ x = 1 := by omega
  unfold sb
  have e00 : bits .xor .u32 0 0 = 0 := by decide +kernel
  have e01 : bits .xor .u32 0 1 = 1 := by decide +kernel
  have e10 : bits .xor .u32 1 0 = 1 := by decide +kernel
  have e11 : bits .xor .u32 1 1 = 0 := by decide +kernel
  have z : (0 : Int) * 79764919 % 4294967296 = V 0#32 := by decide +kernel
  have o : (1 : Int) * 79764919 % 4294967296 = V 0x04c11db7#32 := by decide +kernel
  rcases hx with rfl | rfl <;> cases r.msb <;> simp only [if_true, if_false, Bool.false_eq_true, e00, e01, e10, e11, one] <;> first | rw [z, xor_V] | rw [o, xor_V]
  all_goals rfl

/-- the bit number k of a byte, the highest one first, as the walk spells it -/
theorem bit_num (b : Int) (k : Nat) (h0 : 0 ≤ b) (h1 : b < 256) (hk : k < 8) :
    bits .and .u8 (b / 2 ^ (7 - k)) 1 % 4294967296 = if (B8 b).getLsbD (7 - k) then 1 else 0 := by
  have hb : b = V8 (B8 b) := (V8_B8 b h0 h1).symm
  have e : ∀ c : Fin 8, ∀ x : BitVec 8, bits .and .u8 (V8 x / 2 ^ (7 - c.val)) 1 % 4294967296 = if x.getLsbD (7 - c.val) then 1 else 0 := by
    decide +kernel
  have := e ⟨k, hk⟩ (B8 b)
  rw [← hb] at this
  exact this

theorem bit_lo (b : Int) (k : Nat) (h0 : 0 ≤ b) (h1 : b < 256) (hk : k < 8) : 0 ≤ bits .and .u8 (b / 2 ^ (7 - k)) 1 % 4294967296 := by
  rw [bit_num b k h0 h1 hk]; split <;> omega
theorem bit_hi (b : Int) (k : Nat) (h0 : 0 ≤ b) (h1 : b < 256) (hk : k < 8) : bits .and .u8 (b / 2 ^ (7 - k)) 1 % 4294967296 ≤ 1 := by
  rw [bit_num b k h0 h1 hk]; split <;> omega
theorem bit_one (b : Int) (k : Nat) (h0 : 0 ≤ b) (h1 : b < 256) (hk : k < 8) : one (bits .and .u8 (b / 2 ^ (7 - k)) 1 % 4294967296) = (B8 b).getLsbD (7 - k) := by
  rw [bit_num b k h0 h1 hk]; unfold one; cases (B8 b).getLsbD (7 - k) <;> rfl

theorem bits8_take (x : BitVec 8) (k : Nat) (hk : k < 8) : (bits8 x).take (k + 1) = (bits8 x).take k ++ [x.getLsbD (7 - k)] := by
  unfold bits8
  match k, hk with
  | 0, _ | 1, _ | 2, _ | 3, _ | 4, _ | 5, _ | 6, _ | 7, _ => rfl

theorem step_round (r : BitVec 32) (b : Int) (k : Nat) (h0 : 0 ≤ b) (h1 : b < 256) (hk : k < 8) :
    V (sb (B (V (stL r ((bits8 (B8 b)).take k)))) (one (bits .and .u8 (b / 2 ^ (7 - k)) 1 % 4294967296))) = V (stL r ((bits8 (B8 b)).take (k + 1))) := by
  rw [B_V, bit_one b k h0 h1 hk, bits8_take _ k hk, stL_append]; rfl
theorem step_end (r : BitVec 32) (b : BitVec 8) : stL r ((bits8 b).take 8) = st r b := rfl


/-! ### the document's own step -/
theorem msb_V8 (x : BitVec 8) : V8 x / 128 = if x.msb then 1 else 0 := by
  have h := x.isLt
  unfold V8
  rw [BitVec.msb_eq_decide]
  by_cases hc : 2 ^ (8 - 1) ≤ x.toNat <;> simp [hc] <;> omega
theorem msb_shl8 (x : BitVec 8) (k : Nat) (hk : k < 8) : (x <<< k).msb = x.getLsbD (7 - k) := by
  rw [BitVec.msb_eq_getLsbD_last, BitVec.getLsbD_shiftLeft]
  simp [show 7 < 8 by omega, show ¬ 7 < k by omega]
theorem rem_V (r : BitVec 32) : V r % 2147483648 * 2 = V (r <<< (1 : Nat)) := by
  rw [← shl1_V]; have := V_lo r; have := V_hi r; omega
theorem shl1_V8 (x : BitVec 8) : V8 x % 128 * 2 = V8 (x <<< (1 : Nat)) := by
  unfold V8; rw [BitVec.toNat_shiftLeft, Nat.shiftLeft_eq]; omega
theorem test_bits (r : BitVec 32) (x : BitVec 8) : (bits .xor .u32 (V r / 2147483648) (V8 x / 128) == 1) = (r.msb ^^ x.msb) := by
  rw [msb_V, msb_V8]
  cases r.msb <;> cases x.msb <;> decide +kernel

theorem ref_yes {r : BitVec 32} {bb : BitVec 8} {k : Nat} {R X : Int} (hR : V (stL r ((bits8 bb).take k)) = R) (hX : V8 (bb <<< k) = X) (hk : k < 8)
    (h : (bits .xor .u32 (R / 2147483648) (X / 128) == 1) = true) : bits .xor .u32 (R % 2147483648 * 2) 79764919 = V (stL r ((bits8 bb).take (k + 1))) := by
  subst hR hX
  rw [test_bits, msb_shl8 _ k hk] at h
  rw [bits8_take _ k hk, stL_append, rem_V, show (79764919 : Int) = V 0x04c11db7#32 from by decide +kernel, xor_V]
  show _ = V (sb _ _)
  unfold sb
  rw [h]; rfl
theorem ref_no {r : BitVec 32} {bb : BitVec 8} {k : Nat} {R X : Int} (hR : V (stL r ((bits8 bb).take k)) = R) (hX : V8 (bb <<< k) = X) (hk : k < 8)
    (h : (bits .xor .u32 (R / 2147483648) (X / 128) == 1) = false) : R % 2147483648 * 2 = V (stL r ((bits8 bb).take (k + 1))) := by
  subst hR hX
  rw [test_bits, msb_shl8 _ k hk] at h
  rw [bits8_take _ k hk, stL_append, rem_V]
  show _ = V (sb _ _)
  unfold sb
  rw [h]; simp
theorem ref_byte {bb : BitVec 8} {k : Nat} {X : Int} (hX : V8 (bb <<< k) = X) : X % 128 * 2 = V8 (bb <<< (k + 1)) := by
  subst hX; rw [shl1_V8, BitVec.shiftLeft_add]

end Go.Proofs.Ytofafmjkjgiccaa.Crc


/- The table as an array of values, and as the loop that makes it leaves it. -/
namespace Go.Proofs.Ytofafmjkjgiccaa.Crc
open Go.RowKit

/-- what the entry j is when k rounds are through -/
def ent (k j : Nat) : BitVec 32 := if j < 2 * k then st 0#32 (BitVec.ofNat 8 j) else 0#32
/-- the cells of the table when k rounds are through -/
def tabA (k : Nat) : Array Value := (Array.range 256).map fun j => .int .u32 (V (ent k j))
/-- the whole table -/
def tabW : Array Value := tabA 128
/-- nothing yet -/
def tabZ : Array Value := Array.replicate 256 (.int .u32 0)

theorem tabA_size (k : Nat) : (tabA k).size = 256 := by simp [tabA]
theorem tabA_get (k j : Nat) (h : j < 256) : (tabA k)[j]? = some (.int .u32 (V (ent k j))) := by
  simp [tabA, h]
theorem tabA_all (k : Nat) : (tabA k).all (·.oneCell') = true := by
  rw [Array.all_eq_true]
  intro i hi
  simp [tabA, Value.oneCell']
theorem tabZ_eq : tabZ = tabA 0 := by
  apply Array.ext_getElem?
  intro i
  by_cases h : i < 256
  · rw [tabA_get 0 i h]; simp [tabZ, ent, h, V]
  · rw [Array.getElem?_eq_none (by simp [tabZ]; omega), Array.getElem?_eq_none (by simp [tabA]; omega)]
theorem tabZ_size : tabZ.size = 256 := by simp [tabZ]
theorem tabW_get (c : BitVec 8) : tabW[c.toNat]? = some (.int .u32 (V (st 0#32 c))) := by
  have h := c.isLt
  unfold tabW
  rw [tabA_get _ _ h, ent, if_pos (by omega)]
  simp

theorem st0_half : ∀ h : Fin 128, sb (st 0#32 (BitVec.ofNat 8 h.val)) false = st 0#32 (BitVec.ofNat 8 (2 * h.val)) ∧ sb (st 0#32 (BitVec.ofNat 8 h.val)) false ^^^ 79764919#32 = st 0#32 (BitVec.ofNat 8 (2 * h.val + 1)) := by
  decide +kernel

theorem ent_at (k : Nat) (hk : k < 128) : ent k k = st 0#32 (BitVec.ofNat 8 k) := by
  unfold ent
  by_cases h : k < 2 * k
  · rw [if_pos h]
  · obtain rfl : k = 0 := by omega
    decide

theorem even_at (k : Nat) (hk : k < 128) : V (sb (B (V (ent k k))) (one 0)) = V (st 0#32 (BitVec.ofNat 8 (2 * k))) := by
  rw [B_V, ent_at k hk]; exact congrArg V (st0_half ⟨k, hk⟩).1
theorem odd_at (k : Nat) (hk : k < 128) : bits .xor .u32 (V (sb (B (V (ent k k))) (one 0))) 79764919 = V (st 0#32 (BitVec.ofNat 8 (2 * k + 1))) := by
  rw [show (79764919 : Int) = V 79764919#32 from by decide +kernel, xor_V, B_V, ent_at k hk]; exact congrArg V (st0_half ⟨k, hk⟩).2

theorem tabA_next0 (k : Nat) (hk : k < 128) :
    ((tabA k).setIfInBounds (2 * k) (.int .u32 (V (st 0#32 (BitVec.ofNat 8 (2 * k)))))).setIfInBounds (2 * k + 1) (.int .u32 (V (st 0#32 (BitVec.ofNat 8 (2 * k + 1))))) = tabA (k + 1) := by
  apply Array.ext_getElem?
  intro i
  rw [Array.getElem?_setIfInBounds, Array.getElem?_setIfInBounds]
  simp only [Array.size_setIfInBounds, tabA_size]
  by_cases h : i < 256
  · rw [tabA_get _ _ h, tabA_get _ _ h]
    by_cases h1 : 2 * k + 1 = i
    · subst h1
      simp [h, ent, show 2 * k + 1 < 2 * (k + 1) by omega]
    · by_cases h2 : 2 * k = i
      · subst h2
        simp [h, ent, show 2 * k < 2 * (k + 1) by omega]
      · rw [if_neg h1, if_neg h2]
        unfold ent
        by_cases h3 : i < 2 * k
        · rw [if_pos h3, if_pos (by omega)]
        · rw [if_neg h3, if_neg (by omega)]
  · rw [if_neg (by omega), if_neg (by omega), Array.getElem?_eq_none (by rw [tabA_size]; omega), Array.getElem?_eq_none (by rw [tabA_size]; omega)]


theorem tabA_next (k : Nat) (hk : k < 128) :
    ((tabA k).setIfInBounds (2 * k) (.int .u32 (V (sb (B (V (ent k k))) (one 0))))).setIfInBounds (2 * k + 1) (.int .u32 (bits .xor .u32 (V (sb (B (V (ent k k))) (one 0))) 79764919)) = tabA (k + 1) := by
  rw [odd_at k hk, even_at k hk, tabA_next0 k hk]

/-! ### the closure's numbers -/
theorem idx_num (a b : Int) (h0 : 0 ≤ a) (h1 : a < 4294967296) (h2 : 0 ≤ b) (h3 : b < 256) : bits .xor .u8 (a / 16777216) b = V8 (top (B a) ^^^ B8 b) := by
  conv => lhs; rw [← V_B a h0 h1, ← V8_B8 b h2 h3, top_V, xor_V8]
theorem out_num (a b : Int) (h0 : 0 ≤ a) (h1 : a < 4294967296) : bits .xor .u32 (a * 256 % 4294967296) (V (st 0#32 (top (B a) ^^^ B8 b))) = V (st (B a) (B8 b)) := by
  rw [st_table (B a) (B8 b)]
  conv => lhs; rw [← V_B a h0 h1]
  rw [shl8_V, xor_V, B_V]
theorem V8_toNat (c : BitVec 8) : (V8 c).toNat = c.toNat := by unfold V8; simp

end Go.Proofs.Ytofafmjkjgiccaa.Crc

