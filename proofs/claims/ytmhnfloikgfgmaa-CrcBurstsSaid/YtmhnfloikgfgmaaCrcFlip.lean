/- Bytes in which bits are turned round, one by one. -/
import Derived.Test.YtmhnfloikgfgmaaCrcInt
namespace Go.Proofs.Ytmhnfloikgfgmaa.Crc

/-- the bit p of a text, from the highest bit of each byte on -/
def bitAt (l : List UInt8) (p : Nat) : Bool := (l[p / 8]?.getD 0).toBitVec.getLsbD (7 - p % 8)

theorem bits8_at (x : BitVec 8) (k : Nat) (hk : k < 8) : (bits8 x)[k]? = some (x.getLsbD (7 - k)) := by
  unfold bits8
  match k, hk with
  | 0, _ | 1, _ | 2, _ | 3, _ | 4, _ | 5, _ | 6, _ | 7, _ => rfl

theorem bitsL_at : ∀ (l : List UInt8) (p : Nat), p < 8 * l.length → (bitsL l)[p]? = some (bitAt l p)
  | [], p, h => by simp at h
  | b :: l, p, h => by
    rw [bitsL_cons]
    by_cases h8 : p < 8
    · rw [List.getElem?_append_left (by rw [bits8_length]; exact h8), bits8_at _ _ h8]
      unfold bitAt
      rw [show p / 8 = 0 by omega, show p % 8 = p by omega]; rfl
    · rw [List.getElem?_append_right (by rw [bits8_length]; omega), bits8_length, bitsL_at l (p - 8) (by simp at h; omega)]
      unfold bitAt
      rw [show p / 8 = (p - 8) / 8 + 1 by omega, show (p - 8) % 8 = p % 8 by omega]
      simp

/-- one bit turned round -/
def flipAt (l : List UInt8) (p : Nat) : List UInt8 := l.set (p / 8) (UInt8.ofBitVec ((l[p / 8]?.getD 0).toBitVec ^^^ (0x80#8 >>> (p % 8))))

theorem flipAt_length (l : List UInt8) (p : Nat) : (flipAt l p).length = l.length := by simp [flipAt]

theorem mask_at (i j : Nat) (hi : i < 8) (hj : j < 8) : (0x80#8 >>> i).getLsbD (7 - j) = decide (i = j) := by
  have e : ∀ a b : Fin 8, (0x80#8 >>> a.val).getLsbD (7 - b.val) = decide (a.val = b.val) := by decide +kernel
  exact e ⟨i, hi⟩ ⟨j, hj⟩

theorem flipAt_at (l : List UInt8) (p q : Nat) (hp : p < 8 * l.length) : bitAt (flipAt l p) q = (bitAt l q ^^ decide (p = q)) := by
  unfold bitAt flipAt
  by_cases h : p / 8 = q / 8
  · rw [← h, List.getElem?_set_self (by omega)]
    simp only [Option.getD_some]
    rw [BitVec.getLsbD_xor, mask_at _ _ (Nat.mod_lt _ (by omega)) (Nat.mod_lt _ (by omega))]
    congr 1
    rw [Bool.eq_iff_iff, decide_eq_true_iff, decide_eq_true_iff]
    omega
  · rw [List.getElem?_set_ne h, decide_eq_false (by intro e; exact h (by rw [e]))]
    simp

/-- the first n bits of a burst, turned round from the bit p on -/
def burst (l : List UInt8) (p : Nat) (v : BitVec 32) : Nat → List UInt8
  | 0 => l
  | n + 1 => if v.getLsbD (31 - n) then flipAt (burst l p v n) (p + n) else burst l p v n

theorem burst_length (l : List UInt8) (p : Nat) (v : BitVec 32) : ∀ n, (burst l p v n).length = l.length
  | 0 => rfl
  | n + 1 => by
    unfold burst
    split
    · rw [flipAt_length, burst_length l p v n]
    · exact burst_length l p v n

theorem burst_at (l : List UInt8) (p : Nat) (v : BitVec 32) (q : Nat) : ∀ n, p + n ≤ 8 * l.length → n ≤ 32 → bitAt (burst l p v n) q = (bitAt l q ^^ (decide (p ≤ q ∧ q < p + n) && v.getLsbD (31 - (q - p))))
  | 0, _, _ => by
    rw [decide_eq_false (by omega)]; simp [burst]
  | n + 1, h, h32 => by
    have ih := burst_at l p v q n (by omega) (by omega)
    unfold burst
    by_cases hv : v.getLsbD (31 - n) = true
    · rw [if_pos hv, flipAt_at _ _ _ (by rw [burst_length]; omega), ih]
      by_cases hq : p + n = q
      · rw [decide_eq_true hq, decide_eq_false (by omega), decide_eq_true (show p ≤ q ∧ q < p + (n + 1) by omega), show q - p = n by omega, hv]; simp
      · rw [decide_eq_false hq]
        have : (p ≤ q ∧ q < p + n) = (p ≤ q ∧ q < p + (n + 1)) := by
          apply propext; constructor <;> intro h <;> omega
        simp [this]
    · rw [if_neg hv, ih]
      by_cases hq : p + n = q
      · rw [decide_eq_false (by omega), show q - p = n by omega]
        simp at hv
        simp [hv]
      · have : (p ≤ q ∧ q < p + n) = (p ≤ q ∧ q < p + (n + 1)) := by
          apply propext; constructor <;> intro h <;> omega
        simp [this]

theorem bits32_at (v : BitVec 32) (k : Nat) (hk : k < 32) : (bits32 v)[k]? = some (v.getLsbD (31 - k)) := by
  have e : ∀ j, j < 4 → ∀ i, i < 8 → (bits8 (top (v <<< (8 * j))))[i]? = some (v.getLsbD (31 - (8 * j + i))) := by
    intro j hj i hi
    rw [bits8_at _ _ hi]
    unfold top
    rw [BitVec.getLsbD_setWidth, BitVec.getLsbD_ushiftRight, BitVec.getLsbD_shiftLeft]
    rw [decide_eq_true (by omega), decide_eq_true (by omega), decide_eq_false (by omega), show 24 + (7 - i) - 8 * j = 31 - (8 * j + i) by omega]
    simp
  have e0 := e 0 (by omega)
  rw [show 8 * 0 = 0 from rfl, BitVec.shiftLeft_zero] at e0
  unfold bits32
  by_cases h1 : k < 8
  · rw [List.getElem?_append_left (by simp [bits8_length]; omega), List.getElem?_append_left (by simp [bits8_length]; omega), List.getElem?_append_left (by rw [bits8_length]; omega), e0 k h1]
    simp
  · by_cases h2 : k < 16
    · rw [List.getElem?_append_left (by simp [bits8_length]; omega), List.getElem?_append_left (by simp [bits8_length]; omega), List.getElem?_append_right (by rw [bits8_length]; omega), bits8_length, e 1 (by omega) (k - 8) (by omega), show 8 * 1 + (k - 8) = k by omega]
    · by_cases h3 : k < 24
      · rw [List.getElem?_append_left (by simp [bits8_length]; omega), List.getElem?_append_right (by simp [bits8_length]; omega), List.length_append, bits8_length, bits8_length, e 2 (by omega) (k - (8 + 8)) (by omega), show 8 * 2 + (k - (8 + 8)) = k by omega]
      · rw [List.getElem?_append_right (by simp [bits8_length]; omega), List.length_append, List.length_append, bits8_length, bits8_length, bits8_length, e 3 (by omega) (k - (8 + 8 + 8)) (by omega), show 8 * 3 + (k - (8 + 8 + 8)) = k by omega]

theorem bits32_length (v : BitVec 32) : (bits32 v).length = 32 := rfl

theorem burst_bits (l : List UInt8) (p : Nat) (v : BitVec 32) (h : p + 32 ≤ 8 * l.length) :
    bitsL (burst l p v 32) = xl (bitsL l) (List.replicate p false ++ bits32 v ++ List.replicate (8 * l.length - 32 - p) false) := by
  apply List.ext_getElem?
  intro q
  unfold xl
  rw [List.getElem?_zipWith]
  by_cases hq : q < 8 * l.length
  · rw [bitsL_at _ _ (by rw [burst_length]; exact hq), bitsL_at _ _ hq, burst_at l p v q 32 h (by omega)]
    have e : (List.replicate p false ++ bits32 v ++ List.replicate (8 * l.length - 32 - p) false)[q]? = some (decide (p ≤ q ∧ q < p + 32) && v.getLsbD (31 - (q - p))) := by
      by_cases h1 : q < p
      · rw [List.getElem?_append_left (by simp [bits32_length]; omega), List.getElem?_append_left (by simp; omega), List.getElem?_replicate, if_pos h1, decide_eq_false (by omega)]; simp
      · by_cases h2 : q < p + 32
        · rw [List.getElem?_append_left (by simp [bits32_length]; omega), List.getElem?_append_right (by simp; omega), List.length_replicate, bits32_at _ _ (by omega), decide_eq_true (by omega)]; simp
        · rw [List.getElem?_append_right (by simp [bits32_length]; omega), List.getElem?_replicate, decide_eq_false (by omega), if_pos (by simp [bits32_length]; omega)]; simp
    rw [e]
  · rw [List.getElem?_eq_none (by rw [bitsL_length, burst_length]; omega), List.getElem?_eq_none (l := bitsL l) (by rw [bitsL_length]; omega)]

/-- a burst is told -/
theorem burst_open (l : List UInt8) (p : Nat) (v : BitVec 32) (hv : v ≠ 0#32) (h : p + 32 ≤ 8 * l.length) (hl : rg 0xffffffff#32 l = 3338984827#32) : openL (burst l p v 32) = ([], 13) :=
  burst_told l (burst l p v 32) p v hv (burst_length l p v 32) h (burst_bits l p v h) hl

end Go.Proofs.Ytmhnfloikgfgmaa.Crc
