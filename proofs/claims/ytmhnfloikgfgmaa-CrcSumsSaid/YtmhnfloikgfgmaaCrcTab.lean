/- The table as an array of values, and as the loop that makes it leaves it. -/
import Derived.Test.YtmhnfloikgfgmaaCrcInt
import Derived.WalkKit
namespace Go.Proofs.Ytmhnfloikgfgmaa.Crc
open Go.RowKit

/-- what the entry j is when k rounds are through -/
def ent (k j : Nat) : BitVec 32 := if j < 2 * k then st 0#32 (BitVec.ofNat 8 j) else 0#32
/-- the cells of the table when k rounds are through -/
def tabA (k : Nat) : Array Value := (Array.range 256).map fun j => .int .u32 (V (ent k j))
/-- the whole table -/
def tabW : Array Value := tabA 128
/-- nothing yet -/
def tabZ : Array Value := Array.replicate 256 (.int .u32 0)

theorem tabA_size (k : Nat) : (tabA k).size = 256 := by simp [tabA]
theorem tabA_get (k j : Nat) (h : j < 256) : (tabA k)[j]? = some (.int .u32 (V (ent k j))) := by
  simp [tabA, h]
theorem tabA_all (k : Nat) : (tabA k).all (·.oneCell') = true := by
  rw [Array.all_eq_true]
  intro i hi
  simp [tabA, Value.oneCell']
theorem tabZ_eq : tabZ = tabA 0 := by
  apply Array.ext_getElem?
  intro i
  by_cases h : i < 256
  · rw [tabA_get 0 i h]; simp [tabZ, ent, h, V]
  · rw [Array.getElem?_eq_none (by simp [tabZ]; omega), Array.getElem?_eq_none (by simp [tabA]; omega)]
theorem tabZ_size : tabZ.size = 256 := by simp [tabZ]
theorem tabW_get (c : BitVec 8) : tabW[c.toNat]? = some (.int .u32 (V (st 0#32 c))) := by
  have h := c.isLt
  unfold tabW
  rw [tabA_get _ _ h, ent, if_pos (by omega)]
  simp

theorem st0_half : ∀ h : Fin 128, sb (st 0#32 (BitVec.ofNat 8 h.val)) false = st 0#32 (BitVec.ofNat 8 (2 * h.val)) ∧ sb (st 0#32 (BitVec.ofNat 8 h.val)) false ^^^ 79764919#32 = st 0#32 (BitVec.ofNat 8 (2 * h.val + 1)) := by
  decide +kernel

theorem ent_at (k : Nat) (hk : k < 128) : ent k k = st 0#32 (BitVec.ofNat 8 k) := by
  unfold ent
  by_cases h : k < 2 * k
  · rw [if_pos h]
  · obtain rfl : k = 0 := by omega
    decide

theorem even_at (k : Nat) (hk : k < 128) : V (sb (B (V (ent k k))) (one 0)) = V (st 0#32 (BitVec.ofNat 8 (2 * k))) := by
  rw [B_V, ent_at k hk]; exact congrArg V (st0_half ⟨k, hk⟩).1
theorem odd_at (k : Nat) (hk : k < 128) : bits .xor .u32 (V (sb (B (V (ent k k))) (one 0))) 79764919 = V (st 0#32 (BitVec.ofNat 8 (2 * k + 1))) := by
  rw [show (79764919 : Int) = V 79764919#32 from by decide +kernel, xor_V, B_V, ent_at k hk]; exact congrArg V (st0_half ⟨k, hk⟩).2

theorem tabA_next0 (k : Nat) (hk : k < 128) :
    ((tabA k).setIfInBounds (2 * k) (.int .u32 (V (st 0#32 (BitVec.ofNat 8 (2 * k)))))).setIfInBounds (2 * k + 1) (.int .u32 (V (st 0#32 (BitVec.ofNat 8 (2 * k + 1))))) = tabA (k + 1) := by
  apply Array.ext_getElem?
  intro i
  rw [Array.getElem?_setIfInBounds, Array.getElem?_setIfInBounds]
  simp only [Array.size_setIfInBounds, tabA_size]
  by_cases h : i < 256
  · rw [tabA_get _ _ h, tabA_get _ _ h]
    by_cases h1 : 2 * k + 1 = i
    · subst h1
      simp [h, ent, show 2 * k + 1 < 2 * (k + 1) by omega]
    · by_cases h2 : 2 * k = i
      · subst h2
        simp [h, ent, show 2 * k < 2 * (k + 1) by omega]
      · rw [if_neg h1, if_neg h2]
        unfold ent
        by_cases h3 : i < 2 * k
        · rw [if_pos h3, if_pos (by omega)]
        · rw [if_neg h3, if_neg (by omega)]
  · rw [if_neg (by omega), if_neg (by omega), Array.getElem?_eq_none (by rw [tabA_size]; omega), Array.getElem?_eq_none (by rw [tabA_size]; omega)]


theorem tabA_next (k : Nat) (hk : k < 128) :
    ((tabA k).setIfInBounds (2 * k) (.int .u32 (V (sb (B (V (ent k k))) (one 0))))).setIfInBounds (2 * k + 1) (.int .u32 (bits .xor .u32 (V (sb (B (V (ent k k))) (one 0))) 79764919)) = tabA (k + 1) := by
  rw [odd_at k hk, even_at k hk, tabA_next0 k hk]

/-! ### the closure's numbers -/
theorem idx_num (a b : Int) (h0 : 0 ≤ a) (h1 : a < 4294967296) (h2 : 0 ≤ b) (h3 : b < 256) : bits .xor .u8 (a / 16777216) b = V8 (top (B a) ^^^ B8 b) := by
  conv => lhs; rw [← V_B a h0 h1, ← V8_B8 b h2 h3, top_V, xor_V8]
theorem out_num (a b : Int) (h0 : 0 ≤ a) (h1 : a < 4294967296) : bits .xor .u32 (a * 256 % 4294967296) (V (st 0#32 (top (B a) ^^^ B8 b))) = V (st (B a) (B8 b)) := by
  rw [st_table (B a) (B8 b)]
  conv => lhs; rw [← V_B a h0 h1]
  rw [shl8_V, xor_V, B_V]
theorem V8_toNat (c : BitVec 8) : (V8 c).toNat = c.toNat := by unfold V8; simp

end Go.Proofs.Ytmhnfloikgfgmaa.Crc
