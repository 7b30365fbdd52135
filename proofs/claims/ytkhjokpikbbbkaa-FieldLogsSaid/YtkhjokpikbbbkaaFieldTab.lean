/- The two tables as arrays of values, and as the rounds leave them. -/
import Derived.Test.YtkhjokpikbbbkaaFieldInt
import Derived.WalkKit
namespace Go.Proofs.Ytkhjokpikbbbkaa.Fld
open Go.RowKit

def powE (k j : Nat) : Int := if j < k then V (E j) else 0
def logE (k x : Nat) : Int := if x = 0 then -1 else if L (BitVec.ofNat 8 x) < k then (L (BitVec.ofNat 8 x) : Int) else 0
/-- the cells of the tables when k rounds are through -/
def powA (k : Nat) : Array Value := (Array.range 255).map fun j => .int .u8 (powE k j)
def logA (k : Nat) : Array Value := (Array.range 256).map fun x => .int .i64 (logE k x)
def powZ : Array Value := Array.replicate 255 (.int .u8 0)
def logZ : Array Value := Array.replicate 256 (.int .i64 0)
def powW : Array Value := powA 255
def logW : Array Value := logA 255

theorem powA_size (k : Nat) : (powA k).size = 255 := by simp [powA]
theorem logA_size (k : Nat) : (logA k).size = 256 := by simp [logA]
theorem powZ_size : powZ.size = 255 := by simp [powZ]
theorem logZ_size : logZ.size = 256 := by simp [logZ]
theorem powW_size : powW.size = 255 := powA_size _
theorem logW_size : logW.size = 256 := logA_size _
theorem powA_get (k j : Nat) (h : j < 255) : (powA k)[j]? = some (.int .u8 (powE k j)) := by simp [powA, h]
theorem logA_get (k j : Nat) (h : j < 256) : (logA k)[j]? = some (.int .i64 (logE k j)) := by simp [logA, h]
theorem powA_all (k : Nat) : (powA k).all (·.oneCell') = true := by
  rw [Array.all_eq_true]; intro i hi; simp [powA, Value.oneCell']
theorem logA_all (k : Nat) : (logA k).all (·.oneCell') = true := by
  rw [Array.all_eq_true]; intro i hi; simp [logA, Value.oneCell']
theorem powZ_eq : powZ = powA 0 := by
  apply Array.ext_getElem?
  intro i
  by_cases h : i < 255
  · rw [powA_get 0 i h]; simp [powZ, powE, h]
  · rw [Array.getElem?_eq_none (by rw [powZ_size]; omega), Array.getElem?_eq_none (by rw [powA_size]; omega)]
theorem logZ_eq : logZ.setIfInBounds 0 (.int .i64 (-1)) = logA 0 := by
  apply Array.ext_getElem?
  intro i
  rw [Array.getElem?_setIfInBounds]
  by_cases h : i < 256
  · rw [logA_get 0 i h]
    by_cases e : 0 = i
    · subst e; simp [logE, logZ]
    · simp [logZ, logE, h, e, show ¬ i = 0 by omega]
  · rw [if_neg (by omega), Array.getElem?_eq_none (by rw [logZ_size]; omega), Array.getElem?_eq_none (by rw [logA_size]; omega)]
theorem powA_next (k : Nat) (hk : k < 255) : (powA k).setIfInBounds k (.int .u8 (V (E k))) = powA (k + 1) := by
  apply Array.ext_getElem?
  intro i
  rw [Array.getElem?_setIfInBounds]
  by_cases h : i < 255
  · rw [powA_get _ i h, powA_get _ i h]
    by_cases e : k = i
    · subst e; simp [powE, powA_size, hk]
    · rw [if_neg e]; unfold powE
      by_cases h2 : i < k
      · rw [if_pos h2, if_pos (by omega)]
      · rw [if_neg h2, if_neg (by omega)]
  · rw [if_neg (by omega), Array.getElem?_eq_none (by rw [powA_size]; omega), Array.getElem?_eq_none (by rw [powA_size]; omega)]
theorem E_ne (k : Nat) : (E k).toNat ≠ 0 := fun e => E_nz k (BitVec.eq_of_toNat_eq (by rw [e]; rfl))
theorem ofNat_E (k : Nat) : BitVec.ofNat 8 (E k).toNat = E k := by simp
theorem L_at (k i : Nat) (h0 : i ≠ 0) (hi : i < 256) (h : L (BitVec.ofNat 8 i) = k) : (E k).toNat = i := by
  have hx : BitVec.ofNat 8 i ≠ 0#8 := by
    intro e
    have := congrArg BitVec.toNat e
    rw [BitVec.toNat_ofNat, Nat.mod_eq_of_lt (by omega)] at this
    exact h0 this
  rw [← h, E_L _ hx, BitVec.toNat_ofNat, Nat.mod_eq_of_lt (by omega)]
theorem logA_next (k : Nat) (hk : k < 255) : (logA k).setIfInBounds (E k).toNat (.int .i64 k) = logA (k + 1) := by
  apply Array.ext_getElem?
  intro i
  rw [Array.getElem?_setIfInBounds]
  have hE := (E k).isLt
  by_cases h : i < 256
  · rw [logA_get _ i h, logA_get _ i h]
    by_cases e : (E k).toNat = i
    · subst e
      rw [if_pos rfl, if_pos (by rw [logA_size]; omega)]
      unfold logE
      rw [if_neg (E_ne k), ofNat_E, L_E_lt k hk, if_pos (by omega)]
    · rw [if_neg e]; unfold logE
      by_cases h0 : i = 0
      · rw [if_pos h0, if_pos h0]
      · rw [if_neg h0, if_neg h0]
        have hne : L (BitVec.ofNat 8 i) ≠ k := fun hl => e (L_at k i h0 h hl)
        by_cases h2 : L (BitVec.ofNat 8 i) < k
        · rw [if_pos h2, if_pos (by omega)]
        · rw [if_neg h2, if_neg (by omega)]
  · rw [if_neg (by omega), Array.getElem?_eq_none (by rw [logA_size]; omega), Array.getElem?_eq_none (by rw [logA_size]; omega)]
theorem powW_get (n : Nat) (h : n < 255) : powW[n]? = some (.int .u8 (V (E n))) := by
  unfold powW; rw [powA_get _ _ h, powE, if_pos h]
theorem logW_zero : logW[0]? = some (.int .i64 (-1)) := by
  unfold logW; rw [logA_get _ _ (by omega)]; rfl
theorem logW_get (x : BitVec 8) (h : x ≠ 0#8) : logW[x.toNat]? = some (.int .i64 (L x)) := by
  unfold logW
  have hne : x.toNat ≠ 0 := fun e => h (BitVec.eq_of_toNat_eq e)
  have hx := x.isLt
  rw [logA_get _ _ (by omega), logE, if_neg hne, show BitVec.ofNat 8 x.toNat = x by simp, if_pos (L_lt x h)]
end Go.Proofs.Ytkhjokpikbbbkaa.Fld
