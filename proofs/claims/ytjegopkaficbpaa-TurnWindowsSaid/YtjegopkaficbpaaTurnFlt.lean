/- Whole numbers below 2^53 as floating-point words: sums, differences, products are exact. No dump is imported. -/
import Derived.Laws.ComplexArith
namespace Go.Proofs.Ytjegopkaficbpaa.Flt
open Ieee

/-- the rung of a whole number -/
def rg (n : Nat) : Nat := if n = 0 then 0 else (n.log2 + 1022) * 2 ^ 52 + n * 2 ^ (52 - n.log2)
/-- its word -/
def R (a : Int) : Nat := double.word (decide (a < 0)) (rg a.natAbs)

theorem log2_mul (n k : Nat) (h : n ≠ 0) : (n * 2 ^ k).log2 = n.log2 + k := by
  have hp := Nat.two_pow_pos k
  have hn : n * 2 ^ k ≠ 0 := by
    have : 0 < n * 2 ^ k := Nat.mul_pos (by omega) hp
    omega
  refine (Nat.log2_eq_iff hn).2 ⟨?_, ?_⟩
  · rw [Nat.pow_add]; exact Nat.mul_le_mul_right _ (Nat.log2_self_le h)
  · have := @Nat.lt_log2_self n
    rw [show n.log2 + k + 1 = (n.log2 + 1) + k by omega, Nat.pow_add]
    exact Nat.mul_lt_mul_of_pos_right this hp
theorem cut_exact (way : Toward) (neg : Bool) (N d : Nat) : way.cut neg (N * 2 ^ d) d = N := by
  unfold Toward.cut
  rcases Nat.eq_zero_or_pos N with h | h
  · subst h
    have hg : 0 < 1 <<< min d ((0 * 2 ^ d).log2 + 2) := by rw [Nat.shiftLeft_eq, Nat.one_mul]; exact Nat.two_pow_pos _
    simp only [Nat.zero_mul, Nat.zero_div, Nat.zero_mod]
    cases way <;> simp
  · have e : min d ((N * 2 ^ d).log2 + 2) = d := by rw [log2_mul N d (by omega)]; omega
    have hp := Nat.two_pow_pos d
    simp only [e, Nat.shiftLeft_eq, Nat.one_mul, Nat.mul_mod_left, Nat.mul_div_cancel _ hp]
    cases way <;> simp

theorem lp : double.leastPlace = -1074 := by decide
theorem fb : double.fractionBits = 52 := rfl
theorem bn : double.binade = 2 ^ 52 := rfl
theorem sw : double.signWeight = 2 ^ 63 := rfl
theorem ir : double.infRung = 2047 * 2 ^ 52 := by decide
theorem log_lt {n : Nat} (h : n ≠ 0) (hn : n < 2 ^ 53) : n.log2 ≤ 52 := by
  have := (Nat.log2_lt h (k := 53)).2 hn
  omega
theorem rg_lt {n : Nat} (hn : n < 2 ^ 53) : rg n < 1075 * 2 ^ 52 + 2 ^ 52 := by
  unfold rg
  split
  · decide
  · rename_i h
    have hl := log_lt h hn
    have h1 : n * 2 ^ (52 - n.log2) < 2 ^ (n.log2 + 1) * 2 ^ (52 - n.log2) := Nat.mul_lt_mul_of_pos_right Nat.lt_log2_self (Nat.two_pow_pos _)
    rw [← Nat.pow_add, show n.log2 + 1 + (52 - n.log2) = 53 by omega] at h1
    have h2 : (n.log2 + 1022) * 2 ^ 52 ≤ 1074 * 2 ^ 52 := Nat.mul_le_mul_right _ (by omega)
    omega
/-- what is n times 2^k, at the place -k, is written as n -/
theorem write_exact (s : Bool) (n k : Nat) (hn : n < 2 ^ 53) : double.write (.number s (n * 2 ^ k) (-(k : Int))) = double.word s (rg n) := by
  show double.nearest s (n * 2 ^ k) (-(k : Int)) = _
  unfold Format.nearest
  rcases Nat.eq_zero_or_pos n with h | h
  · subst h
    rw [Nat.zero_mul, if_pos rfl]; rfl
  · have hp := Nat.two_pow_pos k
    have hm : n * 2 ^ k ≠ 0 := by
      have : 0 < n * 2 ^ k := Nat.mul_pos h hp
      omega
    have hl := log_lt (show n ≠ 0 by omega) hn
    rw [if_neg hm, log2_mul n k (by omega), lp, fb, bn, ir]
    have el : max (-(k : Int) + ((n.log2 + k : Nat) : Int) - ((52 : Nat) : Int)) (-1074) = (n.log2 : Int) - 52 := by omega
    simp only [el]
    have e1 : ((n.log2 : Int) - 52 - -1074).toNat = n.log2 + 1022 := by omega
    rw [e1]
    have hk : Toward.even.cut s ((n * 2 ^ k) <<< (-(k : Int) - ((n.log2 : Int) - 52)).toNat) ((n.log2 : Int) - 52 - -(k : Int)).toNat = n * 2 ^ (52 - n.log2) := by
      by_cases c : k ≤ 52 - n.log2
      · rw [show (-(k : Int) - ((n.log2 : Int) - 52)).toNat = 52 - n.log2 - k by omega, show ((n.log2 : Int) - 52 - -(k : Int)).toNat = 0 by omega, Nat.shiftLeft_eq, Nat.mul_assoc, ← Nat.pow_add, show k + (52 - n.log2 - k) = 52 - n.log2 by omega]
        have := cut_exact .even s (n * 2 ^ (52 - n.log2)) 0
        rwa [Nat.pow_zero, Nat.mul_one] at this
      · rw [show (-(k : Int) - ((n.log2 : Int) - 52)).toNat = 0 by omega, show ((n.log2 : Int) - 52 - -(k : Int)).toNat = k - (52 - n.log2) by omega, Nat.shiftLeft_zero]
        have := cut_exact .even s (n * 2 ^ (52 - n.log2)) (k - (52 - n.log2))
        rwa [Nat.mul_assoc, ← Nat.pow_add, show 52 - n.log2 + (k - (52 - n.log2)) = k by omega] at this
    rw [hk]
    have hr := rg_lt hn
    have e2 : (n.log2 + 1022) * 2 ^ 52 + n * 2 ^ (52 - n.log2) = rg n := by unfold rg; rw [if_neg (by omega)]
    rw [e2, Nat.min_eq_left (by omega)]
/-- .. and read as n times 2^k, at the place -k -/
theorem read_word (s : Bool) (n : Nat) (hn : n < 2 ^ 53) : ∃ k : Nat, double.read (double.word s (rg n)) = .number s (n * 2 ^ k) (-(k : Int)) := by
  have hr := rg_lt hn
  have hs : double.word s (rg n) / 2 ^ 63 % 2 = s.toNat ∧ double.word s (rg n) % 2 ^ 63 = rg n := by
    unfold Format.word
    rw [sw]
    cases s
    · simp only [Bool.false_eq_true, if_false]
      have : rg n < 2 ^ 63 := by omega
      exact ⟨by rw [Nat.div_eq_of_lt this]; rfl, Nat.mod_eq_of_lt this⟩
    · simp only [if_true]
      have : rg n < 2 ^ 63 := by omega
      refine ⟨?_, ?_⟩
      · rw [Nat.add_div_left _ (Nat.two_pow_pos _), Nat.div_eq_of_lt this]; rfl
      · rw [Nat.add_mod_left, Nat.mod_eq_of_lt this]
  have hsb : (double.word s (rg n) / double.signWeight % 2 == 1) = s := by
    rw [sw, hs.1]; cases s <;> rfl
  unfold Format.read
  simp only [hsb]
  rw [sw, hs.2, bn, ir, lp]
  rcases Nat.eq_zero_or_pos n with h | h
  · subst h
    obtain ⟨k, hk⟩ : ∃ k : Nat, (-1074 : Int) = -(k : Int) := ⟨1074, rfl⟩
    refine ⟨k, ?_⟩
    have : rg 0 = 0 := rfl
    rw [this, if_pos (by decide), Nat.zero_mul, hk]
  · have hl := log_lt (show n ≠ 0 by omega) hn
    have h0 : 2 ^ 52 ≤ n * 2 ^ (52 - n.log2) := by
      have h1 : 2 ^ n.log2 * 2 ^ (52 - n.log2) ≤ n * 2 ^ (52 - n.log2) := Nat.mul_le_mul_right _ (Nat.log2_self_le (by omega))
      rwa [← Nat.pow_add, show n.log2 + (52 - n.log2) = 52 by omega] at h1
    have h1 : n * 2 ^ (52 - n.log2) < 2 ^ 53 := by
      have h1 : n * 2 ^ (52 - n.log2) < 2 ^ (n.log2 + 1) * 2 ^ (52 - n.log2) := Nat.mul_lt_mul_of_pos_right Nat.lt_log2_self (Nat.two_pow_pos _)
      rwa [← Nat.pow_add, show n.log2 + 1 + (52 - n.log2) = 53 by omega] at h1
    have e : rg n = (n.log2 + 1022) * 2 ^ 52 + n * 2 ^ (52 - n.log2) := by unfold rg; rw [if_neg (by omega)]
    generalize hM : n * 2 ^ (52 - n.log2) = M at *
    refine ⟨52 - n.log2, ?_⟩
    rw [hM, e]
    have d1 : ((n.log2 + 1022) * 2 ^ 52 + M) / 2 ^ 52 = n.log2 + 1023 := by omega
    have d2 : ((n.log2 + 1022) * 2 ^ 52 + M) % 2 ^ 52 = M - 2 ^ 52 := by omega
    have c1 : ¬ (n.log2 + 1022) * 2 ^ 52 + M < 2 ^ 52 := by omega
    have c2 : (n.log2 + 1022) * 2 ^ 52 + M < 2047 * 2 ^ 52 := by omega
    have c3 : 2 ^ 52 + (M - 2 ^ 52) = M := by omega
    have c4 : (-1074 : Int) + ((n.log2 + 1023 - 1 : Nat) : Int) = -((52 - n.log2 : Nat) : Int) := by omega
    rw [if_neg c1, if_pos c2, d1, d2, c3, c4]
theorem read_R {a : Int} (h : a.natAbs < 2 ^ 53) : ∃ k : Nat, double.read (R a) = .number (decide (a < 0)) (a.natAbs * 2 ^ k) (-(k : Int)) := read_word _ _ h
theorem write_R {a : Int} (h : a.natAbs < 2 ^ 53) (k : Nat) : double.write (.number (decide (a < 0)) (a.natAbs * 2 ^ k) (-(k : Int))) = R a := write_exact _ _ _ h

theorem signed_R (a : Int) (k j : Nat) : signed (decide (a < 0)) (a.natAbs * 2 ^ k) j = a * 2 ^ (k + j) := by
  unfold signed
  rw [Nat.shiftLeft_eq, Nat.mul_assoc, ← Nat.pow_add]
  by_cases h : a < 0
  · rw [if_pos (by simpa using h), Int.natCast_mul, Int.natCast_pow, ← Int.neg_mul]
    congr 1
    omega
  · rw [if_neg (by simpa using h), Int.natCast_mul, Int.natCast_pow]
    congr 1
    omega
theorem sum_R {a b : Int} {s t : Bool} (k j : Nat) (hs : s = decide (a < 0)) (ht : t = decide (b < 0) ∨ b = 0) (hz : a + b = 0 → (s && t) = false) :
    ∃ K : Nat, (Datum.number s (a.natAbs * 2 ^ k) (-(k : Int))).sum (.number t (b.natAbs * 2 ^ j) (-(j : Int))) = some (.number (decide (a + b < 0)) ((a + b).natAbs * 2 ^ K) (-(K : Int))) := by
  refine ⟨max k j, ?_⟩
  have e0 : min (-(k : Int)) (-(j : Int)) = -((max k j : Nat) : Int) := by omega
  have e1 : (-(k : Int) - -((max k j : Nat) : Int)).toNat = max k j - k := by omega
  have e2 : (-(j : Int) - -((max k j : Nat) : Int)).toNat = max k j - j := by omega
  have et : signed t (b.natAbs * 2 ^ j) (max k j - j) = b * 2 ^ (j + (max k j - j)) := by
    rcases ht with rfl | rfl
    · exact signed_R b j _
    · unfold signed; simp
  have e3 : signed s (a.natAbs * 2 ^ k) (max k j - k) + signed t (b.natAbs * 2 ^ j) (max k j - j) = (a + b) * 2 ^ (max k j) := by
    rw [hs, signed_R, et, show k + (max k j - k) = max k j by omega, show j + (max k j - j) = max k j by omega, Int.add_mul]
  simp only [Datum.sum, e0, e1, e2, e3]
  have hp : (0 : Int) < 2 ^ (max k j) := Int.pow_pos (by omega)
  congr 2
  · by_cases hab : a + b = 0
    · rw [hab, Int.zero_mul, if_pos rfl, hz hab]; rfl
    · have : ¬ (a + b) * 2 ^ (max k j) = 0 := Int.mul_ne_zero hab (by omega)
      rw [if_neg this]
      rw [decide_eq_decide]
      constructor
      · intro h
        exact Int.lt_of_not_ge fun hge => by
          have := Int.mul_nonneg hge (Int.le_of_lt hp)
          omega
      · intro h
        exact Int.mul_neg_of_neg_of_pos h hp
  · rw [Int.natAbs_mul, Int.natAbs_pow]; rfl
theorem add_R {a b : Int} (ha : a.natAbs < 2 ^ 53) (hb : b.natAbs < 2 ^ 53) (hc : (a + b).natAbs < 2 ^ 53) : floatBits .add .f64 (R a) (R b) = some (R (a + b)) := by
  obtain ⟨k, hk⟩ := read_R ha
  obtain ⟨j, hj⟩ := read_R hb
  show double.add (R a) (R b) = _
  unfold Format.add
  obtain ⟨K, hK⟩ := sum_R (a := a) (b := b) k j rfl (.inl rfl) (fun h => by
    by_cases h1 : a < 0
    · rw [decide_eq_true h1, decide_eq_false (by omega)]; rfl
    · rw [decide_eq_false h1]; rfl)
  rw [hk, hj, hK]
  show some (double.write _) = _
  rw [write_R hc]
theorem sub_R {a b : Int} (ha : a.natAbs < 2 ^ 53) (hb : b.natAbs < 2 ^ 53) (hc : (a - b).natAbs < 2 ^ 53) : floatBits .sub .f64 (R a) (R b) = some (R (a - b)) := by
  obtain ⟨k, hk⟩ := read_R ha
  obtain ⟨j, hj⟩ := read_R hb
  show double.sub (R a) (R b) = _
  unfold Format.sub
  have ho : (Datum.number (decide (b < 0)) (b.natAbs * 2 ^ j) (-(j : Int))).opposite = .number (!decide (b < 0)) ((-b).natAbs * 2 ^ j) (-(j : Int)) := by
    rw [Int.natAbs_neg]; rfl
  obtain ⟨K, hK⟩ := sum_R (a := a) (b := -b) (t := !decide (b < 0)) k j rfl (by
    by_cases h1 : b < 0
    · left; rw [decide_eq_true h1, decide_eq_false (by omega)]; rfl
    · by_cases h2 : b = 0
      · right; omega
      · left; rw [decide_eq_false h1, decide_eq_true (by omega)]; rfl) (fun h => by
    by_cases h1 : a < 0
    · rw [decide_eq_true h1, decide_eq_true (by omega)]; rfl
    · rw [decide_eq_false h1]; rfl)
  rw [hk, hj, ho, hK, ← Int.sub_eq_add_neg]
  show some (double.write _) = _
  rw [write_R hc]
theorem mul_R {a b : Int} (ha : a.natAbs < 2 ^ 53) (hb : b.natAbs < 2 ^ 53) (hc : (a * b).natAbs < 2 ^ 53) (hz : a * b = 0 → 0 ≤ a ∧ 0 ≤ b) : floatBits .mul .f64 (R a) (R b) = some (R (a * b)) := by
  obtain ⟨k, hk⟩ := read_R ha
  obtain ⟨j, hj⟩ := read_R hb
  show double.mul (R a) (R b) = _
  unfold Format.mul
  rw [hk, hj]
  show some (double.write (.number (decide (a < 0) ^^ decide (b < 0)) (a.natAbs * 2 ^ k * (b.natAbs * 2 ^ j)) (-(k : Int) + -(j : Int)))) = _
  have e1 : a.natAbs * 2 ^ k * (b.natAbs * 2 ^ j) = (a * b).natAbs * 2 ^ (k + j) := by
    rw [Int.natAbs_mul, Nat.pow_add]; ac_rfl
  have e2 : -(k : Int) + -(j : Int) = -((k + j : Nat) : Int) := by omega
  have e3 : (decide (a < 0) ^^ decide (b < 0)) = decide (a * b < 0) := by
    by_cases h1 : a < 0
    · by_cases h2 : b < 0
      · have := Int.mul_pos_of_neg_of_neg h1 h2
        rw [decide_eq_true h1, decide_eq_true h2, decide_eq_false (by omega)]; rfl
      · by_cases h3 : b = 0
        · have := hz (by rw [h3, Int.mul_zero]); omega
        · have := Int.mul_neg_of_neg_of_pos h1 (show 0 < b by omega)
          rw [decide_eq_true h1, decide_eq_false h2, decide_eq_true this]; rfl
    · by_cases h2 : b < 0
      · by_cases h3 : a = 0
        · have := hz (by rw [h3, Int.zero_mul]); omega
        · have := Int.mul_neg_of_pos_of_neg (show 0 < a by omega) h2
          rw [decide_eq_false h1, decide_eq_true h2, decide_eq_true this]; rfl
      · have := Int.mul_nonneg (show 0 ≤ a by omega) (show 0 ≤ b by omega)
        rw [decide_eq_false h1, decide_eq_false h2, decide_eq_false (by omega)]; rfl
  rw [e1, e2, e3, write_R hc]
/-- from a whole number, and back -/
theorem of_int {n : Int} (h : n.natAbs < 2 ^ 53) : floatOfInt .f64 n = R n := by
  have := write_R h 0
  rw [Nat.pow_zero, Nat.mul_one] at this
  exact this
theorem to_int {n : Int} (h : n.natAbs < 2 ^ 53) {k : IntKind} (h0 : k.min ≤ n) (h1 : n ≤ k.max) : floatToIntVal .f64 (R n) k = some n := by
  obtain ⟨j, hj⟩ := read_R h
  unfold floatToIntVal
  have e : (FloatKind.decode .f64 (R n)).toInt .zero = some n := by
    show (double.read (R n)).toInt .zero = some n
    rw [hj]
    unfold Datum.toInt Datum.integral
    have e1 : (-(j : Int)).toNat = 0 := by omega
    have e2 : (- -(j : Int)).toNat = j := by omega
    simp only [e1, e2, Nat.shiftLeft_zero, cut_exact]
    have := signed_R n 0 0
    simp only [Nat.pow_zero, Nat.mul_one, Nat.add_zero, Int.pow_zero, Int.mul_one] at this
    rw [this]
  rw [e]
  simp only [h0, h1, and_self, if_true]
end Go.Proofs.Ytjegopkaficbpaa.Flt
