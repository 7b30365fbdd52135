/- Whole numbers below 2^39 as floating-point words, divided by 8191 and made whole downwards: as it would be with whole numbers. No dump is imported. -/
import Derived.Test.YtjegopkaficbpaaTurnFlt
namespace Go.Proofs.Ytjegopkaficbpaa.Flt
open Ieee

/-- a whole number that isn't 0, read -/
theorem read_some (s : Bool) (n : Nat) (h0 : n ≠ 0) (hn : n < 2 ^ 53) : double.read (double.word s (rg n)) = .number s (n * 2 ^ (52 - n.log2)) (-((52 - n.log2 : Nat) : Int)) := by
  have hr := rg_lt hn
  have hs : double.word s (rg n) / 2 ^ 63 % 2 = s.toNat ∧ double.word s (rg n) % 2 ^ 63 = rg n := by
    unfold Format.word
    rw [sw]
    cases s
    · simp only [Bool.false_eq_true, if_false]
      have : rg n < 2 ^ 63 := by omega
      exact ⟨by rw [Nat.div_eq_of_lt this]; rfl, Nat.mod_eq_of_lt this⟩
    · simp only [if_true]
      have : rg n < 2 ^ 63 := by omega
      refine ⟨?_, ?_⟩
      · rw [Nat.add_div_left _ (Nat.two_pow_pos _), Nat.div_eq_of_lt this]; rfl
      · rw [Nat.add_mod_left, Nat.mod_eq_of_lt this]
  have hsb : (double.word s (rg n) / double.signWeight % 2 == 1) = s := by
    rw [sw, hs.1]; cases s <;> rfl
  unfold Format.read
  simp only [hsb]
  rw [sw, hs.2, bn, ir, lp]
  have hl := log_lt h0 hn
  have h2 : 2 ^ 52 ≤ n * 2 ^ (52 - n.log2) := by
    have h1 : 2 ^ n.log2 * 2 ^ (52 - n.log2) ≤ n * 2 ^ (52 - n.log2) := Nat.mul_le_mul_right _ (Nat.log2_self_le h0)
    rwa [← Nat.pow_add, show n.log2 + (52 - n.log2) = 52 by omega] at h1
  have h1 : n * 2 ^ (52 - n.log2) < 2 ^ 53 := by
    have h1 : n * 2 ^ (52 - n.log2) < 2 ^ (n.log2 + 1) * 2 ^ (52 - n.log2) := Nat.mul_lt_mul_of_pos_right Nat.lt_log2_self (Nat.two_pow_pos _)
    rwa [← Nat.pow_add, show n.log2 + 1 + (52 - n.log2) = 53 by omega] at h1
  have e : rg n = (n.log2 + 1022) * 2 ^ 52 + n * 2 ^ (52 - n.log2) := by unfold rg; rw [if_neg h0]
  generalize hM : n * 2 ^ (52 - n.log2) = M at *
  rw [e]
  have d1 : ((n.log2 + 1022) * 2 ^ 52 + M) / 2 ^ 52 = n.log2 + 1023 := by omega
  have d2 : ((n.log2 + 1022) * 2 ^ 52 + M) % 2 ^ 52 = M - 2 ^ 52 := by omega
  have c1 : ¬ (n.log2 + 1022) * 2 ^ 52 + M < 2 ^ 52 := by omega
  have c2 : (n.log2 + 1022) * 2 ^ 52 + M < 2047 * 2 ^ 52 := by omega
  have c3 : 2 ^ 52 + (M - 2 ^ 52) = M := by omega
  have c4 : (-1074 : Int) + ((n.log2 + 1023 - 1 : Nat) : Int) = -((52 - n.log2 : Nat) : Int) := by omega
  rw [if_neg c1, if_pos c2, d1, d2, c3, c4]

/-- a word of 53 digits, at the place -d, read -/
theorem read_kept (s : Bool) (K d : Nat) (h0 : 2 ^ 52 ≤ K) (h1 : K < 2 ^ 53) (hd : d ≤ 100) : double.read (double.word s ((1074 - d) * 2 ^ 52 + K)) = .number s K (-(d : Int)) := by
  generalize hR : (1074 - d) * 2 ^ 52 + K = Rr
  have hlt : Rr < 2 ^ 63 := by omega
  have hs : double.word s Rr / 2 ^ 63 % 2 = s.toNat ∧ double.word s Rr % 2 ^ 63 = Rr := by
    unfold Format.word
    rw [sw]
    cases s
    · simp only [Bool.false_eq_true, if_false]
      exact ⟨by rw [Nat.div_eq_of_lt hlt]; rfl, Nat.mod_eq_of_lt hlt⟩
    · simp only [if_true]
      refine ⟨?_, ?_⟩
      · rw [Nat.add_div_left _ (Nat.two_pow_pos _), Nat.div_eq_of_lt hlt]; rfl
      · rw [Nat.add_mod_left, Nat.mod_eq_of_lt hlt]
  have hsb : (double.word s Rr / double.signWeight % 2 == 1) = s := by
    rw [sw, hs.1]; cases s <;> rfl
  unfold Format.read
  simp only [hsb]
  rw [sw, hs.2, bn, ir, lp, ← hR]
  have d1 : ((1074 - d) * 2 ^ 52 + K) / 2 ^ 52 = 1075 - d := by omega
  have d2 : ((1074 - d) * 2 ^ 52 + K) % 2 ^ 52 = K - 2 ^ 52 := by omega
  have c1 : ¬ (1074 - d) * 2 ^ 52 + K < 2 ^ 52 := by omega
  have c2 : (1074 - d) * 2 ^ 52 + K < 2047 * 2 ^ 52 := by omega
  have c3 : 2 ^ 52 + (K - 2 ^ 52) = K := by omega
  have c4 : (-1074 : Int) + ((1075 - d - 1 : Nat) : Int) = -(d : Int) := by omega
  rw [if_neg c1, if_pos c2, d1, d2, c3, c4]

/-- to the nearest: off by half a unit at most -/
theorem cut_even (s : Bool) (n d : Nat) (hd : d ≤ n.log2 + 2) : 2 * n ≤ 2 * (2 ^ d * Toward.even.cut s n d) + 2 ^ d ∧ 2 * (2 ^ d * Toward.even.cut s n d) ≤ 2 * n + 2 ^ d := by
  unfold Toward.cut
  simp only [Nat.min_eq_left hd, Nat.shiftLeft_eq, Nat.one_mul]
  have hp := Nat.two_pow_pos d
  have hm := Nat.div_add_mod n (2 ^ d)
  have hl := Nat.mod_lt n hp
  generalize hg : 2 ^ d = g at *
  generalize n / g = q at *
  generalize hr : n % g = r at *
  by_cases h1 : g < 2 * r
  · simp only [decide_eq_true h1, Bool.true_or, Bool.toNat_true, Nat.mul_add, Nat.mul_one]
    omega
  · by_cases h2 : (g == 2 * r && q % 2 == 1) = true
    · have h3 : g = 2 * r := by simp at h2; omega
      simp only [h2, Bool.or_true, Bool.toNat_true, Nat.mul_add, Nat.mul_one]
      omega
    · simp only [decide_eq_false h1, Bool.eq_false_iff.2 h2, Bool.or_self, Bool.toNat_false, Nat.mul_add, Nat.mul_zero]
      omega
/-- .. and its size -/
theorem cut_size (s : Bool) (n d : Nat) (hd : d ≤ n.log2 + 2) : n / 2 ^ d ≤ Toward.even.cut s n d ∧ Toward.even.cut s n d ≤ n / 2 ^ d + 1 := by
  unfold Toward.cut
  simp only [Nat.min_eq_left hd, Nat.shiftLeft_eq, Nat.one_mul]
  exact ⟨Nat.le_add_right _ _, Nat.add_le_add_left (Bool.toNat_le _) _⟩
/-- downwards -/
theorem cut_down (s : Bool) (n d : Nat) : Toward.down.cut s n d = n / 2 ^ d + (s && n % 2 ^ d != 0).toNat := by
  unfold Toward.cut
  by_cases hd : d ≤ n.log2 + 2
  · simp only [Nat.min_eq_left hd, Nat.shiftLeft_eq, Nat.one_mul]
  · have h1 : n < 2 ^ (n.log2 + 1) := Nat.lt_log2_self
    have h2 : n < 2 ^ (n.log2 + 2) := Nat.lt_of_lt_of_le h1 (Nat.pow_le_pow_right (by omega) (by omega))
    have h3 : n < 2 ^ d := Nat.lt_of_lt_of_le h1 (Nat.pow_le_pow_right (by omega) (by omega))
    rw [Nat.min_eq_right (by omega)]
    simp only [Nat.shiftLeft_eq, Nat.one_mul, Nat.div_eq_of_lt h2, Nat.mod_eq_of_lt h2, Nat.div_eq_of_lt h3, Nat.mod_eq_of_lt h3]

/-- the whole part of what is near enough to a quotient -/
theorem floor_near (A K D : Nat) (hD : 13 ≤ D) (h1 : 4 * (8191 * K) ≤ 4 * (A * 2 ^ D) + 3 * 8191) (h2 : 4 * (A * 2 ^ D) ≤ 4 * (8191 * K) + 3 * 8191) :
    K / 2 ^ D = A / 8191 ∧ (K % 2 ^ D != 0) = (A % 8191 != 0) := by
  have hT : 8192 ≤ 2 ^ D := Nat.le_trans (show 8192 ≤ 2 ^ 13 by decide) (Nat.pow_le_pow_right (by omega) hD)
  have hA := Nat.div_add_mod A 8191
  have hr := Nat.mod_lt A (show 0 < 8191 by omega)
  generalize A / 8191 = Q at *
  generalize A % 8191 = r at *
  generalize 2 ^ D = T at *
  have e : A * T = 8191 * (Q * T) + r * T := by rw [← hA, Nat.add_mul, Nat.mul_assoc]
  rw [e] at h1 h2
  have eK := Nat.div_add_mod K T
  have eM := Nat.mod_lt K (show 0 < T by omega)
  rcases Nat.eq_zero_or_pos r with h | h
  · subst h
    rw [Nat.zero_mul] at h1 h2
    have : K = Q * T := by omega
    subst this
    rw [Nat.mul_div_cancel _ (by omega), Nat.mul_mod_left]
    exact ⟨rfl, rfl⟩
  · have hU1 : T ≤ r * T := Nat.le_mul_of_pos_left T h
    have hU2 : r * T ≤ 8190 * T := Nat.mul_le_mul_right T (by omega)
    generalize r * T = U at *
    have k1 : Q * T < K := by omega
    have k2 : K < Q * T + T := by omega
    have k3 : K / T = Q := by
      refine (Nat.div_eq_iff (by omega)).2 ⟨?_, ?_⟩
      · omega
      · omega
    rw [k3] at eK
    rw [Nat.mul_comm] at eK
    refine ⟨k3, ?_⟩
    have k4 : K % T ≠ 0 := by omega
    have k5 : r ≠ 0 := by omega
    rw [bne_iff_ne.2 k4, bne_iff_ne.2 k5]

/-- the nearest word to M at the place e - 67, M of 55 or 56 digits -/
theorem near_word (s : Bool) (M l e : Nat) (hM : M ≠ 0) (hl : M.log2 = l) (h0 : 54 ≤ l) (h1 : l ≤ 55) (he : e ≤ 38) :
    double.write (.number s M ((e : Int) - 67)) = double.word s (min ((1074 - (119 - l - e)) * 2 ^ 52 + Toward.even.cut s M (l - 52)) (2047 * 2 ^ 52)) := by
  show double.nearest s M ((e : Int) - 67) = _
  unfold Format.nearest
  rw [if_neg hM, hl, lp, fb, bn, ir]
  have el : max ((e : Int) - 67 + (l : Int) - ((52 : Nat) : Int)) (-1074) = (e : Int) + l - 119 := by omega
  simp only [el]
  rw [show ((e : Int) + l - 119 - -1074).toNat = 1074 - (119 - l - e) by omega, show ((e : Int) - 67 - ((e : Int) + l - 119)).toNat = 0 by omega, show ((e : Int) + l - 119 - ((e : Int) - 67)).toNat = l - 52 by omega, Nat.shiftLeft_zero]

theorem times_bne (r p : Nat) (hp : 0 < p) : (r * p != 0) = (r != 0) := by
  rw [Bool.eq_iff_iff, bne_iff_ne, bne_iff_ne, ne_eq, ne_eq, Nat.mul_eq_zero]
  omega
/-- what the quotient's word reads as -/
theorem quo_read (s : Bool) (A : Nat) (h0 : A ≠ 0) (h : A < 2 ^ 39) :
    ∃ q K D : Nat, (((Datum.number s (A * 2 ^ (52 - A.log2)) (-((52 - A.log2 : Nat) : Int))).quotient 54 (.number false (8191 * 2 ^ 40) (-(40 : Nat) : Int))).map double.write) = some q ∧ double.read q = .number s K (-(D : Int)) ∧ 13 ≤ D ∧
      4 * (8191 * K) ≤ 4 * (A * 2 ^ D) + 3 * 8191 ∧ 4 * (A * 2 ^ D) ≤ 4 * (8191 * K) + 3 * 8191 := by
  have ha : A.log2 ≤ 38 := by
    have := (Nat.log2_lt h0 (k := 39)).2 h
    omega
  have lm : (A * 2 ^ (52 - A.log2)).log2 = 52 := by rw [log2_mul _ _ h0]; omega
  have ln : (8191 * 2 ^ 40).log2 = 52 := by rw [log2_mul _ _ (by omega)]; rfl
  have hlo := Nat.log2_self_le h0
  have hhi := @Nat.lt_log2_self A
  generalize hX : A * 2 ^ (66 - A.log2) = X
  have hX0 : 2 ^ 66 ≤ X := by
    have h1 : 2 ^ A.log2 * 2 ^ (66 - A.log2) ≤ A * 2 ^ (66 - A.log2) := Nat.mul_le_mul_right _ hlo
    rwa [← Nat.pow_add, show A.log2 + (66 - A.log2) = 66 by omega, hX] at h1
  have hX1 : X < 2 ^ 67 := by
    have h1 : A * 2 ^ (66 - A.log2) < 2 ^ (A.log2 + 1) * 2 ^ (66 - A.log2) := Nat.mul_lt_mul_of_pos_right hhi (Nat.two_pow_pos _)
    rwa [← Nat.pow_add, show A.log2 + 1 + (66 - A.log2) = 67 by omega, hX] at h1
  have hdv : (A * 2 ^ (52 - A.log2)) <<< 54 = X * 2 ^ 40 := by
    rw [← hX, Nat.shiftLeft_eq, Nat.mul_assoc, Nat.mul_assoc, ← Nat.pow_add, ← Nat.pow_add]
    congr 2
    omega
  generalize hMd : 2 * (X / 8191) + (X % 8191 != 0).toNat = M
  have hM1 : 8191 * M ≤ 2 * X + 8191 ∧ 2 * X ≤ 8191 * M + 8191 := by
    have e1 := Nat.div_add_mod X 8191
    have e2 := Nat.mod_lt X (show 0 < 8191 by omega)
    have e3 := Bool.toNat_le (X % 8191 != 0)
    have e4 : X % 8191 ≠ 0 → (X % 8191 != 0).toNat = 1 := fun c => by rw [bne_iff_ne.2 c]; rfl
    generalize (X % 8191 != 0).toNat = st at *
    clear hdv hX hX0 hX1
    omega
  have hq : (Datum.number s (A * 2 ^ (52 - A.log2)) (-((52 - A.log2 : Nat) : Int))).quotient 54 (.number false (8191 * 2 ^ 40) (-(40 : Nat) : Int)) = some (.number s M ((A.log2 : Int) - 67)) := by
    unfold Datum.quotient
    dsimp only
    rw [if_neg (show ¬ (8191 * 2 ^ 40 = 0) by decide), lm, ln]
    rw [show 54 + 52 - 52 = 54 from rfl, hdv, Nat.mul_div_mul_right _ _ (by decide), Nat.mul_mod_mul_right]
    have e1 : (X % 8191 * 2 ^ 40 != 0) = (X % 8191 != 0) := times_bne _ _ (Nat.two_pow_pos _)
    rw [e1, hMd]
    rw [Bool.xor_false, show (-((52 - A.log2 : Nat) : Int)) - (-(40 : Nat) : Int) - ((54 : Nat) : Int) - 1 = (A.log2 : Int) - 67 by omega]
  rw [hq]
  have hM0 : M ≠ 0 := by omega
  -- 55 or 56 digits
  have hl : M.log2 = 54 ∨ M.log2 = 55 := by
    by_cases c : M < 2 ^ 55
    · left; exact (Nat.log2_eq_iff hM0).2 ⟨by omega, c⟩
    · right; exact (Nat.log2_eq_iff hM0).2 ⟨by omega, by omega⟩
  obtain ⟨l, hlM, hl0, hl1⟩ : ∃ l, M.log2 = l ∧ 54 ≤ l ∧ l ≤ 55 := ⟨M.log2, rfl, by omega, by omega⟩
  have hc := cut_even s M (l - 52) (by omega)
  have hz := cut_size s M (l - 52) (by omega)
  have hw := near_word s M l A.log2 hM0 hlM hl0 hl1 ha
  generalize Toward.even.cut s M (l - 52) = kp at *
  have hk : 2 ^ 52 ≤ kp ∧ kp ≤ 2 ^ 53 := by
    have b0 := Nat.log2_self_le hM0
    have b1 := @Nat.lt_log2_self M
    rw [hlM] at b0 b1
    rcases (show l = 54 ∨ l = 55 by omega) with rfl | rfl
    · simp only [show 54 - 52 = 2 from rfl] at hz; omega
    · simp only [show 55 - 52 = 3 from rfl] at hz; omega
  generalize hDd : 119 - l - A.log2 = D at *
  have hB : ∀ D', 66 - A.log2 = D' + 1 → A * 2 ^ (D' + 1) = X := fun D' e => by rw [← e, hX]
  have bd : 4 * (8191 * kp) ≤ 4 * (A * 2 ^ D) + 3 * 8191 ∧ 4 * (A * 2 ^ D) ≤ 4 * (8191 * kp) + 3 * 8191 := by
    rcases (show l = 54 ∨ l = 55 by omega) with rfl | rfl
    · have e := hX
      rw [show 66 - A.log2 = D + 1 by omega, Nat.pow_succ, ← Nat.mul_assoc] at e
      simp only [show 54 - 52 = 2 from rfl] at hc
      generalize A * 2 ^ D = Bb at *
      omega
    · have e := hX
      rw [show 66 - A.log2 = D + 1 + 1 by omega, Nat.pow_succ, Nat.pow_succ, ← Nat.mul_assoc, ← Nat.mul_assoc] at e
      simp only [show 55 - 52 = 3 from rfl] at hc
      generalize A * 2 ^ D = Bb at *
      omega
  have hD13 : 25 ≤ D := by omega
  have hD65 : D ≤ 65 := by omega
  rw [Nat.min_eq_left (by omega)] at hw
  by_cases ck : kp < 2 ^ 53
  · exact ⟨_, kp, D, by rw [Option.map_some, hw], read_kept s kp D hk.1 ck (by omega), by omega, bd.1, bd.2⟩
  · obtain rfl : kp = 2 ^ 53 := by omega
    obtain ⟨D, rfl⟩ : ∃ D', D = D' + 1 := ⟨D - 1, by omega⟩
    have hp : A * 2 ^ (D + 1) = 2 * (A * 2 ^ D) := by rw [Nat.pow_succ 2 D, ← Nat.mul_assoc, Nat.mul_comm]
    refine ⟨_, 2 ^ 52, D, by rw [Option.map_some, hw], ?_, by omega, ?_, ?_⟩
    · rw [show (1074 - (D + 1)) * 2 ^ 52 + 2 ^ 53 = (1074 - D) * 2 ^ 52 + 2 ^ 52 by omega]
      exact read_kept s _ D (Nat.le_refl _) (by decide) (by omega)
    · have e := bd.1
      rw [hp] at e
      generalize A * 2 ^ D = Bb at *
      omega
    · have e := bd.2
      rw [hp] at e
      generalize A * 2 ^ D = Bb at *
      omega

theorem R_prime : R 8191 = 4665728114444206080 := by decide +kernel
/-- a quotient by 8191, made whole downwards -/
theorem quo_floor {a : Int} (h : a.natAbs < 2 ^ 39) : ∃ q, floatBits .quo .f64 (R a) 4665728114444206080 = some q ∧ (∃ s m e, double.read q = .number s m e) ∧ double.write ((double.read q).integral .down) = R (a / 8191) := by
  by_cases h0 : a = 0
  · subst h0
    exact ⟨0, by decide +kernel, ⟨_, _, _, rfl⟩, by decide +kernel⟩
  · obtain ⟨q, K, D, e1, e2, hD, b1, b2⟩ := quo_read (decide (a < 0)) a.natAbs (by omega) h
    have r1 := read_some (decide (a < 0)) a.natAbs (by omega) (by omega)
    have r2 := read_some false 8191 (by omega) (by omega)
    refine ⟨q, ?_, ⟨_, _, _, e2⟩, ?_⟩
    · rw [← R_prime]
      show double.div (R a) (R 8191) = _
      unfold Format.div
      have r3 : double.read (R 8191) = .number false (8191 * 2 ^ 40) (-(40 : Nat) : Int) := r2
      have r4 : double.read (R a) = _ := r1
      rw [r3, r4]
      exact e1
    · rw [e2]
      unfold Datum.integral
      simp only [show (-(D : Int)).toNat = 0 by omega, show (- -(D : Int)).toNat = D by omega, Nat.shiftLeft_zero]
      obtain ⟨f1, f2⟩ := floor_near a.natAbs K D hD b1 b2
      rw [cut_down, f1, f2]
      have hw := write_exact (decide (a < 0)) (a.natAbs / 8191 + (decide (a < 0) && a.natAbs % 8191 != 0).toNat) 0
      rw [Nat.pow_zero, Nat.mul_one] at hw
      have hb : (decide (a < 0) && a.natAbs % 8191 != 0).toNat ≤ 1 := Bool.toNat_le _
      have hw' : double.write (.number (decide (a < 0)) (a.natAbs / 8191 + (decide (a < 0) && a.natAbs % 8191 != 0).toNat) 0) = _ := hw (by omega)
      rw [hw']
      unfold R
      by_cases c : a < 0
      · by_cases d : a.natAbs % 8191 = 0
        · have t : (decide (a < 0) && a.natAbs % 8191 != 0).toNat = 0 := by rw [d]; simp
          rw [t, decide_eq_true c, decide_eq_true (by omega), show (a / 8191).natAbs = a.natAbs / 8191 + 0 by omega]
        · have t : (decide (a < 0) && a.natAbs % 8191 != 0).toNat = 1 := by rw [decide_eq_true c, bne_iff_ne.2 d]; rfl
          rw [t, decide_eq_true c, decide_eq_true (by omega), show (a / 8191).natAbs = a.natAbs / 8191 + 1 by omega]
      · have t : (decide (a < 0) && a.natAbs % 8191 != 0).toNat = 0 := by rw [decide_eq_false c]; rfl
        rw [t, decide_eq_false c, decide_eq_false (by omega), show (a / 8191).natAbs = a.natAbs / 8191 + 0 by omega]
end Go.Proofs.Ytjegopkaficbpaa.Flt
