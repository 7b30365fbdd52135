/- The power, by goto: walked. -/
import Derived.Test.YtjegopkaficbpaaTurnA
import Derived.ScopeJumps
namespace Go.Proofs.Ytjegopkaficbpaa.Mat
open Go.RowKit Fld Flt Trn

theorem and1_num (N : Nat) : bits .and .u64 (N : Int) 1 = ((N % 2 : Nat) : Int) := by
  show IntKind.u64.wrap ((BitVec.ofInt 64 (N : Int) &&& BitVec.ofInt 64 ((1 : Nat) : Int)).toNat : Int) = _
  rw [BitVec.toNat_and, BitVec.ofInt_natCast, BitVec.ofInt_natCast, BitVec.toNat_ofNat, BitVec.toNat_ofNat, show 1 % 2 ^ 64 = 1 from rfl, Nat.and_one_is_mod, IntKind.wrap_u64]
  omega
theorem and1_eq {N : Nat} (h : N % 2 = 1) : (bits .and .u64 (N : Int) 1 == 1) = true := by rw [and1_num, beq_iff_eq]; omega
theorem and1_ne {N : Nat} (h : N % 2 = 0) : (bits .and .u64 (N : Int) 1 == 1) = false := by rw [and1_num, beq_eq_false_iff_ne]; omega

/-- what holds when k is left of n -/
structure Pinv (n k : Nat) (o x : Tn) : Prop where
  mo : may o
  mx : may x
  eq : md (mu o (px x k)) = md (px st n)
theorem Pinv.start (n : Nat) : Pinv n n one st := ⟨by decide, by decide, by rw [one_mu]⟩
theorem inv_md (o x : Tn) (j : Nat) : md (mu (md o) (px (md x) j)) = md (mu o (px x j)) := by rw [md_mu1, ← md_mu2, px_md, md_mu2]
theorem Pinv.odd {n k : Nat} {o x : Tn} (h : Pinv n k o x) (hk : k % 2 = 1) : Pinv n (k / 2) (md (mu o x)) (md (mu x x)) :=
  ⟨may_md _, may_md _, by rw [inv_md, ← px_odd o x k hk, h.eq]⟩
theorem Pinv.even {n k : Nat} {o x : Tn} (h : Pinv n k o x) (hk : k % 2 = 0) : Pinv n (k / 2) o (md (mu x x)) :=
  ⟨h.mo, may_md _, by rw [← px_even' o x k hk, h.eq]⟩
theorem Pinv.done {n k : Nat} {o x : Tn} (h : Pinv n k o x) (hk : k = 0) : o = md (px st n) := by
  subst hk
  rw [← h.eq]
  show o = md (mu o one)
  rw [mu_one, md_may h.mo]
theorem mulc_may {x y : Tn} (hx : may x) (hy : may y) : cMulBits (R x.1) (R x.2) (R y.1) (R y.2) = some (R (mu x y).1, R (mu x y).2) := by
  obtain ⟨x0, x1, x2, x3⟩ := hx
  obtain ⟨y0, y1, y2, y3⟩ := hy
  exact cmul_R (by omega) (by omega) (by omega) (by omega) (.inl ⟨x0, x2, y0, y2⟩)
theorem mu_small {x y : Tn} (hx : may x) (hy : may y) : Sm 39 (mu x y).1 ∧ Sm 39 (mu x y).2 := by
  obtain ⟨x0, x1, x2, x3⟩ := hx
  obtain ⟨y0, y1, y2, y3⟩ := hy
  have bd : ∀ {a b : Int}, 0 ≤ a → a < 8191 → 0 ≤ b → b < 8191 → 0 ≤ a * b ∧ a * b ≤ 8190 * 8190 := fun h1 h2 h3 h4 => ⟨Int.mul_nonneg h1 h3, Int.mul_le_mul (by omega) (by omega) h3 (by omega)⟩
  have b1 := bd x0 x1 y0 y1
  have b2 := bd x2 x3 y2 y3
  have b3 := bd x0 x1 y2 y3
  have b4 := bd x2 x3 y0 y1
  constructor
  · show (x.1 * y.1 - x.2 * y.2).natAbs < _; omega
  · show (x.1 * y.2 + x.2 * y.1).natAbs < _; omega
theorem rest_mu {x y : Tn} (hx : may x) (hy : may y) (w : World) :
    Calls Try.prog 25 #[.complex .f64 (R (mu x y).1) (R (mu x y).2)] w fun e w' => e = .returned (.complex .f64 (R (md (mu x y)).1) (R (md (mu x y)).2)) ∧ w = w' :=
  rest_any _ _ (mu_small hx hy).1 (mu_small hx hy).2 w

/-- the frame at the label -/
def JP (n : Nat) (w : World) (a' : Act) (w' : World) : Prop :=
  w' = w ∧ ∃ (k : Nat) (o x : Tn), k ≤ n ∧ Pinv n k o x ∧ ∃ u5 u6 u7 u8 u9 u10 u11 u12 u13 u14 u15 u16 u17 u18 u19 u20 : Value, a' = { tmps := #[.int .u64 (k : Nat), undef, .complex .f64 0 0, .complex .f64 (R o.1) (R o.2), .complex .f64 (R x.1) (R x.2), u5, u6, u7, u8, u9, u10, u11, u12, u13, u14, u15, u16, u17, u18, u19, u20, undef], defers := [] }

set_option maxRecDepth 100000 in
set_option maxHeartbeats 800000 in
theorem power_any (n : Nat) (hn : n < 18446744073709551616) (w : World) :
    Calls Try.prog 27 #[.int .u64 (n : Nat)] w fun e w' => e = .returned (.complex .f64 (R (md (px st n)).1) (R (md (px st n)).2)) ∧ w = w' := by
  have HN := Lib.hid hn
  clear hn
  go_enter Try.func27, Try.ntmps27
  go_wp2
  refine wp_scope_jumps 0 (JP n w) (fun a' _ => (intOf (a'.tmps.getD 0 undef)).toNat) rfl ?_ ?_
  · have HP := Lib.hid (Pinv.start n)
    have m1 := mulc_run (mulc_may HP.out.mo HP.out.mx)
    have m2 := mulc_run (mulc_may HP.out.mx HP.out.mx)
    rw [show (one : Tn).1 = 1 from rfl, show (one : Tn).2 = 0 from rfl, ← R1, show R 0 = 0 from rfl, show (st : Tn).1 = 5 from rfl, show (st : Tn).2 = 3 from rfl] at m1
    rw [show (st : Tn).1 = 5 from rfl, show (st : Tn).2 = 3 from rfl] at m2
    by_cases hk1 : n % 2 = 1
    · by_cases hk2 : 0 < n / 2
      · have b1 := and1_eq (N := n) hk1
        have g1 : 0 < (n : Int) / 2 := by omega
        go_wp2_with fail
        refine (step_any _).mono ?_; rintro e w' ⟨rfl, rfl⟩
        go_wp2_with fail
        go_step3
        go_wp2_with fail
        refine (rest_mu HP.out.mo HP.out.mx _).mono ?_; rintro e w' ⟨rfl, rfl⟩
        go_wp2_with fail
        refine (rest_mu HP.out.mx HP.out.mx _).mono ?_; rintro e w' ⟨rfl, rfl⟩
        go_wp2_with fail
        go_step3
        exact ⟨rfl, ⟨rfl, n / 2, _, _, by omega, HP.out.odd hk1, _, _, _, _, _, _, _, _, _, _, _, _, _, _, _, _, rfl⟩⟩
      · have b1 := and1_eq (N := n) hk1
        have g1 : ¬ (0 < (n : Int) / 2) := by omega
        go_wp2_with fail
        refine (step_any _).mono ?_; rintro e w' ⟨rfl, rfl⟩
        go_wp2_with fail
        go_step3
        go_wp2_with fail
        refine (rest_mu HP.out.mo HP.out.mx _).mono ?_; rintro e w' ⟨rfl, rfl⟩
        go_wp2_with fail
        refine (rest_mu HP.out.mx HP.out.mx _).mono ?_; rintro e w' ⟨rfl, rfl⟩
        go_wp2_with fail
        simp only [Exit.jump]
        go_ret
        have e := (HP.out.odd hk1).done (by omega)
        exact ⟨by rw [← e]; rfl, rfl⟩
    · obtain hk1 : n % 2 = 0 := by omega
      by_cases hk2 : 0 < n / 2
      · have b1 := and1_ne (N := n) hk1
        have g1 : 0 < (n : Int) / 2 := by omega
        go_wp2_with fail
        refine (step_any _).mono ?_; rintro e w' ⟨rfl, rfl⟩
        go_wp2_with fail
        go_step3
        go_wp2_with fail
        refine (rest_mu HP.out.mx HP.out.mx _).mono ?_; rintro e w' ⟨rfl, rfl⟩
        go_wp2_with fail
        go_step3
        exact ⟨rfl, ⟨rfl, n / 2, _, _, by omega, HP.out.even hk1, _, _, _, _, _, _, _, _, _, _, _, _, _, _, _, _, rfl⟩⟩
      · have b1 := and1_ne (N := n) hk1
        have g1 : ¬ (0 < (n : Int) / 2) := by omega
        go_wp2_with fail
        refine (step_any _).mono ?_; rintro e w' ⟨rfl, rfl⟩
        go_wp2_with fail
        go_step3
        go_wp2_with fail
        refine (rest_mu HP.out.mx HP.out.mx _).mono ?_; rintro e w' ⟨rfl, rfl⟩
        go_wp2_with fail
        simp only [Exit.jump]
        go_ret
        have e := (HP.out.even hk1).done (by omega)
        exact ⟨by rw [← e]; rfl, rfl⟩
  · rintro a' w' ⟨rfl, k, o, x, hk, hP, u5, u6, u7, u8, u9, u10, u11, u12, u13, u14, u15, u16, u17, u18, u19, u20, rfl⟩
    have HP := Lib.hid hP
    have m1 := mulc_run (mulc_may hP.mo hP.mx)
    have m2 := mulc_run (mulc_may hP.mx hP.mx)
    have HK := Lib.hid hk
    clear hP hk
    by_cases hk1 : k % 2 = 1
    · by_cases hk2 : 0 < k / 2
      · have b1 := and1_eq (N := k) hk1
        have g1 : 0 < (k : Int) / 2 := by omega
        go_wp2_with fail
        refine (rest_mu HP.out.mo HP.out.mx _).mono ?_; rintro e w' ⟨rfl, rfl⟩
        go_wp2_with fail
        refine (rest_mu HP.out.mx HP.out.mx _).mono ?_; rintro e w' ⟨rfl, rfl⟩
        go_wp2_with fail
        go_step3
        refine ⟨rfl, ⟨rfl, k / 2, _, _, by have := HK.out; omega, HP.out.odd hk1, _, _, _, _, _, _, _, _, _, _, _, _, _, _, _, _, rfl⟩, ?_⟩
        simp [intOf]; omega
      · have b1 := and1_eq (N := k) hk1
        have g1 : ¬ (0 < (k : Int) / 2) := by omega
        go_wp2_with fail
        refine (rest_mu HP.out.mo HP.out.mx _).mono ?_; rintro e w' ⟨rfl, rfl⟩
        go_wp2_with fail
        refine (rest_mu HP.out.mx HP.out.mx _).mono ?_; rintro e w' ⟨rfl, rfl⟩
        go_wp2_with fail
        simp only [Exit.jump]
        go_ret
        have e := (HP.out.odd hk1).done (by omega)
        exact ⟨by rw [← e]; rfl, rfl⟩
    · obtain hk1 : k % 2 = 0 := by omega
      by_cases hk2 : 0 < k / 2
      · have b1 := and1_ne (N := k) hk1
        have g1 : 0 < (k : Int) / 2 := by omega
        go_wp2_with fail
        refine (rest_mu HP.out.mx HP.out.mx _).mono ?_; rintro e w' ⟨rfl, rfl⟩
        go_wp2_with fail
        go_step3
        refine ⟨rfl, ⟨rfl, k / 2, _, _, by have := HK.out; omega, HP.out.even hk1, _, _, _, _, _, _, _, _, _, _, _, _, _, _, _, _, rfl⟩, ?_⟩
        simp [intOf]; omega
      · have b1 := and1_ne (N := k) hk1
        have g1 : ¬ (0 < (k : Int) / 2) := by omega
        go_wp2_with fail
        refine (rest_mu HP.out.mx HP.out.mx _).mono ?_; rintro e w' ⟨rfl, rfl⟩
        go_wp2_with fail
        simp only [Exit.jump]
        go_ret
        have e := (HP.out.even hk1).done (by omega)
        exact ⟨by rw [← e]; rfl, rfl⟩
end Go.Proofs.Ytjegopkaficbpaa.Mat
