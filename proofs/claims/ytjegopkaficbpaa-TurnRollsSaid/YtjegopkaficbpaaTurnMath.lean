/- Turns: whole complex numbers, modulo 8191; powers and prints of them. No dump is imported. -/
namespace Go.Proofs.Ytjegopkaficbpaa.Trn

abbrev Tn := Int × Int
def mu (x y : Tn) : Tn := (x.1 * y.1 - x.2 * y.2, x.1 * y.2 + x.2 * y.1)
def ad (x y : Tn) : Tn := (x.1 + y.1, x.2 + y.2)
def ng (x : Tn) : Tn := (-x.1, -x.2)
/-- modulo the prime -/
def md (x : Tn) : Tn := (x.1 % 8191, x.2 % 8191)
def one : Tn := (1, 0)
def st : Tn := (5, 3)
/-- powers -/
def px (x : Tn) : Nat → Tn
  | 0 => one
  | n + 1 => mu (px x n) x
theorem mu_comm (x y : Tn) : mu x y = mu y x := by unfold mu; ext <;> simp <;> grind
theorem mu_assoc (x y z : Tn) : mu (mu x y) z = mu x (mu y z) := by unfold mu; ext <;> simp <;> grind
theorem mu_one (x : Tn) : mu x one = x := by unfold mu one; ext <;> simp
theorem one_mu (x : Tn) : mu one x = x := by rw [mu_comm, mu_one]
theorem mu_ad (x y z : Tn) : mu (ad x y) z = ad (mu x z) (mu y z) := by unfold mu ad; ext <;> simp <;> grind
theorem ad_assoc (x y z : Tn) : ad (ad x y) z = ad x (ad y z) := by unfold ad; ext <;> simp <;> grind
theorem md_md (x : Tn) : md (md x) = md x := by unfold md; ext <;> simp
theorem md_ad (x y : Tn) : md (ad (md x) (md y)) = md (ad x y) := by unfold md ad; ext <;> simp
theorem md_ad1 (x y : Tn) : md (ad (md x) y) = md (ad x y) := by unfold md ad; ext <;> simp
theorem md_mu (x y : Tn) : md (mu (md x) (md y)) = md (mu x y) := by
  unfold md mu
  ext
  · show (x.1 % 8191 * (y.1 % 8191) - x.2 % 8191 * (y.2 % 8191)) % 8191 = (x.1 * y.1 - x.2 * y.2) % 8191
    rw [Int.sub_emod, ← Int.mul_emod, ← Int.mul_emod, ← Int.sub_emod]
  · show (x.1 % 8191 * (y.2 % 8191) + x.2 % 8191 * (y.1 % 8191)) % 8191 = (x.1 * y.2 + x.2 * y.1) % 8191
    rw [Int.add_emod, ← Int.mul_emod, ← Int.mul_emod, ← Int.add_emod]
theorem md_mu1 (x y : Tn) : md (mu (md x) y) = md (mu x y) := by rw [← md_mu, md_md, md_mu]
theorem md_mu2 (x y : Tn) : md (mu x (md y)) = md (mu x y) := by rw [mu_comm, md_mu1, mu_comm]
/-- it may be -/
def may (x : Tn) : Prop := 0 ≤ x.1 ∧ x.1 < 8191 ∧ 0 ≤ x.2 ∧ x.2 < 8191
instance (x : Tn) : Decidable (may x) := by unfold may; infer_instance
theorem may_md (x : Tn) : may (md x) := by unfold may md; simp only; omega
theorem md_may {x : Tn} (h : may x) : md x = x := by
  obtain ⟨a, b⟩ := x
  unfold may at h
  unfold md
  simp only [Prod.mk.injEq] at h ⊢
  omega
theorem px_add (x : Tn) (m n : Nat) : px x (m + n) = mu (px x m) (px x n) := by
  induction n with
  | zero => exact (mu_one _).symm
  | succ n ih => show mu (px x (m + n)) x = mu (px x m) (mu (px x n) x); rw [ih, mu_assoc]
theorem px_two (x : Tn) (n : Nat) : px (mu x x) n = px x (2 * n) := by
  induction n with
  | zero => rfl
  | succ n ih =>
    rw [show 2 * (n + 1) = 2 * n + 1 + 1 by omega]
    show mu (px (mu x x) n) (mu x x) = mu (mu (px x (2 * n)) x) x
    rw [ih, mu_assoc]
theorem px_odd (o x : Tn) (n : Nat) (h : n % 2 = 1) : mu o (px x n) = mu (mu o x) (px (mu x x) (n / 2)) := by
  rw [px_two, mu_assoc]
  congr 1
  obtain ⟨m, rfl⟩ : ∃ m, n = 2 * m + 1 := ⟨n / 2, by omega⟩
  rw [show 2 * ((2 * m + 1) / 2) = 2 * m by omega, mu_comm]
  rfl
theorem px_even (o x : Tn) (n : Nat) (h : n % 2 = 0) : mu o (px x n) = mu o (px (mu x x) (n / 2)) := by
  rw [px_two, show 2 * (n / 2) = n by omega]
theorem px_md (x : Tn) (n : Nat) : md (px (md x) n) = md (px x n) := by
  induction n with
  | zero => rfl
  | succ n ih =>
    show md (mu (px (md x) n) (md x)) = md (mu (px x n) x)
    rw [md_mu2, ← md_mu1, ih, md_mu1]

theorem px_even' (o x : Tn) (n : Nat) (h : n % 2 = 0) : md (mu o (px x n)) = md (mu o (px (md (mu x x)) (n / 2))) := by
  rw [px_even o x n h, ← md_mu2, ← px_md, md_mu2]

/-- the print of n bytes, each with one more -/
def pr (f : Nat → Int) : Nat → Tn
  | 0 => (0, 0)
  | k + 1 => ad (mu (pr f k) st) (f k, 0)
theorem pr_congr {f g : Nat → Int} {n : Nat} (h : ∀ i, i < n → f i = g i) : pr f n = pr g n := by
  induction n with
  | zero => rfl
  | succ n ih => show ad (mu (pr f n) st) (f n, 0) = ad (mu (pr g n) st) (g n, 0); rw [ih fun i hi => h i (by omega), h n (by omega)]
/-- one behind the other -/
theorem pr_join (f : Nat → Int) (m n : Nat) : pr f (m + n) = ad (mu (pr f m) (px st n)) (pr (fun i => f (m + i)) n) := by
  induction n with
  | zero =>
    show pr f m = ad (mu (pr f m) one) (0, 0)
    rw [mu_one]; unfold ad; ext <;> simp
  | succ n ih =>
    show ad (mu (pr f (m + n)) st) (f (m + n), 0) = ad (mu (pr f m) (mu (px st n) st)) (ad (mu (pr (fun i => f (m + i)) n) st) (f (m + n), 0))
    rw [ih, mu_ad, ad_assoc, mu_assoc]
/-- the window that begins one byte later -/
theorem pr_roll (f : Nat → Int) (n : Nat) : pr (fun i => f (1 + i)) (n + 1) = ad (mu (ad (pr f (n + 1)) (ng (mu (px st n) (f 0, 0)))) st) (f (n + 1), 0) := by
  have h := pr_join f 1 n
  rw [show 1 + n = n + 1 by omega] at h
  have h1 : pr f 1 = (f 0, 0) := by unfold pr pr ad mu st; ext <;> simp
  rw [h1] at h
  have e : ad (pr f (n + 1)) (ng (mu (px st n) (f 0, 0))) = pr (fun i => f (1 + i)) n := by
    rw [h, mu_comm (px st n)]
    unfold ad ng
    ext <;> simp <;> omega
  rw [e]
  show ad (mu (pr (fun i => f (1 + i)) n) st) (f (1 + n), 0) = _
  rw [show 1 + n = n + 1 by omega]
theorem px_norm (n : Nat) : (px st n).1 * (px st n).1 + (px st n).2 * (px st n).2 = 34 ^ n := by
  induction n with
  | zero => rfl
  | succ n ih =>
    rw [Int.pow_succ, ← ih]
    show (mu (px st n) st).1 * (mu (px st n) st).1 + (mu (px st n) st).2 * (mu (px st n) st).2 = _
    unfold mu st
    simp only
    grind
theorem coprime_step (n : Nat) : Nat.gcd (34 ^ n) 8191 = 1 := Nat.Coprime.pow_left n (by decide)
/-- no number but 0 (modulo the prime) times a power is 0 -/
theorem times_px {d : Int} {n : Nat} (h : md (mu (d, 0) (px st n)) = (0, 0)) : d % 8191 = 0 := by
  have h1 : (d * (px st n).1) % 8191 = 0 := by have := congrArg Prod.fst h; unfold md mu at this; simpa using this
  have h2 : (d * (px st n).2) % 8191 = 0 := by have := congrArg Prod.snd h; unfold md mu at this; simpa using this
  have h3 : (8191 : Int) ∣ d * 34 ^ n := by
    rw [← px_norm n]
    have e : d * ((px st n).1 * (px st n).1 + (px st n).2 * (px st n).2) = d * (px st n).1 * (px st n).1 + d * (px st n).2 * (px st n).2 := by grind
    rw [e]
    exact Int.dvd_add (Int.dvd_mul_of_dvd_left (Int.dvd_of_emod_eq_zero h1)) (Int.dvd_mul_of_dvd_left (Int.dvd_of_emod_eq_zero h2))
  have h4 : (8191 : Nat) ∣ d.natAbs * 34 ^ n := by
    have := Int.natAbs_dvd_natAbs.2 h3
    rwa [Int.natAbs_mul, Int.natAbs_pow] at this
  have h5 : (8191 : Nat) ∣ d.natAbs := Nat.Coprime.dvd_of_dvd_mul_right (Nat.Coprime.symm (coprime_step n)) h4
  omega
/-- where one byte alone is another one, the prints are unlike -/
theorem pr_tells {f g : Nat → Int} {m n : Nat} (h : ∀ i, i ≠ m → f i = g i) (hm : m < n) (he : md (pr f n) = md (pr g n)) : (f m - g m) % 8191 = 0 := by
  obtain ⟨k, rfl⟩ : ∃ k, n = m + 1 + k := ⟨n - m - 1, by omega⟩
  rw [pr_join f (m + 1) k, pr_join g (m + 1) k, pr_congr (f := fun i => f (m + 1 + i)) (g := fun i => g (m + 1 + i)) (fun i _ => h _ (by omega))] at he
  generalize pr (fun i => g (m + 1 + i)) k = z at he
  have e : pr f (m + 1) = ad (pr g (m + 1)) (f m - g m, 0) := by
    show ad (mu (pr f m) st) (f m, 0) = ad (ad (mu (pr g m) st) (g m, 0)) (f m - g m, 0)
    rw [pr_congr (f := f) (g := g) (fun i hi => h i (by omega))]
    unfold ad
    ext <;> simp
    omega
  rw [e, mu_ad] at he
  refine times_px (n := k) ?_
  generalize mu (pr g (m + 1)) (px st k) = u at he
  generalize mu (f m - g m, 0) (px st k) = v at *
  obtain ⟨u1, u2⟩ := u
  obtain ⟨v1, v2⟩ := v
  obtain ⟨z1, z2⟩ := z
  unfold md ad at he
  unfold md
  simp only [Prod.mk.injEq] at he ⊢
  omega
end Go.Proofs.Ytjegopkaficbpaa.Trn
