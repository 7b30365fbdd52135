/- The field of 256 elements, over registers of eight bits. No dump is imported. -/
namespace Go.Proofs.Ytohbijjkkadbaaa.Fld

/-- an element times 2 -/
def dbl (x : BitVec 8) : BitVec 8 := (x <<< 1) ^^^ (if x.msb then 29#8 else 0#8)
/-- times 2, so often -/
def dbls : Nat → BitVec 8 → BitVec 8
  | 0, x => x
  | n + 1, x => dbl (dbls n x)
/-- a round of a product: the highest bit first -/
def rd (x p : BitVec 8) (c : Bool) : BitVec 8 := dbl p ^^^ (if c then x else 0#8)
def mulL (x : BitVec 8) (p : BitVec 8) (l : List Bool) : BitVec 8 := l.foldl (rd x) p
def bits8 (y : BitVec 8) : List Bool := [y.getLsbD 7, y.getLsbD 6, y.getLsbD 5, y.getLsbD 4, y.getLsbD 3, y.getLsbD 2, y.getLsbD 1, y.getLsbD 0]
/-- the product -/
def gm (x y : BitVec 8) : BitVec 8 := mulL x 0#8 (bits8 y)
/-- the powers of the generator -/
def E (n : Nat) : BitVec 8 := dbls n 1#8
/-- the power -/
def pw (x : BitVec 8) : Nat → BitVec 8
  | 0 => 1#8
  | n + 1 => gm x (pw x n)
/-- the logarithm, by looking -/
def lgo (x : BitVec 8) : Nat → BitVec 8 → Nat → Nat
  | 0, _, n => n
  | f + 1, p, n => if p = x then n else lgo x f (dbl p) (n + 1)
def L (x : BitVec 8) : Nat := lgo x 255 1#8 0
/-- the inverse -/
def iv (x : BitVec 8) : BitVec 8 := E (255 - L x)

theorem xor_lc (a b c : BitVec 8) : a ^^^ (b ^^^ c) = b ^^^ (a ^^^ c) := by
  rw [← BitVec.xor_assoc, BitVec.xor_comm a b, BitVec.xor_assoc]
theorem dbl_xor (a b : BitVec 8) : dbl (a ^^^ b) = dbl a ^^^ dbl b := by
  unfold dbl
  rw [BitVec.shiftLeft_xor_distrib, BitVec.msb_xor]
  generalize a <<< 1 = c
  generalize b <<< 1 = d
  have z : 29#8 ^^^ 29#8 = 0#8 := by decide
  cases a.msb <;> cases b.msb <;> simp only [Bool.false_xor, Bool.true_xor, Bool.not_true, Bool.not_false, if_true, if_false, Bool.false_eq_true, BitVec.xor_zero, BitVec.xor_assoc]
  · exact congrArg (c ^^^ ·) (BitVec.xor_comm _ _)
  · rw [xor_lc 29#8 d 29#8, z, BitVec.xor_zero]
theorem dbl_zero : dbl 0#8 = 0#8 := by decide +kernel
theorem dbl_nz : ∀ x : BitVec 8, dbl x = 0#8 → x = 0#8 := by decide +kernel

theorem dbls_xor (n : Nat) (a b : BitVec 8) : dbls n (a ^^^ b) = dbls n a ^^^ dbls n b := by
  induction n with
  | zero => rfl
  | succ n ih => rw [dbls, ih, dbl_xor]; rfl
theorem dbls_zero (n : Nat) : dbls n 0#8 = 0#8 := by
  induction n with
  | zero => rfl
  | succ n ih => rw [dbls, ih, dbl_zero]
theorem dbls_add (m n : Nat) (x : BitVec 8) : dbls (m + n) x = dbls m (dbls n x) := by
  induction m with
  | zero => rw [Nat.zero_add]; rfl
  | succ m ih => rw [show m + 1 + n = (m + n) + 1 by omega, dbls, ih]; rfl
theorem dbls_nz (n : Nat) (x : BitVec 8) (h : dbls n x = 0#8) : x = 0#8 := by
  induction n with
  | zero => exact h
  | succ n ih => exact ih (dbl_nz _ h)

theorem mulL_dbl (x : BitVec 8) (l : List Bool) : ∀ p, mulL (dbl x) (dbl p) l = dbl (mulL x p l) := by
  induction l with
  | nil => intro p; rfl
  | cons c l ih =>
    intro p
    have e : rd (dbl x) (dbl p) c = dbl (rd x p c) := by
      unfold rd; rw [dbl_xor]; cases c
      · simp [dbl_zero]
      · simp
    show mulL (dbl x) (rd (dbl x) (dbl p) c) l = dbl (mulL x (rd x p c) l)
    rw [e, ih]
theorem gm_dbl (x y : BitVec 8) : gm (dbl x) y = dbl (gm x y) := by
  unfold gm
  have := mulL_dbl x (bits8 y) 0#8
  rwa [dbl_zero] at this
theorem gm_one_left : ∀ y : BitVec 8, gm 1#8 y = y := by decide +kernel
theorem gm_zero_left : ∀ y : BitVec 8, gm 0#8 y = 0#8 := by decide +kernel
theorem gm_zero_right : ∀ x : BitVec 8, gm x 0#8 = 0#8 := by decide +kernel
theorem gm_E (n : Nat) (y : BitVec 8) : gm (E n) y = dbls n y := by
  induction n with
  | zero => exact gm_one_left y
  | succ n ih =>
    show gm (dbl (E n)) y = dbl (dbls n y)
    rw [gm_dbl, ih]

theorem E_zero : E 0 = 1#8 := rfl
theorem E_one : E 1 = 2#8 := by decide +kernel
theorem E_succ (n : Nat) : E (n + 1) = dbl (E n) := rfl
theorem E_add (m n : Nat) : E (m + n) = dbls m (E n) := dbls_add m n 1#8
theorem E_nz (n : Nat) : E n ≠ 0#8 := fun h => absurd (dbls_nz n 1#8 h) (by decide)
theorem E_full : E 255 = 1#8 := by decide +kernel
theorem E_per (n : Nat) : E (n + 255) = E n := by rw [E_add, E_full]; rfl
theorem E_mod (n : Nat) : E (n % 255) = E n := by
  induction n using Nat.strongRecOn with
  | _ n ih =>
    by_cases h : n < 255
    · rw [Nat.mod_eq_of_lt h]
    · have := ih (n - 255) (by omega)
      rw [show n % 255 = (n - 255) % 255 by omega, this]
      have e := E_per (n - 255)
      rwa [show n - 255 + 255 = n by omega, eq_comm] at e
theorem E_L : ∀ x : BitVec 8, x ≠ 0#8 → E (L x) = x := by decide +kernel
theorem L_lt : ∀ x : BitVec 8, x ≠ 0#8 → L x < 255 := by decide +kernel
theorem L_E0 : ∀ n : Fin 255, L (E n.val) = n.val := by decide +kernel
theorem L_E (n : Nat) : L (E n) = n % 255 := by
  rw [← E_mod]; exact L_E0 ⟨n % 255, Nat.mod_lt _ (by omega)⟩
theorem L_E_lt (n : Nat) (h : n < 255) : L (E n) = n := L_E0 ⟨n, h⟩
theorem gen (x : BitVec 8) (h : x ≠ 0#8) : ∃ n, n < 255 ∧ x = E n := ⟨L x, L_lt x h, (E_L x h).symm⟩

theorem gm_EE (m n : Nat) : gm (E m) (E n) = E (m + n) := by rw [gm_E, E_add]
theorem gm_one_right (x : BitVec 8) : gm x 1#8 = x := by
  by_cases h : x = 0#8
  · subst h; exact gm_zero_left _
  · obtain ⟨n, _, rfl⟩ := gen x h; rw [← E_zero, gm_EE]; rfl
theorem gm_comm (x y : BitVec 8) : gm x y = gm y x := by
  by_cases hx : x = 0#8
  · subst hx; rw [gm_zero_left, gm_zero_right]
  · by_cases hy : y = 0#8
    · subst hy; rw [gm_zero_left, gm_zero_right]
    · obtain ⟨m, _, rfl⟩ := gen x hx
      obtain ⟨n, _, rfl⟩ := gen y hy
      rw [gm_EE, gm_EE, Nat.add_comm]
theorem gm_assoc (x y z : BitVec 8) : gm (gm x y) z = gm x (gm y z) := by
  by_cases hx : x = 0#8
  · subst hx; simp only [gm_zero_left]
  · by_cases hy : y = 0#8
    · subst hy; simp only [gm_zero_left, gm_zero_right]
    · obtain ⟨m, _, rfl⟩ := gen x hx
      obtain ⟨n, _, rfl⟩ := gen y hy
      rw [gm_EE, gm_E, gm_E, gm_E, dbls_add]
theorem gm_xor (x y z : BitVec 8) : gm x (y ^^^ z) = gm x y ^^^ gm x z := by
  by_cases hx : x = 0#8
  · subst hx; simp only [gm_zero_left]; rfl
  · obtain ⟨m, _, rfl⟩ := gen x hx
    rw [gm_E, gm_E, gm_E, dbls_xor]
theorem gm_xor_left (x y z : BitVec 8) : gm (x ^^^ y) z = gm x z ^^^ gm y z := by
  rw [gm_comm, gm_xor, gm_comm z x, gm_comm z y]
theorem gm_zero (x y : BitVec 8) : gm x y = 0#8 ↔ x = 0#8 ∨ y = 0#8 := by
  constructor
  · intro h
    by_cases hx : x = 0#8
    · exact .inl hx
    · obtain ⟨m, _, rfl⟩ := gen x hx
      rw [gm_E] at h
      exact .inr (dbls_nz _ _ h)
  · rintro (rfl | rfl)
    · exact gm_zero_left _
    · exact gm_zero_right _
theorem gm_two (x : BitVec 8) : gm x 2#8 = dbl x := by rw [gm_comm, ← E_one, gm_E]; rfl

theorem gm_iv (x : BitVec 8) (h : x ≠ 0#8) : gm x (iv x) = 1#8 := by
  have hl := L_lt x h
  have e : gm (E (L x)) (E (255 - L x)) = 1#8 := by rw [gm_EE, show L x + (255 - L x) = 255 by omega, E_full]
  rwa [E_L x h] at e
theorem iv_one (x y : BitVec 8) (h : x ≠ 0#8) : gm x y = 1#8 ↔ y = iv x := by
  constructor
  · intro e
    have : gm (iv x) (gm x y) = gm (iv x) 1#8 := by rw [e]
    rw [← gm_assoc, gm_comm (iv x) x, gm_iv x h, gm_one_left, gm_one_right] at this
    exact this
  · rintro rfl; exact gm_iv x h
theorem iv_nz (x : BitVec 8) : iv x ≠ 0#8 := E_nz _

/-! ### powers -/
theorem pw_zero (x : BitVec 8) : pw x 0 = 1#8 := rfl
theorem pw_succ (x : BitVec 8) (n : Nat) : pw x (n + 1) = gm x (pw x n) := rfl
theorem pw_add (x : BitVec 8) (m n : Nat) : pw x (m + n) = gm (pw x m) (pw x n) := by
  induction m with
  | zero => rw [Nat.zero_add, pw_zero, gm_one_left]
  | succ m ih => rw [show m + 1 + n = (m + n) + 1 by omega, pw_succ, ih, pw_succ, gm_assoc]
theorem pw_sq (x : BitVec 8) (n : Nat) : pw (gm x x) n = pw x (2 * n) := by
  induction n with
  | zero => rfl
  | succ n ih => rw [pw_succ, ih, show 2 * (n + 1) = (2 * n + 1) + 1 by omega, pw_succ, pw_succ, gm_assoc]
theorem pw_E (k n : Nat) : pw (E k) n = E (k * n) := by
  induction n with
  | zero => rfl
  | succ n ih => rw [pw_succ, ih, gm_EE]; congr 1; rw [Nat.mul_succ, Nat.add_comm]
theorem pw_two (n : Nat) : pw 2#8 n = E n := by rw [← E_one, pw_E, Nat.one_mul]
theorem pw_full (x : BitVec 8) (h : x ≠ 0#8) : pw x 255 = 1#8 := by
  obtain ⟨n, _, rfl⟩ := gen x h
  rw [pw_E, ← E_mod, Nat.mul_mod_left]; rfl
theorem pw_iv (x : BitVec 8) (h : x ≠ 0#8) : pw x 254 = iv x := by
  rw [← iv_one x _ h]
  exact pw_full x h
/-- a round of the power: half as many, the square -/
theorem pw_even (p x : BitVec 8) (n : Nat) (h : n % 2 = 0) : gm p (pw x n) = gm p (pw (gm x x) (n / 2)) := by
  rw [pw_sq]; congr 2; omega
theorem pw_odd (p x : BitVec 8) (n : Nat) (h : n % 2 = 1) : gm p (pw x n) = gm (gm p x) (pw (gm x x) (n / 2)) := by
  rw [pw_sq, gm_assoc]
  show _ = gm p (pw x (2 * (n / 2) + 1))
  congr 2; omega

/-! ### logarithms -/
theorem L_gm (x y : BitVec 8) (hx : x ≠ 0#8) (hy : y ≠ 0#8) : L (gm x y) = (L x + L y) % 255 := by
  conv => lhs; rw [← E_L x hx, ← E_L y hy, gm_EE]
  exact L_E _
theorem L_iv (x : BitVec 8) : L (iv x) = (255 - L x) % 255 := L_E _
theorem L_inj (x y : BitVec 8) (hx : x ≠ 0#8) (hy : y ≠ 0#8) : L x = L y ↔ x = y :=
  ⟨fun h => by rw [← E_L x hx, h, E_L y hy], fun h => by rw [h]⟩
/-- below the logarithm no power is it -/
theorem L_least (x : BitVec 8) (n : Nat) (h : n < L x) (hx : x ≠ 0#8) : E n ≠ x := by
  intro e
  have hl := L_lt x hx
  have h2 := L_E_lt n (by omega)
  rw [e] at h2
  omega

end Go.Proofs.Ytohbijjkkadbaaa.Fld
