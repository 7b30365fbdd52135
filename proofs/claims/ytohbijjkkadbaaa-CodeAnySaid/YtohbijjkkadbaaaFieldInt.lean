/- Elements as numbers, as the walk spells them. No dump is imported. -/
import Derived.Test.YtohbijjkkadbaaaFieldMath
import Derived.WalkKit
namespace Go.Proofs.Ytohbijjkkadbaaa.Fld
open Go.RowKit

/-- an element as a number, and back -/
def V (r : BitVec 8) : Int := (r.toNat : Int)
def B (a : Int) : BitVec 8 := BitVec.ofNat 8 a.toNat

theorem V_lo (r : BitVec 8) : 0 ≤ V r := by unfold V; omega
theorem V_hi (r : BitVec 8) : V r < 256 := by have := r.isLt; unfold V; omega
theorem B_V (r : BitVec 8) : B (V r) = r := by unfold B V; simp
theorem V_B (a : Int) (h0 : 0 ≤ a) (h1 : a < 256) : V (B a) = a := by
  unfold B V; rw [BitVec.toNat_ofNat, Nat.mod_eq_of_lt (by omega)]; omega
theorem V_inj {a b : BitVec 8} (h : V a = V b) : a = b := by rw [← B_V a, h, B_V]
theorem V_beq (a b : BitVec 8) : (V a == V b) = (a == b) := by
  rw [Bool.eq_iff_iff, beq_iff_eq, beq_iff_eq]; exact ⟨V_inj, fun h => by rw [h]⟩
theorem V_toNat (c : BitVec 8) : (V c).toNat = c.toNat := by unfold V; simp
theorem xor_V (a b : BitVec 8) : bits .xor .u8 (V a) (V b) = V (a ^^^ b) := by
  unfold V; rw [u8_xor_nat _ _ a.isLt b.isLt, BitVec.toNat_xor]
theorem B_nz (a : Int) (h0 : 0 ≤ a) (h1 : a < 256) (h : a ≠ 0) : B a ≠ 0#8 := by
  intro e; apply h; rw [← V_B a h0 h1, e]; rfl
theorem V_zero : V 0#8 = 0 := by decide
theorem V_one : V 1#8 = 1 := by decide

theorem dbl_num0 : ∀ x : BitVec 8, bits .xor .u8 (V x * 2 % 256) (V x / 128 * 29) = V (dbl x) := by decide +kernel
theorem dbl_num (a : Int) (h0 : 0 ≤ a) (h1 : a < 256) : bits .xor .u8 (a * 2 % 256) (a / 128 * 29) = V (dbl (B a)) := by
  rw [← dbl_num0 (B a), V_B a h0 h1]

/-- the bit number k of a byte, the highest one first, as the walk spells it -/
theorem bit_num (b : Int) (k : Nat) (h0 : 0 ≤ b) (h1 : b < 256) (hk : k < 8) :
    bits .and .u8 (b / 2 ^ (7 - k)) 1 = if (B b).getLsbD (7 - k) then 1 else 0 := by
  have hb : b = V (B b) := (V_B b h0 h1).symm
  have e : ∀ c : Fin 8, ∀ x : BitVec 8, bits .and .u8 (V x / 2 ^ (7 - c.val)) 1 = if x.getLsbD (7 - c.val) then 1 else 0 := by
    decide +kernel
  have := e ⟨k, hk⟩ (B b)
  rw [← hb] at this
  exact this
theorem bits8_take (x : BitVec 8) (k : Nat) (hk : k < 8) : (bits8 x).take (k + 1) = (bits8 x).take k ++ [x.getLsbD (7 - k)] := by
  unfold bits8
  match k, hk with
  | 0, _ | 1, _ | 2, _ | 3, _ | 4, _ | 5, _ | 6, _ | 7, _ => rfl
theorem mulL_snoc (x p : BitVec 8) (l : List Bool) (c : Bool) : mulL x p (l ++ [c]) = rd x (mulL x p l) c := by
  unfold mulL; rw [List.foldl_append]; rfl
/-- what stands when k rounds are through -/
def mk (x y : BitVec 8) (k : Nat) : BitVec 8 := mulL x 0#8 ((bits8 y).take k)
theorem mk_zero (x y : BitVec 8) : mk x y 0 = 0#8 := rfl
theorem mk_end (x y : BitVec 8) : mk x y 8 = gm x y := rfl

theorem mk_next (x y : BitVec 8) (k : Nat) (hk : k < 8) : mk x y (k + 1) = dbl (mk x y k) ^^^ (if y.getLsbD (7 - k) then x else 0#8) := by
  unfold mk; rw [bits8_take _ k hk, mulL_snoc]; rfl
theorem mul_round (a b : Int) (k : Nat) (h0 : 0 ≤ a) (h1 : a < 256) (h2 : 0 ≤ b) (h3 : b < 256) (hk : k < 8) :
    bits .xor .u8 (V (dbl (B (V (mk (B a) (B b) k))))) (bits .and .u8 (b / 2 ^ (7 - k)) 1 * a % 256) = V (mk (B a) (B b) (k + 1)) := by
  rw [bit_num b k h2 h3 hk, B_V, mk_next _ _ k hk, ← xor_V]
  cases (B b).getLsbD (7 - k)
  · simp only [Bool.false_eq_true, if_false]; rw [show (0 : Int) * a % 256 = V 0#8 by rw [V_zero]; omega]
  · simp only [if_true]; rw [show (1 : Int) * a % 256 = V (B a) by rw [V_B a h0 h1]; omega]

/-! ### the document's own product: the polynomials', then its rest -/
/-- sixteen bits as a number -/
def U (r : BitVec 16) : Int := (r.toNat : Int)
theorem U_lo (r : BitVec 16) : 0 ≤ U r := by unfold U; omega
theorem U_hi (r : BitVec 16) : U r < 65536 := by have := r.isLt; unfold U; omega

theorem i64_xor_nat (a b : Nat) (ha : a < 4611686018427387904) (hb : b < 4611686018427387904) : bits .xor .i64 (a : Int) (b : Int) = ((a ^^^ b : Nat) : Int) := by
  have hx : a ^^^ b < 2 ^ 62 := Nat.xor_lt_two_pow (by omega) (by omega)
  have e : ∀ c : Nat, c < 4611686018427387904 → (BitVec.ofInt 64 (c : Int)).toNat = c := by
    intro c hc; rw [BitVec.ofInt_natCast, BitVec.toNat_ofNat]; exact Nat.mod_eq_of_lt (by omega)
  show IntKind.i64.wrap ((BitVec.ofInt 64 (a : Int) ^^^ BitVec.ofInt 64 (b : Int)).toNat : Int) = _
  rw [BitVec.toNat_xor, e a ha, e b hb, IntKind.wrap_i64]
  omega
theorem xor_U (a b : BitVec 16) : bits .xor .i64 (U a) (U b) = U (a ^^^ b) := by
  have := a.isLt
  have := b.isLt
  unfold U; rw [i64_xor_nat _ _ (by omega) (by omega), BitVec.toNat_xor]

/-- x, moved up by k places -/
def up (x : BitVec 8) (k : Nat) : BitVec 16 := x.setWidth 16 <<< k
/-- the product of the polynomials, of the lowest k bits of y -/
def cl (x y : BitVec 8) : Nat → BitVec 16
  | 0 => 0#16
  | k + 1 => cl x y k ^^^ (if y.getLsbD k then up x k else 0#16)
theorem up_num (x : BitVec 8) (k : Nat) (hk : k ≤ 8) : U (up x k) = V x * 2 ^ k := by
  have h := x.isLt
  unfold U up V
  have hp : 2 ^ k ≤ 2 ^ 8 := Nat.pow_le_pow_right (by omega) hk
  have hm : x.toNat * 2 ^ k ≤ 255 * 2 ^ k := Nat.mul_le_mul_right _ (by omega)
  have hm2 : x.toNat * 2 ^ k < 65536 := by
    have : 255 * 2 ^ k ≤ 255 * 2 ^ 8 := Nat.mul_le_mul_left _ hp
    omega
  have hx : x.toNat % 2 ^ 16 = x.toNat := Nat.mod_eq_of_lt (by omega)
  rw [BitVec.toNat_shiftLeft, BitVec.toNat_setWidth, hx, Nat.shiftLeft_eq, Nat.mod_eq_of_lt (by omega)]
  norm_cast
theorem up_zero (x : BitVec 8) : U (up x 0) = V x := by rw [up_num x 0 (by omega)]; omega
theorem up_next (x : BitVec 8) (k : Nat) (hk : k < 8) : U (up x k) * 2 = U (up x (k + 1)) := by
  rw [up_num x k (by omega), up_num x (k + 1) (by omega), Int.pow_succ, Int.mul_assoc]
theorem bit_low (y : BitVec 8) (k : Nat) : (V y / 2 ^ k % 2 == 1) = y.getLsbD k := by
  unfold V
  rw [BitVec.getLsbD, Nat.testBit_eq_decide_div_mod_eq]
  rw [Bool.eq_iff_iff, beq_iff_eq, decide_eq_true_eq]
  norm_cast
theorem half_num (y : BitVec 8) (k : Nat) : V y / 2 ^ k / 2 = V y / 2 ^ (k + 1) := by
  rw [Int.pow_succ, Int.ediv_ediv_of_nonneg (Int.pow_nonneg (by omega))]
theorem cl_yes {x y : BitVec 8} {k : Nat} {P A Y : Int} (hP : U (cl x y k) = P) (hA : U (up x k) = A) (hY : V y / 2 ^ k = Y) (h : (Y % 2 == 1) = true) :
    bits .xor .i64 P A = U (cl x y (k + 1)) := by
  subst hP hA hY
  rw [bit_low] at h
  rw [xor_U]; show _ = U (cl x y k ^^^ (if y.getLsbD k then up x k else 0#16)); rw [h]; rfl
theorem cl_no {x y : BitVec 8} {k : Nat} {P Y : Int} (hP : U (cl x y k) = P) (hY : V y / 2 ^ k = Y) (h : (Y % 2 == 1) = false) :
    P = U (cl x y (k + 1)) := by
  subst hP hY
  rw [bit_low] at h
  show _ = U (cl x y k ^^^ (if y.getLsbD k then up x k else 0#16)); rw [h]; simp
theorem low_none (y : BitVec 8) (k j : Nat) (h : V y / 2 ^ k = 0) (hj : k ≤ j) : y.getLsbD j = false := by
  have hy : y.toNat < 2 ^ k := by
    unfold V at h
    have h2 : ((y.toNat / 2 ^ k : Nat) : Int) = 0 := by rw [← h]; norm_cast
    have h3 : y.toNat / 2 ^ k = 0 := by omega
    exact (Nat.div_eq_zero_iff_lt (Nat.two_pow_pos k)).1 h3
  rw [BitVec.getLsbD]
  exact Nat.testBit_lt_two_pow (Nat.lt_of_lt_of_le hy (Nat.pow_le_pow_right (by omega) hj))
theorem cl_rest (x y : BitVec 8) (k : Nat) (h : V y / 2 ^ k = 0) : ∀ j, k ≤ j → cl x y j = cl x y k := by
  intro j hj
  induction j with
  | zero => obtain rfl : k = 0 := by omega
            rfl
  | succ j ih =>
    by_cases e : k = j + 1
    · rw [e]
    · show cl x y j ^^^ (if y.getLsbD j then up x j else 0#16) = _
      rw [low_none y k j h (by omega), ih (by omega)]; simp

/-- a round of the rest -/
def rs (j : Nat) (p : BitVec 16) : BitVec 16 := p ^^^ (if p.getLsbD (15 - j) then 285#16 <<< (7 - j) else 0#16)
def red (q : BitVec 16) : Nat → BitVec 16
  | 0 => q
  | j + 1 => rs j (red q j)
theorem xor_lc16 (a b c : BitVec 16) : a ^^^ (b ^^^ c) = b ^^^ (a ^^^ c) := by
  rw [← BitVec.xor_assoc, BitVec.xor_comm a b, BitVec.xor_assoc]
theorem if_xor16 (c d : Bool) (m : BitVec 16) : (if c ^^ d then m else 0#16) = (if c then m else 0#16) ^^^ (if d then m else 0#16) := by
  cases c <;> cases d <;> simp
theorem rs_xor (j : Nat) (p q : BitVec 16) : rs j (p ^^^ q) = rs j p ^^^ rs j q := by
  unfold rs
  rw [BitVec.getLsbD_xor, if_xor16, BitVec.xor_assoc, xor_lc16 q, ← BitVec.xor_assoc]
theorem red_xor (p q : BitVec 16) (j : Nat) : red (p ^^^ q) j = red p j ^^^ red q j := by
  induction j with
  | zero => rfl
  | succ j ih => show rs j (red (p ^^^ q) j) = _; rw [ih, rs_xor]; rfl
theorem red_up : ∀ k : Fin 8, ∀ x : BitVec 8, (red (up x k.val) 8).setWidth 8 = dbls k.val x := by decide +kernel
theorem red_zero : red 0#16 8 = 0#16 := by decide +kernel

/-- the sum of x times the bits -/
def sm (x y : BitVec 8) : Nat → BitVec 8
  | 0 => 0#8
  | k + 1 => sm x y k ^^^ (if y.getLsbD k then dbls k x else 0#8)
theorem red_cl (x y : BitVec 8) (k : Nat) (hk : k ≤ 8) : (red (cl x y k) 8).setWidth 8 = sm x y k := by
  induction k with
  | zero => show (red 0#16 8).setWidth 8 = 0#8; rw [red_zero]; rfl
  | succ k ih =>
    show (red (cl x y k ^^^ (if y.getLsbD k then up x k else 0#16)) 8).setWidth 8 = _
    rw [red_xor, BitVec.setWidth_xor, ih (by omega)]
    show _ = sm x y k ^^^ (if y.getLsbD k then dbls k x else 0#8)
    congr 1
    cases y.getLsbD k
    · simp only [Bool.false_eq_true, if_false, red_zero]; rfl
    · simp only [if_true]; exact red_up ⟨k, by omega⟩ x
theorem dbl_if (c : Bool) (x : BitVec 8) : dbl (if c then x else 0#8) = if c then dbl x else 0#8 := by cases c <;> simp [dbl_zero]
theorem gm_sm (x y : BitVec 8) : gm x y = sm x y 8 := by
  simp only [gm, mulL, bits8, List.foldl, rd, dbl_xor, dbl_if, dbl_zero, sm, dbls, BitVec.zero_xor]
  ac_rfl
theorem red_mul (x y : BitVec 8) : (red (cl x y 8) 8).setWidth 8 = gm x y := by rw [red_cl x y 8 (by omega), gm_sm]

theorem top_bit (p : BitVec 16) (w : Nat) (h : p.toNat < 2 ^ (w + 1)) : p.getLsbD w = decide (2 ^ w ≤ p.toNat) := by
  rw [BitVec.getLsbD, Nat.testBit_eq_decide_div_mod_eq, Bool.eq_iff_iff, decide_eq_true_eq, decide_eq_true_eq]
  have hp := Nat.two_pow_pos w
  rw [Nat.pow_succ] at h
  have hd : p.toNat / 2 ^ w < 2 := by rw [Nat.div_lt_iff_lt_mul hp]; omega
  rw [Nat.mod_eq_of_lt hd]
  constructor
  · intro e
    have := Nat.div_mul_le_self p.toNat (2 ^ w)
    rw [e] at this; omega
  · intro e
    have : 1 ≤ p.toNat / 2 ^ w := (Nat.le_div_iff_mul_le hp).2 (by omega)
    omega
theorem gl_high (p : BitVec 16) (w i : Nat) (h : p.toNat < 2 ^ w) (hi : w ≤ i) : p.toNat.testBit i = false :=
  Nat.testBit_lt_two_pow (Nat.lt_of_lt_of_le h (Nat.pow_le_pow_right (by omega) hi))
theorem m_lt : ∀ j : Fin 8, (285#16 <<< (7 - j.val)).toNat < 2 ^ (16 - j.val) ∧ (285#16 <<< (7 - j.val)).getLsbD (15 - j.val) = true := by decide +kernel
theorem rs_lt (j : Nat) (hj : j < 8) (p : BitVec 16) (h : p.toNat < 2 ^ (16 - j)) : (rs j p).toNat < 2 ^ (15 - j) := by
  obtain ⟨m1, m2⟩ := m_lt ⟨j, hj⟩
  simp only at m1 m2
  apply Nat.lt_pow_two_of_testBit
  intro i hi
  unfold rs
  rw [BitVec.toNat_xor, Nat.testBit_xor]
  by_cases e : i = 15 - j
  · subst e
    show (p.getLsbD (15 - j) ^^ _) = false
    cases hb : p.getLsbD (15 - j)
    · simp
    · simp only [if_true]
      show (true ^^ (285#16 <<< (7 - j)).getLsbD (15 - j)) = false
      rw [m2]; rfl
  · rw [gl_high p (16 - j) i h (by omega)]
    cases p.getLsbD (15 - j)
    · simp
    · simp only [if_true]; rw [gl_high _ (16 - j) i m1 (by omega)]; rfl
theorem red_lt (q : BitVec 16) (j : Nat) (hj : j ≤ 8) : (red q j).toNat < 2 ^ (16 - j) := by
  induction j with
  | zero => exact q.isLt
  | succ j ih =>
    have := rs_lt j (by omega) _ (ih (by omega))
    rwa [show 15 - j = 16 - (j + 1) by omega] at this
/-- the factor of the round j -/
def kk (j : Nat) : Int := ((128 / 2 ^ j : Nat) : Int)
theorem kk_zero : kk 0 = 128 := by decide
theorem kk_next : ∀ j : Nat, kk j / 2 = kk (j + 1) := by
  intro j; unfold kk; rw [Nat.pow_succ, ← Nat.div_div_eq_div_mul]; omega
theorem kk_lo (j : Nat) : 0 ≤ kk j := Int.natCast_nonneg _
theorem kk_hi (j : Nat) : kk j ≤ 128 := by unfold kk; have := Nat.div_le_self 128 (2 ^ j); omega
theorem kk_pos : ∀ j : Fin 8, 1 ≤ kk j.val := by decide
theorem kk_end : kk 8 = 0 := by decide
theorem kk_m : ∀ j : Fin 8, (285 : Int) * kk j.val = U (285#16 <<< (7 - j.val)) := by decide +kernel
theorem kk_w : ∀ j : Fin 8, 256 * kk j.val = ((2 ^ (15 - j.val) : Nat) : Int) := by decide +kernel
theorem red_test (q : BitVec 16) (j : Nat) (hj : j < 8) : decide (kk j ≤ U (red q j) / 256) = (red q j).getLsbD (15 - j) := by
  rw [top_bit _ (15 - j) (by have := red_lt q j (by omega); rwa [show 15 - j + 1 = 16 - j by omega])]
  have e := kk_w ⟨j, hj⟩
  simp only at e
  rw [Bool.eq_iff_iff, decide_eq_true_eq, decide_eq_true_eq]
  unfold U
  generalize 2 ^ (15 - j) = w at e
  omega
theorem red_yes {q : BitVec 16} {j : Nat} {P K : Int} (hP : U (red q j) = P) (hK : kk j = K) (hj : j < 8) (h : K ≤ P / 256) :
    bits .xor .i64 P (285 * K) = U (red q (j + 1)) := by
  subst hP hK
  have t := red_test q j hj
  rw [decide_eq_true h] at t
  rw [kk_m ⟨j, hj⟩, xor_U]
  show _ = U (red q j ^^^ (if (red q j).getLsbD (15 - j) then 285#16 <<< (7 - j) else 0#16))
  rw [← t]; rfl
theorem red_no {q : BitVec 16} {j : Nat} {P K : Int} (hP : U (red q j) = P) (hK : kk j = K) (hj : j < 8) (h : ¬ K ≤ P / 256) :
    P = U (red q (j + 1)) := by
  subst hP hK
  have t := red_test q j hj
  rw [decide_eq_false h] at t
  show _ = U (red q j ^^^ (if (red q j).getLsbD (15 - j) then 285#16 <<< (7 - j) else 0#16))
  rw [← t]; simp
theorem red_end (x y : BitVec 8) : U (red (cl x y 8) 8) % 256 = V (gm x y) := by
  rw [← red_mul]; unfold U V; rw [BitVec.toNat_setWidth]; generalize (red (cl x y 8) 8).toNat = n; omega
theorem red_small (q : BitVec 16) : U (red q 8) < 256 := by
  have := red_lt q 8 (by omega)
  unfold U; omega
theorem k_lt {y : BitVec 8} {k : Nat} {Y : Int} (hY : V y / 2 ^ k = Y) (hk : k ≤ 8) (h : 0 < Y) : k < 8 := by
  by_cases e : k = 8
  · subst e
    have := V_hi y
    have := V_lo y
    omega
  · omega
theorem cl_end {x y : BitVec 8} {k : Nat} {P Y : Int} (hP : U (cl x y k) = P) (hY : V y / 2 ^ k = Y) (hk : k ≤ 8) (h0 : 0 ≤ Y) (h : ¬ 0 < Y) : U (cl x y 8) = P := by
  rw [← hP, cl_rest x y k (by omega) 8 hk]
theorem red_start {q : BitVec 16} {P : Int} (hP : U q = P) : P = U (red q 0) := hP.symm
theorem j_lt {j : Nat} {K : Int} (hK : kk j = K) (hj : j ≤ 8) (h : 1 ≤ K) : j < 8 := by
  by_cases e : j = 8
  · subst e; rw [kk_end] at hK; omega
  · omega
theorem j_end {j : Nat} {K : Int} (hK : kk j = K) (hj : j ≤ 8) (h : ¬ 1 ≤ K) : j = 8 := by
  by_cases e : j = 8
  · exact e
  · have := kk_pos ⟨j, by omega⟩
    simp only at this; omega
end Go.Proofs.Ytohbijjkkadbaaa.Fld
