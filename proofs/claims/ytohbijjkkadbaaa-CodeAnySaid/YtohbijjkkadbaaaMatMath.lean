/- Matrices over the field, as functions of two numbers. No dump is imported. -/
import Derived.Test.YtohbijjkkadbaaaFieldMath
namespace Go.Proofs.Ytohbijjkkadbaaa.Mat
open Fld

/-- the sum of the first n -/
def sm : Nat → (Nat → BitVec 8) → BitVec 8
  | 0, _ => 0#8
  | n + 1, f => sm n f ^^^ f n
theorem sm_zero_ (f : Nat → BitVec 8) : sm 0 f = 0#8 := rfl
theorem sm_succ (n : Nat) (f : Nat → BitVec 8) : sm (n + 1) f = sm n f ^^^ f n := rfl
theorem sm_congr {n : Nat} {f g : Nat → BitVec 8} (h : ∀ i, i < n → f i = g i) : sm n f = sm n g := by
  induction n with
  | zero => rfl
  | succ n ih => rw [sm_succ, sm_succ, ih (fun i hi => h i (by omega)), h n (by omega)]
theorem xor4 (a b c d : BitVec 8) : a ^^^ b ^^^ (c ^^^ d) = a ^^^ c ^^^ (b ^^^ d) := by
  rw [BitVec.xor_assoc, BitVec.xor_assoc, xor_lc b c d]
theorem zero_xor (a : BitVec 8) : 0#8 ^^^ a = a := BitVec.zero_xor
theorem xor_zero (a : BitVec 8) : a ^^^ 0#8 = a := BitVec.xor_zero
theorem xor_self (a : BitVec 8) : a ^^^ a = 0#8 := BitVec.xor_self
theorem sm_xor (n : Nat) (f g : Nat → BitVec 8) : sm n (fun i => f i ^^^ g i) = sm n f ^^^ sm n g := by
  induction n with
  | zero => exact (xor_self 0#8).symm
  | succ n ih => rw [sm_succ, sm_succ, sm_succ, ih, xor4]
theorem sm_none {n : Nat} {f : Nat → BitVec 8} (h : ∀ i, i < n → f i = 0#8) : sm n f = 0#8 := by
  induction n with
  | zero => rfl
  | succ n ih => rw [sm_succ, ih (fun i hi => h i (by omega)), h n (by omega), xor_self]
theorem gm_sm (x : BitVec 8) (n : Nat) (f : Nat → BitVec 8) : gm x (sm n f) = sm n (fun i => gm x (f i)) := by
  induction n with
  | zero => exact gm_zero_right x
  | succ n ih => rw [sm_succ, sm_succ, gm_xor, ih]
theorem sm_gm (x : BitVec 8) (n : Nat) (f : Nat → BitVec 8) : gm (sm n f) x = sm n (fun i => gm (f i) x) := by
  rw [gm_comm, gm_sm]; exact sm_congr fun i _ => gm_comm _ _
theorem sm_swap (n m : Nat) (f : Nat → Nat → BitVec 8) : sm n (fun i => sm m (fun j => f i j)) = sm m (fun j => sm n (fun i => f i j)) := by
  induction n with
  | zero => exact (sm_none fun _ _ => rfl).symm
  | succ n ih => rw [sm_succ, ih, ← sm_xor]; rfl
theorem sm_one {n k : Nat} {f : Nat → BitVec 8} (hk : k < n) (h : ∀ i, i < n → i ≠ k → f i = 0#8) : sm n f = f k := by
  induction n with
  | zero => omega
  | succ n ih =>
    rw [sm_succ]
    by_cases e : k = n
    · subst e; rw [sm_none (fun i hi => h i (by omega) (by omega)), zero_xor]
    · rw [ih (by omega) (fun i hi => h i (by omega)), h n (by omega) (fun e' => e e'.symm), xor_zero]

/-! ### products -/
def mm (k : Nat) (F G : Nat → Nat → BitVec 8) (r c : Nat) : BitVec 8 := sm k (fun i => gm (F r i) (G i c))
def idm (r c : Nat) : BitVec 8 := if r = c then 1#8 else 0#8
theorem idm_same (r : Nat) : idm r r = 1#8 := if_pos rfl
theorem idm_ne {r c : Nat} (h : r ≠ c) : idm r c = 0#8 := if_neg h

theorem mm_congr {k : Nat} {F F' G G' : Nat → Nat → BitVec 8} {r c : Nat} (h : ∀ i, i < k → F r i = F' r i) (h' : ∀ i, i < k → G i c = G' i c) : mm k F G r c = mm k F' G' r c :=
  sm_congr fun i hi => by rw [h i hi, h' i hi]
theorem mm_assoc (k m : Nat) (F G H : Nat → Nat → BitVec 8) (r c : Nat) : mm m (mm k F G) H r c = mm k F (mm m G H) r c := by
  unfold mm
  have e1 : sm m (fun i => gm (sm k (fun j => gm (F r j) (G j i))) (H i c)) = sm m (fun i => sm k (fun j => gm (F r j) (gm (G j i) (H i c)))) :=
    sm_congr fun i _ => by rw [sm_gm]; exact sm_congr fun j _ => gm_assoc _ _ _
  rw [e1, sm_swap]
  exact sm_congr fun j _ => (gm_sm _ _ _).symm
theorem id_mm {n : Nat} (F : Nat → Nat → BitVec 8) {r : Nat} (c : Nat) (hr : r < n) : mm n idm F r c = F r c := by
  unfold mm
  rw [sm_one hr (fun i _ hne => by rw [idm_ne (fun e => hne e.symm), gm_zero_left]), idm_same, gm_one_left]
theorem mm_id {n : Nat} (F : Nat → Nat → BitVec 8) (r : Nat) {c : Nat} (hc : c < n) : mm n F idm r c = F r c := by
  unfold mm
  rw [sm_one hc (fun i _ hne => by rw [idm_ne hne, gm_zero_right]), idm_same, gm_one_right]
theorem mm_add (k : Nat) (F G H : Nat → Nat → BitVec 8) (r c : Nat) : mm k F (fun i j => G i j ^^^ H i j) r c = mm k F G r c ^^^ mm k F H r c := by
  unfold mm; rw [← sm_xor]; exact sm_congr fun i _ => gm_xor _ _ _

/-! ### steps to an inverse -/
/-- the first row from p on that has something in column k; p + f, if there is none -/
def pv (F : Nat → Nat → BitVec 8) (k : Nat) : Nat → Nat → Nat
  | 0, p => p
  | f + 1, p => if F p k = 0#8 then pv F k f (p + 1) else p
def pvt (n : Nat) (F : Nat → Nat → BitVec 8) (k : Nat) : Nat := pv F k (n - k) k
theorem pv_spec (F : Nat → Nat → BitVec 8) (k : Nat) : ∀ f p, p ≤ pv F k f p ∧ pv F k f p ≤ p + f ∧ (∀ q, p ≤ q → q < pv F k f p → F q k = 0#8) ∧ (pv F k f p < p + f → F (pv F k f p) k ≠ 0#8) := by
  intro f
  induction f with
  | zero => intro p; exact ⟨Nat.le_refl _, Nat.le_refl _, fun q h1 h2 => absurd h2 (by show ¬ q < p; omega), fun h => absurd h (by show ¬ p < p + 0; omega)⟩
  | succ f ih =>
    intro p
    by_cases e : F p k = 0#8
    · have hp : pv F k (f + 1) p = pv F k f (p + 1) := if_pos e
      obtain ⟨h1, h2, h3, h4⟩ := ih (p + 1)
      rw [hp]
      exact ⟨by omega, by omega, fun q hq1 hq2 => by
        by_cases e' : q = p
        · subst e'; exact e
        · exact h3 q (by omega) hq2, fun h => h4 (by omega)⟩
    · have hp : pv F k (f + 1) p = p := if_neg e
      rw [hp]
      exact ⟨Nat.le_refl _, by omega, fun q h1 h2 => absurd h2 (by omega), fun _ => e⟩
theorem pvt_ge (n : Nat) (F) (k : Nat) : k ≤ pvt n F k := (pv_spec F k (n - k) k).1
theorem pvt_le (n : Nat) (F) (k : Nat) (h : k ≤ n) : pvt n F k ≤ n := by have := (pv_spec F k (n - k) k).2.1; unfold pvt; omega
theorem pvt_lo (n : Nat) (F) (k q : Nat) (h1 : k ≤ q) (h2 : q < pvt n F k) : F q k = 0#8 := (pv_spec F k (n - k) k).2.2.1 q h1 h2
theorem pvt_at (n : Nat) (F) (k : Nat) (h : pvt n F k < n) : F (pvt n F k) k ≠ 0#8 := (pv_spec F k (n - k) k).2.2.2 (by have := pvt_ge n F k; unfold pvt at *; omega)
theorem pvt_eq {n : Nat} {F : Nat → Nat → BitVec 8} {k p : Nat} (h1 : k ≤ p) (h2 : p ≤ n) (h3 : ∀ q, k ≤ q → q < p → F q k = 0#8) (h4 : p < n → F p k ≠ 0#8) : pvt n F k = p := by
  rcases Nat.lt_trichotomy (pvt n F k) p with h | h | h
  · exact absurd (h3 _ (pvt_ge n F k) h) (pvt_at n F k (by omega))
  · exact h
  · have := pvt_le n F k (by omega)
    exact absurd (pvt_lo n F k p h1 h) (h4 (by omega))

def sw (F : Nat → Nat → BitVec 8) (k p : Nat) (r c : Nat) : BitVec 8 := if r = k then F p c else if r = p then F k c else F r c
def sc (F : Nat → Nat → BitVec 8) (k : Nat) (x : BitVec 8) (r c : Nat) : BitVec 8 := if r = k then gm (F r c) x else F r c
/-- from each row but k the row k, u r times -/
def su (F : Nat → Nat → BitVec 8) (k : Nat) (u : Nat → BitVec 8) (r c : Nat) : BitVec 8 := if r = k then F r c else F r c ^^^ gm (u r) (F k c)
def s1 (n : Nat) (F : Nat → Nat → BitVec 8) (k : Nat) : Nat → Nat → BitVec 8 := sw F k (pvt n F k)
def s2 (n : Nat) (F : Nat → Nat → BitVec 8) (k : Nat) : Nat → Nat → BitVec 8 := sc (s1 n F k) k (iv (s1 n F k k k))
def s3 (n : Nat) (F : Nat → Nat → BitVec 8) (k : Nat) : Nat → Nat → BitVec 8 := su (s2 n F k) k (fun r => s2 n F k r k)
def gj (n : Nat) (F : Nat → Nat → BitVec 8) : Nat → Nat → Nat → BitVec 8
  | 0 => F
  | k + 1 => s3 n (gj n F k) k
/-- the first k columns each had a row -/
def Went (n : Nat) (F : Nat → Nat → BitVec 8) (k : Nat) : Prop := ∀ j, j < k → pvt n (gj n F j) j < n
def aug (n : Nat) (A : Nat → Nat → BitVec 8) (r c : Nat) : BitVec 8 := if c < n then A r c else idm r (c - n)
/-- it has an inverse -/
def Inv (n : Nat) (A : Nat → Nat → BitVec 8) : Prop := Went n (aug n A) n
def inv (n : Nat) (A : Nat → Nat → BitVec 8) (r c : Nat) : BitVec 8 := gj n (aug n A) n r (n + c)

/-! ### what steps do to rows: each is a product from the left, which another one undoes -/
structure Row (n : Nat) (T T' : (Nat → Nat → BitVec 8) → Nat → Nat → BitVec 8) : Prop where
  by_ : ∀ F r c, r < n → T F r c = mm n (T idm) F r c
  by' : ∀ F r c, r < n → T' F r c = mm n (T' idm) F r c
  back : ∀ F r c, r < n → T' (T F) r c = F r c
  back' : ∀ F r c, r < n → T (T' F) r c = F r c

theorem row_sw {n k p : Nat} (hk : k < n) (hp : p < n) : Row n (fun F => sw F k p) (fun F => sw F k p) := by
  have b : ∀ F r c, r < n → sw F k p r c = mm n (sw idm k p) F r c := fun F r c hr => by
    have e : sw F k p r c = F (if r = k then p else if r = p then k else r) c := by
      unfold sw
      by_cases h1 : r = k
      · rw [if_pos h1, if_pos h1]
      · rw [if_neg h1, if_neg h1]
        by_cases h2 : r = p
        · rw [if_pos h2, if_pos h2]
        · rw [if_neg h2, if_neg h2]
    have e2 : ∀ i, sw idm k p r i = idm (if r = k then p else if r = p then k else r) i := fun i => by
      unfold sw
      by_cases h1 : r = k
      · rw [if_pos h1, if_pos h1]
      · rw [if_neg h1, if_neg h1]
        by_cases h2 : r = p
        · rw [if_pos h2, if_pos h2]
        · rw [if_neg h2, if_neg h2]
    rw [e]
    generalize hs : (if r = k then p else if r = p then k else r) = s at e2
    have hsn : s < n := by
      rw [← hs]
      by_cases h1 : r = k
      · rw [if_pos h1]; exact hp
      · rw [if_neg h1]
        by_cases h2 : r = p
        · rw [if_pos h2]; exact hk
        · rw [if_neg h2]; exact hr
    rw [← id_mm F c hsn]
    unfold mm
    exact sm_congr fun i _ => by rw [e2 i]
  have c : ∀ F r c, r < n → sw (sw F k p) k p r c = F r c := fun F r c hr => by
    unfold sw
    by_cases h1 : r = k
    · subst h1
      by_cases h2 : p = r
      · subst h2; simp
      · simp [h2]
    · by_cases h2 : r = p
      · subst h2; simp [h1]
      · simp [h1, h2]
  exact ⟨b, b, c, c⟩

theorem row_sc {n k : Nat} {x : BitVec 8} (hx : x ≠ 0#8) : Row n (fun F => sc F k x) (fun F => sc F k (iv x)) := by
  have b : ∀ y F r c, r < n → sc F k y r c = mm n (sc idm k y) F r c := fun y F r c hr => by
    unfold mm
    by_cases h : r = k
    · have e : ∀ i, sc idm k y r i = gm (idm r i) y := fun i => if_pos h
      have e1 : sc F k y r c = gm (F r c) y := if_pos h
      rw [e1, sm_one hr (fun i _ hne => by rw [e, idm_ne (fun e => hne e.symm), gm_zero_left, gm_zero_left]), e, idm_same, gm_one_left, gm_comm]
    · have e : ∀ i, sc idm k y r i = idm r i := fun i => if_neg h
      have e1 : sc F k y r c = F r c := if_neg h
      rw [e1, ← id_mm F c hr]
      exact sm_congr fun i _ => by rw [e]
  have hi := gm_iv x hx
  refine ⟨b x, b (iv x), fun F r c hr => ?_, fun F r c hr => ?_⟩
  · show sc (sc F k x) k (iv x) r c = F r c
    by_cases h : r = k
    · have e1 : sc (sc F k x) k (iv x) r c = gm (gm (F r c) x) (iv x) := by unfold sc; rw [if_pos h, if_pos h]
      rw [e1, gm_assoc, hi, gm_one_right]
    · have e1 : sc (sc F k x) k (iv x) r c = F r c := by unfold sc; rw [if_neg h, if_neg h]
      exact e1
  · show sc (sc F k (iv x)) k x r c = F r c
    by_cases h : r = k
    · have e1 : sc (sc F k (iv x)) k x r c = gm (gm (F r c) (iv x)) x := by unfold sc; rw [if_pos h, if_pos h]
      rw [e1, gm_assoc, gm_comm (iv x), hi, gm_one_right]
    · have e1 : sc (sc F k (iv x)) k x r c = F r c := by unfold sc; rw [if_neg h, if_neg h]
      exact e1

theorem row_su {n k : Nat} (hk : k < n) (u : Nat → BitVec 8) : Row n (fun F => su F k u) (fun F => su F k u) := by
  have b : ∀ F r c, r < n → su F k u r c = mm n (su idm k u) F r c := fun F r c hr => by
    by_cases h : r = k
    · have e : ∀ i, su idm k u r i = idm r i := fun i => if_pos h
      have e1 : su F k u r c = F r c := if_pos h
      rw [e1, ← id_mm F c hr]
      exact mm_congr (fun i _ => (e i).symm) (fun _ _ => rfl)
    · have e : ∀ i, su idm k u r i = idm r i ^^^ gm (u r) (idm k i) := fun i => if_neg h
      have e1 : su F k u r c = F r c ^^^ gm (u r) (F k c) := if_neg h
      unfold mm
      have e2 : sm n (fun i => gm (su idm k u r i) (F i c)) = sm n (fun i => gm (idm r i) (F i c) ^^^ gm (u r) (gm (idm k i) (F i c))) :=
        sm_congr fun i _ => by rw [e, gm_xor_left, gm_assoc]
      have e3 := id_mm F c hr
      have e4 := id_mm F c hk
      unfold mm at e3 e4
      rw [e1, e2, sm_xor, ← gm_sm, e3, e4]
  have c : ∀ F r c, r < n → su (su F k u) k u r c = F r c := fun F r c hr => by
    have ek : su F k u k c = F k c := if_pos rfl
    by_cases h : r = k
    · subst h
      have : su (su F r u) r u r c = su F r u r c := if_pos rfl
      rw [this, ek]
    · have e1 : su (su F k u) k u r c = su F k u r c ^^^ gm (u r) (su F k u k c) := if_neg h
      have e2 : su F k u r c = F r c ^^^ gm (u r) (F k c) := if_neg h
      rw [e1, e2, ek, BitVec.xor_assoc, xor_self, xor_zero]
  exact ⟨b, b, c, c⟩

theorem Row.cong {n : Nat} {T T' : (Nat → Nat → BitVec 8) → Nat → Nat → BitVec 8} (h : Row n T T') {F G : Nat → Nat → BitVec 8} {r c : Nat} (e : ∀ i, i < n → F i c = G i c) (hr : r < n) : T F r c = T G r c := by
  rw [h.by_ F r c hr, h.by_ G r c hr]
  exact mm_congr (fun _ _ => rfl) e
theorem Row.symm {n : Nat} {T T' : (Nat → Nat → BitVec 8) → Nat → Nat → BitVec 8} (h : Row n T T') : Row n T' T := ⟨h.by', h.by_, h.back', h.back⟩
theorem Row.comp {n : Nat} {T T' S S' : (Nat → Nat → BitVec 8) → Nat → Nat → BitVec 8} (hT : Row n T T') (hS : Row n S S') :
    Row n (fun F => S (T F)) (fun F => T' (S' F)) := by
  have m : ∀ (X Y X' Y' : (Nat → Nat → BitVec 8) → Nat → Nat → BitVec 8), Row n X X' → Row n Y Y' → ∀ F r c, r < n → Y (X F) r c = mm n (Y (X idm)) F r c := by
    intro X Y X' Y' hX hY F r c hr
    have e1 : mm n (Y (X idm)) F r c = mm n (mm n (Y idm) (X idm)) F r c := mm_congr (fun i _ => hY.by_ _ _ _ hr) (fun _ _ => rfl)
    rw [e1, mm_assoc, hY.by_ (X F) r c hr]
    exact mm_congr (fun _ _ => rfl) (fun i hi => hX.by_ F i c hi)
  exact ⟨m T S T' S' hT hS, m S' T' S T hS.symm hT.symm, fun F r c hr => by
      rw [hT.symm.cong (G := T F) (fun i hi => hS.back (T F) i c hi) hr]; exact hT.back F r c hr,
    fun F r c hr => by
      rw [hS.cong (G := S' F) (fun i hi => hT.back' (S' F) i c hi) hr]; exact hS.back' F r c hr⟩
theorem row_id (n : Nat) : Row n (fun F => F) (fun F => F) :=
  ⟨fun F _ c hr => (id_mm F c hr).symm, fun F _ c hr => (id_mm F c hr).symm, fun _ _ _ _ => rfl, fun _ _ _ _ => rfl⟩
theorem gj_succ (n : Nat) (F) (k : Nat) : gj n F (k + 1) = s3 n (gj n F k) k := rfl
theorem gj_row {n : Nat} {F : Nat → Nat → BitVec 8} : ∀ {k : Nat}, k ≤ n → Went n F k → ∃ T T', Row n T T' ∧ ∀ r c, r < n → gj n F k r c = T F r c := by
  intro k
  induction k with
  | zero => intro _ _; exact ⟨_, _, row_id n, fun _ _ _ => rfl⟩
  | succ k ih =>
    intro hk hw
    obtain ⟨T, T', hR, he⟩ := ih (by omega) (fun j hj => hw j (by omega))
    have hp := hw k (by omega)
    have h1 := row_sw (n := n) (k := k) (p := pvt n (gj n F k) k) (by omega) hp
    have h2 := row_sc (n := n) (k := k) (x := iv (s1 n (gj n F k) k k k)) (iv_nz _)
    have h3 := row_su (n := n) (k := k) (by omega) (fun r => s2 n (gj n F k) k r k)
    refine ⟨_, _, ((hR.comp h1).comp h2).comp h3, fun r c hr => ?_⟩
    rw [gj_succ]
    exact ((h1.comp h2).comp h3).cong (fun i hi => he i c hi) hr

/-! ### the columns that are done -/
theorem gj_unit {n : Nat} {F : Nat → Nat → BitVec 8} : ∀ {k : Nat}, k ≤ n → Went n F k → ∀ r j, r < n → j < k → gj n F k r j = idm r j := by
  intro k
  induction k with
  | zero => intro _ _ r j _ hj; omega
  | succ k ih =>
    intro hk hw r j hr hj
    have hp := hw k (by omega)
    have hpk := pvt_ge n (gj n F k) k
    have hat := pvt_at n (gj n F k) k hp
    have hu := ih (by omega) (fun j hj => hw j (by omega))
    generalize hG : gj n F k = G at hp hpk hat hu
    generalize hP : pvt n G k = p at hp hpk hat
    have e1 : s1 n G k = sw G k p := by unfold s1; rw [hP]
    have e2 : s1 n G k k k = G p k := by rw [e1]; exact if_pos rfl
    rw [gj_succ, hG]
    by_cases hjk : j < k
    · -- a column that was done
      have q1 : ∀ r, r < n → s1 n G k r j = idm r j := fun r hr => by
        rw [e1]; unfold sw
        by_cases a1 : r = k
        · rw [if_pos a1, hu p j hp hjk, idm_ne (by omega), idm_ne (by omega)]
        · rw [if_neg a1]
          by_cases a2 : r = p
          · rw [if_pos a2, hu k j (by omega) hjk, idm_ne (by omega), idm_ne (by omega)]
          · rw [if_neg a2, hu r j hr hjk]
      have q2 : ∀ r, r < n → s2 n G k r j = idm r j := fun r hr => by
        unfold s2 sc
        by_cases a1 : r = k
        · rw [if_pos a1, q1 r hr, idm_ne (by omega), gm_zero_left]
        · rw [if_neg a1, q1 r hr]
      unfold s3 su
      by_cases a1 : r = k
      · rw [if_pos a1, q2 r hr]
      · rw [if_neg a1, q2 r hr, q2 k (by omega), idm_ne (show k ≠ j by omega), gm_zero_right, xor_zero]
    · obtain rfl : j = k := by omega
      have q2 : s2 n G j j j = 1#8 := by
        unfold s2 sc
        rw [if_pos rfl, e2, gm_iv _ hat]
      unfold s3 su
      by_cases a1 : r = j
      · subst a1; rw [if_pos rfl, q2, idm_same]
      · rw [if_neg a1, q2, gm_one_right, xor_self, idm_ne a1]

theorem aug_lo {n : Nat} (A : Nat → Nat → BitVec 8) (r : Nat) {c : Nat} (h : c < n) : aug n A r c = A r c := if_pos h
theorem aug_hi (n : Nat) (A : Nat → Nat → BitVec 8) (r c : Nat) : aug n A r (n + c) = idm r c := by
  unfold aug; rw [if_neg (by omega), show n + c - n = c by omega]

/-- an inverse turns round from both sides -/
theorem inv_both {n : Nat} {A : Nat → Nat → BitVec 8} (h : Inv n A) : (∀ r c, r < n → c < n → mm n (inv n A) A r c = idm r c) ∧ ∀ r c, r < n → c < n → mm n A (inv n A) r c = idm r c := by
  obtain ⟨T, T', hR, he⟩ := gj_row (Nat.le_refl n) h
  have hB : ∀ r c, r < n → c < n → inv n A r c = T idm r c := fun r c hr hc => by
    unfold inv
    rw [he r (n + c) hr, hR.by_ _ r (n + c) hr]
    have e1 : mm n (T idm) (aug n A) r (n + c) = mm n (T idm) idm r c := by
      unfold mm
      exact sm_congr fun i _ => by rw [aug_hi]
    rw [e1, mm_id (T idm) r hc]
  have hBA : ∀ r c, r < n → c < n → mm n (inv n A) A r c = idm r c := fun r c hr hc => by
    rw [← gj_unit (Nat.le_refl n) h r c hr hc, he r c hr, hR.by_ _ r c hr]
    exact mm_congr (fun i hi => hB r i hr hi) (fun i _ => (aug_lo A i hc).symm)
  refine ⟨hBA, fun r c hr hc => ?_⟩
  have hQB : ∀ r c, r < n → c < n → mm n (T' idm) (inv n A) r c = idm r c := fun r c hr hc => by
    have e1 : mm n (T' idm) (inv n A) r c = mm n (T' idm) (T idm) r c := mm_congr (fun _ _ => rfl) (fun i hi => hB i c hi hc)
    rw [e1, ← hR.by' (T idm) r c hr]
    exact hR.back idm r c hr
  have hAQ : ∀ r c, r < n → c < n → A r c = T' idm r c := fun r c hr hc => by
    rw [← id_mm A c hr, ← mm_id (T' idm) r hc]
    have e1 : mm n idm A r c = mm n (mm n (T' idm) (inv n A)) A r c := mm_congr (fun i hi => (hQB r i hr hi).symm) (fun _ _ => rfl)
    rw [e1, mm_assoc]
    exact mm_congr (fun _ _ => rfl) (fun i hi => hBA i c hi hc)
  rw [← hQB r c hr hc]
  exact mm_congr (fun i hi => hAQ r i hr hi) (fun _ _ => rfl)

/-- without an inverse some columns give 0 together -/
theorem sing {n : Nat} {A : Nat → Nat → BitVec 8} (h : ¬ Inv n A) : ∃ y : Nat → BitVec 8, (∃ k, k < n ∧ y k ≠ 0#8) ∧ ∀ r, r < n → sm n (fun c => gm (A r c) (y c)) = 0#8 := by
  have first : ∀ m, m ≤ n → Went n (aug n A) m ∨ ∃ k, k < m ∧ Went n (aug n A) k ∧ ¬ pvt n (gj n (aug n A) k) k < n := by
    intro m
    induction m with
    | zero => intro _; exact .inl fun j hj => absurd hj (by omega)
    | succ m ih =>
      intro hm
      rcases ih (by omega) with hw | ⟨k, hk, h1, h2⟩
      · by_cases hp : pvt n (gj n (aug n A) m) m < n
        · exact .inl fun j hj => by
            by_cases e : j = m
            · subst e; exact hp
            · exact hw j (by omega)
        · exact .inr ⟨m, by omega, hw, hp⟩
      · exact .inr ⟨k, by omega, h1, h2⟩
  rcases first n (Nat.le_refl n) with hw | ⟨k, hk, hw, hp⟩
  · exact absurd hw h
  obtain ⟨T, T', hR, he⟩ := gj_row (by omega) hw
  have hu := gj_unit (by omega) hw
  have hlo : ∀ q, k ≤ q → q < n → gj n (aug n A) k q k = 0#8 := fun q h1 h2 => pvt_lo n _ k q h1 (by omega)
  generalize hG : gj n (aug n A) k = G at hu hlo he
  let y : Nat → BitVec 8 := fun c => if c < k then G c k else if c = k then 1#8 else 0#8
  have yk : y k = 1#8 := by show (if k < k then G k k else if k = k then 1#8 else 0#8) = _; rw [if_neg (by omega), if_pos rfl]
  have ylo : ∀ c, c < k → y c = G c k := fun c hc => if_pos hc
  have yhi : ∀ c, k < c → y c = 0#8 := fun c hc => by show (if c < k then G c k else if c = k then 1#8 else 0#8) = _; rw [if_neg (by omega), if_neg (by omega)]
  have hGy : ∀ r, r < n → sm n (fun c => gm (G r c) (y c)) = 0#8 := fun r hr => by
    by_cases hrk : r < k
    · have e : sm n (fun c => gm (G r c) (y c)) = sm n (fun c => (if c = r then G r k else 0#8) ^^^ (if c = k then G r k else 0#8)) := sm_congr fun c hc => by
        by_cases c1 : c < k
        · rw [hu r c hr c1, ylo c c1]
          by_cases c2 : c = r
          · subst c2; rw [idm_same, gm_one_left, if_pos rfl, if_neg (by omega), xor_zero]
          · rw [idm_ne (fun e => c2 e.symm), gm_zero_left, if_neg c2, if_neg (by omega), xor_self]
        · by_cases c2 : c = k
          · subst c2; rw [yk, gm_one_right, if_neg (by omega), if_pos rfl, zero_xor]
          · rw [yhi c (by omega), gm_zero_right, if_neg (by omega), if_neg c2, xor_self]
      rw [e, sm_xor, sm_one (k := r) (by omega) (fun i _ hne => if_neg hne), sm_one (k := k) hk (fun i _ hne => if_neg hne), if_pos rfl, if_pos rfl, xor_self]
    · refine sm_none fun c hc => ?_
      by_cases c1 : c < k
      · rw [hu r c hr c1, idm_ne (by omega), gm_zero_left]
      · by_cases c2 : c = k
        · subst c2; rw [hlo r (by omega) hr, gm_zero_left]
        · rw [yhi c (by omega), gm_zero_right]
  refine ⟨y, ⟨k, hk, by rw [yk]; decide⟩, fun s hs => ?_⟩
  -- what the steps made of it is 0: so it is
  let Z : Nat → Nat → BitVec 8 := fun i _ => sm n (fun c => gm (A i c) (y c))
  have hTZ : ∀ r, r < n → mm n (T idm) Z r 0 = 0#8 := fun r hr => by
    rw [← hGy r hr]
    have e1 : sm n (fun c => gm (G r c) (y c)) = sm n (fun c => sm n (fun i => gm (T idm r i) (gm (A i c) (y c)))) := sm_congr fun c hc => by
      rw [he r c hr, hR.by_ _ r c hr]
      unfold mm
      rw [sm_gm]
      exact sm_congr fun i _ => by rw [aug_lo A i hc, gm_assoc]
    rw [e1, sm_swap]
    exact sm_congr fun i _ => gm_sm _ _ _
  show Z s 0 = 0#8
  have e2 : Z s 0 = mm n (mm n (T' idm) (T idm)) Z s 0 := by
    rw [← id_mm Z 0 hs]
    exact mm_congr (fun i _ => by rw [← hR.by' (T idm) s i hs]; exact (hR.back idm s i hs).symm) (fun _ _ => rfl)
  rw [e2, mm_assoc]
  exact sm_none fun i hi => by rw [hTZ i hi, gm_zero_right]

/-- what another one turns round from the left has an inverse -/
theorem inv_of_left {n : Nat} {A B : Nat → Nat → BitVec 8} (h : ∀ r c, r < n → c < n → mm n B A r c = idm r c) : Inv n A := by
  by_cases hi : Inv n A
  · exact hi
  · obtain ⟨y, ⟨k, hk, hy⟩, h0⟩ := sing hi
    exfalso
    apply hy
    let Y : Nat → Nat → BitVec 8 := fun c _ => y c
    have e1 : mm n (mm n B A) Y k 0 = y k := by
      have : mm n (mm n B A) Y k 0 = mm n idm Y k 0 := mm_congr (fun i hi => h k i hk hi) (fun _ _ => rfl)
      rw [this, id_mm Y 0 hk]
    rw [← e1, mm_assoc]
    exact sm_none fun i hi => by
      have : mm n A Y i 0 = 0#8 := h0 i hi
      rw [this, gm_zero_right]
theorem inv_inv {n : Nat} {A : Nat → Nat → BitVec 8} (h : Inv n A) : Inv n (inv n A) ∧ ∀ r c, r < n → c < n → inv n (inv n A) r c = A r c := by
  obtain ⟨h1, h2⟩ := inv_both h
  have hi := inv_of_left h2
  obtain ⟨h3, _⟩ := inv_both hi
  refine ⟨hi, fun r c hr hc => ?_⟩
  rw [← mm_id (inv n (inv n A)) r hc]
  have e1 : mm n (inv n (inv n A)) idm r c = mm n (inv n (inv n A)) (mm n (inv n A) A) r c := mm_congr (fun _ _ => rfl) (fun i hi => (h1 i c hi hc).symm)
  rw [e1, ← mm_assoc]
  have e2 : mm n (mm n (inv n (inv n A)) (inv n A)) A r c = mm n idm A r c := mm_congr (fun i hi => h3 r i hr hi) (fun _ _ => rfl)
  rw [e2, id_mm A c hr]
theorem row_none {n : Nat} {A X : Nat → Nat → BitVec 8} (h : Inv n A) : (∀ c, c < n → mm n X A 0 c = 0#8) ↔ ∀ c, c < n → X 0 c = 0#8 := by
  constructor
  · intro h0 c hc
    rw [← mm_id X 0 hc]
    have e1 : mm n X idm 0 c = mm n X (mm n A (inv n A)) 0 c := mm_congr (fun _ _ => rfl) (fun i hi => ((inv_both h).2 i c hi hc).symm)
    rw [e1, ← mm_assoc]
    exact sm_none fun i hi => by rw [h0 i hi, gm_zero_left]
  · intro h0 c hc
    exact sm_none fun i hi => by rw [h0 i hi, gm_zero_left]

/-! ### powers -/
/-- the sum of f c times the c-th power of x, for c below n -/
def hn : Nat → (Nat → BitVec 8) → BitVec 8 → BitVec 8
  | 0, _, _ => 0#8
  | n + 1, f, x => f 0 ^^^ gm x (hn n (fun i => f (i + 1)) x)
theorem sm_first (n : Nat) (f : Nat → BitVec 8) : sm (n + 1) f = f 0 ^^^ sm n (fun i => f (i + 1)) := by
  induction n with
  | zero => rw [sm_succ, sm_zero_, sm_zero_, zero_xor, xor_zero]
  | succ n ih => rw [sm_succ, ih, sm_succ, BitVec.xor_assoc]
theorem hn_sm (x : BitVec 8) : ∀ n f, sm n (fun c => gm (pw x c) (f c)) = hn n f x := by
  intro n
  induction n with
  | zero => intro f; rfl
  | succ n ih =>
    intro f
    rw [sm_first, pw_zero, gm_one_left]
    have e : sm n (fun i => gm (pw x (i + 1)) (f (i + 1))) = gm x (sm n (fun i => gm (pw x i) (f (i + 1)))) := by
      rw [gm_sm]; exact sm_congr fun i _ => by rw [pw_succ, gm_assoc]
    rw [e, ih]; rfl
theorem hn_congr {n : Nat} {f g : Nat → BitVec 8} {x : BitVec 8} (h : ∀ i, i < n → f i = g i) : hn n f x = hn n g x := by
  rw [← hn_sm, ← hn_sm]; exact sm_congr fun i hi => by rw [h i hi]
/-- a sum that is 0 at a, divided -/
theorem hn_div (N : Nat) (f : Nat → BitVec 8) (a x : BitVec 8) : ∀ m c, c + m = N →
    hn m (fun i => f (c + i)) x = hn m (fun i => f (c + i)) a ^^^ gm (x ^^^ a) (hn (m - 1) (fun i => hn (N - (c + 1 + i)) (fun j => f (c + 1 + i + j)) a) x) := by
  intro m
  induction m with
  | zero => intro c _; show 0#8 = 0#8 ^^^ gm (x ^^^ a) 0#8; rw [gm_zero_right, xor_zero]
  | succ m ih =>
    intro c hc
    have sh : ∀ z, hn (m + 1) (fun i => f (c + i)) z = f c ^^^ gm z (hn m (fun i => f (c + 1 + i)) z) := fun z => by
      show f (c + 0) ^^^ gm z (hn m (fun i => f (c + (i + 1))) z) = _
      rw [Nat.add_zero]
      congr 2
      exact hn_congr fun i _ => by rw [show c + (i + 1) = c + 1 + i by omega]
    rw [sh x, sh a, Nat.add_sub_cancel]
    have ih' := ih (c + 1) (by omega)
    rw [ih']
    cases m with
    | zero =>
      show f c ^^^ gm x (0#8 ^^^ gm (x ^^^ a) 0#8) = f c ^^^ gm a 0#8 ^^^ gm (x ^^^ a) 0#8
      rw [gm_zero_right, gm_zero_right, xor_zero, gm_zero_right, xor_zero, xor_zero]
    | succ m =>
      rw [Nat.add_sub_cancel]
      have e : hn (m + 1) (fun i => hn (N - (c + 1 + i)) (fun j => f (c + 1 + i + j)) a) x = hn (m + 1) (fun i => f (c + 1 + i)) a ^^^ gm x (hn m (fun i => hn (N - (c + 1 + 1 + i)) (fun j => f (c + 1 + 1 + i + j)) a) x) := by
        show hn (N - (c + 1 + 0)) (fun j => f (c + 1 + 0 + j)) a ^^^ gm x (hn m (fun i => hn (N - (c + 1 + (i + 1))) (fun j => f (c + 1 + (i + 1) + j)) a) x) = _
        rw [show N - (c + 1 + 0) = m + 1 by omega]
        congr 2
        exact hn_congr fun i _ => by rw [show c + 1 + (i + 1) = c + 1 + 1 + i by omega]
      rw [e]
      generalize hn (m + 1) (fun i => f (c + 1 + i)) a = P
      generalize hn m (fun i => hn (N - (c + 1 + 1 + i)) (fun j => f (c + 1 + 1 + i + j)) a) x = Q
      -- f + x (P + (x + a) Q) = f + a P + (x + a) (P + x Q)
      have e3 : gm x (gm (x ^^^ a) Q) = gm (x ^^^ a) (gm x Q) := by rw [← gm_assoc, ← gm_assoc, gm_comm x (x ^^^ a)]
      have e4 : gm (x ^^^ a) P = gm x P ^^^ gm a P := gm_xor_left _ _ _
      rw [gm_xor x P, gm_xor (x ^^^ a) P, e3, e4]
      generalize gm (x ^^^ a) (gm x Q) = R
      rw [BitVec.xor_assoc (f c) (gm a P)]
      congr 1
      rw [← BitVec.xor_assoc (gm a P), xor_lc (gm a P), xor_self, xor_zero]
/-- so many different roots: nothing is left -/
theorem roots : ∀ (n : Nat) (f : Nat → BitVec 8) (x : Nat → BitVec 8), (∀ i j, i < n → j < n → x i = x j → i = j) → (∀ r, r < n → hn n f (x r) = 0#8) → ∀ c, c < n → f c = 0#8 := by
  intro n
  induction n with
  | zero => intro f x _ _ c hc; omega
  | succ n ih =>
    intro f x hx h0 c hc
    let q : Nat → BitVec 8 := fun i => hn (n + 1 - (i + 1)) (fun j => f (i + 1 + j)) (x n)
    have hq : ∀ r, r < n → hn n q (x r) = 0#8 := fun r hr => by
      have d := hn_div (n + 1) f (x n) (x r) (n + 1) 0 (by omega)
      have z : ∀ y, hn (n + 1) (fun i => f (0 + i)) y = hn (n + 1) f y := fun y => hn_congr fun i _ => by rw [Nat.zero_add]
      rw [z, z, h0 r (by omega), h0 n (by omega), zero_xor, Nat.add_sub_cancel] at d
      have e : hn n (fun i => hn (n + 1 - (0 + 1 + i)) (fun j => f (0 + 1 + i + j)) (x n)) (x r) = hn n q (x r) := hn_congr fun i _ => by
        show hn (n + 1 - (0 + 1 + i)) (fun j => f (0 + 1 + i + j)) (x n) = hn (n + 1 - (i + 1)) (fun j => f (i + 1 + j)) (x n)
        rw [show 0 + 1 + i = i + 1 by omega]
      rw [e] at d
      rcases (gm_zero _ _).1 d.symm with h | h
      · exfalso
        have : x r = x n := by rw [← xor_zero (x r), ← xor_self (x n), ← BitVec.xor_assoc, h, zero_xor]
        have := hx r n (by omega) (by omega) this
        omega
      · exact h
    have q0 := ih q x (fun i j hi hj => hx i j (by omega) (by omega)) hq
    -- the value at x n, from c on, is 0, for every c
    have tail : ∀ c, c ≤ n → hn (n + 1 - c) (fun j => f (c + j)) (x n) = 0#8 := fun c hc => by
      cases c with
      | zero =>
        have : hn (n + 1) (fun i => f (0 + i)) (x n) = hn (n + 1) f (x n) := hn_congr fun i _ => by rw [Nat.zero_add]
        rw [Nat.sub_zero, this]; exact h0 n (by omega)
      | succ c => exact q0 c (by omega)
    have t := tail c (by omega)
    rw [show n + 1 - c = n - c + 1 by omega] at t
    have t2 : f (c + 0) ^^^ gm (x n) (hn (n - c) (fun j => f (c + (j + 1))) (x n)) = 0#8 := t
    have e : hn (n - c) (fun j => f (c + (j + 1))) (x n) = 0#8 := by
      by_cases hcn : c = n
      · subst hcn; rw [Nat.sub_self]; rfl
      · have := tail (c + 1) (by omega)
        rw [show n + 1 - (c + 1) = n - c by omega] at this
        rw [← this]
        exact hn_congr fun i _ => by rw [show c + (i + 1) = c + 1 + i by omega]
    rw [e, gm_zero_right, xor_zero, Nat.add_zero] at t2
    exact t2
/-- so many different rows of powers have an inverse -/
theorem powers_inv (n : Nat) (x : Nat → BitVec 8) (hx : ∀ i j, i < n → j < n → x i = x j → i = j) : Inv n (fun r c => pw (x r) c) := by
  by_cases hi : Inv n (fun r c => pw (x r) c)
  · exact hi
  · obtain ⟨y, ⟨k, hk, hy⟩, h0⟩ := sing hi
    exfalso
    exact hy (roots n y x hx (fun r hr => by rw [← hn_sm]; exact h0 r hr) k hk)
end Go.Proofs.Ytohbijjkkadbaaa.Mat
