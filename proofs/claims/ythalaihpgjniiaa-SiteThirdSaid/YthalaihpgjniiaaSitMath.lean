/- Rings of living nodes, what is spread, the third region, a place besides. No walk. -/
import Derived.Test.YthalaihpgjniiaaSitNum
namespace Go.Proofs.Ythalaihpgjniiaa.Mat
open Go.RowKit Fld

/-! ### rings -/
/-- does a node live? -/
def lv (f : Nat → Bool) (N n : Nat) : Bool := decide (n < N) && f n
theorem lv_yes {f : Nat → Bool} {N n : Nat} (h : n < N) : lv f N n = f n := by unfold lv; rw [decide_eq_true h]; rfl
theorem lv_no {f : Nat → Bool} {N n : Nat} (h : ¬ n < N) : lv f N n = false := by unfold lv; rw [decide_eq_false h]; rfl
/-- the living ones of a, a + 1, .. -/
def rup (p : Nat → Bool) (a : Nat) : Nat → List Nat
  | 0 => []
  | k + 1 => if p (a + k) = true then rup p a k ++ [a + k] else rup p a k
theorem rup_yes {p : Nat → Bool} {a k : Nat} (h : p (a + k) = true) : rup p a (k + 1) = rup p a k ++ [a + k] := if_pos h
theorem rup_no {p : Nat → Bool} {a k : Nat} (h : p (a + k) = false) : rup p a (k + 1) = rup p a k := if_neg (by rw [h]; exact Bool.false_ne_true)
theorem rup_len (p : Nat → Bool) (a : Nat) : ∀ k, (rup p a k).length ≤ k
  | 0 => Nat.le_refl _
  | k + 1 => by
    have := rup_len p a k
    cases h : p (a + k)
    · rw [rup_no h]; omega
    · rw [rup_yes h]; simp; omega
theorem rup_mem {p : Nat → Bool} {a x : Nat} : ∀ {k : Nat}, x ∈ rup p a k ↔ a ≤ x ∧ x < a + k ∧ p x = true
  | 0 => by simp [rup]; omega
  | k + 1 => by
    have ih := rup_mem (p := p) (a := a) (x := x) (k := k)
    cases h : p (a + k)
    · rw [rup_no h, ih]
      constructor
      · rintro ⟨h1, h2, h3⟩; exact ⟨h1, by omega, h3⟩
      · rintro ⟨h1, h2, h3⟩
        refine ⟨h1, ?_, h3⟩
        rcases Nat.lt_or_ge x (a + k) with q | q
        · exact q
        · rw [show x = a + k by omega, h] at h3; cases h3
    · rw [rup_yes h, List.mem_append, ih, List.mem_singleton]
      constructor
      · rintro (⟨h1, h2, h3⟩ | rfl)
        · exact ⟨h1, by omega, h3⟩
        · exact ⟨by omega, by omega, h⟩
      · rintro ⟨h1, h2, h3⟩
        rcases Nat.lt_or_ge x (a + k) with q | q
        · exact .inl ⟨h1, q, h3⟩
        · exact .inr (by omega)
theorem rup_nodup (p : Nat → Bool) (a : Nat) : ∀ k, (rup p a k).Nodup
  | 0 => List.nodup_nil
  | k + 1 => by
    have ih := rup_nodup p a k
    cases h : p (a + k)
    · rw [rup_no h]; exact ih
    · rw [rup_yes h]
      refine List.nodup_append.2 ⟨ih, by simp, fun x hx y hy => ?_⟩
      rw [List.mem_singleton.1 hy]
      have := (rup_mem.1 hx).2.1
      omega
/-- a ring -/
def rg (p : Nat → Bool) (v n : Nat) : List Nat := rup p (v % n) (n - v % n) ++ rup p 0 (v % n)
theorem rg_mem {p : Nat → Bool} {v n x : Nat} (hn : 0 < n) : x ∈ rg p v n ↔ x < n ∧ p x = true := by
  have := Nat.mod_lt v hn
  unfold rg
  rw [List.mem_append, rup_mem, rup_mem]
  constructor
  · rintro (⟨h1, h2, h3⟩ | ⟨h1, h2, h3⟩)
    · exact ⟨by omega, h3⟩
    · exact ⟨by omega, h3⟩
  · rintro ⟨h1, h3⟩
    rcases Nat.lt_or_ge x (v % n) with q | q
    · exact .inr ⟨Nat.zero_le _, by omega, h3⟩
    · exact .inl ⟨q, by omega, h3⟩
theorem rg_nodup (p : Nat → Bool) (v n : Nat) : (rg p v n).Nodup := by
  unfold rg
  refine List.nodup_append.2 ⟨rup_nodup _ _ _, rup_nodup _ _ _, fun x hx y hy => ?_⟩
  have := (rup_mem.1 hx).1
  have := (rup_mem.1 hy).2.1
  omega
theorem rg_len {p : Nat → Bool} {v n : Nat} (hn : 0 < n) : (rg p v n).length ≤ n := by
  have h1 := rup_len p (v % n) (n - v % n)
  have h2 := rup_len p 0 (v % n)
  have := Nat.mod_lt v hn
  unfold rg
  rw [List.length_append]; omega
/-- it begins with the volume's -/
theorem rup_head (p : Nat → Bool) (a : Nat) : ∀ {k : Nat}, 0 < k → p a = true → (rup p a k)[0]? = some a
  | 1, _, h => by
    rw [rup_yes (k := 0) h]; rfl
  | k + 2, _, h => by
    have ih := rup_head p a (k := k + 1) (by omega) h
    cases hb : p (a + (k + 1))
    · rw [rup_no hb]; exact ih
    · rw [rup_yes hb, List.getElem?_append_left (List.getElem?_eq_some_iff.1 ih).1]; exact ih
theorem rg_head {p : Nat → Bool} {v n : Nat} (hn : 0 < n) (h : p (v % n) = true) : (rg p v n)[0]? = some (v % n) := by
  have := Nat.mod_lt v hn
  have q := rup_head p (v % n) (k := n - v % n) (by omega) h
  unfold rg
  rw [List.getElem?_append_left (List.getElem?_eq_some_iff.1 q).1]; exact q
/-- how many of the first nodes live -/
def cn (p : Nat → Bool) : Nat → Nat
  | 0 => 0
  | k + 1 => if p k = true then cn p k + 1 else cn p k
theorem cn_yes {p : Nat → Bool} {k : Nat} (h : p k = true) : cn p (k + 1) = cn p k + 1 := if_pos h
theorem cn_no {p : Nat → Bool} {k : Nat} (h : p k = false) : cn p (k + 1) = cn p k := if_neg (by rw [h]; exact Bool.false_ne_true)
theorem cn_le (p : Nat → Bool) : ∀ k, cn p k ≤ k
  | 0 => Nat.le_refl _
  | k + 1 => by
    have := cn_le p k
    cases h : p k
    · rw [cn_no h]; omega
    · rw [cn_yes h]; omega
theorem cn_add (p : Nat → Bool) (a : Nat) : ∀ k, (rup p a k).length + cn p a = cn p (a + k)
  | 0 => by simp [rup]
  | k + 1 => by
    have ih := cn_add p a k
    show (rup p a (k + 1)).length + cn p a = cn p (a + k + 1)
    cases h : p (a + k)
    · rw [rup_no h, cn_no h]; exact ih
    · rw [rup_yes h, cn_yes h, List.length_append]; simp only [List.length_cons, List.length_nil]; omega
theorem rg_count {p : Nat → Bool} {v n : Nat} (hn : 0 < n) : (rg p v n).length = cn p n := by
  have := Nat.mod_lt v hn
  have h1 := cn_add p (v % n) (n - v % n)
  have h2 := cn_add p 0 (v % n)
  rw [show v % n + (n - v % n) = n by omega] at h1
  rw [Nat.zero_add] at h2
  have h0 : cn p 0 = 0 := rfl
  unfold rg
  rw [List.length_append]; omega
/-- of any numbers -/
def rgL (p : Nat → Bool) (vol nodes : Int) : List Nat := if vol < 0 ∨ nodes < 1 ∨ 64 < nodes then [] else rg p vol.toNat nodes.toNat
theorem rgL_no {p : Nat → Bool} {vol nodes : Int} (h : vol < 0 ∨ nodes < 1 ∨ 64 < nodes) : rgL p vol nodes = [] := if_pos h
theorem rgL_yes {p : Nat → Bool} {v n : Nat} (h1 : 1 ≤ n) (h2 : n ≤ 64) : rgL p (v : Int) (n : Int) = rg p v n := by
  unfold rgL
  rw [if_neg (by omega)]; rfl
theorem rgL_len (p : Nat → Bool) (vol nodes : Int) : (rgL p vol nodes).length ≤ 64 := by
  by_cases h : vol < 0 ∨ nodes < 1 ∨ 64 < nodes
  · rw [rgL_no h]; exact Nat.zero_le _
  · have := rg_len (p := p) (v := vol.toNat) (n := nodes.toNat) (by omega)
    unfold rgL
    rw [if_neg h]; omega
theorem rgL_lt {p : Nat → Bool} {vol nodes : Int} {x : Nat} (h : x ∈ rgL p vol nodes) : (x : Int) < nodes ∧ x < 64 ∧ p x = true := by
  by_cases hb : vol < 0 ∨ nodes < 1 ∨ 64 < nodes
  · rw [rgL_no hb] at h; cases h
  · unfold rgL at h
    rw [if_neg hb] at h
    have := (rg_mem (by omega)).1 h
    exact ⟨by omega, by omega, this.2⟩
theorem rgL_nodup (p : Nat → Bool) (vol nodes : Int) : (rgL p vol nodes).Nodup := by
  unfold rgL
  by_cases h : vol < 0 ∨ nodes < 1 ∨ 64 < nodes
  · rw [if_pos h]; exact List.nodup_nil
  · rw [if_neg h]; exact rg_nodup _ _ _

/-! ### what is spread -/
def spOk (vol region many nodes : Int) : Bool := decide (1 ≤ region ∧ region ≤ 3 ∧ 0 ≤ many ∧ 0 ≤ vol ∧ 1 ≤ nodes ∧ nodes ≤ 64)
def stE (p : Nat → Bool) (vol region many nodes : Int) : Int := if spOk vol region many nodes = true then (if ((rgL p vol nodes).length : Int) < many then 10 else 0) else 1
def stL (p : Nat → Bool) (vol region many nodes : Int) : List (Int × Int) := if stE p vol region many nodes = 0 then ((rgL p vol nodes).map (fun (n : Nat) => (region, (n : Int)))).take many.toNat else []
theorem st_bad {p : Nat → Bool} {vol region many nodes : Int} (h : spOk vol region many nodes = false) : stE p vol region many nodes = 1 ∧ stL p vol region many nodes = [] := by
  have e : stE p vol region many nodes = 1 := if_neg (by rw [h]; exact Bool.false_ne_true)
  exact ⟨e, if_neg (by rw [e]; decide)⟩
theorem st_few {p : Nat → Bool} {vol region many nodes : Int} (h : spOk vol region many nodes = true) (h2 : ((rgL p vol nodes).length : Int) < many) : stE p vol region many nodes = 10 ∧ stL p vol region many nodes = [] := by
  have e : stE p vol region many nodes = 10 := by unfold stE; rw [if_pos h, if_pos h2]
  exact ⟨e, if_neg (by rw [e]; decide)⟩
theorem st_yes {p : Nat → Bool} {vol region many nodes : Int} (h : spOk vol region many nodes = true) (h2 : ¬ ((rgL p vol nodes).length : Int) < many) : stE p vol region many nodes = 0 ∧ stL p vol region many nodes = ((rgL p vol nodes).map (fun (n : Nat) => (region, (n : Int)))).take many.toNat := by
  have e : stE p vol region many nodes = 0 := by unfold stE; rw [if_pos h, if_neg h2]
  exact ⟨e, if_pos e⟩
theorem st_or (p : Nat → Bool) (vol region many nodes : Int) : (stE p vol region many nodes ≠ 0 ∧ stL p vol region many nodes = []) ∨ (stE p vol region many nodes = 0 ∧ spOk vol region many nodes = true ∧ many.toNat ≤ (rgL p vol nodes).length ∧ (many.toNat : Int) = many ∧ stL p vol region many nodes = ((rgL p vol nodes).map (fun (n : Nat) => (region, (n : Int)))).take many.toNat) := by
  cases h : spOk vol region many nodes
  · obtain ⟨e1, e2⟩ := st_bad (p := p) h
    exact .inl ⟨by rw [e1]; decide, e2⟩
  · by_cases h2 : ((rgL p vol nodes).length : Int) < many
    · obtain ⟨e1, e2⟩ := st_few h h2
      exact .inl ⟨by rw [e1]; decide, e2⟩
    · obtain ⟨e1, e2⟩ := st_yes h h2
      have := of_decide_eq_true h
      exact .inr ⟨e1, rfl, by omega, by omega, e2⟩

/-! ### the third region -/
def thOk (a b : Int) : Bool := decide (1 ≤ a ∧ a ≤ 3 ∧ 1 ≤ b ∧ b ≤ 3 ∧ a ≠ b)
def thE (a b : Int) : Int := if thOk a b = true then 0 else 1
def thR (a b : Int) : Int := if thOk a b = true then 6 - a - b else 0
theorem th_yes {a b : Int} (h : thOk a b = true) : thE a b = 0 ∧ thR a b = 6 - a - b := ⟨if_pos h, if_pos h⟩
theorem th_no {a b : Int} (h : thOk a b = false) : thE a b = 1 ∧ thR a b = 0 := ⟨if_neg (by rw [h]; exact Bool.false_ne_true), if_neg (by rw [h]; exact Bool.false_ne_true)⟩
theorem thOk_iff {a b : Int} : thOk a b = true ↔ (1 ≤ a ∧ a ≤ 3 ∧ 1 ≤ b ∧ b ≤ 3 ∧ a ≠ b) := decide_eq_true_iff
theorem thOk_niff {a b : Int} : thOk a b = false ↔ ¬ (1 ≤ a ∧ a ≤ 3 ∧ 1 ≤ b ∧ b ≤ 3 ∧ a ≠ b) := decide_eq_false_iff_not

/-! ### a place besides -/
/-- the first number below n of which q is true; n, if there is none -/
def fi (q : Nat → Bool) : Nat → Nat
  | 0 => 0
  | n + 1 => if fi q n < n then fi q n else if q n = true then n else n + 1
theorem fi_all (q : Nat → Bool) : ∀ n, fi q n ≤ n ∧ (fi q n < n → q (fi q n) = true) ∧ ∀ j, j < fi q n → q j = false
  | 0 => ⟨Nat.le_refl _, fun h => absurd h (Nat.lt_irrefl _), fun j h => absurd h (Nat.not_lt_zero _)⟩
  | n + 1 => by
    obtain ⟨h1, h2, h3⟩ := fi_all q n
    unfold fi
    by_cases a : fi q n < n
    · rw [if_pos a]
      exact ⟨by omega, fun _ => h2 a, h3⟩
    · rw [if_neg a]
      have e : fi q n = n := by omega
      rw [e] at h3
      by_cases b : q n = true
      · rw [if_pos b]
        exact ⟨by omega, fun _ => b, h3⟩
      · rw [if_neg b]
        refine ⟨Nat.le_refl _, fun h => absurd h (Nat.lt_irrefl _), fun j hj => ?_⟩
        rcases Nat.lt_or_ge j n with q' | q'
        · exact h3 j q'
        · have : j = n := by omega
          subst this
          simpa using b
theorem fi_at {q : Nat → Bool} {n k : Nat} (hk : k < n) (hp : q k = true) (hb : ∀ j, j < k → q j = false) : fi q n = k := by
  obtain ⟨h1, h2, h3⟩ := fi_all q n
  rcases Nat.lt_trichotomy (fi q n) k with r | r | r
  · have := h2 (by omega)
    rw [hb _ r] at this; cases this
  · exact r
  · rw [h3 _ r] at hp; cases hp
theorem fi_none {q : Nat → Bool} {n : Nat} (hb : ∀ j, j < n → q j = false) : fi q n = n := by
  obtain ⟨h1, h2, _⟩ := fi_all q n
  rcases Nat.lt_or_ge (fi q n) n with r | r
  · have := h2 r
    rw [hb _ r] at this; cases this
  · omega
/-- has one of the first places that node? -/
def tk (l : List (Int × Int)) (r : Int) : Nat → Bool
  | 0 => false
  | k + 1 => tk l r k || decide ((l[k]?.getD (0, 0)).2 = r)
theorem tk_iff {l : List (Int × Int)} {r : Int} : ∀ {k : Nat}, tk l r k = true ↔ ∃ j, j < k ∧ (l[j]?.getD (0, 0)).2 = r
  | 0 => by simp [tk]
  | k + 1 => by
    unfold tk
    rw [Bool.or_eq_true, tk_iff, decide_eq_true_iff]
    constructor
    · rintro (⟨j, h1, h2⟩ | h)
      · exact ⟨j, by omega, h2⟩
      · exact ⟨k, by omega, h⟩
    · rintro ⟨j, h1, h2⟩
      rcases Nat.lt_or_ge j k with q | q
      · exact .inl ⟨j, q, h2⟩
      · rw [show j = k by omega] at h2; exact .inr h2
/-- are the first places of one region? -/
def on1 (l : List (Int × Int)) : Nat → Bool
  | 0 => true
  | k + 1 => on1 l k && decide ((l[k]?.getD (0, 0)).1 = (l[0]?.getD (0, 0)).1)
theorem on1_iff {l : List (Int × Int)} : ∀ {k : Nat}, on1 l k = true ↔ ∀ j, j < k → (l[j]?.getD (0, 0)).1 = (l[0]?.getD (0, 0)).1
  | 0 => by simp [on1]
  | k + 1 => by
    unfold on1
    rw [Bool.and_eq_true, on1_iff, decide_eq_true_iff]
    constructor
    · rintro ⟨h1, h2⟩ j hj
      rcases Nat.lt_or_ge j k with q | q
      · exact h1 j q
      · rw [show j = k by omega]; exact h2
    · exact fun h => ⟨fun j hj => h j (by omega), h k (Nat.lt_succ_self k)⟩
def nxOk (l : List (Int × Int)) (nodes : Int) : Bool := decide (0 < l.length ∧ 1 ≤ nodes ∧ nodes ≤ 64) && on1 l l.length
theorem nxOk_iff {l : List (Int × Int)} {nodes : Int} : nxOk l nodes = true ↔ ((0 < l.length ∧ 1 ≤ nodes ∧ nodes ≤ 64) ∧ on1 l l.length = true) := by unfold nxOk; rw [Bool.and_eq_true, decide_eq_true_iff]
theorem nxOk_niff {l : List (Int × Int)} {nodes : Int} : nxOk l nodes = false ↔ ¬ ((0 < l.length ∧ 1 ≤ nodes ∧ nodes ≤ 64) ∧ on1 l l.length = true) := by rw [← nxOk_iff]; simp
/-- from which node on -/
def nxV (l : List (Int × Int)) (nodes : Int) : Int := if (l[l.length - 1]?.getD (0, 0)).2.tmod nodes < 0 then 0 else (l[l.length - 1]?.getD (0, 0)).2.tmod nodes
def nxI (p : Nat → Bool) (l : List (Int × Int)) (nodes : Int) : Nat := fi (fun i => !(tk l (((rgL p (nxV l nodes) nodes)[i]?.getD 0 : Nat) : Int) l.length)) (rgL p (nxV l nodes) nodes).length
def nxE (p : Nat → Bool) (l : List (Int × Int)) (nodes : Int) : Int := if nxOk l nodes = true then (if nxI p l nodes < (rgL p (nxV l nodes) nodes).length then 0 else 10) else 1
def nxR (p : Nat → Bool) (l : List (Int × Int)) (nodes : Int) : Int := if nxE p l nodes = 0 then (l[0]?.getD (0, 0)).1 else 0
def nxN (p : Nat → Bool) (l : List (Int × Int)) (nodes : Int) : Int := if nxE p l nodes = 0 then (((rgL p (nxV l nodes) nodes)[nxI p l nodes]?.getD 0 : Nat) : Int) else 0
section
variable {p : Nat → Bool} {l : List (Int × Int)} {nodes : Int}
theorem nx_bad (h : nxOk l nodes = false) : nxE p l nodes = 1 ∧ nxR p l nodes = 0 ∧ nxN p l nodes = 0 := by
  have e : nxE p l nodes = 1 := if_neg (by rw [h]; exact Bool.false_ne_true)
  exact ⟨e, if_neg (by rw [e]; decide), if_neg (by rw [e]; decide)⟩
theorem nx_few (h : nxOk l nodes = true) (hb : ∀ i, i < (rgL p (nxV l nodes) nodes).length → tk l (((rgL p (nxV l nodes) nodes)[i]?.getD 0 : Nat) : Int) l.length = true) : nxE p l nodes = 10 ∧ nxR p l nodes = 0 ∧ nxN p l nodes = 0 := by
  have e0 : nxI p l nodes = (rgL p (nxV l nodes) nodes).length := fi_none (fun i hi => by show (!(tk _ _ _)) = false; rw [hb i hi]; rfl)
  have e : nxE p l nodes = 10 := by unfold nxE; rw [if_pos h, e0, if_neg (Nat.lt_irrefl _)]
  exact ⟨e, if_neg (by rw [e]; decide), if_neg (by rw [e]; decide)⟩
theorem nx_at {i : Nat} (h : nxOk l nodes = true) (hi : i < (rgL p (nxV l nodes) nodes).length) (hn : tk l (((rgL p (nxV l nodes) nodes)[i]?.getD 0 : Nat) : Int) l.length = false) (hb : ∀ j, j < i → tk l (((rgL p (nxV l nodes) nodes)[j]?.getD 0 : Nat) : Int) l.length = true) :
    nxE p l nodes = 0 ∧ nxR p l nodes = (l[0]?.getD (0, 0)).1 ∧ nxN p l nodes = (((rgL p (nxV l nodes) nodes)[i]?.getD 0 : Nat) : Int) := by
  have e0 : nxI p l nodes = i := fi_at hi (by show (!(tk _ _ _)) = true; rw [hn]; rfl) (fun j hj => by show (!(tk _ _ _)) = false; rw [hb j hj]; rfl)
  have e : nxE p l nodes = 0 := by unfold nxE; rw [if_pos h, e0, if_pos hi]
  exact ⟨e, if_pos e, by unfold nxN; rw [if_pos e, e0]⟩
/-- .. one of the two -/
theorem nx_or : (nxE p l nodes ≠ 0 ∧ nxR p l nodes = 0 ∧ nxN p l nodes = 0) ∨ (nxE p l nodes = 0 ∧ nxOk l nodes = true ∧ nxR p l nodes = (l[0]?.getD (0, 0)).1 ∧ ∃ n : Nat, nxN p l nodes = (n : Int) ∧ n ∈ rgL p (nxV l nodes) nodes ∧ tk l (n : Int) l.length = false) := by
  cases h : nxOk l nodes
  · obtain ⟨e1, e2, e3⟩ := nx_bad (p := p) h
    exact .inl ⟨by rw [e1]; decide, e2, e3⟩
  · obtain ⟨h1, h2, h3⟩ := fi_all (fun i => !(tk l (((rgL p (nxV l nodes) nodes)[i]?.getD 0 : Nat) : Int) l.length)) (rgL p (nxV l nodes) nodes).length
    have g3 : ∀ j, j < fi (fun i => !(tk l (((rgL p (nxV l nodes) nodes)[i]?.getD 0 : Nat) : Int) l.length)) (rgL p (nxV l nodes) nodes).length → tk l (((rgL p (nxV l nodes) nodes)[j]?.getD 0 : Nat) : Int) l.length = true := fun j hj => by simpa using h3 j hj
    rcases Nat.lt_or_ge (fi (fun i => !(tk l (((rgL p (nxV l nodes) nodes)[i]?.getD 0 : Nat) : Int) l.length)) (rgL p (nxV l nodes) nodes).length) (rgL p (nxV l nodes) nodes).length with q | q
    · have g2 : tk l (((rgL p (nxV l nodes) nodes)[fi (fun i => !(tk l (((rgL p (nxV l nodes) nodes)[i]?.getD 0 : Nat) : Int) l.length)) (rgL p (nxV l nodes) nodes).length]?.getD 0 : Nat) : Int) l.length = false := by simpa using h2 q
      obtain ⟨e1, e2, e3⟩ := nx_at h q g2 g3
      refine .inr ⟨e1, rfl, e2, _, e3, ?_, g2⟩
      rw [List.getElem?_eq_getElem q]
      exact List.getElem_mem q
    · have e : fi (fun i => !(tk l (((rgL p (nxV l nodes) nodes)[i]?.getD 0 : Nat) : Int) l.length)) (rgL p (nxV l nodes) nodes).length = (rgL p (nxV l nodes) nodes).length := by omega
      rw [e] at g3
      obtain ⟨e1, e2, e3⟩ := nx_few h g3
      exact .inl ⟨by rw [e1]; decide, e2, e3⟩
theorem nxV_ge (h : 1 ≤ nodes) : 0 ≤ nxV l nodes ∧ nxV l nodes < nodes := by
  have h1 := Int.tmod_lt_of_pos (l[l.length - 1]?.getD (0, 0)).2 (show 0 < nodes by omega)
  unfold nxV
  by_cases e : (l[l.length - 1]?.getD (0, 0)).2.tmod nodes < 0
  · rw [if_pos e]; omega
  · rw [if_neg e]; omega
end
end Go.Proofs.Ythalaihpgjniiaa.Mat
