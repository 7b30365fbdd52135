/- Shelves: what a disk's slots have; what is listed, found, put and dropped. No walk. -/
import Derived.Test.YtofafmjkjgiccaaSheMath
namespace Go.Proofs.Ytofafmjkjgiccaa.Mat
open Go.RowKit Fld

/-! ### the first one -/
/-- the first number below n of which p is true; n, if there is none -/
def fo (p : Nat → Bool) : Nat → Nat
  | 0 => 0
  | n + 1 => if fo p n < n then fo p n else if p n = true then n else n + 1
theorem fo_all (p : Nat → Bool) : ∀ n, fo p n ≤ n ∧ (fo p n < n → p (fo p n) = true) ∧ ∀ j, j < fo p n → p j = false
  | 0 => ⟨Nat.le_refl _, fun h => absurd h (Nat.lt_irrefl _), fun j h => absurd h (Nat.not_lt_zero _)⟩
  | n + 1 => by
    obtain ⟨h1, h2, h3⟩ := fo_all p n
    unfold fo
    by_cases a : fo p n < n
    · rw [if_pos a]
      exact ⟨by omega, fun _ => h2 a, h3⟩
    · rw [if_neg a]
      have e : fo p n = n := by omega
      rw [e] at h3
      by_cases b : p n = true
      · rw [if_pos b]
        exact ⟨by omega, fun _ => b, h3⟩
      · rw [if_neg b]
        refine ⟨Nat.le_refl _, fun h => absurd h (Nat.lt_irrefl _), fun j hj => ?_⟩
        rcases Nat.lt_or_ge j n with q | q
        · exact h3 j q
        · have : j = n := by omega
          subst this
          simpa using b
theorem fo_at {p : Nat → Bool} {n k : Nat} (hk : k < n) (hp : p k = true) (hb : ∀ j, j < k → p j = false) : fo p n = k := by
  obtain ⟨h1, h2, h3⟩ := fo_all p n
  rcases Nat.lt_trichotomy (fo p n) k with q | q | q
  · have := h2 (by omega)
    rw [hb _ q] at this; cases this
  · exact q
  · rw [h3 _ q] at hp; cases hp
theorem fo_none {p : Nat → Bool} {n : Nat} (hb : ∀ j, j < n → p j = false) : fo p n = n := by
  obtain ⟨h1, h2, _⟩ := fo_all p n
  rcases Nat.lt_or_ge (fo p n) n with q | q
  · have := h2 q
    rw [hb _ q] at this; cases this
  · omega
theorem fo_congr {p q : Nat → Bool} : ∀ {n : Nat}, (∀ j, j < n → p j = q j) → fo p n = fo q n
  | 0, _ => rfl
  | n + 1, h => by
    unfold fo
    rw [fo_congr (fun j hj => h j (by omega)), h n (Nat.lt_succ_self n)]

/-! ### slots -/
/-- a slot's text -/
def gs (d : Dk) (j : Nat) : ByteArray := getS d (j : Int)
/-- the text has a shard of the key -/
def hasK (v i : Int) (s : ByteArray) : Bool := shB s && (decide ((shV s : Int) = v) && decide ((shI s : Int) = i))
theorem hasK_iff {v i : Int} {s : ByteArray} : hasK v i s = true ↔ shB s = true ∧ (shV s : Int) = v ∧ (shI s : Int) = i := by
  unfold hasK
  simp
theorem hasK_no {v i : Int} {s : ByteArray} (h : shB s = false) : hasK v i s = false := by unfold hasK; rw [h]; rfl
theorem hasK_niff {v i : Int} {s : ByteArray} : hasK v i s = false ↔ ¬ (shB s = true ∧ (shV s : Int) = v ∧ (shI s : Int) = i) := by
  rw [← hasK_iff]; simp
/-- what is found -/
def fdN (d : Dk) (v i : Int) : Nat := fo (fun j => hasK v i (gs d j)) d.n
def fdE (d : Dk) (v i : Int) : Int := if fdN d v i < d.n then 0 else 7
def fdX (d : Dk) (v i : Int) : ByteArray := if fdN d v i < d.n then shX (gs d (fdN d v i)) else ByteArray.empty
theorem fd_at {d : Dk} {v i : Int} {j : Nat} (hj : j < d.n) (h : hasK v i (gs d j) = true) (hb : ∀ r, r < j → hasK v i (gs d r) = false) : fdE d v i = 0 ∧ fdX d v i = shX (gs d j) := by
  have e : fdN d v i = j := fo_at hj h hb
  unfold fdE fdX
  rw [e, if_pos hj, if_pos hj]
  exact ⟨rfl, rfl⟩
theorem fd_none {d : Dk} {v i : Int} (hb : ∀ r, r < d.n → hasK v i (gs d r) = false) : fdE d v i = 7 ∧ fdX d v i = ByteArray.empty := by
  have e : fdN d v i = d.n := fo_none hb
  unfold fdE fdX
  rw [e, if_neg (Nat.lt_irrefl _), if_neg (Nat.lt_irrefl _)]
  exact ⟨rfl, rfl⟩
/-- .. either way -/
theorem fd_or (d : Dk) (v i : Int) : (∃ j, j < d.n ∧ hasK v i (gs d j) = true ∧ (∀ r, r < j → hasK v i (gs d r) = false) ∧ fdE d v i = 0 ∧ fdX d v i = shX (gs d j)) ∨ ((∀ r, r < d.n → hasK v i (gs d r) = false) ∧ fdE d v i = 7 ∧ fdX d v i = ByteArray.empty) := by
  obtain ⟨h1, h2, h3⟩ := fo_all (fun j => hasK v i (gs d j)) d.n
  rcases Nat.lt_or_ge (fo (fun j => hasK v i (gs d j)) d.n) d.n with q | q
  · exact .inl ⟨_, q, h2 q, h3, fd_at q (h2 q) h3⟩
  · have e : fo (fun j => hasK v i (gs d j)) d.n = d.n := by omega
    rw [e] at h3
    exact .inr ⟨h3, fd_none h3⟩
theorem fdE_or (d : Dk) (v i : Int) : fdE d v i = 0 ∨ fdE d v i = 7 := by
  unfold fdE
  by_cases q : fdN d v i < d.n
  · exact .inl (if_pos q)
  · exact .inr (if_neg q)
/-- the keys of the first slots -/
def ks (S : Nat → ByteArray) : Nat → List (Nat × Nat)
  | 0 => []
  | k + 1 => if shB (S k) = true ∧ (shV (S k), shI (S k)) ∉ ks S k then ks S k ++ [(shV (S k), shI (S k))] else ks S k
theorem ks_yes {S : Nat → ByteArray} {k : Nat} (h : shB (S k) = true) (h2 : (shV (S k), shI (S k)) ∉ ks S k) : ks S (k + 1) = ks S k ++ [(shV (S k), shI (S k))] := if_pos ⟨h, h2⟩
theorem ks_no {S : Nat → ByteArray} {k : Nat} (h : ¬ (shB (S k) = true ∧ (shV (S k), shI (S k)) ∉ ks S k)) : ks S (k + 1) = ks S k := if_neg h
theorem ks_len (S : Nat → ByteArray) : ∀ k, (ks S k).length ≤ k
  | 0 => Nat.le_refl _
  | k + 1 => by
    have := ks_len S k
    by_cases h : shB (S k) = true ∧ (shV (S k), shI (S k)) ∉ ks S k
    · rw [ks_yes h.1 h.2]; simp; omega
    · rw [ks_no h]; omega
theorem ks_mem {S : Nat → ByteArray} {v i : Nat} : ∀ {k : Nat}, (v, i) ∈ ks S k ↔ ∃ j, j < k ∧ shB (S j) = true ∧ shV (S j) = v ∧ shI (S j) = i
  | 0 => by simp [ks]
  | k + 1 => by
    have ih := ks_mem (S := S) (v := v) (i := i) (k := k)
    by_cases h : shB (S k) = true ∧ (shV (S k), shI (S k)) ∉ ks S k
    · rw [ks_yes h.1 h.2, List.mem_append, ih, List.mem_singleton, Prod.mk.injEq]
      constructor
      · rintro (⟨j, hj, r⟩ | ⟨e1, e2⟩)
        · exact ⟨j, by omega, r⟩
        · exact ⟨k, by omega, h.1, e1.symm, e2.symm⟩
      · rintro ⟨j, hj, r1, r2, r3⟩
        rcases Nat.lt_or_ge j k with q | q
        · exact .inl ⟨j, q, r1, r2, r3⟩
        · have : j = k := by omega
          subst this
          exact .inr ⟨r2.symm, r3.symm⟩
    · rw [ks_no h, ih]
      constructor
      · rintro ⟨j, hj, r⟩; exact ⟨j, by omega, r⟩
      · rintro ⟨j, hj, r1, r2, r3⟩
        rcases Nat.lt_or_ge j k with q | q
        · exact ⟨j, q, r1, r2, r3⟩
        · have e : j = k := by omega
          subst e
          have hm : (shV (S j), shI (S j)) ∈ ks S j := by
            cases Classical.em ((shV (S j), shI (S j)) ∈ ks S j) with
            | inl m => exact m
            | inr m => exact absurd ⟨r1, m⟩ h
          rw [r2, r3] at hm
          exact ih.1 hm
/-- the bad ones among the first slots -/
def bd (S : Nat → ByteArray) : Nat → List Nat
  | 0 => []
  | k + 1 => if shB (S k) = false ∧ ¬ (S k).size = 0 then bd S k ++ [k] else bd S k
theorem bd_yes {S : Nat → ByteArray} {k : Nat} (h : shB (S k) = false) (h2 : ¬ (S k).size = 0) : bd S (k + 1) = bd S k ++ [k] := if_pos ⟨h, h2⟩
theorem bd_no {S : Nat → ByteArray} {k : Nat} (h : ¬ (shB (S k) = false ∧ ¬ (S k).size = 0)) : bd S (k + 1) = bd S k := if_neg h
theorem bd_len (S : Nat → ByteArray) : ∀ k, (bd S k).length ≤ k
  | 0 => Nat.le_refl _
  | k + 1 => by
    have := bd_len S k
    by_cases h : shB (S k) = false ∧ ¬ (S k).size = 0
    · rw [bd_yes h.1 h.2]; simp; omega
    · rw [bd_no h]; omega
/-- how many of the first slots are empty -/
def em (S : Nat → ByteArray) : Nat → Nat
  | 0 => 0
  | k + 1 => if (S k).size = 0 then em S k + 1 else em S k
theorem em_yes {S : Nat → ByteArray} {k : Nat} (h : (S k).size = 0) : em S (k + 1) = em S k + 1 := if_pos h
theorem em_no {S : Nat → ByteArray} {k : Nat} (h : ¬ (S k).size = 0) : em S (k + 1) = em S k := if_neg h
theorem em_le (S : Nat → ByteArray) : ∀ k, em S k ≤ k
  | 0 => Nat.le_refl _
  | k + 1 => by
    have := em_le S k
    by_cases h : (S k).size = 0
    · rw [em_yes h]; omega
    · rw [em_no h]; omega

/-! ### Put and Drop -/
/-- the first slot without a shard -/
def rmN (d : Dk) : Nat := fo (fun j => !shB (gs d j)) d.n
def spE (d : Dk) (v i : Int) (x : ByteArray) : Int :=
  if mayB v i x = false then 1 else if fdE d v i = 0 then (if fdX d v i = x then 0 else 8) else if rmN d < d.n then putE d (rmN d) (srT v i x) else 5
def spD (d : Dk) (v i : Int) (x : ByteArray) : Dk :=
  if mayB v i x = false then d else if fdE d v i = 0 then d else if rmN d < d.n then putD d (rmN d) (srT v i x) else d
/-- behind the first slots -/
def drS (d : Dk) (v i : Int) : Nat → Dk × Int
  | 0 => (d, 0)
  | k + 1 => if (drS d v i k).2 = 0 ∧ hasK v i (gs d k) = true then (putD (drS d v i k).1 (k : Int) ByteArray.empty, putE (drS d v i k).1 (k : Int) ByteArray.empty) else drS d v i k
def sdE (d : Dk) (v i : Int) : Int := if fdE d v i = 0 then (drS d v i d.n).2 else 7
def sdD (d : Dk) (v i : Int) : Dk := if fdE d v i = 0 then (drS d v i d.n).1 else d
theorem drS_no {d : Dk} {v i : Int} {k : Nat} (h : hasK v i (gs d k) = false) : drS d v i (k + 1) = drS d v i k := if_neg (by rw [h]; simp)
theorem drS_yes {d : Dk} {v i : Int} {k : Nat} (h : hasK v i (gs d k) = true) (h2 : (drS d v i k).2 = 0) : drS d v i (k + 1) = (putD (drS d v i k).1 (k : Int) ByteArray.empty, putE (drS d v i k).1 (k : Int) ByteArray.empty) := if_pos ⟨h2, h⟩
theorem drS_end {d : Dk} {v i : Int} {k : Nat} (h : (drS d v i k).2 ≠ 0) : ∀ m, k ≤ m → drS d v i m = drS d v i k
  | 0, hm => by rw [show k = 0 by omega]
  | m + 1, hm => by
    rcases Nat.lt_or_ge m k with q | q
    · rw [show k = m + 1 by omega]
    · have ih := drS_end h m q
      have : drS d v i (m + 1) = drS d v i m := if_neg (by rw [ih]; exact fun r => h r.1)
      rw [this, ih]
theorem sp_not {d : Dk} {v i : Int} {x : ByteArray} (h : mayB v i x = false) : spE d v i x = 1 ∧ spD d v i x = d := by
  unfold spE spD; rw [if_pos h, if_pos h]; exact ⟨rfl, rfl⟩
theorem sp_same {d : Dk} {v i : Int} {x : ByteArray} (h : mayB v i x = true) (h2 : fdE d v i = 0) (h3 : fdX d v i = x) : spE d v i x = 0 ∧ spD d v i x = d := by
  have hm : ¬ mayB v i x = false := by rw [h]; simp
  unfold spE spD; rw [if_neg hm, if_neg hm, if_pos h2, if_pos h2, if_pos h3]; exact ⟨rfl, rfl⟩
theorem sp_there {d : Dk} {v i : Int} {x : ByteArray} (h : mayB v i x = true) (h2 : fdE d v i = 0) (h3 : ¬ fdX d v i = x) : spE d v i x = 8 ∧ spD d v i x = d := by
  have hm : ¬ mayB v i x = false := by rw [h]; simp
  unfold spE spD; rw [if_neg hm, if_neg hm, if_pos h2, if_pos h2, if_neg h3]; exact ⟨rfl, rfl⟩
theorem sp_put {d : Dk} {v i : Int} {x : ByteArray} {j : Nat} (h : mayB v i x = true) (h2 : ¬ fdE d v i = 0) (hj : j < d.n) (hs : shB (gs d j) = false) (hb : ∀ r, r < j → shB (gs d r) = true) : spE d v i x = putE d j (srT v i x) ∧ spD d v i x = putD d j (srT v i x) := by
  have e : rmN d = j := fo_at hj (by show (!shB (gs d j)) = true; rw [hs]; rfl) (fun r hr => by show (!shB (gs d r)) = false; rw [hb r hr]; rfl)
  have hm : ¬ mayB v i x = false := by rw [h]; simp
  unfold spE spD; rw [if_neg hm, if_neg hm, if_neg h2, if_neg h2, e, if_pos hj, if_pos hj]; exact ⟨rfl, rfl⟩
theorem sp_full {d : Dk} {v i : Int} {x : ByteArray} (h : mayB v i x = true) (h2 : ¬ fdE d v i = 0) (hb : ∀ r, r < d.n → shB (gs d r) = true) : spE d v i x = 5 ∧ spD d v i x = d := by
  have e : rmN d = d.n := fo_none (fun r hr => by show (!shB (gs d r)) = false; rw [hb r hr]; rfl)
  have hm : ¬ mayB v i x = false := by rw [h]; simp
  unfold spE spD; rw [if_neg hm, if_neg hm, if_neg h2, if_neg h2, e, if_neg (Nat.lt_irrefl _), if_neg (Nat.lt_irrefl _)]; exact ⟨rfl, rfl⟩
/-- .. one of the five -/
theorem sp_or (d : Dk) (v i : Int) (x : ByteArray) : (mayB v i x = false ∧ spE d v i x = 1 ∧ spD d v i x = d) ∨ (mayB v i x = true ∧ fdE d v i = 0 ∧ fdX d v i = x ∧ spE d v i x = 0 ∧ spD d v i x = d) ∨ (mayB v i x = true ∧ fdE d v i = 0 ∧ fdX d v i ≠ x ∧ spE d v i x = 8 ∧ spD d v i x = d) ∨
    (mayB v i x = true ∧ fdE d v i = 7 ∧ ∃ j, j < d.n ∧ shB (gs d j) = false ∧ (∀ r, r < j → shB (gs d r) = true) ∧ spE d v i x = putE d j (srT v i x) ∧ spD d v i x = putD d j (srT v i x)) ∨ (mayB v i x = true ∧ fdE d v i = 7 ∧ (∀ r, r < d.n → shB (gs d r) = true) ∧ spE d v i x = 5 ∧ spD d v i x = d) := by
  cases hm : mayB v i x
  · exact .inl ⟨rfl, sp_not hm⟩
  · rcases fdE_or d v i with e | e
    · by_cases h3 : fdX d v i = x
      · exact .inr (.inl ⟨rfl, e, h3, sp_same hm e h3⟩)
      · exact .inr (.inr (.inl ⟨rfl, e, h3, sp_there hm e h3⟩))
    · have h2 : ¬ fdE d v i = 0 := by omega
      obtain ⟨f1, f2, f3⟩ := fo_all (fun j => !shB (gs d j)) d.n
      have g3 : ∀ j, j < fo (fun j => !shB (gs d j)) d.n → shB (gs d j) = true := fun j hj => by simpa using f3 j hj
      rcases Nat.lt_or_ge (fo (fun j => !shB (gs d j)) d.n) d.n with q | q
      · have g2 : shB (gs d (fo (fun j => !shB (gs d j)) d.n)) = false := by simpa using f2 q
        exact .inr (.inr (.inr (.inl ⟨rfl, e, _, q, g2, g3, sp_put hm h2 q g2 g3⟩)))
      · have eq : fo (fun j => !shB (gs d j)) d.n = d.n := by omega
        rw [eq] at g3
        exact .inr (.inr (.inr (.inr ⟨rfl, e, g3, sp_full hm h2 g3⟩)))
end Go.Proofs.Ytofafmjkjgiccaa.Mat
