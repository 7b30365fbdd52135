/- Which of so many numbers are chosen. No dump. -/
namespace Go.Proofs.Ytohbijjkkadbaaa.Mat

def ch (p : Nat → Bool) (n : Nat) : List Nat := (List.range n).filter p
def cnt (p : Nat → Bool) (n : Nat) : Nat := (ch p n).length
def pk (p : Nat → Bool) (n i : Nat) : Nat := (ch p n).getD i 0
section
variable {p q : Nat → Bool} {n : Nat}
theorem ch_zero (p : Nat → Bool) : ch p 0 = [] := rfl
theorem ch_yes (h : p n = true) : ch p (n + 1) = ch p n ++ [n] := by unfold ch; rw [List.range_succ, List.filter_append]; simp [h]
theorem ch_no (h : p n = false) : ch p (n + 1) = ch p n := by unfold ch; rw [List.range_succ, List.filter_append]; simp [h]
theorem cnt_zero (p : Nat → Bool) : cnt p 0 = 0 := rfl
theorem cnt_yes (h : p n = true) : cnt p (n + 1) = cnt p n + 1 := by unfold cnt; rw [ch_yes h]; simp
theorem cnt_no (h : p n = false) : cnt p (n + 1) = cnt p n := by unfold cnt; rw [ch_no h]
theorem cnt_le (p : Nat → Bool) (n : Nat) : cnt p n ≤ n := by
  induction n with
  | zero => exact Nat.le_refl _
  | succ n ih =>
    cases h : p n
    · rw [cnt_no h]; omega
    · rw [cnt_yes h]; omega
theorem ch_congr (h : ∀ r, r < n → p r = q r) : ch p n = ch q n := List.filter_congr fun r hr => h r (List.mem_range.1 hr)
theorem cnt_congr (h : ∀ r, r < n → p r = q r) : cnt p n = cnt q n := by unfold cnt; rw [ch_congr h]
theorem pk_congr (h : ∀ r, r < n → p r = q r) (i : Nat) : pk p n i = pk q n i := by unfold pk; rw [ch_congr h]
theorem pk_get {i : Nat} (h : i < cnt p n) : (ch p n)[i]? = some (pk p n i) := by
  unfold pk
  rw [List.getD_eq_getElem?_getD, List.getElem?_eq_getElem h]; rfl
theorem pk_mem {i : Nat} (h : i < cnt p n) : pk p n i ∈ ch p n := List.mem_of_getElem? (pk_get h)
theorem pk_lt {i : Nat} (h : i < cnt p n) : pk p n i < n := List.mem_range.1 (List.mem_filter.1 (pk_mem h)).1
theorem pk_yes {i : Nat} (h : i < cnt p n) : p (pk p n i) = true := (List.mem_filter.1 (pk_mem h)).2
theorem ch_nodup (p : Nat → Bool) (n : Nat) : (ch p n).Nodup := List.nodup_range.filter _
theorem pk_inj {i j : Nat} (hi : i < cnt p n) (hj : j < cnt p n) (e : pk p n i = pk p n j) : i = j := by
  have h1 := pk_get hi
  have h2 := pk_get hj
  rw [e] at h1
  exact (List.getElem?_inj hi (ch_nodup p n)).1 (h1.trans h2.symm)
theorem pk_at {r : Nat} (hr : r < n) (h : p r = true) : ∃ i, i < cnt p n ∧ pk p n i = r := by
  have hm : r ∈ ch p n := List.mem_filter.2 ⟨List.mem_range.2 hr, h⟩
  obtain ⟨i, hi, e⟩ := List.mem_iff_getElem.1 hm
  refine ⟨i, hi, ?_⟩
  unfold pk
  rw [List.getD_eq_getElem?_getD, List.getElem?_eq_getElem hi, e]; rfl
/-- with one number more -/
theorem cnt_more {r : Nat} (h0 : p r = false) (h1 : q r = true) (h : ∀ j, j ≠ r → q j = p j) : ∀ n, cnt q n = cnt p n + if r < n then 1 else 0
  | 0 => by simp [cnt_zero]
  | n + 1 => by
    have ih := cnt_more h0 h1 h n
    by_cases e : n = r
    · subst e
      rw [cnt_yes h1, cnt_no h0, ih, if_neg (Nat.lt_irrefl _), if_pos (Nat.lt_succ_self _)]
    · cases hp : p n
      · rw [cnt_no hp, cnt_no ((h n e).trans hp), ih]
        by_cases hl : r < n
        · rw [if_pos hl, if_pos (by omega)]
        · rw [if_neg hl, if_neg (by omega)]
      · rw [cnt_yes hp, cnt_yes ((h n e).trans hp), ih]
        by_cases hl : r < n
        · rw [if_pos hl, if_pos (by omega)]
        · rw [if_neg hl, if_neg (by omega)]
end
/-- the first k -/
def loB (k r : Nat) : Bool := decide (r < k)
theorem ch_lo (k m : Nat) : ch (loB k) (k + m) = List.range k := by
  induction m with
  | zero => unfold ch; rw [Nat.add_zero, List.filter_eq_self]; intro r hr; exact decide_eq_true (List.mem_range.1 hr)
  | succ m ih => rw [show k + (m + 1) = k + m + 1 by omega, ch_no (decide_eq_false (by omega)), ih]
theorem cnt_lo (k m : Nat) : cnt (loB k) (k + m) = k := by unfold cnt; rw [ch_lo]; simp
theorem pk_lo {k m i : Nat} (h : i < k) : pk (loB k) (k + m) i = i := by unfold pk; rw [ch_lo]; simp [h]
/-- those from k on -/
def hiB (k r : Nat) : Bool := decide (k ≤ r)
theorem ch_hi (k m : Nat) : ch (hiB k) (k + m) = (List.range m).map (k + ·) := by
  induction m with
  | zero =>
    unfold ch
    show _ = []
    rw [List.filter_eq_nil_iff]
    intro r hr h
    have := List.mem_range.1 hr
    have := of_decide_eq_true h
    omega
  | succ m ih => rw [show k + (m + 1) = k + m + 1 by omega, ch_yes (decide_eq_true (by omega)), ih, List.range_succ, List.map_append]; rfl
theorem cnt_hi (k m : Nat) : cnt (hiB k) (k + m) = m := by unfold cnt; rw [ch_hi]; simp
theorem pk_hi {k m i : Nat} (h : i < m) : pk (hiB k) (k + m) i = k + i := by unfold pk; rw [ch_hi]; simp [h]
end Go.Proofs.Ytohbijjkkadbaaa.Mat
