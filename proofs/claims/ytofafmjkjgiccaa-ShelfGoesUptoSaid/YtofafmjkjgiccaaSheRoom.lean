/- A shard that is put anew: what is listed, and how many slots have none. No walk. -/
import Derived.Test.YtofafmjkjgiccaaSheFact
namespace Go.Proofs.Ytofafmjkjgiccaa.Mat
open Go.RowKit Fld

theorem shB_size {s : ByteArray} (h : s.size = 0) : shB s = false := by
  have e : s = ByteArray.empty := ByteArray.ext (Array.eq_empty_of_size_eq_zero h)
  rw [e]; exact shB_empty
/-- how many of the first slots have no shard -/
def cn (S : Nat → ByteArray) : Nat → Nat
  | 0 => 0
  | k + 1 => if shB (S k) = false then cn S k + 1 else cn S k
theorem cn_all (S : Nat → ByteArray) : ∀ k, em S k + (bd S k).length = cn S k
  | 0 => rfl
  | k + 1 => by
    have ih := cn_all S k
    unfold cn
    by_cases hz : (S k).size = 0
    · rw [em_yes hz, bd_no (fun q => q.2 hz), if_pos (shB_size hz)]; omega
    · rw [em_no hz]
      cases hb : shB (S k)
      · rw [bd_yes hb hz, if_pos rfl, List.length_append]
        simp only [List.length_cons, List.length_nil]; omega
      · rw [bd_no (fun q => by rw [hb] at q; cases q.1), if_neg (by simp)]; exact ih
theorem cn_one {S S' : Nat → ByteArray} {j : Nat} (he : ∀ r, r ≠ j → S' r = S r) (h0 : shB (S j) = false) (h1 : shB (S' j) = true) : ∀ k, (k ≤ j → cn S' k = cn S k) ∧ (j < k → cn S' k + 1 = cn S k)
  | 0 => ⟨fun _ => rfl, fun h => absurd h (Nat.not_lt_zero _)⟩
  | k + 1 => by
    obtain ⟨i1, i2⟩ := cn_one he h0 h1 k
    unfold cn
    constructor
    · intro h
      rw [he k (by omega), i1 (by omega)]
    · intro h
      by_cases e : k = j
      · subst e
        rw [h0, h1, if_pos rfl, if_neg (by simp), i1 (Nat.le_refl _)]
      · rw [he k e]
        have := i2 (by omega)
        by_cases q : shB (S k) = false
        · rw [if_pos q, if_pos q]; omega
        · rw [if_neg q, if_neg q]; exact this
/-- the keys behind a new one -/
theorem ks_one {S S' : Nat → ByteArray} {j : Nat} {P : Nat × Nat} (he : ∀ r, r ≠ j → S' r = S r) (h0 : shB (S j) = false) (h1 : shB (S' j) = true) (hP : (shV (S' j), shI (S' j)) = P) (hnew : ∀ r, shB (S r) = true → (shV (S r), shI (S r)) ≠ P) :
    ∀ k, (k ≤ j → ks S' k = ks S k) ∧ (j < k → ∃ A B, ks S k = A ++ B ∧ ks S' k = A ++ P :: B)
  | 0 => ⟨fun _ => rfl, fun h => absurd h (Nat.not_lt_zero _)⟩
  | k + 1 => by
    obtain ⟨i1, i2⟩ := ks_one he h0 h1 hP hnew k
    constructor
    · intro h
      unfold ks
      rw [he k (by omega), i1 (by omega)]
    · intro h
      by_cases e : k = j
      · subst e
        have hn : P ∉ ks S k := fun q => by
          obtain ⟨r, _, r1, r2, r3⟩ := ks_mem.1 (show (P.1, P.2) ∈ ks S k from q)
          exact hnew r r1 (by rw [r2, r3])
        refine ⟨ks S k, [], ?_, ?_⟩
        · rw [ks_no (fun q => by rw [h0] at q; cases q.1), List.append_nil]
        · rw [ks_yes h1 (by rw [hP, i1 (Nat.le_refl _)]; exact hn), hP, i1 (Nat.le_refl _)]
      · obtain ⟨A, B, e1, e2⟩ := i2 (by omega)
        have eS := he k e
        by_cases q : shB (S k) = true ∧ (shV (S k), shI (S k)) ∉ ks S k
        · refine ⟨A, B ++ [(shV (S k), shI (S k))], ?_, ?_⟩
          · rw [ks_yes q.1 q.2, e1, List.append_assoc]
          · rw [ks_yes (by rw [eS]; exact q.1) (by
              rw [eS, e2]
              have hq := q.2
              rw [e1] at hq
              intro m
              rcases List.mem_append.1 m with m | m
              · exact hq (List.mem_append.2 (.inl m))
              · rcases List.mem_cons.1 m with m | m
                · exact hnew k q.1 m
                · exact hq (List.mem_append.2 (.inr m))), e2, eS, List.append_assoc]
            rfl
        · refine ⟨A, B, ?_, ?_⟩
          · rw [ks_no q, e1]
          · rw [ks_no (fun q' => by
              rw [eS, e2] at q'
              refine q ⟨q'.1, fun m => q'.2 ?_⟩
              rw [e1] at m
              rcases List.mem_append.1 m with m | m
              · exact List.mem_append.2 (.inl m)
              · exact List.mem_append.2 (.inr (List.mem_cons_of_mem _ m))), e2]
/-- one list is looked for in another -/
def gm (was now : List (Nat × Nat)) : Nat → Nat
  | 0 => 0
  | i + 1 => if gm was now i < was.length ∧ now[i]? = was[gm was now i]? then gm was now i + 1 else gm was now i
theorem gm_le (was now : List (Nat × Nat)) : ∀ i, gm was now i ≤ i ∧ gm was now i ≤ was.length
  | 0 => ⟨Nat.le_refl _, Nat.zero_le _⟩
  | i + 1 => by
    obtain ⟨h1, h2⟩ := gm_le was now i
    unfold gm
    by_cases q : gm was now i < was.length ∧ now[i]? = was[gm was now i]?
    · rw [if_pos q]; exact ⟨by omega, by omega⟩
    · rw [if_neg q]; exact ⟨by omega, h2⟩
theorem gm_yes {was now : List (Nat × Nat)} {i : Nat} (h : gm was now i < was.length) (h2 : now[i]? = was[gm was now i]?) : gm was now (i + 1) = gm was now i + 1 := if_pos ⟨h, h2⟩
theorem gm_no {was now : List (Nat × Nat)} {i : Nat} (h : ¬ (gm was now i < was.length ∧ now[i]? = was[gm was now i]?)) : gm was now (i + 1) = gm was now i := if_neg h
theorem gm_all {A B : List (Nat × Nat)} {P : Nat × Nat} (hP : P ∉ A ++ B) : gm (A ++ B) (A ++ P :: B) (A ++ P :: B).length = (A ++ B).length := by
  have h1 : ∀ i, i ≤ A.length → gm (A ++ B) (A ++ P :: B) i = i := by
    intro i
    induction i with
    | zero => exact fun _ => rfl
    | succ i ih =>
      intro hi
      have e := ih (by omega)
      rw [gm_yes (by rw [e, List.length_append]; omega) (by rw [e, List.getElem?_append_left (by omega), List.getElem?_append_left (by omega)]), e]
  have h2 : gm (A ++ B) (A ++ P :: B) (A.length + 1) = A.length := by
    have e := h1 A.length (Nat.le_refl _)
    rw [gm_no (fun q => by
      rw [e] at q
      have q2 := q.2
      rw [List.getElem?_append_right (Nat.le_refl _), Nat.sub_self] at q2
      have : (A ++ B)[A.length]? = some P := q2.symm
      exact hP (List.mem_of_getElem? this)), e]
  have h3 : ∀ t, t ≤ B.length → gm (A ++ B) (A ++ P :: B) (A.length + 1 + t) = A.length + t := by
    intro t
    induction t with
    | zero => exact fun _ => h2
    | succ t ih =>
      intro ht
      have e := ih (by omega)
      rw [show A.length + 1 + (t + 1) = A.length + 1 + t + 1 by omega]
      rw [gm_yes (by rw [e, List.length_append]; omega) (by
        rw [e, List.getElem?_append_right (by omega), List.getElem?_append_right (by omega)]
        rw [show A.length + 1 + t - A.length = t + 1 by omega, show A.length + t - A.length = t by omega]
        rfl), e]
      omega
  have := h3 B.length (Nat.le_refl _)
  rw [List.length_append, List.length_append, List.length_cons, show A.length + (B.length + 1) = A.length + 1 + B.length by omega]
  exact this
section
variable {d : Dk} {v i : Int} {x : ByteArray}
theorem room_told (h7 : ¬ fdE d v i = 0) (h : spE d v i x = 0) :
    (ks (gs (spD d v i x)) d.n).length = (ks (gs d) d.n).length + 1 ∧ em (gs (spD d v i x)) d.n + (bd (gs (spD d v i x)) d.n).length + 1 = em (gs d) d.n + (bd (gs d) d.n).length ∧ (spD d v i x).n = d.n ∧
    gm (ks (gs d) d.n) (ks (gs (spD d v i x)) d.n) (ks (gs (spD d v i x)) d.n).length = (ks (gs d) d.n).length := by
  rcases sp_or d v i x with ⟨_, e, _⟩ | ⟨_, e1, _⟩ | ⟨_, _, _, e, _⟩ | ⟨hmay, e7, j, hj, hs, hb, e1, e2⟩ | ⟨_, _, _, e, _⟩
  · omega
  · omega
  · omega
  · rw [e1] at h
    obtain ⟨f, ef, _⟩ := put_ok h
    rw [e2, ef]
    obtain ⟨r1, r2, r3, r4, _, r6⟩ := rec_of hmay
    have hno : ∀ r, r < d.n → hasK v i (gs d r) = false := by
      rcases fd_or d v i with ⟨_, _, _, _, q, _⟩ | ⟨q, _⟩
      · omega
      · exact q
    have hout : ∀ r, ¬ r < d.n → shB (gs d r) = false := fun r hr => by
      have : gs d r = ByteArray.empty := (get_out (hasB_no (by omega))).2
      rw [this]; exact shB_empty
    have he : ∀ r, r ≠ j → gs (addD d j (srT v i x) f false) r = gs d r := fun r hr => gs_add hr
    have hj' : gs (addD d j (srT v i x) f false) j = srT v i x := gs_added hj
    have hnew : ∀ r, shB (gs d r) = true → (shV (gs d r), shI (gs d r)) ≠ (shV (srT v i x), shI (srT v i x)) := fun r hr q => by
      injection q with q1 q2
      rcases Nat.lt_or_ge r d.n with l | l
      · have := hno r l
        rw [hasK_niff] at this
        exact this ⟨hr, by omega, by omega⟩
      · rw [hout r (by omega)] at hr; cases hr
    obtain ⟨_, k2⟩ := ks_one (P := (shV (srT v i x), shI (srT v i x))) he hs (by rw [hj']; exact r1) (by rw [hj']) hnew d.n
    obtain ⟨A, B, a1, a2⟩ := k2 hj
    have hP : (shV (srT v i x), shI (srT v i x)) ∉ A ++ B := fun q => by
      rw [← a1] at q
      obtain ⟨r, _, q1, q2, q3⟩ := ks_mem.1 q
      exact hnew r q1 (by rw [q2, q3])
    obtain ⟨_, c2⟩ := cn_one he hs (by rw [hj']; exact r1) d.n
    have c2 := c2 hj
    rw [← cn_all, ← cn_all] at c2
    refine ⟨?_, c2, rfl, ?_⟩
    · rw [a1, a2, List.length_append, List.length_append, List.length_cons]; omega
    · rw [a1, a2]; exact gm_all hP
  · omega
end
end Go.Proofs.Ytofafmjkjgiccaa.Mat
