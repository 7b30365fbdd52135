/- What the document's own Rebuild keeps: rows and texts that grow side by side. -/
import Derived.Test.YtohbijjkkadbaaaCodP
namespace Go.Proofs.Ytohbijjkkadbaaa.Mat
open Go.RowKit Fld

theorem Chosen.more {w a w' : World} {e : TypeId} {v v' : Value} {l x : List Value} {n : Nat} (h : Chosen w a e v l) (hn : l.length + x.length = n) (hown : w'.ownsRow w.heap.size e 1 v' n (l ++ x)) (hgrow : a.grownBy w' v.ownBlock) : Chosen w w' e v' (l ++ x) := by
  subst hn
  exact ⟨by rw [List.length_append]; exact hown, h.below.grown hgrow h.below.size (fun k hk => (h.own.lt k hk).1)⟩
theorem Chosen.other {w a b w' : World} {e e' : TypeId} {v v' : Value} {l l' : List Value} {o : Obj} (h : Chosen w a e v l) (h' : Chosen w a e' v' l') (hne : e ≠ e') (hb : b = a.alloc o) (hgrow : b.grownBy w' v'.ownBlock) : Chosen w w' e v l := by
  subst hb
  have hB := h.below.alloc h.below.size o
  refine ⟨(h.own.alloc o).kept hgrow ?_, hB.grown hgrow (by rw [size_alloc]; have := h.below.size; omega) (fun k hk => (h'.own.lt k hk).1)⟩
  rcases h.own.2 with ⟨rfl, _⟩ | ⟨g, cap, cur, rfl, _, hh, _⟩
  · exact .inl rfl
  · refine .inr fun he => ?_
    rcases h'.own.2 with ⟨rfl, _⟩ | ⟨g', cap', cur', rfl, _, hh', _⟩
    · simp [Value.ownBlock] at he
    · have : g = g' := by simpa [Value.ownBlock] using he
      subst this
      rw [hh] at hh'
      injection hh' with hh'
      injection hh' with _ ht _
      exact hne ht
theorem cnt_mono (p : Nat → Bool) : ∀ {n idx : Nat}, idx ≤ n → cnt p idx ≤ cnt p n
  | 0, idx, h => by
    obtain rfl : idx = 0 := by omega
    exact Nat.le_refl _
  | n + 1, idx, h => by
    by_cases e : idx = n + 1
    · subst e; exact Nat.le_refl _
    · have := cnt_mono p (n := n) (idx := idx) (by omega)
      cases hp : p n
      · rw [cnt_no hp]; omega
      · rw [cnt_yes hp]; omega
theorem pk_prefix {p : Nat → Bool} {i : Nat} : ∀ {n idx : Nat}, idx ≤ n → i < cnt p idx → pk p n i = pk p idx i
  | 0, idx, h, _ => by
    obtain rfl : idx = 0 := by omega
    rfl
  | n + 1, idx, h, hi => by
    by_cases e : idx = n + 1
    · subst e; rfl
    · have ih := pk_prefix (p := p) (i := i) (n := n) (idx := idx) (by omega) hi
      have hle : i < cnt p n := by have := cnt_mono p (n := n) (idx := idx) (by omega); omega
      rw [← ih]
      cases hp : p n
      · unfold pk; rw [ch_no hp]
      · unfold pk
        rw [ch_yes hp, List.getD_eq_getElem?_getD, List.getD_eq_getElem?_getD, List.getElem?_append_left hle]
/-- what is chosen below idx, and idx, if one of the first i pieces has it -/
def lst (p : Nat → Bool) (I : Nat → Int) (E : Nat → Value) (idx i : Nat) : List Value := (ch p idx).map E ++ (if num I i idx = true then [E idx] else [])
theorem lst_zero (p) (I : Nat → Int) (E : Nat → Value) (idx : Nat) : lst p I E idx 0 = (ch p idx).map E := by unfold lst; simp [num]
theorem lst_len (p) (I : Nat → Int) (E : Nat → Value) (idx i : Nat) : (lst p I E idx i).length ≤ cnt p idx + 1 := by
  unfold lst
  rw [List.length_append, List.length_map]
  unfold cnt
  split <;> simp
theorem lst_skip {p} {I : Nat → Int} {E : Nat → Value} {idx i : Nat} (h : I i ≠ (idx : Int)) : lst p I E idx (i + 1) = lst p I E idx i := by
  unfold lst
  have : num I (i + 1) idx = num I i idx := by simp [num, h]
  rw [this]
theorem lst_take {p} {I : Nat → Int} {E : Nat → Value} {n idx i : Nat} (hG : Good I n (i + 1)) (h : I i = (idx : Int)) : lst p I E idx (i + 1) = lst p I E idx i ++ [E idx] := by
  have h0 : num I i idx = false := by
    cases e : num I i idx
    · rfl
    · obtain ⟨j, hj, e2⟩ := num_iff.1 e
      exact absurd (e2.trans h.symm) ((hG i (by omega)).2 j hj)
  have h1 : num I (i + 1) idx = true := num_iff.2 ⟨i, by omega, h⟩
  unfold lst
  rw [h0, h1]; simp
theorem lst_end {I : Nat → Int} {E : Nat → Value} {idx len : Nat} : lst (num I len) I E idx len = (ch (num I len) (idx + 1)).map E := by
  unfold lst
  cases h : num I len idx
  · rw [ch_no h]; simp
  · rw [ch_yes h, List.map_append]; simp
theorem cnt_step (p : Nat → Bool) (n : Nat) : cnt p (n + 1) ≤ cnt p n + 1 := by
  cases h : p n
  · rw [cnt_no h]; omega
  · rw [cnt_yes h]; omega

theorem Pc.below {w w' : World} {B B' n : Nat} {A : Option Addr} {I : Nat → Int} {S : Nat → ByteArray} (h : Pc w B A n I S) (hb : Below B w w') (hB : B ≤ B') : Pc w' B' A n I S := fun hn => by
  obtain ⟨ad, e, hl, hc⟩ := h hn
  exact ⟨ad, e, by omega, fun r hr => ⟨(hb.cell (by rw [block_of_add]; exact hl)).trans (hc r hr).1, (hb.cell (by rw [block_of_add]; exact hl)).trans (hc r hr).2⟩⟩
theorem Pc.up {w w' : World} {n : Nat} {A : Option Addr} {I : Nat → Int} {S : Nat → ByteArray} (h : Pc w w.heap.size A n I S) (hb : Below w.heap.size w w') : Pc w' w'.heap.size A n I S := h.below hb hb.size
theorem Pc.at_ {w : World} {B n : Nat} {A : Option Addr} {I : Nat → Int} {S : Nat → ByteArray} (h : Pc w B A n I S) {r : Nat} (hr : r < n) :
    ∃ ad, A = some ad ∧ ad.block < B ∧ w.cell? (ad.add (r * 2)) = some (.int .i64 (I r)) ∧ w.cell? ⟨(ad.add (r * 2)).block, (ad.add (r * 2)).off + 1, none⟩ = some (.string (S r)) := by
  obtain ⟨ad, e, hl, hc⟩ := h (by omega)
  exact ⟨ad, e, hl, (hc r hr).1, by rw [← add_pos _ _ (by omega), add_add]; exact (hc r hr).2⟩
theorem Pc.first {w : World} {B n : Nat} {ad : Addr} {I : Nat → Int} {S : Nat → ByteArray} (h : Pc w B (some ad) n I S) (hn : 0 < n) : w.cell? ⟨ad.block, ad.off + 1, none⟩ = some (.string (S 0)) := by
  obtain ⟨ad', e, _, _, hc⟩ := h.at_ hn
  injection e with e
  subst e
  simpa [add_zero] using hc
theorem Chosen.list {w a : World} {v : Value} {l : List Value} {T : Nat → ByteArray} {n : Nat} (h : Chosen w a 9 v l) (hn : l.length = n) (hg : ∀ i, i < n → l[i]? = some (.string (T i))) : ∃ A cap, v = .slice A n cap ∧ Fit A n cap ∧ St a a.heap.size A n T := by
  obtain ⟨A', cap', hv, _, _, hh⟩ := h.has hn (f := fun i => .string (T i)) hg
  refine ⟨A', cap', hv, ?_, fun hn => ?_⟩
  · have := h.own
    rw [hv, hn] at this
    exact own_fit this
  · obtain ⟨b, rfl, hb1, hb2, hb3⟩ := hh hn
    exact ⟨_, rfl, hb2, fun r hr => by rw [add_lit]; exact hb3.cell hr⟩
theorem st_news {w : World} {B n : Nat} {ad : Addr} {T : Nat → ByteArray} (h : St w B (some ad) n T) : ∀ j u, (txs T n)[j]? = some u → w.cell? (ad.add j) = some u := fun j u hu => by
  have hj : j < n := by
    rcases Nat.lt_or_ge j n with h | h
    · exact h
    · rw [List.getElem?_eq_none (by rw [txs_len]; exact h)] at hu; cases hu
  rw [txs_get hj] at hu
  obtain ⟨ad', e, _, hc⟩ := h.at_ hj
  injection e with e
  subst e
  rw [hc]; exact hu
theorem txs_one (T : Nat → ByteArray) (n : Nat) : ∀ u ∈ txs T n, u.oneCell' = true := fun u hu => by
  obtain ⟨a, _, rfl⟩ := List.mem_map.1 hu
  rfl
theorem txs_both {k m i : Nat} {T T' T'' : Nat → ByteArray} (h1 : ∀ i, i < k → T i = T'' i) (h2 : ∀ i, i < m → T' i = T'' (k + i)) (hi : i < k + m) : (txs T k ++ txs T' m)[i]? = some (.string (T'' i)) := by
  by_cases h : i < k
  · rw [List.getElem?_append_left (by rw [txs_len]; exact h), txs_get h, h1 i h]
  · rw [List.getElem?_append_right (by rw [txs_len]; omega), txs_len, txs_get (by omega), h2 _ (by omega), show k + (i - k) = i by omega]
/-- what Rebuild answers -/
def RebRet (w : World) (k m len : Nat) (I : Nat → Int) (S : Nat → ByteArray) (e : Ending) (w' : World) : Prop :=
  (¬ Good I (k + m) len ∧ FailRet w 1 e w') ∨ (Good I (k + m) len ∧ len < k ∧ FailRet w 10 e w') ∨ (Good I (k + m) len ∧ k ≤ len ∧ ¬ Even len S ∧ FailRet w 3 e w') ∨
    (Good I (k + m) len ∧ k ≤ len ∧ Even len S ∧ TextsRet w 0 (k + m) (reb k (pkn I (k + m) len) (pkt I S (k + m) len)) e w')
end Go.Proofs.Ytohbijjkkadbaaa.Mat
