/- Blocks and matrices in memory, as the walks speak of them. -/
import Derived.Test.YtohbijjkkadbaaaMatFld
import Derived.Test.YtohbijjkkadbaaaMatMath
import Derived.Below
import Derived.Laws.OwnMore
import Derived.Deep.OwnRows
import Derived.Deep.Draws
namespace Go.Proofs.Ytohbijjkkadbaaa.Mat
open Go.RowKit Fld

/-- block b begins with n cells f, none of them frozen -/
def Has (w : World) (b : Nat) (t : TypeId) (n : Nat) (f : Nat → Value) : Prop :=
  ∃ (c : Array Value) (lo hi : Nat), w.heap[b]? = some (.cells c t (lo, hi)) ∧ (hi = 0 ∨ n ≤ lo) ∧ ∀ i, i < n → c[i]? = some (f i)

section
variable {w w' : World} {b t n m : Nat} {f g : Nat → Value}
theorem Has.cell (h : Has w b t n f) {i : Nat} (hi : i < n) : w.cell? ⟨b, i, none⟩ = some (f i) := by
  obtain ⟨c, lo, hi', hb, _, hc⟩ := h
  simp [World.cell?, hb, hc i hi]
theorem Has.frozen (h : Has w b t n f) {i : Nat} (hi : i < n) : w.frozen? ⟨b, i, none⟩ = false := by
  obtain ⟨c, lo, hi', hb, hm, _⟩ := h
  simp only [World.frozen?, hb]
  rw [Bool.and_eq_false_iff, decide_eq_false_iff_not, decide_eq_false_iff_not]
  omega
theorem Has.lt (h : Has w b t n f) : b < w.heap.size := by
  obtain ⟨c, lo, hi', hb, _⟩ := h
  obtain ⟨hlt, _⟩ := Array.getElem?_eq_some_iff.1 hb
  exact hlt
theorem Has.congr (h : Has w b t n f) (e : ∀ i, i < n → f i = g i) : Has w b t n g := by
  obtain ⟨c, lo, hi', hb, hm, hc⟩ := h
  exact ⟨c, lo, hi', hb, hm, fun i hi => by rw [hc i hi, e i hi]⟩
theorem Has.less (h : Has w b t n f) (e : m ≤ n) : Has w b t m f := by
  obtain ⟨c, lo, hi', hb, hm, hc⟩ := h
  exact ⟨c, lo, hi', hb, by omega, fun i hi => hc i (by omega)⟩
theorem Has.of_block (h : Has w b t n f) (e : w'.heap[b]? = w.heap[b]?) : Has w' b t n f := by
  obtain ⟨c, lo, hi', hb, hm, hc⟩ := h
  exact ⟨c, lo, hi', e.trans hb, hm, hc⟩
theorem Has.set_ (h : Has w b t n f) (i : Nat) (v : Value) : Has (w.setCell ⟨b, i, none⟩ v) b t n (fun j => if j = i then v else f j) := by
  obtain ⟨c, lo, hi', hb, hm, hc⟩ := h
  refine ⟨c.setIfInBounds i v, lo, hi', ?_, hm, fun j hj => ?_⟩
  · simp [World.setCell, Array.getElem?_modify, hb]
  · rw [Array.getElem?_setIfInBounds]
    have hj' := hc j hj
    by_cases e : j = i
    · subst e
      have : j < c.size := by
        rcases Nat.lt_or_ge j c.size with h | h
        · exact h
        · rw [Array.getElem?_eq_none h] at hj'; cases hj'
      simp [this]
    · rw [if_neg (fun h => e h.symm)]
      show c[j]? = some (if j = i then v else f j)
      rw [if_neg e]; exact hj'
theorem Has.setOther (h : Has w b t n f) {a : Addr} (ha : b ≠ a.block) (v : Value) : Has (w.setCell a v) b t n f := h.of_block (Below.heap_setCell _ _ _ _ ha)
theorem Has.alloc (h : Has w b t n f) (o : Obj) : Has (w.alloc o) b t n f := h.of_block (Below.heap_alloc _ _ _ h.lt)
theorem Has.drew (h : Has w b t n f) : Has w.drew b t n f := h
theorem Has.drewN (h : Has w b t n f) (k : Nat) : Has (w.drewN k) b t n f := h
theorem Has.below {B : Nat} (h : Has w b t n f) (hb : Below B w w') (hg : b < B) : Has w' b t n f := h.of_block (hb.block b hg)
theorem Has.grown {row : Option Nat} (h : Has w b t n f) (hb : w.grownBy w' row) (hg : some b ≠ row) : Has w' b t n f := h.of_block (hb.block b h.lt hg)
theorem Has.of_is (h : w.rowIs b t n f) : Has w b t n f := by
  obtain ⟨c, hb, _, hc⟩ := h
  exact ⟨c, 0, 0, hb, .inl rfl, hc⟩
/-- cells in a new block -/
theorem has_new (w : World) (cs : Array Value) (t : TypeId) (h : ∀ i, i < n → cs[i]? = some (f i)) : Has (w.alloc (.cells cs t)) w.heap.size t n f := ⟨cs, 0, 0, heap_alloc_new w _, .inl rfl, h⟩
theorem has_box (w : World) (v : Value) (t : TypeId) : Has (w.alloc (.cells #[v] t)) w.heap.size t 1 (fun _ => v) :=
  has_new w #[v] t (fun i hi => by
    obtain rfl : i = 0 := by omega
    rfl)
theorem size_alloc (w : World) (o : Obj) : (w.alloc o).heap.size = w.heap.size + 1 := by simp
theorem Has.ne_ {t' n' b' : Nat} {f' : Nat → Value} (h : Has w b t n f) (h' : Has w b' t' n' f') (hne : t ≠ t') : b ≠ b' := by
  rintro rfl
  obtain ⟨c, lo, hi', hb, _⟩ := h
  obtain ⟨c', lo', hi'', hb', _⟩ := h'
  rw [hb] at hb'
  injection hb' with hb'
  injection hb' with _ ht _
  exact hne ht
theorem Has.of_owns {base : Nat} {e : TypeId} {A : Option Addr} {k cap : Nat} {xs : List Value} (h : w.ownsRow base e 1 (.slice A k cap) k xs) (hk : 0 < k) (hf : ∀ i, i < k → xs[i]? = some (f i)) :
    ∃ b, A = some ⟨b, 0, none⟩ ∧ base ≤ b ∧ k ≤ cap ∧ cap ≤ maxLen ∧ Has w b e k f := by
  obtain ⟨hl, h⟩ := h
  rcases h with ⟨_, h0⟩ | ⟨g, c, cur, hv, hg, hh, hc, hm, hs, ht⟩
  · omega
  · injection hv with h1 h2 h3
    subst h1; subst h3
    refine ⟨g, rfl, hg, hc, hm, cur, 0, 0, hh, .inl rfl, fun i hi => ?_⟩
    have := hf i hi
    rw [← ht, List.getElem?_take, if_pos (by omega)] at this
    simpa using this
end

/-- what is read of a row of bytes at A: n elements f; its block is below B -/
def Rw (w : World) (B : Nat) (A : Option Addr) (n : Nat) (f : Nat → BitVec 8) : Prop :=
  0 < n → ∃ ad, A = some ad ∧ ad.block < B ∧ ∀ c, c < n → w.cell? (ad.add c) = some (.int .u8 (V (f c)))
/-- .. of a matrix at A: n rows, the row r at RA r with L r elements F r -/
def Mt (w : World) (B : Nat) (A : Option Addr) (n : Nat) (L : Nat → Nat) (RA : Nat → Option Addr) (RC : Nat → Nat) (F : Nat → Nat → BitVec 8) : Prop :=
  0 < n → ∃ ad, A = some ad ∧ ad.block < B ∧ ∀ r, r < n → w.cell? (ad.add r) = some (.slice (RA r) (L r) (RC r)) ∧ L r ≤ RC r ∧ Rw w B (RA r) (L r) (F r)

theorem block_of_add (a : Addr) (n : Nat) : (a.add n).block = a.block := by unfold Addr.add; split <;> rfl
theorem add_zero (a : Addr) : a.add 0 = a := by unfold Addr.add; simp
theorem add_lit (b i : Nat) : (⟨b, 0, none⟩ : Addr).add i = ⟨b, i, none⟩ := by unfold Addr.add; split <;> simp_all

section
variable {w w' : World} {B B' n : Nat} {A : Option Addr} {f g : Nat → BitVec 8} {L RC : Nat → Nat} {RA : Nat → Option Addr} {F : Nat → Nat → BitVec 8}
theorem Rw.keep (h : Rw w B A n f) (hk : ∀ p : Addr, p.block < B → w'.cell? p = w.cell? p) (hB : B ≤ B') : Rw w' B' A n f := fun hn => by
  obtain ⟨ad, e, hb, hc⟩ := h hn
  exact ⟨ad, e, by omega, fun c hc' => (hk _ (by rw [block_of_add]; exact hb)).trans (hc c hc')⟩
theorem Mt.keep (h : Mt w B A n L RA RC F) (hk : ∀ p : Addr, p.block < B → w'.cell? p = w.cell? p) (hB : B ≤ B') : Mt w' B' A n L RA RC F := fun hn => by
  obtain ⟨ad, e, hb, hc⟩ := h hn
  refine ⟨ad, e, by omega, fun r hr => ?_⟩
  obtain ⟨h1, h2, h3⟩ := hc r hr
  exact ⟨(hk _ (by rw [block_of_add]; exact hb)).trans h1, h2, h3.keep hk hB⟩
theorem Mt.below (h : Mt w B A n L RA RC F) (hb : Below B w w') (hB : B ≤ B') : Mt w' B' A n L RA RC F := h.keep (fun _ hp => hb.cell hp) hB
theorem Rw.below (h : Rw w B A n f) (hb : Below B w w') (hB : B ≤ B') : Rw w' B' A n f := h.keep (fun _ hp => hb.cell hp) hB
theorem Mt.row (h : Mt w B A n L RA RC F) {r : Nat} (hr : r < n) :
    ∃ ad, A = some ad ∧ ad.block < B ∧ w.cell? (ad.add r) = some (.slice (RA r) (L r) (RC r)) ∧ L r ≤ RC r ∧ Rw w B (RA r) (L r) (F r) := by
  obtain ⟨ad, e, hb, hc⟩ := h (by omega)
  obtain ⟨h1, h2, h3⟩ := hc r hr
  exact ⟨ad, e, hb, h1, h2, h3⟩
theorem Rw.at_ (h : Rw w B A n f) {c : Nat} (hc : c < n) : ∃ ad, A = some ad ∧ ad.block < B ∧ w.cell? (ad.add c) = some (.int .u8 (V (f c))) := by
  obtain ⟨ad, e, hb, h1⟩ := h (by omega)
  exact ⟨ad, e, hb, h1 c hc⟩
/-- a row of the call's own, read -/
theorem Rw.of_has {b : Nat} (h : Has w b 5 n (fun c => .int .u8 (V (f c)))) (hB : b < B) : Rw w B (some ⟨b, 0, none⟩) n f := fun _ =>
  ⟨_, rfl, hB, fun c hc => by rw [add_lit]; exact h.cell hc⟩
theorem Mt.of_has {b : Nat} {G C : Nat → Nat} {m : Nat} (h : Has w b 55 n (fun r => .slice (some ⟨G r, 0, none⟩) m (C r))) (hB : b < B)
    (hr : ∀ r, r < n → G r < B ∧ m ≤ C r ∧ Has w (G r) 5 m (fun c => .int .u8 (V (F r c)))) : Mt w B (some ⟨b, 0, none⟩) n (fun _ => m) (fun r => some ⟨G r, 0, none⟩) C F := fun _ =>
  ⟨_, rfl, hB, fun r hrn => by
    obtain ⟨h1, h2, h3⟩ := hr r hrn
    exact ⟨by rw [add_lit]; exact h.cell hrn, h2, .of_has h3 h1⟩⟩
end

/-- a matrix may be -/
def Ok (n : Nat) (L : Nat → Nat) : Prop := 1 ≤ n ∧ n ≤ 32 ∧ 1 ≤ L 0 ∧ L 0 ≤ 32 ∧ ∀ r, r < n → L r = L 0
instance (n : Nat) (L : Nat → Nat) : Decidable (Ok n L) := by unfold Ok; infer_instance
def okB (n : Nat) (L : Nat → Nat) : Bool := decide (Ok n L)
theorem ok_yes {n : Nat} {L : Nat → Nat} (h : Ok n L) : okB n L = true := by unfold okB; exact decide_eq_true h
theorem ok_no {n : Nat} {L : Nat → Nat} (h : ¬ Ok n L) : okB n L = false := by unfold okB; exact decide_eq_false h
theorem Ok.row {n : Nat} {L : Nat → Nat} (h : Ok n L) {r : Nat} (hr : r < n) : L r = L 0 := h.2.2.2.2 r hr
end Go.Proofs.Ytohbijjkkadbaaa.Mat
