/- The document's own inverse: two matrices that are written side by side. -/
import Derived.Test.YtohbijjkkadbaaaMatRM
import Derived.Test.YtohbijjkkadbaaaMatE
import Derived.Test.YtohbijjkkadbaaaMatH
import Derived.Laws.IdiomStrings
namespace Go.Proofs.Ytohbijjkkadbaaa.Mat
open Go.RowKit Fld

theorem rs_size (n : Nat) (f : Nat → BitVec 8) : (rs n f).size = n := by unfold rs; rw [strOfNums_size]; simp
/-- what '[]byte(string(row))' lays -/
def cpObj (w : World) (n : Nat) (f : Nat → BitVec 8) : Obj :=
  .cells (bytesRow (rs n f) (grownCap w n 0 5)) 5 ((bytesRow (rs n f) (grownCap w n 0 5)).size, (bytesRow (rs n f) (grownCap w n 0 5)).size + 1)
def cpCap (w : World) (n : Nat) : Nat := grownCap w n 0 5
theorem copy_run (n : Nat) (f : Nat → BitVec 8) (w : World) :
    (convert 9 55 (.string (rs n f))).run Try.prog w = .ok (.slice (some ⟨w.heap.size, 0, none⟩) n (cpCap w n)) (w.alloc (cpObj w n f)).drew := by
  have h := run_bytes_of_string (P := Try.prog) w 9 55 5 (rs n f) Try.underlying9 Try.underlying55 Try.underlying5
  rw [rs_size] at h
  exact h
theorem copy_cap (w : World) (n : Nat) : n ≤ cpCap w n := grownCap_ge w n 0 _
theorem copy_has (w : World) (n : Nat) (f : Nat → BitVec 8) : Has (w.alloc (cpObj w n f)) w.heap.size 5 n (fun c => .int .u8 (V (f c))) := by
  have hl : (rs n f).data.size = n := by have := rs_size n f; exact this
  refine ⟨_, _, _, heap_alloc_new w _, .inr ?_, fun i hi => ?_⟩
  · unfold bytesRow; simp [hl]
  · have hd : (rs n f).data[i]? = some (UInt8.ofBitVec (f i)) := by
      rw [← Array.getElem?_toList, rs_list]; simp [hi]
    unfold bytesRow
    rw [Array.getElem?_append_left (by simp [hl]; exact hi), Array.getElem?_map, hd]
    rfl

/-! ### two matrices -/
structure Two (w : World) (g1 g2 n : Nat) (G1 C1 G2 C2 : Nat → Nat) (F : Nat → Nat → BitVec 8) (wr : World) : Prop where
  a : Own wr w.heap.size g1 n n G1 C1 F
  b : Own wr w.heap.size g2 n n G2 C2 (fun r c => F r (n + c))
  ne : g1 ≠ g2
  dis : ∀ r q, r < n → q < n → G1 r ≠ G2 q
  below : Below w.heap.size w wr
section
variable {w wr : World} {g1 g2 n : Nat} {G1 C1 G2 C2 : Nat → Nat} {F F' : Nat → Nat → BitVec 8}
theorem Two.drew (h : Two w g1 g2 n G1 C1 G2 C2 F wr) : Two w g1 g2 n G1 C1 G2 C2 F wr.drew := ⟨h.a.drew, h.b.drew, h.ne, h.dis, h.below.drew⟩
theorem Two.congr (h : Two w g1 g2 n G1 C1 G2 C2 F wr) (e : ∀ r c, r < n → c < n + n → F r c = F' r c) : Two w g1 g2 n G1 C1 G2 C2 F' wr :=
  ⟨h.a.congr (fun r c hr hc => e r c hr (by omega)), h.b.congr (fun r c hr hc => e r (n + c) hr (by omega)), h.ne, h.dis, h.below⟩
theorem Own.far (h : Own wr w.heap.size g1 n n G1 C1 F) {p : Addr} (h1 : g1 ≠ p.block) (h2 : ∀ r, r < n → G1 r ≠ p.block) (v : Value) : Own (wr.setCell p v) w.heap.size g1 n n G1 C1 F :=
  ⟨h.top.setOther h1 v, h.low, fun r hr => ⟨(h.row r hr).1, (h.row r hr).2.1, (h.row r hr).2.2.setOther (h2 r hr) v⟩, h.inj⟩
/-- a row's block is no matrix's own row -/
theorem Two.xa (h : Two w g1 g2 n G1 C1 G2 C2 F wr) {r : Nat} (hr : r < n) : g2 ≠ G1 r := fun e => (h.a.row r hr).2.2.ne_ h.b.top (by decide) e.symm
theorem Two.xb (h : Two w g1 g2 n G1 C1 G2 C2 F wr) {r : Nat} (hr : r < n) : g1 ≠ G2 r := fun e => (h.b.row r hr).2.2.ne_ h.a.top (by decide) e.symm
theorem Two.storeA (h : Two w g1 g2 n G1 C1 G2 C2 F wr) {r i : Nat} (hr : r < n) (hi : i < n) (x : BitVec 8) :
    Two w g1 g2 n G1 C1 G2 C2 (fun q c => if q = r ∧ c = i then x else F q c) (wr.setCell ⟨G1 r, i, none⟩ (.int .u8 (V x))) :=
  ⟨h.a.store hr i x, (h.b.far (p := ⟨G1 r, i, none⟩) (h.xa hr) (fun q hq e => h.dis r q hr hq e.symm) _).congr (fun q c _ _ => (if_neg (by omega)).symm), h.ne, h.dis,
    h.below.setCell (p := ⟨G1 r, i, none⟩) (h.a.row r hr).1 _⟩
theorem Two.storeB (h : Two w g1 g2 n G1 C1 G2 C2 F wr) {r i : Nat} (hr : r < n) (_hi : i < n) (x : BitVec 8) :
    Two w g1 g2 n G1 C1 G2 C2 (fun q c => if q = r ∧ c = n + i then x else F q c) (wr.setCell ⟨G2 r, i, none⟩ (.int .u8 (V x))) :=
  ⟨(h.a.far (p := ⟨G2 r, i, none⟩) (h.xb hr) (fun q hq e => h.dis q r hq hr e) _).congr (fun q c _ hc => (if_neg (by omega)).symm), (h.b.store hr i x).congr (fun q c _ _ => by
      by_cases e : q = r ∧ c = i
      · rw [if_pos e, if_pos (by omega)]
      · rw [if_neg e, if_neg (by omega)]), h.ne, h.dis,
    h.below.setCell (p := ⟨G2 r, i, none⟩) (h.b.row r hr).1 _⟩
theorem ex_at {n k p : Nat} (G : Nat → Nat) (hk : k < n) (hp : p < n) {r : Nat} (hr : r < n) : ∃ s, s < n ∧ ex G k p r = G s := by
  obtain ⟨s, hs, e⟩ := ex_zone G hk hp _ ⟨r, hr, rfl⟩
  exact ⟨s, hs, e⟩
/-- the rows k and p change places in the first one .. -/
theorem Two.swapA (h : Two w g1 g2 n G1 C1 G2 C2 F wr) {k p : Nat} (hk : k < n) (hp : p < n) :
    Own ((wr.setCell ⟨g1, k, none⟩ (.slice (some ⟨G1 p, 0, none⟩) n (C1 p))).setCell ⟨g1, p, none⟩ (.slice (some ⟨G1 k, 0, none⟩) n (C1 k))) w.heap.size g1 n n (ex G1 k p) (ex C1 k p) (sw F k p) ∧
    Own ((wr.setCell ⟨g1, k, none⟩ (.slice (some ⟨G1 p, 0, none⟩) n (C1 p))).setCell ⟨g1, p, none⟩ (.slice (some ⟨G1 k, 0, none⟩) n (C1 k))) w.heap.size g2 n n G2 C2 (fun r c => F r (n + c)) ∧
    Below w.heap.size w ((wr.setCell ⟨g1, k, none⟩ (.slice (some ⟨G1 p, 0, none⟩) n (C1 p))).setCell ⟨g1, p, none⟩ (.slice (some ⟨G1 k, 0, none⟩) n (C1 k))) :=
  ⟨h.a.swap hk hp, (h.b.far (p := ⟨g1, k, none⟩) h.ne.symm (fun _ hr e => h.xb hr e.symm) _).far (p := ⟨g1, p, none⟩) h.ne.symm (fun _ hr e => h.xb hr e.symm) _,
    (h.below.setCell (p := ⟨g1, k, none⟩) h.a.low _).setCell (p := ⟨g1, p, none⟩) h.a.low _⟩
/-- .. and in the second one -/
theorem Two.swapB {w2 : World} (h : Two w g1 g2 n G1 C1 G2 C2 F wr) {k p : Nat} (hk : k < n) (hp : p < n) (h1 : Own w2 w.heap.size g1 n n (ex G1 k p) (ex C1 k p) (sw F k p))
    (h2 : Own w2 w.heap.size g2 n n G2 C2 (fun r c => F r (n + c))) (h3 : Below w.heap.size w w2) :
    Two w g1 g2 n (ex G1 k p) (ex C1 k p) (ex G2 k p) (ex C2 k p) (sw F k p) ((w2.setCell ⟨g2, k, none⟩ (.slice (some ⟨G2 p, 0, none⟩) n (C2 p))).setCell ⟨g2, p, none⟩ (.slice (some ⟨G2 k, 0, none⟩) n (C2 k))) := by
  have x2 : ∀ r, r < n → ex G1 k p r ≠ g2 := fun r hr e => (h1.row r hr).2.2.ne_ h2.top (by decide) e
  refine ⟨(h1.far (p := ⟨g2, k, none⟩) h.ne x2 _).far (p := ⟨g2, p, none⟩) h.ne x2 _, (h2.swap hk hp).congr (fun r c _ _ => by unfold sw; rfl), h.ne, fun r q hr hq => ?_,
    (h3.setCell (p := ⟨g2, k, none⟩) h2.low _).setCell (p := ⟨g2, p, none⟩) h2.low _⟩
  obtain ⟨s, hs, e1⟩ := ex_at G1 hk hp hr
  obtain ⟨s', hs', e2⟩ := ex_at G2 hk hp hq
  rw [e1, e2]
  exact h.dis s s' hs hs'
theorem sw_comm (F : Nat → Nat → BitVec 8) (k p r c : Nat) : sw F p k r c = sw F k p r c := by
  unfold sw
  by_cases h1 : r = k
  · subst h1
    by_cases h2 : r = p
    · subst h2; rfl
    · rw [if_neg h2, if_pos rfl, if_pos rfl]
  · by_cases h2 : r = p
    · subst h2; rw [if_pos rfl, if_neg h1, if_pos rfl]
    · rw [if_neg h2, if_neg h1, if_neg h1, if_neg h2]
end

/-! ### the rows' steps, place by place -/
/-- the first c places of each half -/
def inC (n c j : Nat) : Prop := j < c ∨ (n ≤ j ∧ j < n + c)
instance (n c j : Nat) : Decidable (inC n c j) := by unfold inC; infer_instance
def sci (n : Nat) (F : Nat → Nat → BitVec 8) (k : Nat) (x : BitVec 8) (c q j : Nat) : BitVec 8 := if q = k ∧ inC n c j then gm (F q j) x else F q j
theorem sci_start (n : Nat) (F) (k : Nat) (x) (q j : Nat) : F q j = sci n F k x 0 q j := by unfold sci inC; rw [if_neg (by omega)]
theorem sci_lo (n : Nat) (F) (k : Nat) (x) (c q : Nat) (h : c < n) : sci n F k x c q c = F q c := by unfold sci inC; rw [if_neg (by omega)]
theorem sci_hi (n : Nat) (F) (k : Nat) (x) (c q : Nat) : sci n F k x c q (n + c) = F q (n + c) := by unfold sci inC; rw [if_neg (by omega)]
theorem sci_next (n : Nat) (F) (k : Nat) (x) (c q j : Nat) (hc : c < n) :
    (if q = k ∧ j = n + c then gm (F k (n + c)) x else if q = k ∧ j = c then gm (F k c) x else sci n F k x c q j) = sci n F k x (c + 1) q j := by
  unfold sci inC
  by_cases h1 : q = k ∧ j = n + c
  · obtain ⟨rfl, rfl⟩ := h1
    rw [if_pos ⟨rfl, rfl⟩, if_pos (by omega)]
  · rw [if_neg h1]
    by_cases h2 : q = k ∧ j = c
    · obtain ⟨rfl, rfl⟩ := h2
      rw [if_pos ⟨rfl, rfl⟩, if_pos (by omega)]
    · rw [if_neg h2]
      by_cases h3 : q = k ∧ (j < c ∨ (n ≤ j ∧ j < n + c))
      · rw [if_pos h3, if_pos (by omega)]
      · rw [if_neg h3, if_neg (by omega)]
theorem sci_end (n : Nat) (F) (k : Nat) (x) (q j : Nat) (hj : j < n + n) : sci n F k x n q j = sc F k x q j := by
  unfold sci sc inC
  by_cases h : q = k
  · rw [if_pos ⟨h, by omega⟩, if_pos h]
  · rw [if_neg (fun e => h e.1), if_neg h]
def sui (n : Nat) (F : Nat → Nat → BitVec 8) (k r c q j : Nat) : BitVec 8 := if q ≠ k ∧ (q < r ∨ (q = r ∧ inC n c j)) then F q j ^^^ gm (F q k) (F k j) else F q j
theorem sui_start (n : Nat) (F) (k q j : Nat) : F q j = sui n F k 0 0 q j := by unfold sui inC; rw [if_neg (by omega)]
theorem sui_k (n : Nat) (F) (k r c j : Nat) : sui n F k r c k j = F k j := by unfold sui; rw [if_neg (fun h => h.1 rfl)]
theorem sui_lo (n : Nat) (F) (k r c j : Nat) (h : ¬ inC n c j) : sui n F k r c r j = F r j := by unfold sui; rw [if_neg (fun hh => hh.2.elim (fun h1 => absurd h1 (by omega)) (fun h1 => h h1.2))]
theorem sui_same (n : Nat) (F) (k r q j : Nat) (h : r = k ∨ F r k = 0#8) : sui n F k r 0 q j = sui n F k (r + 1) 0 q j := by
  unfold sui inC
  by_cases h1 : q ≠ k ∧ q < r
  · rw [if_pos ⟨h1.1, .inl h1.2⟩, if_pos ⟨h1.1, .inl (by omega)⟩]
  · rw [if_neg (by omega)]
    by_cases h2 : q ≠ k ∧ q = r
    · obtain ⟨h2, rfl⟩ := h2
      rw [if_pos ⟨h2, .inl (by omega)⟩]
      rcases h with h | h
      · exact absurd h h2
      · rw [h, gm_zero_left, xor_zero]
    · rw [if_neg (by omega)]
theorem sui_row (n : Nat) (F) (k r q j : Nat) (hj : j < n + n) : sui n F k r n q j = sui n F k (r + 1) 0 q j := by
  unfold sui inC
  by_cases h : q ≠ k ∧ q ≤ r
  · rw [if_pos (by omega), if_pos (by omega)]
  · rw [if_neg (by omega), if_neg (by omega)]
theorem sui_next (n : Nat) (F) (k r c q j : Nat) (hr : r ≠ k) (hc : c < n) :
    (if q = r ∧ j = n + c then F r (n + c) ^^^ gm (F r k) (F k (n + c)) else if q = r ∧ j = c then F r c ^^^ gm (F r k) (F k c) else sui n F k r c q j) = sui n F k r (c + 1) q j := by
  unfold sui inC
  by_cases h1 : q = r ∧ j = n + c
  · obtain ⟨rfl, rfl⟩ := h1
    rw [if_pos ⟨rfl, rfl⟩, if_pos (by omega)]
  · rw [if_neg h1]
    by_cases h2 : q = r ∧ j = c
    · obtain ⟨rfl, rfl⟩ := h2
      rw [if_pos ⟨rfl, rfl⟩, if_pos (by omega)]
    · rw [if_neg h2]
      by_cases h3 : q ≠ k ∧ (q < r ∨ (q = r ∧ (j < c ∨ (n ≤ j ∧ j < n + c))))
      · rw [if_pos h3, if_pos (by omega)]
      · rw [if_neg h3, if_neg (by omega)]
theorem sui_end (n : Nat) (F) (k q j : Nat) (hq : q < n) : sui n F k n 0 q j = su F k (fun r => F r k) q j := by
  unfold sui su inC
  by_cases e : q = k
  · subst e; simp
  · rw [if_pos ⟨e, .inl hq⟩, if_neg e]
end Go.Proofs.Ytohbijjkkadbaaa.Mat
