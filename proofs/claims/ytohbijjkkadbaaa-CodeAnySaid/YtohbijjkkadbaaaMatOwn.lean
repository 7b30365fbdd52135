/- Matrices that a call has made and writes. -/
import Derived.Test.YtohbijjkkadbaaaMatC
namespace Go.Proofs.Ytohbijjkkadbaaa.Mat
open Go.RowKit Fld

/-- nothing has turned but blocks of S -/
structure Turned (S : Nat → Prop) (w w' : World) : Prop where
  os : w'.os = w.os
  tape : w'.tape = w.tape
  output : w'.output = w.output
  size : w.heap.size ≤ w'.heap.size
  block : ∀ k, k < w.heap.size → ¬ S k → w'.heap[k]? = w.heap[k]?

section
variable {S S' : Nat → Prop} {a w w' w'' : World}
theorem Turned.refl (S) (w : World) : Turned S w w := ⟨rfl, rfl, rfl, Nat.le_refl _, fun _ _ _ => rfl⟩
theorem Turned.trans (h : Turned S a w) (k : Turned S w w') : Turned S a w' :=
  ⟨k.os.trans h.os, k.tape.trans h.tape, k.output.trans h.output, Nat.le_trans h.size k.size, fun i hi hn => (k.block i (Nat.lt_of_lt_of_le hi h.size) hn).trans (h.block i hi hn)⟩
theorem Turned.mono (h : Turned S a w) (hs : ∀ k, S k → S' k) : Turned S' a w := ⟨h.os, h.tape, h.output, h.size, fun i hi hn => h.block i hi (fun hk => hn (hs i hk))⟩
theorem Turned.drew (h : Turned S a w) : Turned S a w.drew := ⟨h.os, h.tape, h.output, h.size, h.block⟩
theorem Turned.drewN (h : Turned S a w) (n : Nat) : Turned S a (w.drewN n) := ⟨h.os, h.tape, h.output, h.size, h.block⟩
theorem Turned.of_drew (h : Turned S a.drew w) : Turned S a w := ⟨h.os, h.tape, h.output, h.size, h.block⟩
theorem Turned.setCell (h : Turned S a w) {p : Addr} (hp : S p.block) (u : Value) : Turned S a (w.setCell p u) :=
  h.trans ⟨rfl, rfl, rfl, by simp [World.setCell], fun k _ hn => Below.heap_setCell _ _ _ _ (fun e => hn (e ▸ hp))⟩
theorem Turned.below (h : Turned S a w) {B : Nat} (hB : ∀ k, S k → B ≤ k) (hs : B ≤ a.heap.size) : Below B a w :=
  ⟨h.os, h.tape, h.output, h.size, fun k hk => h.block k (by omega) (fun hS => by have := hB k hS; omega)⟩
theorem Turned.of_below (h : Below a.heap.size a w) : Turned S a w := ⟨h.os, h.tape, h.output, h.size, fun k hk _ => h.block k hk⟩
theorem Has.turned {b t n : Nat} {f : Nat → Value} (h : Has w b t n f) (ht : Turned S w w') (hn : ¬ S b) : Has w' b t n f := h.of_block (ht.block b h.lt hn)
end

def Zone (g n : Nat) (G : Nat → Nat) (k : Nat) : Prop := k = g ∨ ∃ r, r < n ∧ k = G r
/-- n rows of m elements at block g, the row r in block G r -/
structure Own (w : World) (B g n m : Nat) (G C : Nat → Nat) (F : Nat → Nat → BitVec 8) : Prop where
  top : Has w g 55 n (fun r => .slice (some ⟨G r, 0, none⟩) m (C r))
  low : B ≤ g
  row : ∀ r, r < n → B ≤ G r ∧ m ≤ C r ∧ Has w (G r) 5 m (fun c => .int .u8 (V (F r c)))
  inj : ∀ r q, r < n → q < n → G r = G q → r = q

section
variable {w w' : World} {B g n m : Nat} {G C : Nat → Nat} {F F' : Nat → Nat → BitVec 8}
theorem Own.ne_ (h : Own w B g n m G C F) {r : Nat} (hr : r < n) : G r ≠ g := (h.row r hr).2.2.ne_ h.top (by decide)
theorem Own.drew (h : Own w B g n m G C F) : Own w.drew B g n m G C F := ⟨h.top, h.low, h.row, h.inj⟩
theorem Own.drewN (h : Own w B g n m G C F) (k : Nat) : Own (w.drewN k) B g n m G C F := ⟨h.top, h.low, h.row, h.inj⟩
theorem Own.congr (h : Own w B g n m G C F) (e : ∀ r c, r < n → c < m → F r c = F' r c) : Own w B g n m G C F' :=
  ⟨h.top, h.low, fun r hr => ⟨(h.row r hr).1, (h.row r hr).2.1, (h.row r hr).2.2.congr (fun c hc => by rw [e r c hr hc])⟩, h.inj⟩
/-- the row r has turned, and nothing else -/
theorem Own.turn (h : Own w B g n m G C F) {r : Nat} (hr : r < n) {f : Nat → BitVec 8} (ht : Turned (· = G r) w w') (hf : Has w' (G r) 5 m (fun c => .int .u8 (V (f c)))) :
    Own w' B g n m G C (fun q c => if q = r then f c else F q c) :=
  ⟨h.top.turned ht (fun e => h.ne_ hr e.symm), h.low, fun q hq => by
    obtain ⟨h1, h2, h3⟩ := h.row q hq
    refine ⟨h1, h2, ?_⟩
    by_cases e : q = r
    · subst e; exact hf.congr (fun c _ => by rw [if_pos rfl])
    · exact (h3.turned ht (fun e' => e (h.inj q r hq hr e'))).congr (fun c _ => by rw [if_neg e]), h.inj⟩
/-- a cell of the row r is stored -/
theorem Own.store (h : Own w B g n m G C F) {r : Nat} (hr : r < n) (i : Nat) (x : BitVec 8) :
    Own (w.setCell ⟨G r, i, none⟩ (.int .u8 (V x))) B g n m G C (fun q c => if q = r ∧ c = i then x else F q c) := by
  have ht : Turned (· = G r) w (w.setCell ⟨G r, i, none⟩ (.int .u8 (V x))) := (Turned.refl (· = G r) w).setCell (p := ⟨G r, i, none⟩) rfl _
  have hf := ((h.row r hr).2.2.set_ i (.int .u8 (V x))).congr (g := fun c => .int .u8 (V (if c = i then x else F r c))) (fun c _ => by
    by_cases e : c = i
    · rw [if_pos e, if_pos e]
    · rw [if_neg e, if_neg e])
  refine (h.turn hr ht hf).congr (fun q c _ _ => ?_)
  by_cases e : q = r
  · subst e; simp
  · simp [e]
theorem Own.mt (h : Own w B g n m G C F) : Mt w w.heap.size (some ⟨g, 0, none⟩) n (fun _ => m) (fun r => some ⟨G r, 0, none⟩) C F :=
  Mt.of_has h.top h.top.lt (fun r hr => ⟨(h.row r hr).2.2.lt, (h.row r hr).2.1, (h.row r hr).2.2⟩)
theorem Own.zone (h : Own w B g n m G C F) : ∀ k, Zone g n G k → B ≤ k := by
  rintro k (rfl | ⟨r, hr, rfl⟩)
  · exact h.low
  · exact (h.row r hr).1
/-- a block of another type is not of the zone -/
theorem Own.not_zone (h : Own w B g n m G C F) {b t k : Nat} {f : Nat → Value} (hb : Has w b t k f) (h1 : t ≠ 55) (h2 : t ≠ 5) : ¬ Zone g n G b := by
  rintro (e | ⟨r, hr, e⟩)
  · exact hb.ne_ h.top h1 e
  · exact hb.ne_ (h.row r hr).2.2 h2 e
end
end Go.Proofs.Ytohbijjkkadbaaa.Mat
