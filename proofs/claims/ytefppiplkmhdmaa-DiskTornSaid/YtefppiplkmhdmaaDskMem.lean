/- Disks in memory: their boxes, their rows, what calls answer. -/
import Derived.Test.YtefppiplkmhdmaaDskMath
import Derived.Lib.SmallJoins
import Derived.OneCell
namespace Go.Proofs.Ytefppiplkmhdmaa.Mat
open Go.RowKit Fld

/-! ### boxes of four cells -/
def four (p q r s : Value) (i : Nat) : Value := if i = 0 then p else if i = 1 then q else if i = 2 then r else s
/-- a disk's box -/
def Bx (w : World) (b : Nat) (p q r s : Value) : Prop := Has w b 25 4 (four p q r s)
def put4 (w : World) (b : Nat) (p q r s : Value) : World := (((w.setCell ⟨b, 0, none⟩ p).setCell ⟨b, 1, none⟩ q).setCell ⟨b, 2, none⟩ r).setCell ⟨b, 3, none⟩ s
section
variable {w w' w0 : World} {b B : Nat} {p q r s p' q' r' s' : Value}
theorem bx_new (w : World) (p q r s : Value) : Bx (w.alloc (.cells #[p, q, r, s] 25)) w.heap.size p q r s :=
  has_new w _ _ (fun i hi => by
    rcases (show i = 0 ∨ i = 1 ∨ i = 2 ∨ i = 3 by omega) with rfl | rfl | rfl | rfl <;> rfl)
theorem Bx.c0 (h : Bx w b p q r s) : w.cell? ⟨b, 0, none⟩ = some p := Has.cell h (by omega)
theorem Bx.c1 (h : Bx w b p q r s) : w.cell? ⟨b, 1, none⟩ = some q := Has.cell h (by omega)
theorem Bx.c2 (h : Bx w b p q r s) : w.cell? ⟨b, 2, none⟩ = some r := Has.cell h (by omega)
theorem Bx.c3 (h : Bx w b p q r s) : w.cell? ⟨b, 3, none⟩ = some s := Has.cell h (by omega)
theorem Bx.cells (h : Bx w b p q r s) : w.cell? ⟨b, 0, none⟩ = some p ∧ w.cell? ⟨b, 1, none⟩ = some q ∧ w.cell? ⟨b, 2, none⟩ = some r ∧ w.cell? ⟨b, 3, none⟩ = some s := ⟨h.c0, h.c1, h.c2, h.c3⟩
theorem Bx.free (h : Bx w b p q r s) : w.frozen? ⟨b, 0, none⟩ = false ∧ w.frozen? ⟨b, 1, none⟩ = false ∧ w.frozen? ⟨b, 2, none⟩ = false ∧ w.frozen? ⟨b, 3, none⟩ = false :=
  ⟨Has.frozen h (by omega), Has.frozen h (by omega), Has.frozen h (by omega), Has.frozen h (by omega)⟩
theorem Bx.lt_ (h : Bx w b p q r s) : b < w.heap.size := Has.lt h
theorem Bx.up (h : Bx w b p q r s) (hb : Below w.heap.size w w') : Bx w' b p q r s := Has.below h hb (Has.lt h)
theorem Bx.alloc (h : Bx w b p q r s) (o : Obj) : Bx (w.alloc o) b p q r s := Has.alloc h o
theorem Bx.drewN (h : Bx w b p q r s) (k : Nat) : Bx (w.drewN k) b p q r s := h
theorem Bx.drew (h : Bx w b p q r s) : Bx w.drew b p q r s := h
theorem Bx.grown {row : Option Nat} (h : Bx w b p q r s) (hg : w.grownBy w' row) (hne : some b ≠ row) : Bx w' b p q r s := Has.grown h hg hne
theorem Bx.set0 (h : Bx w b p q r s) (v : Value) : Bx (w.setCell ⟨b, 0, none⟩ v) b v q r s := (Has.set_ h 0 v).congr (fun i hi => by
  rcases (show i = 0 ∨ i = 1 ∨ i = 2 ∨ i = 3 by omega) with rfl | rfl | rfl | rfl <;> rfl)
theorem Bx.set1 (h : Bx w b p q r s) (v : Value) : Bx (w.setCell ⟨b, 1, none⟩ v) b p v r s := (Has.set_ h 1 v).congr (fun i hi => by
  rcases (show i = 0 ∨ i = 1 ∨ i = 2 ∨ i = 3 by omega) with rfl | rfl | rfl | rfl <;> rfl)
theorem Bx.set2 (h : Bx w b p q r s) (v : Value) : Bx (w.setCell ⟨b, 2, none⟩ v) b p q v s := (Has.set_ h 2 v).congr (fun i hi => by
  rcases (show i = 0 ∨ i = 1 ∨ i = 2 ∨ i = 3 by omega) with rfl | rfl | rfl | rfl <;> rfl)
theorem Bx.set3 (h : Bx w b p q r s) (v : Value) : Bx (w.setCell ⟨b, 3, none⟩ v) b p q r v := (Has.set_ h 3 v).congr (fun i hi => by
  rcases (show i = 0 ∨ i = 1 ∨ i = 2 ∨ i = 3 by omega) with rfl | rfl | rfl | rfl <;> rfl)
theorem Bx.setOther (h : Bx w b p q r s) {a : Addr} (ha : b ≠ a.block) (v : Value) : Bx (w.setCell a v) b p q r s := Has.setOther h ha v
theorem Bx.put (h : Bx w b p q r s) (p' q' r' s' : Value) : Bx (put4 w b p' q' r' s') b p' q' r' s' := (((h.set0 p').set1 q').set2 r').set3 s'
theorem Bx.putOther {b' : Nat} (h : Bx w b p q r s) (hne : b ≠ b') (p' q' r' s' : Value) : Bx (put4 w b' p' q' r' s') b p q r s :=
  (((h.setOther (a := ⟨b', 0, none⟩) hne _).setOther (a := ⟨b', 1, none⟩) hne _).setOther (a := ⟨b', 2, none⟩) hne _).setOther (a := ⟨b', 3, none⟩) hne _
theorem put4_below (h : Below B w0 w) (hb : B ≤ b) (p q r s : Value) : Below B w0 (put4 w b p q r s) :=
  (((h.setCell (p := ⟨b, 0, none⟩) hb _).setCell (p := ⟨b, 1, none⟩) hb _).setCell (p := ⟨b, 2, none⟩) hb _).setCell (p := ⟨b, 3, none⟩) hb _
theorem put4_size (w : World) (b : Nat) (p q r s : Value) : (put4 w b p q r s).heap.size = w.heap.size := by simp [put4, World.setCell]
end
/-- the frame of a call with two boxes -/
structure D2 (w wr : World) (p q r s p' q' r' s' : Value) : Prop where
  below : Below w.heap.size w wr
  x : Bx wr w.heap.size p q r s
  z : Bx wr (w.heap.size + 1) p' q' r' s'
section
variable {w wr w2 : World} {p q r s p' q' r' s' : Value}
theorem D2.start (w : World) (p q r s p' q' r' s' : Value) : D2 w ((w.alloc (.cells #[p, q, r, s] 25)).alloc (.cells #[p', q', r', s'] 25)) p q r s p' q' r' s' where
  below := ((Below.refl _ _).alloc (Nat.le_refl _) _).alloc (by rw [size_alloc]; omega) _
  x := (bx_new w _ _ _ _).alloc _
  z := by
    have := bx_new (w.alloc (.cells #[p, q, r, s] 25)) p' q' r' s'
    rwa [size_alloc] at this
theorem D2.up (h : D2 w wr p q r s p' q' r' s') (hb : Below wr.heap.size wr w2) : D2 w w2 p q r s p' q' r' s' := ⟨up_trans h.below hb, h.x.up hb, h.z.up hb⟩
theorem D2.drew (h : D2 w wr p q r s p' q' r' s') : D2 w wr.drew p q r s p' q' r' s' := ⟨h.below.drew, h.x, h.z⟩
theorem D2.drewN (h : D2 w wr p q r s p' q' r' s') (k : Nat) : D2 w (wr.drewN k) p q r s p' q' r' s' := ⟨below_drewN h.below k, h.x, h.z⟩
theorem D2.alloc (h : D2 w wr p q r s p' q' r' s') (o : Obj) : D2 w (wr.alloc o) p q r s p' q' r' s' := ⟨h.below.alloc h.below.size o, h.x.alloc o, h.z.alloc o⟩
theorem D2.grown {row : Option Nat} (h : D2 w wr p q r s p' q' r' s') (hg : wr.grownBy w2 row) (hr : ∀ k, row = some k → w.heap.size ≤ k) (hx : row ≠ some w.heap.size) (hz : row ≠ some (w.heap.size + 1)) : D2 w w2 p q r s p' q' r' s' :=
  ⟨h.below.grown hg h.below.size hr, h.x.grown hg (fun e => hx e.symm), h.z.grown hg (fun e => hz e.symm)⟩
theorem D2.putx (h : D2 w wr p q r s p' q' r' s') (a b c d : Value) : D2 w (put4 wr w.heap.size a b c d) a b c d p' q' r' s' := ⟨put4_below h.below (by omega) _ _ _ _, h.x.put _ _ _ _, h.z.putOther (by omega) _ _ _ _⟩
theorem D2.putz (h : D2 w wr p q r s p' q' r' s') (a b c d : Value) : D2 w (put4 wr (w.heap.size + 1) a b c d) p q r s a b c d := ⟨put4_below h.below (by omega) _ _ _ _, h.x.putOther (by omega) _ _ _ _, h.z.put _ _ _ _⟩
theorem D2.x0 (h : D2 w wr p q r s p' q' r' s') (v : Value) : D2 w (wr.setCell ⟨w.heap.size, 0, none⟩ v) v q r s p' q' r' s' := ⟨h.below.setCell (p := ⟨w.heap.size, 0, none⟩) (Nat.le_refl _) v, h.x.set0 v, h.z.setOther (by show w.heap.size + 1 ≠ w.heap.size; omega) v⟩
theorem D2.x1 (h : D2 w wr p q r s p' q' r' s') (v : Value) : D2 w (wr.setCell ⟨w.heap.size, 1, none⟩ v) p v r s p' q' r' s' := ⟨h.below.setCell (p := ⟨w.heap.size, 1, none⟩) (Nat.le_refl _) v, h.x.set1 v, h.z.setOther (by show w.heap.size + 1 ≠ w.heap.size; omega) v⟩
theorem D2.x2 (h : D2 w wr p q r s p' q' r' s') (v : Value) : D2 w (wr.setCell ⟨w.heap.size, 2, none⟩ v) p q v s p' q' r' s' := ⟨h.below.setCell (p := ⟨w.heap.size, 2, none⟩) (Nat.le_refl _) v, h.x.set2 v, h.z.setOther (by show w.heap.size + 1 ≠ w.heap.size; omega) v⟩
theorem D2.x3 (h : D2 w wr p q r s p' q' r' s') (v : Value) : D2 w (wr.setCell ⟨w.heap.size, 3, none⟩ v) p q r v p' q' r' s' := ⟨h.below.setCell (p := ⟨w.heap.size, 3, none⟩) (Nat.le_refl _) v, h.x.set3 v, h.z.setOther (by show w.heap.size + 1 ≠ w.heap.size; omega) v⟩
end

/-! ### the result, in a box -/
theorem results_disk {fn : Func} {t : Tmp} (h : fn.results = #[.cell t 25]) (tmps : Array Value) (w : World) (g : Nat) {p q r s : Value} (hp : tmps.getD t undef = .pointer (some ⟨g, 0, none⟩)) (hc : Bx w g p q r s) : (results fn tmps).run Try.prog w = .ok (.agg #[p, q, r, s]) w := by
  have hp' : tmps[t]?.getD undef = .pointer (some ⟨g, 0, none⟩) := by simpa using hp
  obtain ⟨c0, c1, c2, c3⟩ := hc.cells
  simp [results, h, hp', asAddr, go_sem, c0, c1, c2, c3]
theorem results_disk_err {fn : Func} {t u : Tmp} (h : fn.results = #[.cell t 25, .tmp u]) (tmps : Array Value) (w : World) (g : Nat) {p q r s : Value} (hp : tmps.getD t undef = .pointer (some ⟨g, 0, none⟩)) (hc : Bx w g p q r s) :
    (results fn tmps).run Try.prog w = .ok (.tuple #[.agg #[p, q, r, s], tmps.getD u undef]) w := by
  have hp' : tmps[t]?.getD undef = .pointer (some ⟨g, 0, none⟩) := by simpa using hp
  obtain ⟨c0, c1, c2, c3⟩ := hc.cells
  simp [results, h, hp', asAddr, go_sem, c0, c1, c2, c3]

/-! ### writes that wait -/
theorem add_pos (a : Addr) (n : Nat) (h : n ≠ 0) : a.add n = ⟨a.block, a.off + n, none⟩ := if_neg h
def Pc (w : World) (B : Nat) (A : Option Addr) (n : Nat) (I : Nat → Int) (S : Nat → ByteArray) : Prop :=
  0 < n → ∃ ad, A = some ad ∧ ad.block < B ∧ ∀ r, r < n → w.cell? (ad.add (r * 2)) = some (.int .i64 (I r)) ∧ w.cell? (ad.add (r * 2 + 1)) = some (.string (S r))
section
variable {w w' : World} {B B' n : Nat} {A : Option Addr} {I I' : Nat → Int} {S S' : Nat → ByteArray}
theorem Pc.below (h : Pc w B A n I S) (hb : Below B w w') (hB : B ≤ B') : Pc w' B' A n I S := fun hn => by
  obtain ⟨ad, e, hl, hc⟩ := h hn
  exact ⟨ad, e, by omega, fun r hr => ⟨(hb.cell (by rw [block_of_add]; exact hl)).trans (hc r hr).1, (hb.cell (by rw [block_of_add]; exact hl)).trans (hc r hr).2⟩⟩
theorem Pc.up (h : Pc w w.heap.size A n I S) (hb : Below w.heap.size w w') : Pc w' w'.heap.size A n I S := h.below hb hb.size
theorem Pc.at_ (h : Pc w B A n I S) {r : Nat} (hr : r < n) :
    ∃ ad, A = some ad ∧ ad.block < B ∧ w.cell? (ad.add (r * 2)) = some (.int .i64 (I r)) ∧ w.cell? ⟨(ad.add (r * 2)).block, (ad.add (r * 2)).off + 1, none⟩ = some (.string (S r)) := by
  obtain ⟨ad, e, hl, hc⟩ := h (by omega)
  exact ⟨ad, e, hl, (hc r hr).1, by rw [← add_pos _ _ (by omega), add_add]; exact (hc r hr).2⟩
theorem Pc.congr (h : Pc w B A n I S) (e : ∀ i, i < n → I i = I' i ∧ S i = S' i) : Pc w B A n I' S' := fun hn => by
  obtain ⟨ad, h1, h2, h3⟩ := h hn
  exact ⟨ad, h1, h2, fun r hr => by rw [← (e r hr).1, ← (e r hr).2]; exact h3 r hr⟩
theorem Pc.drewN (h : Pc w B A n I S) (k : Nat) : Pc (w.drewN k) B A n I S := h
end
theorem infoWrite : (Try.prog.info? 55).map (fun i => (i.zero, i.size, i.bytes)) = some (some (.agg #[.int .i64 0, .string ByteArray.empty]), 2, 24) := by kernel_rfl
/-- the cells of n writes, of n texts -/
def pcs (I : Nat → Int) (S : Nat → ByteArray) : Nat → List Value
  | 0 => []
  | n + 1 => pcs I S n ++ [.int .i64 (I n), .string (S n)]
theorem pcs_len (I : Nat → Int) (S : Nat → ByteArray) : ∀ n, (pcs I S n).length = n * 2
  | 0 => rfl
  | n + 1 => by
    unfold pcs
    rw [List.length_append, pcs_len I S n]
    simp only [List.length_cons, List.length_nil]
    omega
theorem pcs_at (I : Nat → Int) (S : Nat → ByteArray) : ∀ {n r : Nat}, r < n → (pcs I S n)[r * 2]? = some (.int .i64 (I r)) ∧ (pcs I S n)[r * 2 + 1]? = some (.string (S r))
  | n + 1, r, h => by
    unfold pcs
    by_cases e : r = n
    · subst e
      rw [List.getElem?_append_right (by rw [pcs_len]; omega), List.getElem?_append_right (by rw [pcs_len]; omega), pcs_len]
      rw [show r * 2 - r * 2 = 0 by omega, show r * 2 + 1 - r * 2 = 1 by omega]
      exact ⟨rfl, rfl⟩
    · rw [List.getElem?_append_left (by rw [pcs_len]; omega), List.getElem?_append_left (by rw [pcs_len]; omega)]
      exact pcs_at I S (by omega)
theorem pcs_one (I : Nat → Int) (S : Nat → ByteArray) : ∀ n, ∀ u ∈ pcs I S n, u.oneCell' = true
  | 0, u, h => by cases h
  | n + 1, u, h => by
    unfold pcs at h
    rcases List.mem_append.1 h with h | h
    · exact pcs_one I S n u h
    · simp only [List.mem_cons, List.not_mem_nil, or_false] at h
      rcases h with rfl | rfl <;> rfl
theorem pcs_congr {I I' : Nat → Int} {S S' : Nat → ByteArray} : ∀ {n : Nat}, (∀ i, i < n → I i = I' i ∧ S i = S' i) → pcs I S n = pcs I' S' n
  | 0, _ => rfl
  | n + 1, h => by
    unfold pcs
    rw [pcs_congr (fun i hi => h i (by omega)), (h n (by omega)).1, (h n (by omega)).2]
def strs (S : Nat → ByteArray) (n : Nat) : List Value := (List.range n).map (fun i => .string (S i))
theorem strs_len (S : Nat → ByteArray) (n : Nat) : (strs S n).length = n := by unfold strs; simp
theorem strs_at {S : Nat → ByteArray} {n i : Nat} (h : i < n) : (strs S n)[i]? = some (.string (S i)) := by unfold strs; simp [h]
theorem strs_one (S : Nat → ByteArray) (n : Nat) : ∀ u ∈ strs S n, u.oneCell' = true := by
  intro u hu
  unfold strs at hu
  obtain ⟨c, _, rfl⟩ := List.mem_map.1 hu
  rfl
/-- what is read there is what is copied -/
theorem St.news {w : World} {B n : Nat} {ad : Addr} {S : Nat → ByteArray} (h : St w B (some ad) n S) : ∀ j u, (strs S n)[j]? = some u → w.cell? (ad.add j) = some u := by
  intro j u hu
  have hj : j < n := by
    rcases Nat.lt_or_ge j n with h | h
    · exact h
    · rw [List.getElem?_eq_none (by rw [strs_len]; exact h)] at hu; cases hu
  obtain ⟨a, e, _, hc⟩ := h.at_ hj
  injection e with e
  subst e
  rw [strs_at hj] at hu
  rw [hc, hu]
theorem Pc.news {w : World} {B n : Nat} {ad : Addr} {I : Nat → Int} {S : Nat → ByteArray} (h : Pc w B (some ad) n I S) : ∀ j u, (pcs I S n)[j]? = some u → w.cell? (ad.add j) = some u := by
  intro j u hu
  have hj : j < n * 2 := by
    rcases Nat.lt_or_ge j (n * 2) with h | h
    · exact h
    · rw [List.getElem?_eq_none (by rw [pcs_len]; exact h)] at hu; cases hu
  obtain ⟨a, e, _, hc⟩ := h (by omega)
  injection e with e
  subst e
  obtain ⟨c0, c1⟩ := hc (j / 2) (by omega)
  obtain ⟨p0, p1⟩ := pcs_at I S (n := n) (r := j / 2) (by omega)
  rcases (show j = j / 2 * 2 ∨ j = j / 2 * 2 + 1 by omega) with e | e
  · rw [e] at hu ⊢
    rw [p0] at hu
    rw [c0, hu]
  · rw [e] at hu ⊢
    rw [p1] at hu
    rw [c1, hu]
/-- rows of a call's own, as they are read -/
theorem own_pc {a : World} {base n k : Nat} {B : Option Addr} {I : Nat → Int} {S : Nat → ByteArray} (h : a.ownsRow base 55 2 (.slice B n k) n (pcs I S n)) : Pc a a.heap.size B n I S := fun hn => by
  obtain ⟨g, cap, e, hg, hlt⟩ := h.form hn
  injection e with e1 e2 e3
  subst e1 e3
  refine ⟨_, rfl, hlt, fun r hr => ?_⟩
  obtain ⟨q0, q1⟩ := pcs_at I S hr
  rw [add_lit, add_lit, h.cellAt _ (by omega), h.cellAt _ (by omega), q0, q1]
  exact ⟨rfl, rfl⟩
/-- slots that may be written, at or above base -/
def Sl (w : World) (base : Nat) (A : Option Addr) (n : Nat) (S : Nat → ByteArray) : Prop := 0 < n → ∃ b, A = some ⟨b, 0, none⟩ ∧ base ≤ b ∧ Has w b 9 n (fun i => .string (S i))
theorem own_sl {a : World} {base n c : Nat} {A : Option Addr} {S : Nat → ByteArray} (h : a.ownsRow base 9 1 (.slice A n c) n (strs S n)) : Sl a base A n S := fun hn => by
  obtain ⟨b, e, hb, _, _, hh⟩ := Has.of_owns h hn (f := fun i => .string (S i)) (fun i hi => strs_at hi)
  exact ⟨b, e, hb, hh⟩
section
variable {w w' : World} {base base' n : Nat} {A : Option Addr} {S S' : Nat → ByteArray}
theorem Sl.st (h : Sl w base A n S) : St w w.heap.size A n S := fun hn => by
  obtain ⟨b, rfl, _, hh⟩ := h hn
  exact St.of_has hh hh.lt hn
theorem Sl.up (h : Sl w base A n S) (hb : Below w.heap.size w w') : Sl w' base A n S := fun hn => by
  obtain ⟨b, e, h1, hh⟩ := h hn
  exact ⟨b, e, h1, hh.below hb hh.lt⟩
theorem Sl.lower (h : Sl w base A n S) (hb : base' ≤ base) : Sl w base' A n S := fun hn => by
  obtain ⟨b, e, h1, hh⟩ := h hn
  exact ⟨b, e, by omega, hh⟩
theorem Sl.congr (h : Sl w base A n S) (e : ∀ i, i < n → S i = S' i) : Sl w base A n S' := fun hn => by
  obtain ⟨b, e1, h1, hh⟩ := h hn
  exact ⟨b, e1, h1, hh.congr (fun i hi => by rw [e i hi])⟩
/-- a box isn't among the slots -/
theorem Sl.ne {t k b : Nat} {F : Nat → Value} (h : Sl w base A n S) (hb : Has w b t k F) (ht : t ≠ 9) : ∀ g, 0 < n → A.map (·.block) = some g → g ≠ b := by
  intro g hn hg
  obtain ⟨b', rfl, _, hh⟩ := h hn
  injection hg with hg
  subst hg
  exact fun e => (hb.ne_ hh ht) e.symm
end
/-- the block of slots -/
def blk (A : Option Addr) (n : Nat) : Option Nat := if 0 < n then A.map (·.block) else none
theorem Sl.blk {w : World} {base n : Nat} {A : Option Addr} {S : Nat → ByteArray} (h : Sl w base A n S) : ∀ g, blk A n = some g → base ≤ g ∧ g < w.heap.size := by
  intro g hg
  unfold Mat.blk at hg
  by_cases hn : 0 < n
  · rw [if_pos hn] at hg
    obtain ⟨b, rfl, h1, hh⟩ := h hn
    injection hg with hg
    subst hg
    exact ⟨h1, hh.lt⟩
  · rw [if_neg hn] at hg; cases hg
theorem Sl.blk_ne {w : World} {base n t k b : Nat} {A : Option Addr} {S : Nat → ByteArray} {F : Nat → Value} (h : Sl w base A n S) (hb : Has w b t k F) (ht : t ≠ 9) : some b ≠ Mat.blk A n := by
  intro e
  unfold Mat.blk at e
  by_cases hn : 0 < n
  · rw [if_pos hn] at e
    exact h.ne hb ht b hn e.symm rfl
  · rw [if_neg hn] at e; cases e

/-! ### disks -/
/-- sizes -/
structure Sz (d : Dk) : Prop where
  bn : d.n * 16 ≤ 140737488351232
  bm : d.m * 24 ≤ 140737488355328
  zs : ∀ i, i < d.n → (d.S i).size ≤ 140737488351232
  zt : ∀ i, i < d.m → (d.T i).size ≤ 140737488351232
  fl : -9223372036854775808 ≤ d.fuse
  fh : d.fuse ≤ 9223372036854775807
/-- how a disk lies in memory -/
structure DOk (w : World) (A : Option Addr) (c : Nat) (B : Option Addr) (k : Nat) (d : Dk) : Prop where
  st : St w w.heap.size A d.n d.S
  pc : Pc w w.heap.size B d.m d.I d.T
  fa : Fit A d.n c
  fb : Fit B d.m k
  sz : Sz d
theorem DOk.up {w w' : World} {A B : Option Addr} {c k : Nat} {d : Dk} (h : DOk w A c B k d) (hb : Below w.heap.size w w') : DOk w' A c B k d := ⟨h.st.up hb, h.pc.up hb, h.fa, h.fb, h.sz⟩
/-- a disk's value -/
@[reducible] def dv (A : Option Addr) (n c : Nat) (B : Option Addr) (m k : Nat) (f : Int) (o : Bool) : Value := .agg #[.slice A n c, .slice B m k, .int .i64 f, .bool o]
/-- a call answers a disk and an error; a disk; a text and an error -/
def DErr (w : World) (D : Dk) (E : Int) (e : Ending) (w' : World) : Prop :=
  ∃ A c B k, e = .returned (.tuple #[.agg #[.slice A D.n c, .slice B D.m k, .int .i64 D.fuse, .bool D.off], .int .i64 E]) ∧ DOk w' A c B k D ∧ Below w.heap.size w w'
def DRet (w : World) (D : Dk) (e : Ending) (w' : World) : Prop :=
  ∃ A c B k, e = .returned (.agg #[.slice A D.n c, .slice B D.m k, .int .i64 D.fuse, .bool D.off]) ∧ DOk w' A c B k D ∧ Below w.heap.size w w'
def TxtRet (w : World) (E : Int) (s : ByteArray) (e : Ending) (w' : World) : Prop := e = .returned (.tuple #[.string s, .int .i64 E]) ∧ Below w.heap.size w w'
/-- a call answers nothing, and has written slots -/
def WroteRet (w : World) (base : Nat) (A : Option Addr) (n : Nat) (S : Nat → ByteArray) (e : Ending) (w' : World) : Prop := e = .returned (.tuple #[]) ∧ Sl w' base A n S ∧ w.grownBy w' (blk A n)
/-- a call answers a disk with rows of its own -/
def OwnRet (w : World) (d : Dk) (e : Ending) (w' : World) : Prop :=
  ∃ A c B k, e = .returned (.agg #[.slice A d.n c, .slice B d.m k, .int .i64 d.fuse, .bool d.off]) ∧ Fit A d.n c ∧ w'.ownsRow w.heap.size 9 1 (.slice A d.n c) d.n (strs d.S d.n) ∧ w'.ownsRow w.heap.size 55 2 (.slice B d.m k) d.m (pcs d.I d.T d.m) ∧ Below w.heap.size w w'
end Go.Proofs.Ytefppiplkmhdmaa.Mat
