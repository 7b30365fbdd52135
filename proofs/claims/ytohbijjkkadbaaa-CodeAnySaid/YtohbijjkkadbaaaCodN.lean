/- Which numbers the pieces have: arrays, walked. -/
import Derived.Test.YtohbijjkkadbaaaCodOpen
import Derived.Deep.WholeRow
import Derived.BigRegion
import Derived.RegionTactic
namespace Go.Proofs.Ytohbijjkkadbaaa.Mat
open Go.RowKit Fld

/-- of the first i pieces: has one the number r; its bytes; have all of them numbers below n, each another one? -/
def num (I : Nat → Int) : Nat → Nat → Bool
  | 0, _ => false
  | i + 1, r => if I i = (r : Int) then true else num I i r
def txt (I : Nat → Int) (S : Nat → ByteArray) : Nat → Nat → ByteArray
  | 0, _ => ByteArray.empty
  | i + 1, r => if I i = (r : Int) then S i else txt I S i r
def Good (I : Nat → Int) (n i : Nat) : Prop := ∀ j, j < i → (0 ≤ I j ∧ I j < (n : Int)) ∧ ∀ q, q < j → I q ≠ I j
theorem num_iff {I : Nat → Int} : ∀ {i r : Nat}, num I i r = true ↔ ∃ j, j < i ∧ I j = (r : Int)
  | 0, r => by simp [num]
  | i + 1, r => by
    unfold num
    by_cases h : I i = (r : Int)
    · rw [if_pos h]; exact ⟨fun _ => ⟨i, by omega, h⟩, fun _ => rfl⟩
    · rw [if_neg h, num_iff]
      constructor
      · rintro ⟨j, hj, e⟩; exact ⟨j, by omega, e⟩
      · rintro ⟨j, hj, e⟩
        have : j ≠ i := fun e2 => h (e2 ▸ e)
        exact ⟨j, by omega, e⟩
theorem txt_at {I : Nat → Int} {S : Nat → ByteArray} {n : Nat} : ∀ {i j : Nat}, Good I n i → j < i → txt I S i (I j).toNat = S j
  | i + 1, j, h, hj => by
    have hp := (h j hj).1
    unfold txt
    by_cases e : j = i
    · subst e; rw [if_pos (by omega)]
    · rw [if_neg (fun e2 => (h i (by omega)).2 j (by omega) (by omega))]
      exact txt_at (fun q hq => h q (by omega)) (by omega)

def boolZ : Array Value := Array.replicate 32 (.bool false)
def strZ : Array Value := Array.replicate 32 (.string ByteArray.empty)
def bA (p : Nat → Bool) : Array Value := Array.ofFn (n := 32) fun i => .bool (p i.val)
def sA (T : Nat → ByteArray) : Array Value := Array.ofFn (n := 32) fun i => .string (T i.val)
theorem bA_size (p) : (bA p).size = 32 := by unfold bA; simp
theorem sA_size (T) : (sA T).size = 32 := by unfold sA; simp
theorem bA_get {p : Nat → Bool} {r : Nat} (h : r < 32) : (bA p)[r]? = some (.bool (p r)) := by unfold bA; simp [h]
theorem sA_get {T : Nat → ByteArray} {r : Nat} (h : r < 32) : (sA T)[r]? = some (.string (T r)) := by unfold sA; simp [h]
theorem bA_zero (I : Nat → Int) : bA (num I 0) = boolZ := by
  unfold bA boolZ
  apply Array.ext
  · simp
  · intro i h1 h2; simp [num]
theorem sA_zero (I : Nat → Int) (S) : sA (txt I S 0) = strZ := by
  unfold sA strZ
  apply Array.ext
  · simp
  · intro i h1 h2; simp [txt]
theorem bA_out {p : Nat → Bool} {r : Nat} (h : ¬ r < 32) : (bA p)[r]? = none := Array.getElem?_eq_none (by rw [bA_size]; omega)
theorem sA_out {T : Nat → ByteArray} {r : Nat} (h : ¬ r < 32) : (sA T)[r]? = none := Array.getElem?_eq_none (by rw [sA_size]; omega)
theorem bA_next (I : Nat → Int) (i r : Nat) (h : I i = (r : Int)) : (bA (num I i)).setIfInBounds r (.bool true) = bA (num I (i + 1)) := by
  apply Array.ext_getElem?
  intro k
  rw [Array.getElem?_setIfInBounds]
  by_cases hk : k < 32
  · rw [bA_get hk, bA_get hk, bA_size]
    by_cases e : r = k
    · subst e; rw [if_pos rfl, if_pos hk]; simp [num, h]
    · rw [if_neg e]
      have : ¬ I i = (k : Int) := fun h' => e (by omega)
      simp [num, this]
  · rw [bA_out hk, bA_out hk, bA_size]
    by_cases e : r = k
    · rw [if_pos e, if_neg (by omega)]
    · rw [if_neg e]
theorem sA_next (I : Nat → Int) (S : Nat → ByteArray) (i r : Nat) (h : I i = (r : Int)) : (sA (txt I S i)).setIfInBounds r (.string (S i)) = sA (txt I S (i + 1)) := by
  apply Array.ext_getElem?
  intro k
  rw [Array.getElem?_setIfInBounds]
  by_cases hk : k < 32
  · rw [sA_get hk, sA_get hk, sA_size]
    by_cases e : r = k
    · subst e; rw [if_pos rfl, if_pos hk]; simp [txt, h]
    · rw [if_neg e]
      have : ¬ I i = (k : Int) := fun h' => e (by omega)
      simp [txt, this]
  · rw [sA_out hk, sA_out hk, sA_size]
    by_cases e : r = k
    · rw [if_pos e, if_neg (by omega)]
    · rw [if_neg e]

/-- what stands when i pieces are through -/
structure ByN (w : World) (I : Nat → Int) (S : Nat → ByteArray) (i : Nat) (wr : World) : Prop where
  below : Below w.heap.size w wr
  r4 : wr.heap[w.heap.size]? = some (.cells boolZ 66 (0, 0))
  r5 : wr.heap[w.heap.size + 1]? = some (.cells strZ 67 (0, 0))
  th : wr.heap[w.heap.size + 2]? = some (.cells (bA (num I i)) 66 (0, 0))
  by_ : wr.heap[w.heap.size + 3]? = some (.cells (sA (txt I S i)) 67 (0, 0))
theorem heap_lt {w : World} {k : Nat} {o : Obj} (h : w.heap[k]? = some o) : k < w.heap.size := by
  obtain ⟨hlt, _⟩ := Array.getElem?_eq_some_iff.1 h
  exact hlt
theorem frozen_row {w : World} {g j : Nat} {cs : Array Value} {t : TypeId} (h : w.heap[g]? = some (.cells cs t (0, 0))) : w.frozen? ⟨g, j, none⟩ = false := by
  simp [World.frozen?, h]
theorem heap_set {w : World} {g j : Nat} {cs : Array Value} {t : TypeId} {fr : Nat × Nat} (h : w.heap[g]? = some (.cells cs t fr)) (v : Value) : (w.setCell ⟨g, j, none⟩ v).heap[g]? = some (.cells (cs.setIfInBounds j v) t fr) := by
  simp [World.setCell, Array.getElem?_modify, h]
theorem ByN.alloc {w wr : World} {I S i} (h : ByN w I S i wr) (o : Obj) : ByN w I S i (wr.alloc o) :=
  ⟨h.below.alloc h.below.size o, (Below.heap_alloc _ _ _ (heap_lt h.r4)).trans h.r4, (Below.heap_alloc _ _ _ (heap_lt h.r5)).trans h.r5, (Below.heap_alloc _ _ _ (heap_lt h.th)).trans h.th, (Below.heap_alloc _ _ _ (heap_lt h.by_)).trans h.by_⟩
theorem ByN.drew {w wr : World} {I S i} (h : ByN w I S i wr) : ByN w I S i wr.drew := ⟨h.below.drew, h.r4, h.r5, h.th, h.by_⟩
theorem ByN.next {w wr : World} {I S i} (h : ByN w I S i wr) {r : Nat} (hr : I i = (r : Int)) :
    ByN w I S (i + 1) ((wr.setCell ⟨w.heap.size + 2, r, none⟩ (.bool true)).setCell ⟨w.heap.size + 3, r, none⟩ (.string (S i))) := by
  have keep : ∀ k o, k ≠ w.heap.size + 2 → k ≠ w.heap.size + 3 → wr.heap[k]? = some o → ((wr.setCell ⟨w.heap.size + 2, r, none⟩ (.bool true)).setCell ⟨w.heap.size + 3, r, none⟩ (.string (S i))).heap[k]? = some o := fun k o h1 h2 h3 =>
    (Below.heap_setCell _ _ _ _ h2).trans ((Below.heap_setCell _ _ _ _ h1).trans h3)
  refine ⟨(h.below.setCell (p := ⟨w.heap.size + 2, r, none⟩) (by show w.heap.size ≤ w.heap.size + 2; omega) _).setCell (p := ⟨w.heap.size + 3, r, none⟩) (by show w.heap.size ≤ w.heap.size + 3; omega) _, keep _ _ (by omega) (by omega) h.r4, keep _ _ (by omega) (by omega) h.r5, ?_, ?_⟩
  · rw [← bA_next I i r hr]
    exact (Below.heap_setCell _ _ _ _ (by show w.heap.size + 2 ≠ w.heap.size + 3; omega)).trans (heap_set h.th _)
  · rw [← sA_next I S i r hr]
    exact heap_set ((Below.heap_setCell _ _ _ _ (by show w.heap.size + 3 ≠ w.heap.size + 2; omega)).trans h.by_) _
theorem ByN.start (w : World) (I : Nat → Int) (S) : ByN w I S 0 ((((w.alloc (.cells boolZ 66)).alloc (.cells strZ 67)).alloc (.cells boolZ 66)).alloc (.cells strZ 67)) := by
  refine ⟨(((Below.refl _ _).alloc (Nat.le_refl _) _).alloc (by simp) _).alloc (by simp; omega) _ |>.alloc (by simp; omega) _, ?_, ?_, ?_, ?_⟩
  · show ((((w.heap.push (.cells boolZ 66)).push (.cells strZ 67)).push (.cells boolZ 66)).push (.cells strZ 67))[w.heap.size]? = _
    rw [Array.getElem?_push, if_neg (by simp only [Array.size_push]; omega), Array.getElem?_push, if_neg (by simp only [Array.size_push]; omega), Array.getElem?_push, if_neg (by simp only [Array.size_push]; omega), Array.getElem?_push, if_pos rfl]
  · show ((((w.heap.push (.cells boolZ 66)).push (.cells strZ 67)).push (.cells boolZ 66)).push (.cells strZ 67))[w.heap.size + 1]? = _
    rw [Array.getElem?_push, if_neg (by simp only [Array.size_push]; omega), Array.getElem?_push, if_neg (by simp only [Array.size_push]; omega), Array.getElem?_push, if_pos (by simp only [Array.size_push])]
  · rw [bA_zero]
    show ((((w.heap.push (.cells boolZ 66)).push (.cells strZ 67)).push (.cells boolZ 66)).push (.cells strZ 67))[w.heap.size + 2]? = _
    rw [Array.getElem?_push, if_neg (by simp only [Array.size_push]; omega), Array.getElem?_push, if_pos (by simp only [Array.size_push])]
  · rw [sA_zero]
    show ((((w.heap.push (.cells boolZ 66)).push (.cells strZ 67)).push (.cells boolZ 66)).push (.cells strZ 67))[w.heap.size + 3]? = _
    rw [Array.getElem?_push, if_pos (by simp only [Array.size_push])]
theorem infoB : (Try.prog.info? 66).map (fun i => (i.zero, i.size)) = some (some (.agg boolZ), 32) := by kernel_rfl
theorem infoT : (Try.prog.info? 67).map (fun i => (i.zero, i.size)) = some (some (.agg strZ), 32) := by kernel_rfl

/-- the numbers and the bytes of all pieces; or the word that they don't fit -/
def NumRet (w : World) (n len : Nat) (I : Nat → Int) (S : Nat → ByteArray) (e : Ending) (w' : World) : Prop :=
  (Good I n len ∧ e = .returned (.tuple #[.agg (bA (num I len)), .agg (sA (txt I S len)), .int .i64 0]) ∨ ¬ Good I n len ∧ e = .returned (.tuple #[.agg boolZ, .agg strZ, .int .i64 1])) ∧ Below w.heap.size w w'

/-- two whole arrays and a value as results -/
theorem results_cell_row2t {P : Program} {fn : Func} {p q r : Tmp} {ty tz : TypeId} (h : fn.results = #[.cell p ty, .cell q tz, .tmp r]) (tmps : Array Value) (w : World)
    (g : Nat) (t : TypeId) (cs : Array Value) (fr : Nat × Nat) (d : TypeDesc) (hp : tmps.getD p undef = .pointer (some ⟨g, 0, none⟩)) (hg : w.heap[g]? = some (.cells cs t fr))
    (hu : P.underlying ty = some d) (hd : (match d with | .struct _ | .array _ _ => true | _ => false) = true) (hi : (P.info? ty).map (·.size) = some cs.size)
    (k : Nat) (u : TypeId) (ds : Array Value) (fs : Nat × Nat) (e : TypeDesc) (hq : tmps.getD q undef = .pointer (some ⟨k, 0, none⟩)) (hk : w.heap[k]? = some (.cells ds u fs))
    (hv : P.underlying tz = some e) (he : (match e with | .struct _ | .array _ _ => true | _ => false) = true) (hj : (P.info? tz).map (·.size) = some ds.size) (z : Value) (hz : tmps.getD r undef = z) :
    (results fn tmps).run P w = .ok (.tuple #[.agg cs, .agg ds, z]) w := by
  have hp' : tmps[p]?.getD undef = .pointer (some ⟨g, 0, none⟩) := by simpa using hp
  have hq' : tmps[q]?.getD undef = .pointer (some ⟨k, 0, none⟩) := by simpa using hq
  have hz' : tmps[r]?.getD undef = z := by simpa using hz
  simp [results, h, hp', hq', hz', asAddr, run_loadVar_row w g t ty cs fr d hg hu hd hi, run_loadVar_row w k u tz ds fs e hk hv he hj]
theorem rstep_load {P : Program} {ops : Array Oper} {o : Oper} {a : Act} {w : World} {K : Act → World → Prop} {Q : Exit → Act → World → Prop} {X : Prop}
    (hgd : o.guard = none) (ty : TypeId) (x : Operand) (ho : o.op = .load ty x)
    (g : Nat) (hx : a.eval x = .pointer (some ⟨g, 0, none⟩)) (t : TypeId) (cs : Array Value) (fr : Nat × Nat) (d : TypeDesc) (hg : w.heap[g]? = some (.cells cs t fr))
    (hu : P.underlying ty = some d) (hd : (match d with | .struct _ | .array _ _ => true | _ => false) = true) (hi : (P.info? ty).map (·.size) = some cs.size)
    (h : K (a.put o.dst (.agg cs)) w) : if Region.wanted o (yielded ops a.tmps) = true then Oper.wp P o a w K Q else X := by
  rw [if_pos (by simp [Region.wanted, hgd])]
  exact wp_load_row ty x ho g hx t cs fr d hg hu hd hi h
theorem rstep_store {P : Program} {ops : Array Oper} {o : Oper} {a : Act} {w : World} {K : Act → World → Prop} {Q : Exit → Act → World → Prop} {X : Prop}
    (hgd : o.guard = none) (ty : TypeId) (x y : Operand) (ho : o.op = .store ty x y)
    (g : Nat) (cells : Array Value) (hx : a.eval x = .pointer (some ⟨g, 0, none⟩)) (hy : a.eval y = .agg cells)
    (t : TypeId) (old : Array Value) (hg : w.heap[g]? = some (.cells old t (0, 0))) (hi : (P.info? ty).map (·.size) = some cells.size)
    (hold : old.size = cells.size) (h1 : cells.all (·.oneCell') = true)
    (h : K (a.put o.dst undef) (w.setRow g cells)) : if Region.wanted o (yielded ops a.tmps) = true then Oper.wp P o a w K Q else X := by
  rw [if_pos (by simp [Region.wanted, hgd])]
  exact wp_store_row ty x y ho g cells hx hy t old hg hi hold h1 h
theorem rstep_set {P : Program} {ops : Array Oper} {o : Oper} {a : Act} {w : World} {K : Act → World → Prop} {Q : Exit → Act → World → Prop} {X : Prop}
    (hgd : o.guard = none) (v : Value) (ho : o.op = .assign (.const v)) (h : K (a.put o.dst v) w) : if Region.wanted o (yielded ops a.tmps) = true then Oper.wp P o a w K Q else X := by
  rw [if_pos (by simp [Region.wanted, hgd])]
  unfold Oper.wp execOp
  simp only [ho]
  exact h
theorem boolZ_size : boolZ.size = 32 := by unfold boolZ; simp
theorem strZ_size : strZ.size = 32 := by unfold strZ; simp
theorem infoBs (c : Array Value) (h : c.size = 32) : (Try.prog.info? 66).map (·.size) = some c.size := by rw [h]; exact (zero_of_info infoB).2
theorem infoTs (c : Array Value) (h : c.size = 32) : (Try.prog.info? 67).map (·.size) = some c.size := by rw [h]; exact (zero_of_info infoT).2
theorem boolZ_all : boolZ.all (·.oneCell') = true := by decide +kernel
theorem strZ_all : strZ.all (·.oneCell') = true := by decide +kernel
theorem bA_all (p) : (bA p).all (·.oneCell') = true := by
  rw [Array.all_eq_true]
  intro i hi
  simp [bA, Value.oneCell']
theorem sA_all (T) : (sA T).all (·.oneCell') = true := by
  rw [Array.all_eq_true]
  intro i hi
  simp [sA, Value.oneCell']
theorem below_setRow {B : Nat} {a w : World} (h : Below B a w) {g : Nat} (hg : B ≤ g) (cs : Array Value) : Below B a (w.setRow g cs) :=
  ⟨h.os, h.tape, h.output, by rw [setRow_size]; exact h.size, fun k hk => (setRow_other w g k cs (by omega)).trans (h.block k hk)⟩
/-- both results are written -/
structure Outs (w wr : World) (b s : Array Value) : Prop where
  k5 : (wr.setRow w.heap.size b).heap[w.heap.size + 1]? = some (.cells strZ 67 (0, 0))
  r4 : ((wr.setRow w.heap.size b).setRow (w.heap.size + 1) s).heap[w.heap.size]? = some (.cells b 66 (0, 0))
  r5 : ((wr.setRow w.heap.size b).setRow (w.heap.size + 1) s).heap[w.heap.size + 1]? = some (.cells s 67 (0, 0))
  below : Below w.heap.size w ((wr.setRow w.heap.size b).setRow (w.heap.size + 1) s)
theorem ByN.outs {w wr : World} {I S i} (h : ByN w I S i wr) (b s : Array Value) : Outs w wr b s := by
  have k5 := (setRow_other wr w.heap.size (w.heap.size + 1) b (by omega)).trans h.r5
  exact ⟨k5, (setRow_other (wr.setRow w.heap.size b) (w.heap.size + 1) w.heap.size s (by omega)).trans (setRow_heap wr w.heap.size boolZ b _ _ h.r4),
    setRow_heap (wr.setRow w.heap.size b) (w.heap.size + 1) strZ s _ _ k5, below_setRow (below_setRow h.below (Nat.le_refl _) b) (Nat.le_succ _) s⟩

set_option maxRecDepth 100000 in
set_option maxHeartbeats 3200000 in
theorem byNumber_any {w : World} {n len cap : Nat} {A : Option Addr} {I : Nat → Int} {S : Nat → ByteArray} (hn : n ≤ 32) (hl : len ≤ 9223372036854775807) (h : Pc w w.heap.size A len I S) :
    Calls Try.prog 40 #[.int .i64 (n : Int), .slice A len cap] w (NumRet w n len I S) := by
  have hzB := (zero_of_info infoB).1
  have hzT := (zero_of_info infoT).1
  have H := Lib.hid h
  clear h
  go_enter Try.func40, Try.ntmps40
  go_wp2
  clear hzB hzT
  go_loopg [13] len (fun gh v wr => ∃ i, i ≤ len ∧ gh = len - i ∧ v = .int .i64 (i : Nat) ∧ Good I n i ∧ ByN w I S i wr)
  case atStart => exact ⟨0, Nat.zero_le _, rfl, rfl, fun j hj => absurd hj (by omega), ByN.start w I S⟩
  case round =>
    obtain ⟨i, hi, rfl, rfl, hG, hB⟩ := hrel
    by_cases hil : i < len
    · have hiz : (i : Int) < (len : Int) := by omega
      obtain ⟨ad, rfl, hb, hc⟩ := H.out (by omega)
      obtain ⟨k0, k1⟩ := hc i hil
      rw [← hB.below.cell (by rw [block_of_add]; exact hb)] at k0 k1
      have k2 : wr.cell? ⟨(ad.add (i * 2)).block, (ad.add (i * 2)).off + 1, none⟩ = some (.string (S i)) := by rw [← add_pos _ _ (by omega), add_add]; exact k1
      have HB := Lib.hid hB
      have HG := Lib.hid hG
      clear hc hB hG k1
      by_cases a1 : I i < 0
      · have g1 : decide (I i < 0) = true := decide_eq_true a1
        have HG2 : Hid (¬ Good I n len) := Lib.hid (fun h => by have := (h i hil).1; omega)
        clear a1
        go_upto_region 7 with fail
        have HB2 := Lib.hid (HB.out.alloc (.cells #[.int .i64 (I i), .string (S i)] 41))
        generalize wr.alloc (.cells #[.int .i64 (I i), .string (S i)] 41) = wb at *
        have HO := Lib.hid (HB2.out.outs boolZ strZ)
        go_wp2_with (first | refine wpList_store_row rfl 66 (.tmp 4) (.tmp 32) rfl w.heap.size boolZ rfl rfl 66 boolZ HB2.out.r4 (infoBs _ boolZ_size) rfl boolZ_all ?_ | refine wpList_store_row rfl 67 (.tmp 5) (.tmp 33) rfl (w.heap.size + 1) strZ rfl rfl 67 strZ HO.out.k5 (infoTs _ strZ_size) rfl strZ_all ?_)
        refine bodyPost_ret (v := .tuple #[.agg boolZ, .agg strZ, .int .i64 1]) (results_cell_row2t rfl _ _ w.heap.size _ boolZ _ _ rfl HO.out.r4 Try.underlying66 rfl (infoBs _ boolZ_size) (w.heap.size + 1) _ strZ _ _ rfl HO.out.r5 Try.underlying67 rfl (infoTs _ strZ_size) _ rfl) rfl ?_
        exact ⟨.inr ⟨HG2.out, rfl⟩, HO.out.below⟩
      · have g1 : decide (I i < 0) = false := decide_eq_false a1
        by_cases a2 : (n : Int) ≤ I i
        · have g2 : decide ((n : Int) ≤ I i) = true := decide_eq_true a2
          have HG2 : Hid (¬ Good I n len) := Lib.hid (fun h => by have := (h i hil).1; omega)
          clear a1 a2
          go_upto_region 7 with fail
          have HB2 := Lib.hid (HB.out.alloc (.cells #[.int .i64 (I i), .string (S i)] 41))
          generalize wr.alloc (.cells #[.int .i64 (I i), .string (S i)] 41) = wb at *
          have HO := Lib.hid (HB2.out.outs boolZ strZ)
          go_wp2_with (first | refine wpList_store_row rfl 66 (.tmp 4) (.tmp 32) rfl w.heap.size boolZ rfl rfl 66 boolZ HB2.out.r4 (infoBs _ boolZ_size) rfl boolZ_all ?_ | refine wpList_store_row rfl 67 (.tmp 5) (.tmp 33) rfl (w.heap.size + 1) strZ rfl rfl 67 strZ HO.out.k5 (infoTs _ strZ_size) rfl strZ_all ?_)
          refine bodyPost_ret (v := .tuple #[.agg boolZ, .agg strZ, .int .i64 1]) (results_cell_row2t rfl _ _ w.heap.size _ boolZ _ _ rfl HO.out.r4 Try.underlying66 rfl (infoBs _ boolZ_size) (w.heap.size + 1) _ strZ _ _ rfl HO.out.r5 Try.underlying67 rfl (infoTs _ strZ_size) _ rfl) rfl ?_
          exact ⟨.inr ⟨HG2.out, rfl⟩, HO.out.below⟩
        · have g2 : decide ((n : Int) ≤ I i) = false := decide_eq_false a2
          obtain ⟨r, hr⟩ : ∃ r : Nat, I i = (r : Int) := ⟨(I i).toNat, by omega⟩
          have hrn : r < n := by omega
          have hr32 : (r : Int) < 32 := by omega
          rw [hr] at g1 g2 k0
          have q1 : ∀ o, (wr.alloc o).cell? ⟨w.heap.size + 1 + 1, r, none⟩ = some (.bool (num I i r)) := fun o =>
            (cell_of_row _ _ r _ _ _ (HB.out.alloc o).th).trans (bA_get (by omega))
          cases hnum : num I i r
          · rw [hnum] at q1
            have HR := Lib.hid hr
            have HN := Lib.hid hnum
            clear a1 a2 hr hnum
            go_upto_region 8 with fail
            have hB2 := HB.out.alloc (.cells #[.int .i64 (r : Int), .string (S i)] 41)
            have hnew := has_new (n := 2) (f := fun j => if j = 0 then .int .i64 (r : Int) else .string (S i)) wr #[.int .i64 (r : Int), .string (S i)] 41 (fun j hj => by
              have : j = 0 ∨ j = 1 := by omega
              rcases this with rfl | rfl <;> rfl)
            clear q1 k0 k2
            generalize wr.alloc (.cells #[.int .i64 (r : Int), .string (S i)] 41) = wb at *
            have hz : w.heap.size + 3 < wr.heap.size := heap_lt HB.out.by_
            generalize wr.heap.size = z at *
            have n1 : w.heap.size + 1 + 1 ≠ z := by omega
            have n2 : w.heap.size + 1 + 1 + 1 ≠ z := by omega
            have n3 : w.heap.size + 1 + 1 ≠ w.heap.size + 1 + 1 + 1 := by omega
            have pA : wb.cell? ⟨z, 0, none⟩ = some (.int .i64 (r : Int)) := hnew.cell (i := 0) (by omega)
            have pB : wb.cell? ⟨z, 1, none⟩ = some (.string (S i)) := hnew.cell (i := 1) (by omega)
            have tC : wb.cell? ⟨w.heap.size + 1 + 1, r, none⟩ = some (.bool (num I i r)) := (cell_of_row _ _ r _ _ _ hB2.th).trans (bA_get (by omega))
            have tF : wb.frozen? ⟨w.heap.size + 1 + 1, r, none⟩ = false := frozen_row hB2.th
            have bC : wb.cell? ⟨w.heap.size + 1 + 1 + 1, r, none⟩ = some (.string (txt I S i r)) := (cell_of_row _ _ r _ _ _ hB2.by_).trans (sA_get (by omega))
            have bF : wb.frozen? ⟨w.heap.size + 1 + 1 + 1, r, none⟩ = false := frozen_row hB2.by_
            have hth : ∀ v, ((wb.drew).setCell ⟨w.heap.size + 1 + 1, r, none⟩ v).heap[w.heap.size + 1 + 1 + 1]? = some (.cells (sA (txt I S i)) 67 (0, 0)) := fun v => (Below.heap_setCell _ _ _ _ (fun e => n3 e.symm)).trans hB2.by_
            have pA2 : ∀ v, ((wb.drew).setCell ⟨w.heap.size + 1 + 1, r, none⟩ v).cell? ⟨z, 0, none⟩ = some (.int .i64 (r : Int)) := fun v => (World.cell?_setCell_other _ _ _ _ (fun e => by injection e; omega)).trans pA
            have pB2 : ∀ v, ((wb.drew).setCell ⟨w.heap.size + 1 + 1, r, none⟩ v).cell? ⟨z, 1, none⟩ = some (.string (S i)) := fun v => (World.cell?_setCell_other _ _ _ _ (fun e => by injection e; omega)).trans pB
            have bC2 : ∀ v, ((wb.drew).setCell ⟨w.heap.size + 1 + 1, r, none⟩ v).cell? ⟨w.heap.size + 1 + 1 + 1, r, none⟩ = some (.string (txt I S i r)) := fun v => (cell_of_row _ _ r _ _ _ (hth v)).trans (sA_get (by omega))
            have bF2 : ∀ v, ((wb.drew).setCell ⟨w.heap.size + 1 + 1, r, none⟩ v).frozen? ⟨w.heap.size + 1 + 1 + 1, r, none⟩ = false := fun v => frozen_row (hth v)
            have HB2 := Lib.hid hB2
            clear hB2 hnew hth
            go_region
            all_goals
              go_wp2
              go_roundg (len - (i + 1))
              case measure => go_light; omega
              case rel =>
                go_light
                refine ⟨i + 1, by omega, rfl, by simp, fun j hj => ?_, HB2.out.drew.next HR.out⟩
                by_cases e : j = i
                · subst e
                  have := HR.out
                  exact ⟨by omega, fun q hq e2 => by
                    have h1 := HN.out
                    rw [num_iff.2 ⟨q, hq, by omega⟩] at h1
                    cases h1⟩
                · exact HG.out j (by omega)
          · rw [hnum] at q1
            have HG2 : Hid (¬ Good I n len) := Lib.hid (fun h => by
              obtain ⟨j, hj, e⟩ := num_iff.1 hnum
              exact (h i hil).2 j hj (by omega))
            clear a1 a2 hr
            go_upto_region 7 with fail
            have HB2 := Lib.hid (HB.out.alloc (.cells #[.int .i64 (r : Int), .string (S i)] 41))
            generalize wr.alloc (.cells #[.int .i64 (r : Int), .string (S i)] 41) = wb at *
            have HO := Lib.hid (HB2.out.outs boolZ strZ)
            go_wp2_with (first | refine wpList_store_row rfl 66 (.tmp 4) (.tmp 32) rfl w.heap.size boolZ rfl rfl 66 boolZ HB2.out.r4 (infoBs _ boolZ_size) rfl boolZ_all ?_ | refine wpList_store_row rfl 67 (.tmp 5) (.tmp 33) rfl (w.heap.size + 1) strZ rfl rfl 67 strZ HO.out.k5 (infoTs _ strZ_size) rfl strZ_all ?_)
            refine bodyPost_ret (v := .tuple #[.agg boolZ, .agg strZ, .int .i64 1]) (results_cell_row2t rfl _ _ w.heap.size _ boolZ _ _ rfl HO.out.r4 Try.underlying66 rfl (infoBs _ boolZ_size) (w.heap.size + 1) _ strZ _ _ rfl HO.out.r5 Try.underlying67 rfl (infoTs _ strZ_size) _ rfl) rfl ?_
            exact ⟨.inr ⟨HG2.out, rfl⟩, HO.out.below⟩
    · have hiz : ¬ (i : Int) < (len : Int) := by omega
      obtain rfl : i = len := by omega
      have HG := Lib.hid hG
      have HB := Lib.hid hB
      clear hG hB
      go_upto_region 10 with fail
      refine wp_region_any (by kernel_rfl) ?_
      change wpAny _ _ _ _ _ _ _ wr.drew
      have hB := HB.out.drew
      generalize wr.drew = wr at *
      have h0 := hB.r4
      have h1 := hB.r5
      have h2 := hB.th
      have h3 := hB.by_
      have ib := infoBs _ (bA_size (num I i))
      have is_ := infoTs _ (sA_size (txt I S i))
      have ab := bA_all (num I i)
      have as_ := sA_all (txt I S i)
      have zb : boolZ.size = (bA (num I i)).size := by rw [bA_size, boolZ_size]
      have zs : strZ.size = (sA (txt I S i)).size := by rw [sA_size, strZ_size]
      generalize hbb : bA (num I i) = bb at *
      generalize hss : sA (txt I S i) = ss at *
      have HBB := Lib.hid hbb
      have HSS := Lib.hid hss
      have ho := hB.outs bb ss
      have k3 := (setRow_other wr w.heap.size (w.heap.size + 3) bb (by omega)).trans h3
      clear hbb hss
      refine wpAny_ready (rs := [0, 1]) (by kernel_rfl) (by simp) (AllReady.cons rfl (fun K hK => ?_) (AllReady.cons rfl (fun K hK => ?_) AllReady.nil))
      · refine rstep_load rfl 66 _ rfl (w.heap.size + 2) rfl _ bb (0, 0) _ h2 Try.underlying66 rfl ib (hK _ _ ?_)
        clear hK K
        refine wpAny_ready (rs := [1, 2]) (by kernel_rfl) (by simp) (AllReady.cons rfl (fun K hK => ?_) (AllReady.cons rfl (fun K hK => ?_) AllReady.nil))
        · refine rstep_load rfl 67 _ rfl (w.heap.size + 3) rfl _ ss (0, 0) _ h3 Try.underlying67 rfl is_ (hK _ _ ?_)
          clear hK K
          refine wpAny_ready (rs := [2]) (by kernel_rfl) (by simp) (AllReady.cons rfl (fun K hK => ?_) AllReady.nil)
          · refine rstep_store rfl 66 _ _ rfl w.heap.size bb rfl rfl _ boolZ h0 ib zb ab (hK _ _ ?_)
            clear hK K
            refine wpAny_ready (rs := [3]) (by kernel_rfl) (by simp) (AllReady.cons rfl (fun K hK => ?_) AllReady.nil)
            · refine rstep_store rfl 67 _ _ rfl (w.heap.size + 1) ss rfl rfl _ strZ ho.k5 is_ zs as_ (hK _ _ ?_)
              clear hK K
              refine wpAny_ready (rs := [4]) (by kernel_rfl) (by simp) (AllReady.cons rfl (fun K hK => ?_) AllReady.nil)
              · refine rstep_set rfl _ rfl (hK _ _ ?_)
                clear hK K
                refine wpAny_done (by kernel_rfl) ?_ _
                go_wp2
                exact bodyPost_ret (v := .tuple #[.agg bb, .agg ss, .int .i64 0]) (results_cell_row2t rfl _ _ w.heap.size _ bb _ _ rfl ho.r4 Try.underlying66 rfl ib (w.heap.size + 1) _ ss _ _ rfl ho.r5 Try.underlying67 rfl is_ _ rfl) rfl ⟨.inl ⟨HG.out, by rw [HBB.out, HSS.out]⟩, ho.below⟩
        · refine rstep_store rfl 66 _ _ rfl w.heap.size bb rfl rfl _ boolZ h0 ib zb ab (hK _ _ ?_)
          clear hK K
          refine wpAny_ready (rs := [1]) (by kernel_rfl) (by simp) (AllReady.cons rfl (fun K hK => ?_) AllReady.nil)
          · refine rstep_load rfl 67 _ rfl (w.heap.size + 3) rfl _ ss (0, 0) _ k3 Try.underlying67 rfl is_ (hK _ _ ?_)
            clear hK K
            refine wpAny_ready (rs := [3]) (by kernel_rfl) (by simp) (AllReady.cons rfl (fun K hK => ?_) AllReady.nil)
            · refine rstep_store rfl 67 _ _ rfl (w.heap.size + 1) ss rfl rfl _ strZ ho.k5 is_ zs as_ (hK _ _ ?_)
              clear hK K
              refine wpAny_ready (rs := [4]) (by kernel_rfl) (by simp) (AllReady.cons rfl (fun K hK => ?_) AllReady.nil)
              · refine rstep_set rfl _ rfl (hK _ _ ?_)
                clear hK K
                refine wpAny_done (by kernel_rfl) ?_ _
                go_wp2
                exact bodyPost_ret (v := .tuple #[.agg bb, .agg ss, .int .i64 0]) (results_cell_row2t rfl _ _ w.heap.size _ bb _ _ rfl ho.r4 Try.underlying66 rfl ib (w.heap.size + 1) _ ss _ _ rfl ho.r5 Try.underlying67 rfl is_ _ rfl) rfl ⟨.inl ⟨HG.out, by rw [HBB.out, HSS.out]⟩, ho.below⟩
      · refine rstep_load rfl 67 _ rfl (w.heap.size + 3) rfl _ ss (0, 0) _ h3 Try.underlying67 rfl is_ (hK _ _ ?_)
        clear hK K
        refine wpAny_ready (rs := [0]) (by kernel_rfl) (by simp) (AllReady.cons rfl (fun K hK => ?_) AllReady.nil)
        · refine rstep_load rfl 66 _ rfl (w.heap.size + 2) rfl _ bb (0, 0) _ h2 Try.underlying66 rfl ib (hK _ _ ?_)
          clear hK K
          refine wpAny_ready (rs := [2]) (by kernel_rfl) (by simp) (AllReady.cons rfl (fun K hK => ?_) AllReady.nil)
          · refine rstep_store rfl 66 _ _ rfl w.heap.size bb rfl rfl _ boolZ h0 ib zb ab (hK _ _ ?_)
            clear hK K
            refine wpAny_ready (rs := [3]) (by kernel_rfl) (by simp) (AllReady.cons rfl (fun K hK => ?_) AllReady.nil)
            · refine rstep_store rfl 67 _ _ rfl (w.heap.size + 1) ss rfl rfl _ strZ ho.k5 is_ zs as_ (hK _ _ ?_)
              clear hK K
              refine wpAny_ready (rs := [4]) (by kernel_rfl) (by simp) (AllReady.cons rfl (fun K hK => ?_) AllReady.nil)
              · refine rstep_set rfl _ rfl (hK _ _ ?_)
                clear hK K
                refine wpAny_done (by kernel_rfl) ?_ _
                go_wp2
                exact bodyPost_ret (v := .tuple #[.agg bb, .agg ss, .int .i64 0]) (results_cell_row2t rfl _ _ w.heap.size _ bb _ _ rfl ho.r4 Try.underlying66 rfl ib (w.heap.size + 1) _ ss _ _ rfl ho.r5 Try.underlying67 rfl is_ _ rfl) rfl ⟨.inl ⟨HG.out, by rw [HBB.out, HSS.out]⟩, ho.below⟩
end Go.Proofs.Ytohbijjkkadbaaa.Mat
