/- How the laws' arguments lie in memory: bools, places, structs of these. -/
import Derived.Test.YthalaihpgjniiaaSitLawC
import Derived.ProofKit
import Derived.OpenShut
import Derived.ChangeOld
import Derived.SizedLaws
import Derived.Carry
import Derived.ChangeSlices
import Derived.Deep.Strs
import Derived.Deep.SlicePairs
import Derived.Lib.SmallJoins
import Derived.ShutString
namespace Go.Proofs.Ythalaihpgjniiaa.Mat
open Go.ChangeShapes Go.WideShapes Go.ChangeAt Go.RowKit Go.Deep Fld
open Go.ChangeMaps (open_string shut_string)

theorem own : ownKnob Try.prog.godebug = none := by kernel_rfl
theorem laidOut : laidOutB Try.prog = true := by kernel_rfl
theorem maxLen_num : maxLen = 9223372036854775807 := rfl
theorem cellsInt : Try.prog.cellsOf 3 = 1 := by kernel_rfl
theorem cellsBool : Try.prog.cellsOf 4 = 1 := by kernel_rfl
theorem cellsBools : Try.prog.cellsOf 22 = 1 := by kernel_rfl
theorem cellsPlaces : Try.prog.cellsOf 29 = 1 := by kernel_rfl
theorem cellsPlace : Try.prog.cellsOf 44 = 2 := by kernel_rfl
theorem bytesBool : Try.prog.bytesOf 4 = 1 := by kernel_rfl
theorem bytesPlace : Try.prog.bytesOf 44 = 16 := by kernel_rfl
theorem weight_all {H : Type} {P : Program} {e : TypeId} : ∀ {l : List (DataW H)} {d : DataW H}, d ∈ l → ∀ n ∈ d.weights P e, n ∈ DataW.weightsAll P e l
  | x :: l, d, hd, n, hn => by
    simp only [DataW.weightsAll, List.mem_append]
    rcases List.mem_cons.1 hd with rfl | h
    · exact .inl hn
    · exact .inr (weight_all h n hn)
theorem weight_slice {H : Type} {P : Program} {t e : TypeId} (ht : P.underlying t = some (.slice e)) {l sp : List (DataW H)} {d : DataW H} (hd : d ∈ l) : ∀ n ∈ d.weights P e, n ∈ (DataW.slice l sp).weights P t := fun n hn => by
  simp only [DataW.weights, ht]
  exact List.mem_cons_of_mem _ (List.mem_append_left _ (weight_all hd n hn))
/-- no more than reaches -/
def Wt {H : Type} (P : Program) (t : TypeId) (d : DataW H) : Prop := ∀ n ∈ d.weights P t, n ≤ reachBytes
theorem wt_arg {H : Type} {P : Program} {ts : List TypeId} {ds : List (DataW H)} (h : (DataW.weightsEach P ts ds).all (· ≤ reachBytes) = true) {j : Nat} {t : TypeId} {d : DataW H} (ht : ts[j]? = some t) (hd : ds[j]? = some d) : Wt P t d := fun n hn =>
  by simpa using List.all_eq_true.1 h n (DataW.weights_mem_each ht hd n hn)
theorem wt_elem {H : Type} {P : Program} {t e : TypeId} (ht : P.underlying t = some (.slice e)) {l sp : List (DataW H)} (h : Wt P t (DataW.slice l sp)) {d : DataW H} (hd : d ∈ l) : Wt P e d := fun n hn => h n (weight_slice ht hd n hn)
theorem wt_str {H : Type} {P : Program} {t : TypeId} {s : ByteArray} (h : Wt P t (DataW.lit (.string s.data.toList) : DataW H)) : s.size ≤ 140737488351232 := by
  have := h s.data.toList.length (by simp [DataW.weights])
  simpa [reachBytes] using this
theorem wt_field {H : Type} {P : Program} {t : TypeId} {fs : Array Field} (ht : P.underlying t = some (.struct fs)) {ds : List (DataW H)} (h : Wt P t (.agg ds)) {j : Nat} {f : Field} {d : DataW H} (hf : fs[j]? = some f) (hd : ds[j]? = some d) : Wt P f.type d := fun n hn =>
  h n (by
    simp only [DataW.weights, ht]
    exact DataW.weights_mem_each (j := j) (by simp [hf]) hd n hn)
/-- how many elements: as many as reach -/
theorem wt_count {H : Type} {P : Program} {t e : TypeId} (ht : P.underlying t = some (.slice e)) {l sp : List (DataW H)} (h : Wt P t (DataW.slice l sp)) : (l.length + sp.length) * P.bytesOf e ≤ 140737488351232 := by
  have := h ((l.length + sp.length) * P.bytesOf e) (by simp [DataW.weights, ht])
  simpa [reachBytes] using this

section
variable {H : Type} {enc : TypeId × Value → H} {W : World} {v : Value} {fuel : Nat} {x : DataW H × List MemPlace}
theorem core_i64 {c : Value} (h : DataW.trod enc Try.prog W 0 (fun _ => true) true fuel 3 [c] = some x) : ∃ a : Int, c = .int .i64 a ∧ -9223372036854775808 ≤ a ∧ a ≤ 9223372036854775807 := by
  obtain ⟨a, e, _, w⟩ := DataW.trod_int Try.underlying3 h
  simp at e
  exact ⟨a, e, bounds_i64 w⟩
theorem core_bools (h : DataW.trod enc Try.prog W 0 (fun _ => true) true fuel 22 [v] = some x) (hw : Wt Try.prog 22 x.1) :
    ∃ A N cap f, v = .slice A N cap ∧ N ≤ 140737488355328 ∧ Fit A N cap ∧ Bl W W.heap.size A N f := by
  rcases open_slice Try.underlying22 h with ⟨hcs, _⟩ | ⟨a, len, cap, m, n, D, Pl, hcs, _, hl, hm, hmm, rfl, hx⟩
  · simp at hcs
    subst hcs
    exact ⟨none, 0, 0, fun _ => false, rfl, by omega, ⟨Nat.le_refl _, fun _ => rfl⟩, fun h => absurd h (by omega)⟩
  · simp at hcs
    subst hcs
    simp only [if_true] at hmm
    subst hmm
    have hct := wt_count Try.underlying22 hw
    rw [bytesBool, List.length_map, List.length_map, List.length_range, List.length_range] at hct
    have each : ∀ r, r < len → ∃ q : Bool, W.cell? (a.add r) = some (.bool q) := fun r hr => by
      obtain ⟨cs', h1, h2⟩ := hx r (by omega)
      rw [cellsBool, Nat.mul_one] at h1
      obtain ⟨_, hlen, hcell⟩ := World.cells?_some h1
      match cs', hlen with
      | [v0], _ =>
        obtain ⟨o, e, _⟩ := DataW.trod_bool Try.underlying4 h2
        simp at e
        subst e
        have e0 := hcell 0 (by omega)
        rw [add_zero] at e0
        exact ⟨o, by simpa using e0⟩
    obtain ⟨Q, hQ⟩ := choose_lt each
    refine ⟨some a, len, m, Q, rfl, by omega, ⟨hl, fun e => by cases e⟩, fun hn => ⟨a, rfl, ?_, hQ⟩⟩
    have := World.block_lt_of_cell? W _ (hQ 0 (by omega))
    rwa [block_of_add] at this
theorem core_place {c0 c1 : Value} (h : DataW.trod enc Try.prog W 0 (fun _ => true) true fuel 44 [c0, c1] = some x) : ∃ a b : Int, c0 = .int .i64 a ∧ c1 = .int .i64 b ∧ I64 a ∧ I64 b := by
  obtain ⟨xs, n, _, hx, hl, hlen, hf⟩ := DataW.trod_struct Try.underlying44 h
  match xs, hlen with
  | [y0, y1], _ =>
    have g0 := hf 0 _ rfl
    have g1 := hf 1 _ rfl
    simp [cellsInt] at g0 g1
    obtain ⟨a, rfl, a0, a1⟩ := core_i64 g0
    obtain ⟨b, rfl, b0, b1⟩ := core_i64 g1
    exact ⟨a, b, rfl, rfl, ⟨a0, a1⟩, ⟨b0, b1⟩⟩
theorem core_places (h : DataW.trod enc Try.prog W 0 (fun _ => true) true fuel 29 [v] = some x) (hw : Wt Try.prog 29 x.1) :
    ∃ A l cap, v = .slice A (List.length l) cap ∧ l.length * 16 ≤ 140737488355328 ∧ (∀ r, r < l.length → I64 (pq l r).1 ∧ I64 (pq l r).2) ∧ Fit A l.length cap ∧ Pl W W.heap.size A l := by
  rcases open_slice Try.underlying29 h with ⟨hcs, _⟩ | ⟨a, len, cap, m, n, D, Pl, hcs, _, hl, hm, hmm, rfl, hx⟩
  · simp at hcs
    subst hcs
    exact ⟨none, [], 0, rfl, by decide, fun r hr => absurd hr (Nat.not_lt_zero _), ⟨Nat.le_refl _, fun _ => rfl⟩, fun h => absurd h (Nat.lt_irrefl _)⟩
  · simp at hcs
    subst hcs
    simp only [if_true] at hmm
    subst hmm
    have hct := wt_count Try.underlying29 hw
    rw [bytesPlace, List.length_map, List.length_map, List.length_range, List.length_range] at hct
    have each : ∀ r, r < len → ∃ q : Int × Int, W.cell? (a.add (r * 2)) = some (.int .i64 q.1) ∧ W.cell? (a.add (r * 2 + 1)) = some (.int .i64 q.2) ∧ I64 q.1 ∧ I64 q.2 := fun r hr => by
      obtain ⟨cs', h1, h2⟩ := hx r (by omega)
      rw [cellsPlace] at h1
      obtain ⟨_, hlen, hcell⟩ := World.cells?_some h1
      match cs', hlen with
      | [v0, v1], _ =>
        obtain ⟨p, q, rfl, rfl, i0, i1⟩ := core_place h2
        have e0 := hcell 0 (by omega)
        have e1 := hcell 1 (by omega)
        rw [add_add] at e0 e1
        exact ⟨(p, q), by simpa using e0, by simpa using e1, i0, i1⟩
    obtain ⟨Q, hQ⟩ := choose_lt each
    have hlen : ((List.range len).map Q).length = len := by rw [List.length_map, List.length_range]
    have hpq : ∀ r, r < len → pq ((List.range len).map Q) r = Q r := fun r hr => by unfold pq; simp [hr]
    refine ⟨some a, (List.range len).map Q, m, by rw [hlen], by rw [hlen]; omega, fun r hr => ?_, by rw [hlen]; exact ⟨hl, fun e => by cases e⟩, fun hn => ⟨a, rfl, ?_, fun r hr => ?_⟩⟩
    · rw [hlen] at hr
      rw [hpq r hr]; exact ⟨(hQ r hr).2.2.1, (hQ r hr).2.2.2⟩
    · rw [hlen] at hn
      have := World.block_lt_of_cell? W _ (hQ 0 hn).1
      rwa [block_of_add] at this
    · rw [hlen] at hr
      rw [hpq r hr]; exact ⟨(hQ r hr).1, (hQ r hr).2.1⟩
end
section
variable {H : Type} {enc : TypeId × Value → H} {W : World} {v : Value} {y : DataW H} {p : List MemPlace} {r : Reach} {b0 : Nat}
theorem openBools (hv : Value.okWide Try.prog W r b0 22 v) (h : DataW.Trod enc Try.prog W 0 (fun _ => true) true 22 v y p) (hw : Wt Try.prog 22 y) : ∃ A N cap f, v = .slice A N cap ∧ N ≤ 140737488355328 ∧ Fit A N cap ∧ Bl W W.heap.size A N f := by
  obtain ⟨a0, len, cap, rfl⟩ := okWide_slice Try.underlying22 hv
  obtain ⟨fuel, hf⟩ := h
  exact core_bools (v := .slice a0 len cap) hf hw
theorem openPlaces (hv : Value.okWide Try.prog W r b0 29 v) (h : DataW.Trod enc Try.prog W 0 (fun _ => true) true 29 v y p) (hw : Wt Try.prog 29 y) :
    ∃ A l cap, v = .slice A (List.length l) cap ∧ l.length * 16 ≤ 140737488355328 ∧ (∀ r, r < l.length → I64 (pq l r).1 ∧ I64 (pq l r).2) ∧ Fit A l.length cap ∧ Pl W W.heap.size A l := by
  obtain ⟨a0, len, cap, rfl⟩ := okWide_slice Try.underlying29 hv
  obtain ⟨fuel, hf⟩ := h
  exact core_places (v := .slice a0 len cap) hf hw
set_option maxRecDepth 100000 in
theorem openRings (hv : Value.okWide Try.prog W r b0 24 v) (h : DataW.Trod enc Try.prog W 0 (fun _ => true) true 24 v y p) (hw : Wt Try.prog 24 y) :
    ∃ (a0 : Int) (a1 : Int) (a2 : Int) (a3 : Int) (A4 : Option Addr) (N4 : Nat) (k4 : Nat) (f4 : Nat → Bool), v = .agg #[.int .i64 a0, .int .i64 a1, .int .i64 a2, .int .i64 a3, .slice A4 N4 k4] ∧ I64 a0 ∧ I64 a1 ∧ I64 a2 ∧ I64 a3 ∧ N4 ≤ 140737488355328 ∧ Fit A4 N4 k4 ∧ Bl W W.heap.size A4 N4 f4 := by
  obtain ⟨cs, rfl, hsz⟩ := okWide_struct Try.underlying24 hv
  have hsz := hsz.trans (show Try.prog.cellsOf 24 = 5 by kernel_rfl)
  obtain ⟨l⟩ := cs
  match l, hsz with
  | [c0, c1, c2, c3, c4], _ =>
    obtain ⟨fuel, hf⟩ := h
    obtain ⟨xs, n, _, hx, hl, hlen, hf⟩ := DataW.trod_struct Try.underlying24 hf
    match xs, hlen with
    | [y0, y1, y2, y3, y4], _ =>
      simp only [Prod.mk.injEq] at hx
      have hx1 : y = .agg [y0.1, y1.1, y2.1, y3.1, y4.1] := by rw [hx.1]; rfl
      rw [hx1] at hw
      have g0 := hf 0 _ rfl
      have g1 := hf 1 _ rfl
      have g2 := hf 2 _ rfl
      have g3 := hf 3 _ rfl
      have g4 := hf 4 _ rfl
      simp [cellsInt, cellsBools, Value.cells] at g0 g1 g2 g3 g4
      obtain ⟨a0, rfl, lo0, hi0⟩ := core_i64 g0
      obtain ⟨a1, rfl, lo1, hi1⟩ := core_i64 g1
      obtain ⟨a2, rfl, lo2, hi2⟩ := core_i64 g2
      obtain ⟨a3, rfl, lo3, hi3⟩ := core_i64 g3
      obtain ⟨A4, N4, k4, f4, rfl, n4, t4, b4⟩ := core_bools g4 (wt_field Try.underlying24 hw (j := 4) rfl rfl)
      exact ⟨a0, a1, a2, a3, A4, N4, k4, f4, rfl, ⟨lo0, hi0⟩, ⟨lo1, hi1⟩, ⟨lo2, hi2⟩, ⟨lo3, hi3⟩, n4, t4, b4⟩
set_option maxRecDepth 100000 in
theorem openApart (hv : Value.okWide Try.prog W r b0 50 v) (h : DataW.Trod enc Try.prog W 0 (fun _ => true) true 50 v y p) (hw : Wt Try.prog 50 y) :
    ∃ (a0 : Int) (a1 : Int) (a2 : Int) (a3 : Int) (A4 : Option Addr) (N4 : Nat) (k4 : Nat) (f4 : Nat → Bool), v = .agg #[.int .i64 a0, .int .i64 a1, .int .i64 a2, .int .i64 a3, .slice A4 N4 k4] ∧ I64 a0 ∧ I64 a1 ∧ I64 a2 ∧ I64 a3 ∧ N4 ≤ 140737488355328 ∧ Fit A4 N4 k4 ∧ Bl W W.heap.size A4 N4 f4 := by
  obtain ⟨cs, rfl, hsz⟩ := okWide_struct Try.underlying50 hv
  have hsz := hsz.trans (show Try.prog.cellsOf 50 = 5 by kernel_rfl)
  obtain ⟨l⟩ := cs
  match l, hsz with
  | [c0, c1, c2, c3, c4], _ =>
    obtain ⟨fuel, hf⟩ := h
    obtain ⟨xs, n, _, hx, hl, hlen, hf⟩ := DataW.trod_struct Try.underlying50 hf
    match xs, hlen with
    | [y0, y1, y2, y3, y4], _ =>
      simp only [Prod.mk.injEq] at hx
      have hx1 : y = .agg [y0.1, y1.1, y2.1, y3.1, y4.1] := by rw [hx.1]; rfl
      rw [hx1] at hw
      have g0 := hf 0 _ rfl
      have g1 := hf 1 _ rfl
      have g2 := hf 2 _ rfl
      have g3 := hf 3 _ rfl
      have g4 := hf 4 _ rfl
      simp [cellsInt, cellsBools, Value.cells] at g0 g1 g2 g3 g4
      obtain ⟨a0, rfl, lo0, hi0⟩ := core_i64 g0
      obtain ⟨a1, rfl, lo1, hi1⟩ := core_i64 g1
      obtain ⟨a2, rfl, lo2, hi2⟩ := core_i64 g2
      obtain ⟨a3, rfl, lo3, hi3⟩ := core_i64 g3
      obtain ⟨A4, N4, k4, f4, rfl, n4, t4, b4⟩ := core_bools g4 (wt_field Try.underlying50 hw (j := 4) rfl rfl)
      exact ⟨a0, a1, a2, a3, A4, N4, k4, f4, rfl, ⟨lo0, hi0⟩, ⟨lo1, hi1⟩, ⟨lo2, hi2⟩, ⟨lo3, hi3⟩, n4, t4, b4⟩
set_option maxRecDepth 100000 in
theorem openNexts (hv : Value.okWide Try.prog W r b0 38 v) (h : DataW.Trod enc Try.prog W 0 (fun _ => true) true 38 v y p) (hw : Wt Try.prog 38 y) :
    ∃ (a0 : Int) (a1 : Int) (A2 : Option Addr) (l2 : List (Int × Int)) (k2 : Nat) (a3 : Int) (A4 : Option Addr) (N4 : Nat) (k4 : Nat) (f4 : Nat → Bool), v = .agg #[.int .i64 a0, .int .i64 a1, .slice A2 l2.length k2, .int .i64 a3, .slice A4 N4 k4] ∧ I64 a0 ∧ I64 a1 ∧ l2.length * 16 ≤ 140737488355328 ∧ (∀ r, r < l2.length → I64 (pq l2 r).1 ∧ I64 (pq l2 r).2) ∧ Fit A2 l2.length k2 ∧ Pl W W.heap.size A2 l2 ∧ I64 a3 ∧ N4 ≤ 140737488355328 ∧ Fit A4 N4 k4 ∧ Bl W W.heap.size A4 N4 f4 := by
  obtain ⟨cs, rfl, hsz⟩ := okWide_struct Try.underlying38 hv
  have hsz := hsz.trans (show Try.prog.cellsOf 38 = 5 by kernel_rfl)
  obtain ⟨l⟩ := cs
  match l, hsz with
  | [c0, c1, c2, c3, c4], _ =>
    obtain ⟨fuel, hf⟩ := h
    obtain ⟨xs, n, _, hx, hl, hlen, hf⟩ := DataW.trod_struct Try.underlying38 hf
    match xs, hlen with
    | [y0, y1, y2, y3, y4], _ =>
      simp only [Prod.mk.injEq] at hx
      have hx1 : y = .agg [y0.1, y1.1, y2.1, y3.1, y4.1] := by rw [hx.1]; rfl
      rw [hx1] at hw
      have g0 := hf 0 _ rfl
      have g1 := hf 1 _ rfl
      have g2 := hf 2 _ rfl
      have g3 := hf 3 _ rfl
      have g4 := hf 4 _ rfl
      simp [cellsInt, cellsBools, cellsPlaces, Value.cells] at g0 g1 g2 g3 g4
      obtain ⟨a0, rfl, lo0, hi0⟩ := core_i64 g0
      obtain ⟨a1, rfl, lo1, hi1⟩ := core_i64 g1
      obtain ⟨A2, l2, k2, rfl, n2, i2, t2, b2⟩ := core_places g2 (wt_field Try.underlying38 hw (j := 2) rfl rfl)
      obtain ⟨a3, rfl, lo3, hi3⟩ := core_i64 g3
      obtain ⟨A4, N4, k4, f4, rfl, n4, t4, b4⟩ := core_bools g4 (wt_field Try.underlying38 hw (j := 4) rfl rfl)
      exact ⟨a0, a1, A2, l2, k2, a3, A4, N4, k4, f4, rfl, ⟨lo0, hi0⟩, ⟨lo1, hi1⟩, n2, i2, t2, b2, ⟨lo3, hi3⟩, n4, t4, b4⟩
end
end Go.Proofs.Ythalaihpgjniiaa.Mat
