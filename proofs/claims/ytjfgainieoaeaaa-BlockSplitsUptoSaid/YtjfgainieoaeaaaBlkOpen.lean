/- How texts and parts among the laws' arguments lie in memory. -/
import Derived.Test.YtjfgainieoaeaaaBlkTC
import Derived.ProofKit
import Derived.OpenShut
import Derived.ChangeOld
import Derived.SizedLaws
import Derived.Carry
import Derived.ChangeSlices
import Derived.Deep.Strs
import Derived.Deep.SlicePairs
import Derived.Lib.SmallJoins
import Derived.ShutString
namespace Go.Proofs.Ytjfgainieoaeaaa.Mat
open Go.ChangeShapes Go.WideShapes Go.ChangeAt Go.RowKit Go.Deep Fld
open Go.ChangeMaps (open_string shut_string)

theorem own : ownKnob Try.prog.godebug = none := by kernel_rfl
theorem laidOut : laidOutB Try.prog = true := by kernel_rfl
theorem cellsInt : Try.prog.cellsOf 3 = 1 := by kernel_rfl
theorem maxLen_num : maxLen = 9223372036854775807 := rfl
theorem cellsStr : Try.prog.cellsOf 9 = 1 := by kernel_rfl
theorem cellsPart : Try.prog.cellsOf 51 = 2 := by kernel_rfl
theorem weight_all {H : Type} {P : Program} {e : TypeId} : ∀ {l : List (DataW H)} {d : DataW H}, d ∈ l → ∀ n ∈ d.weights P e, n ∈ DataW.weightsAll P e l
  | x :: l, d, hd, n, hn => by
    simp only [DataW.weightsAll, List.mem_append]
    rcases List.mem_cons.1 hd with rfl | h
    · exact .inl hn
    · exact .inr (weight_all h n hn)
theorem weight_slice {H : Type} {P : Program} {t e : TypeId} (ht : P.underlying t = some (.slice e)) {l sp : List (DataW H)} {d : DataW H} (hd : d ∈ l) : ∀ n ∈ d.weights P e, n ∈ (DataW.slice l sp).weights P t := fun n hn => by
  simp only [DataW.weights, ht]
  exact List.mem_cons_of_mem _ (List.mem_append_left _ (weight_all hd n hn))
/-- no more than reaches -/
def Wt {H : Type} (P : Program) (t : TypeId) (d : DataW H) : Prop := ∀ n ∈ d.weights P t, n ≤ reachBytes
theorem wt_arg {H : Type} {P : Program} {ts : List TypeId} {ds : List (DataW H)} (h : (DataW.weightsEach P ts ds).all (· ≤ reachBytes) = true) {j : Nat} {t : TypeId} {d : DataW H} (ht : ts[j]? = some t) (hd : ds[j]? = some d) : Wt P t d := fun n hn =>
  by simpa using List.all_eq_true.1 h n (DataW.weights_mem_each ht hd n hn)
theorem wt_elem {H : Type} {P : Program} {t e : TypeId} (ht : P.underlying t = some (.slice e)) {l sp : List (DataW H)} (h : Wt P t (DataW.slice l sp)) {d : DataW H} (hd : d ∈ l) : Wt P e d := fun n hn => h n (weight_slice ht hd n hn)
theorem wt_str {H : Type} {P : Program} {t : TypeId} {s : ByteArray} (h : Wt P t (DataW.lit (.string s.data.toList) : DataW H)) : s.size ≤ 140737488351232 := by
  have := h s.data.toList.length (by simp [DataW.weights])
  simpa [reachBytes] using this
theorem wt_field {H : Type} {P : Program} {t : TypeId} {fs : Array Field} (ht : P.underlying t = some (.struct fs)) {ds : List (DataW H)} (h : Wt P t (.agg ds)) {j : Nat} {f : Field} {d : DataW H} (hf : fs[j]? = some f) (hd : ds[j]? = some d) : Wt P f.type d := fun n hn =>
  h n (by
    simp only [DataW.weights, ht]
    exact DataW.weights_mem_each (j := j) (by simp [hf]) hd n hn)

/-- the facts of a row of texts -/
def StOk (n cap : Nat) (S : Nat → ByteArray) : Prop := n ≤ cap ∧ n ≤ 9223372036854775807 ∧ ∀ i, i < n → (S i).size ≤ 140737488351232

section
variable {H : Type} {enc : TypeId × Value → H} {W : World} {base : Nat} {v : Value} {d : DataW H} {p : List MemPlace} {fuel : Nat} {x : DataW H × List MemPlace}
theorem core_strs (h : DataW.trod enc Try.prog W 0 (fun _ => true) true fuel 22 [v] = some x) (hw : Wt Try.prog 22 x.1) :
    ∃ A n cap S, v = .slice A n cap ∧ StOk n cap S ∧ St W W.heap.size A n S := by
  rcases open_strs Try.underlying22 Try.underlying9 cellsStr h with ⟨hcs, _⟩ | ⟨a, len, cap, m, Sx, hcs, _, hl, hm, hmm, rfl, hc⟩
  · simp at hcs
    subst hcs
    exact ⟨none, 0, 0, fun _ => ByteArray.empty, rfl, ⟨by omega, by omega, fun i hi => absurd hi (by omega)⟩, fun h => absurd h (by omega)⟩
  · simp at hcs
    subst hcs
    simp only [if_true] at hmm
    subst hmm
    refine ⟨some a, len, m, Sx, rfl, ⟨hl, by rw [maxLen_num] at hm; omega, fun i hi => ?_⟩, fun hn => ⟨a, rfl, ?_, fun r hr => (hc r (by omega)).1⟩⟩
    · exact wt_str (wt_elem Try.underlying22 hw (List.mem_map.2 ⟨i, List.mem_range.2 hi, rfl⟩))
    · have := World.block_lt_of_cell? W _ (hc 0 (by omega)).1
      rwa [block_of_add] at this
theorem open_texts (hv : Value.okWide Try.prog W .any base 22 v) (h : DataW.Trod enc Try.prog W 0 (fun _ => true) true 22 v d p) (hw : Wt Try.prog 22 d) :
    ∃ A n cap S, v = .slice A n cap ∧ StOk n cap S ∧ St W W.heap.size A n S := by
  obtain ⟨a0, len, cap, rfl⟩ := okWide_slice Try.underlying22 hv
  obtain ⟨fuel, hf⟩ := h
  exact core_strs (v := .slice a0 len cap) hf hw
theorem core_parts (h : DataW.trod enc Try.prog W 0 (fun _ => true) true fuel 37 [v] = some x) (hw : Wt Try.prog 37 x.1) :
    ∃ A n cap I S, v = .slice A n cap ∧ PcOk n cap I S ∧ Pc W W.heap.size A n I S := by
  rcases open_slice_pairs Try.underlying37 Try.underlying51 cellsPart rfl rfl cellsInt cellsStr h with ⟨hcs, _⟩ | ⟨a, len, cap, m, n, V0, V1, D0, D1, P0, P1, hcs, _, hl, hm, hmm, rfl, hc⟩
  · simp at hcs
    subst hcs
    exact ⟨none, 0, 0, fun _ => 0, fun _ => ByteArray.empty, rfl, ⟨by omega, by omega, fun i hi => absurd hi (by omega)⟩, fun h => absurd h (by omega)⟩
  · simp at hcs
    subst hcs
    simp only [if_true] at hmm
    subst hmm
    have e0 : ∀ i, i < len → ∃ z : Int, V0 i = .int .i64 z ∧ -9223372036854775808 ≤ z ∧ z ≤ 9223372036854775807 := fun i hi => by
      obtain ⟨z, h1, _, h3⟩ := DataW.trod_int Try.underlying3 (hc i (by omega)).2.2.1
      obtain ⟨b1, b2⟩ := bounds_i64 h3
      exact ⟨z, by simpa using h1, b1, b2⟩
    have e1 : ∀ i, i < len → ∃ s : ByteArray, V1 i = .string s ∧ s.size ≤ 140737488351232 := fun i hi => by
      obtain ⟨s, h1, h2, _⟩ := DataW.trod_string Try.underlying9 (hc i (by omega)).2.2.2
      refine ⟨s, by simpa using h1, ?_⟩
      have hd := wt_elem Try.underlying37 hw (d := .agg [D0 i, D1 i]) (List.mem_map.2 ⟨i, List.mem_range.2 hi, rfl⟩)
      simp only [Prod.mk.injEq] at h2
      have := wt_field Try.underlying51 hd (j := 1) rfl rfl
      rw [h2.1] at this
      exact wt_str this
    obtain ⟨I, hI⟩ := choose_lt e0
    obtain ⟨S, hS⟩ := choose_lt e1
    refine ⟨some a, len, m, I, S, rfl, ⟨hl, by rw [maxLen_num] at hm; omega, fun i hi => ⟨(hI i hi).2.1, (hI i hi).2.2, (hS i hi).2⟩⟩, fun hn => ⟨a, rfl, ?_, fun r hr => ?_⟩⟩
    · have := World.block_lt_of_cell? W _ (hc 0 (by omega)).1
      rwa [block_of_add] at this
    · obtain ⟨q0, q1, _, _⟩ := hc r (by omega)
      rw [q0, q1, (hI r hr).1, (hS r hr).1]
      exact ⟨rfl, rfl⟩
theorem open_parts (hv : Value.okWide Try.prog W .any base 37 v) (h : DataW.Trod enc Try.prog W 0 (fun _ => true) true 37 v d p) (hw : Wt Try.prog 37 d) :
    ∃ A n cap I S, v = .slice A n cap ∧ PcOk n cap I S ∧ Pc W W.heap.size A n I S := by
  obtain ⟨a0, len, cap, rfl⟩ := okWide_slice Try.underlying37 hv
  obtain ⟨fuel, hf⟩ := h
  exact core_parts (v := .slice a0 len cap) hf hw
theorem core_str (h : DataW.trod enc Try.prog W 0 (fun _ => true) true fuel 9 [v] = some x) (hw : Wt Try.prog 9 x.1) : ∃ s : ByteArray, v = .string s ∧ s.size ≤ 140737488351232 := by
  obtain ⟨s, h1, h2, _⟩ := DataW.trod_string Try.underlying9 h
  refine ⟨s, by simpa using h1, ?_⟩
  rw [h2] at hw
  exact wt_str hw
end
/-- a struct of six one-cell fields, by value -/
theorem open_agg6 {P : Program} {H : Type} {enc : TypeId × Value → H} {w : World} {base : Nat} {spare : Nat → Bool} {held : Bool} {r : Reach} {b0 : Nat} {t : TypeId} {f0 f1 f2 f3 f4 f5 : Field} {v : Value} {d : DataW H} {p : List MemPlace} (hs : P.underlying t = some (.struct #[f0, f1, f2, f3, f4, f5])) (hone : oneCellFields P #[f0, f1, f2, f3, f4, f5] = true) (hC : P.cellsOf t = 6)
    (hv : Value.okWide P w r b0 t v) (h : DataW.Trod enc P w base spare held t v d p) :
    ∃ (v0 v1 v2 v3 v4 v5 : Value) (y0 y1 y2 y3 y4 y5 : DataW H × List MemPlace) (n : Nat), v = .agg #[v0, v1, v2, v3, v4, v5] ∧ d = .agg [y0.1, y1.1, y2.1, y3.1, y4.1, y5.1] ∧ p = y0.2 ++ (y1.2 ++ (y2.2 ++ (y3.2 ++ (y4.2 ++ y5.2)))) ∧
      DataW.trod enc P w base spare held n f0.type [v0] = some y0 ∧ DataW.trod enc P w base spare held n f1.type [v1] = some y1 ∧ DataW.trod enc P w base spare held n f2.type [v2] = some y2 ∧ DataW.trod enc P w base spare held n f3.type [v3] = some y3 ∧
      DataW.trod enc P w base spare held n f4.type [v4] = some y4 ∧ DataW.trod enc P w base spare held n f5.type [v5] = some y5 := by
  obtain ⟨cs, rfl, hsz⟩ := okWide_struct hs hv
  have hsz := hsz.trans hC
  obtain ⟨l⟩ := cs
  match l, hsz with
  | [c0, c1, c2, c3, c4, c5], _ =>
    obtain ⟨fuel, hf⟩ := h
    obtain ⟨xs, n, _, hx, hl, hlen, hf⟩ := DataW.trod_struct hs hf
    match xs, hlen with
    | [y0, y1, y2, y3, y4, y5], _ =>
      obtain ⟨o0, k0⟩ := hone_of hone 0 f0 rfl
      obtain ⟨o1, k1⟩ := hone_of hone 1 f1 rfl
      obtain ⟨o2, k2⟩ := hone_of hone 2 f2 rfl
      obtain ⟨o3, k3⟩ := hone_of hone 3 f3 rfl
      obtain ⟨o4, k4⟩ := hone_of hone 4 f4 rfl
      obtain ⟨o5, k5⟩ := hone_of hone 5 f5 rfl
      simp only [Prod.mk.injEq] at hx
      exact ⟨c0, c1, c2, c3, c4, c5, y0, y1, y2, y3, y4, y5, n, rfl, by simpa using hx.1, by simpa using hx.2, by simpa [Value.cells, o0, k0] using hf 0 f0 rfl, by simpa [Value.cells, o1, k1] using hf 1 f1 rfl, by simpa [Value.cells, o2, k2] using hf 2 f2 rfl,
        by simpa [Value.cells, o3, k3] using hf 3 f3 rfl, by simpa [Value.cells, o4, k4] using hf 4 f4 rfl, by simpa [Value.cells, o5, k5] using hf 5 f5 rfl⟩
end Go.Proofs.Ytjfgainieoaeaaa.Mat
