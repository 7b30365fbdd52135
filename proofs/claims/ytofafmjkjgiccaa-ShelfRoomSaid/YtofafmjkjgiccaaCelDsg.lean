/- XDskOpen, as far as this dump goes. -/
import Derived.Test.YtofafmjkjgiccaaCelDsf
import Derived.ProofKit
import Derived.OpenShut
import Derived.ChangeOld
import Derived.SizedLaws
import Derived.Carry
import Derived.ChangeSlices
import Derived.Deep.Strs
import Derived.Deep.SlicePairs
import Derived.Lib.SmallJoins
import Derived.ShutString
/- How disks among the laws' arguments lie in memory. -/
namespace Go.Proofs.Ytofafmjkjgiccaa.Mat
open Go.ChangeShapes Go.WideShapes Go.ChangeAt Go.RowKit Go.Deep Fld
open Go.ChangeMaps (open_string shut_string)

theorem own : ownKnob Try.prog.godebug = none := by kernel_rfl
theorem laidOut : laidOutB Try.prog = true := by kernel_rfl
theorem maxLen_num : maxLen = 9223372036854775807 := rfl
theorem cellsInt : Try.prog.cellsOf 3 = 1 := by kernel_rfl
theorem cellsU32 : Try.prog.cellsOf 105 = 1 := by kernel_rfl
theorem cellsStr : Try.prog.cellsOf 9 = 1 := by kernel_rfl
theorem cellsBool : Try.prog.cellsOf 4 = 1 := by kernel_rfl
theorem cellsStrs : Try.prog.cellsOf 36 = 1 := by kernel_rfl
theorem cellsWrites : Try.prog.cellsOf 37 = 1 := by kernel_rfl
theorem cellsWrite : Try.prog.cellsOf 102 = 2 := by kernel_rfl
theorem cellsDisk : Try.prog.cellsOf 39 = 4 := by kernel_rfl
theorem bytesStr : Try.prog.bytesOf 9 = 16 := by kernel_rfl
theorem bytesWrite : Try.prog.bytesOf 102 = 24 := by kernel_rfl
theorem weight_all {H : Type} {P : Program} {e : TypeId} : ∀ {l : List (DataW H)} {d : DataW H}, d ∈ l → ∀ n ∈ d.weights P e, n ∈ DataW.weightsAll P e l
  | x :: l, d, hd, n, hn => by
    simp only [DataW.weightsAll, List.mem_append]
    rcases List.mem_cons.1 hd with rfl | h
    · exact .inl hn
    · exact .inr (weight_all h n hn)
theorem weight_slice {H : Type} {P : Program} {t e : TypeId} (ht : P.underlying t = some (.slice e)) {l sp : List (DataW H)} {d : DataW H} (hd : d ∈ l) : ∀ n ∈ d.weights P e, n ∈ (DataW.slice l sp).weights P t := fun n hn => by
  simp only [DataW.weights, ht]
  exact List.mem_cons_of_mem _ (List.mem_append_left _ (weight_all hd n hn))
/-- no more than reaches -/
def Wt {H : Type} (P : Program) (t : TypeId) (d : DataW H) : Prop := ∀ n ∈ d.weights P t, n ≤ reachBytes
theorem wt_arg {H : Type} {P : Program} {ts : List TypeId} {ds : List (DataW H)} (h : (DataW.weightsEach P ts ds).all (· ≤ reachBytes) = true) {j : Nat} {t : TypeId} {d : DataW H} (ht : ts[j]? = some t) (hd : ds[j]? = some d) : Wt P t d := fun n hn =>
  by simpa using List.all_eq_true.1 h n (DataW.weights_mem_each ht hd n hn)
theorem wt_elem {H : Type} {P : Program} {t e : TypeId} (ht : P.underlying t = some (.slice e)) {l sp : List (DataW H)} (h : Wt P t (DataW.slice l sp)) {d : DataW H} (hd : d ∈ l) : Wt P e d := fun n hn => h n (weight_slice ht hd n hn)
theorem wt_str {H : Type} {P : Program} {t : TypeId} {s : ByteArray} (h : Wt P t (DataW.lit (.string s.data.toList) : DataW H)) : s.size ≤ 140737488351232 := by
  have := h s.data.toList.length (by simp [DataW.weights])
  simpa [reachBytes] using this
theorem wt_field {H : Type} {P : Program} {t : TypeId} {fs : Array Field} (ht : P.underlying t = some (.struct fs)) {ds : List (DataW H)} (h : Wt P t (.agg ds)) {j : Nat} {f : Field} {d : DataW H} (hf : fs[j]? = some f) (hd : ds[j]? = some d) : Wt P f.type d := fun n hn =>
  h n (by
    simp only [DataW.weights, ht]
    exact DataW.weights_mem_each (j := j) (by simp [hf]) hd n hn)
/-- how many elements: as many as reach -/
theorem wt_count {H : Type} {P : Program} {t e : TypeId} (ht : P.underlying t = some (.slice e)) {l sp : List (DataW H)} (h : Wt P t (DataW.slice l sp)) : (l.length + sp.length) * P.bytesOf e ≤ 140737488351232 := by
  have := h ((l.length + sp.length) * P.bytesOf e) (by simp [DataW.weights, ht])
  simpa [reachBytes] using this
theorem V32_of (a : Int) (h0 : 0 ≤ a) (h1 : a < 4294967296) : ∃ x : BitVec 32, a = V32 x := ⟨BitVec.ofNat 32 a.toNat, by unfold V32; rw [BitVec.toNat_ofNat, Nat.mod_eq_of_lt (by omega)]; omega⟩

section
variable {H : Type} {enc : TypeId × Value → H} {W : World} {v : Value} {fuel : Nat} {x : DataW H × List MemPlace}
theorem core_i64 {c : Value} (h : DataW.trod enc Try.prog W 0 (fun _ => true) true fuel 3 [c] = some x) : ∃ a : Int, c = .int .i64 a ∧ -9223372036854775808 ≤ a ∧ a ≤ 9223372036854775807 := by
  obtain ⟨a, e, _, w⟩ := DataW.trod_int Try.underlying3 h
  simp at e
  exact ⟨a, e, bounds_i64 w⟩
theorem core_u32 {c : Value} (h : DataW.trod enc Try.prog W 0 (fun _ => true) true fuel 105 [c] = some x) : ∃ a : BitVec 32, c = .int .u32 (V32 a) := by
  obtain ⟨a, e, _, w⟩ := DataW.trod_int Try.underlying105 h
  simp at e
  obtain ⟨h0, h1⟩ := bounds_u32 w
  obtain ⟨b, rfl⟩ := V32_of a h0 (by omega)
  exact ⟨b, e⟩
theorem core_str (h : DataW.trod enc Try.prog W 0 (fun _ => true) true fuel 9 [v] = some x) (hw : Wt Try.prog 9 x.1) : ∃ s : ByteArray, v = .string s ∧ s.size ≤ 140737488351232 := by
  obtain ⟨s, h1, h2, _⟩ := DataW.trod_string Try.underlying9 h
  refine ⟨s, by simpa using h1, ?_⟩
  rw [h2] at hw
  exact wt_str hw
theorem core_strs (h : DataW.trod enc Try.prog W 0 (fun _ => true) true fuel 36 [v] = some x) (hw : Wt Try.prog 36 x.1) :
    ∃ A n cap S, v = .slice A n cap ∧ Fit A n cap ∧ n * 16 ≤ 140737488351232 ∧ (∀ i, i < n → (S i).size ≤ 140737488351232) ∧ St W W.heap.size A n S := by
  rcases open_strs Try.underlying36 Try.underlying9 cellsStr h with ⟨hcs, _⟩ | ⟨a, len, cap, m, Sx, hcs, _, hl, hm, hmm, rfl, hc⟩
  · simp at hcs
    subst hcs
    exact ⟨none, 0, 0, fun _ => ByteArray.empty, rfl, ⟨Nat.le_refl _, fun _ => rfl⟩, by omega, fun i hi => absurd hi (by omega), fun h => absurd h (by omega)⟩
  · simp at hcs
    subst hcs
    simp only [if_true] at hmm
    subst hmm
    have hct := wt_count Try.underlying36 hw
    rw [bytesStr, List.length_map, List.length_map, List.length_range, List.length_range] at hct
    refine ⟨some a, len, m, Sx, rfl, ⟨hl, fun e => by cases e⟩, by omega, fun i hi => ?_, fun hn => ⟨a, rfl, ?_, fun r hr => (hc r (by omega)).1⟩⟩
    · exact wt_str (wt_elem Try.underlying36 hw (List.mem_map.2 ⟨i, List.mem_range.2 hi, rfl⟩))
    · have := World.block_lt_of_cell? W _ (hc 0 (by omega)).1
      rwa [block_of_add] at this
theorem core_writes (h : DataW.trod enc Try.prog W 0 (fun _ => true) true fuel 37 [v] = some x) (hw : Wt Try.prog 37 x.1) :
    ∃ A n cap I S, v = .slice A n cap ∧ Fit A n cap ∧ n * 24 ≤ 140737488351232 ∧ (∀ i, i < n → (S i).size ≤ 140737488351232) ∧ Pc W W.heap.size A n I S := by
  rcases open_slice_pairs Try.underlying37 Try.underlying102 cellsWrite rfl rfl cellsInt cellsStr h with ⟨hcs, _⟩ | ⟨a, len, cap, m, n, V0, V1, D0, D1, P0, P1, hcs, _, hl, hm, hmm, rfl, hc⟩
  · simp at hcs
    subst hcs
    exact ⟨none, 0, 0, fun _ => 0, fun _ => ByteArray.empty, rfl, ⟨Nat.le_refl _, fun _ => rfl⟩, by omega, fun i hi => absurd hi (by omega), fun h => absurd h (by omega)⟩
  · simp at hcs
    subst hcs
    simp only [if_true] at hmm
    subst hmm
    have hct := wt_count Try.underlying37 hw
    rw [bytesWrite, List.length_map, List.length_map, List.length_range, List.length_range] at hct
    have e0 : ∀ i, i < len → ∃ z : Int, V0 i = .int .i64 z := fun i hi => by
      obtain ⟨z, h1, _, h3⟩ := DataW.trod_int Try.underlying3 (hc i (by omega)).2.2.1
      exact ⟨z, by simpa using h1⟩
    have e1 : ∀ i, i < len → ∃ s : ByteArray, V1 i = .string s ∧ s.size ≤ 140737488351232 := fun i hi => by
      obtain ⟨s, h1, h2, _⟩ := DataW.trod_string Try.underlying9 (hc i (by omega)).2.2.2
      refine ⟨s, by simpa using h1, ?_⟩
      have hd := wt_elem Try.underlying37 hw (d := .agg [D0 i, D1 i]) (List.mem_map.2 ⟨i, List.mem_range.2 hi, rfl⟩)
      simp only [Prod.mk.injEq] at h2
      have := wt_field Try.underlying102 hd (j := 1) rfl rfl
      rw [h2.1] at this
      exact wt_str this
    obtain ⟨I, hI⟩ := choose_lt e0
    obtain ⟨S, hS⟩ := choose_lt e1
    refine ⟨some a, len, m, I, S, rfl, ⟨hl, fun e => by cases e⟩, by omega, fun i hi => (hS i hi).2, fun hn => ⟨a, rfl, ?_, fun r hr => ?_⟩⟩
    · have := World.block_lt_of_cell? W _ (hc 0 (by omega)).1
      rwa [block_of_add] at this
    · obtain ⟨q0, q1, _, _⟩ := hc r (by omega)
      rw [q0, q1, hI r hr, (hS r hr).1]
      exact ⟨rfl, rfl⟩
theorem core_disk {c0 c1 c2 c3 : Value} (h : DataW.trod enc Try.prog W 0 (fun _ => true) true fuel 39 [c0, c1, c2, c3] = some x) (hw : Wt Try.prog 39 x.1) :
    ∃ d A c B k, c0 = .slice A (Dk.n d) c ∧ c1 = .slice B d.m k ∧ c2 = .int .i64 d.fuse ∧ c3 = .bool d.off ∧ DOk W A c B k d ∧ d.m * 24 ≤ 140737488351232 := by
  obtain ⟨xs, n, _, hx, hl, hlen, hf⟩ := DataW.trod_struct Try.underlying39 h
  match xs, hlen with
  | [y0, y1, y2, y3], _ =>
    have hx1 : x.1 = .agg [y0.1, y1.1, y2.1, y3.1] := by rw [hx]; rfl
    rw [hx1] at hw
    have g0 := hf 0 _ rfl
    have g1 := hf 1 _ rfl
    have g2 := hf 2 _ rfl
    have g3 := hf 3 _ rfl
    simp [cellsStrs, cellsWrites, cellsInt, cellsBool] at g0 g1 g2 g3
    obtain ⟨A, n, c, S, rfl, f0, b0, z0, s0⟩ := core_strs g0 (wt_field Try.underlying39 hw (j := 0) rfl rfl)
    obtain ⟨B, m, k, I, T, rfl, f1, b1, z1, s1⟩ := core_writes g1 (wt_field Try.underlying39 hw (j := 1) rfl rfl)
    obtain ⟨f, rfl, l0, l1⟩ := core_i64 g2
    obtain ⟨o, e, _⟩ := DataW.trod_bool Try.underlying4 g3
    simp at e
    subst e
    exact ⟨⟨n, S, m, I, T, f, o⟩, A, c, B, k, rfl, rfl, rfl, rfl, ⟨s0, s1, f0, f1, ⟨b0, by show m * 24 ≤ _; omega, z0, z1, l0, l1⟩⟩, b1⟩
end
end Go.Proofs.Ytofafmjkjgiccaa.Mat

