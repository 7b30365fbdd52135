/- How disks among the laws' arguments lie in memory. -/
import Derived.Test.YtefppiplkmhdmaaDskY
import Derived.ProofKit
import Derived.OpenShut
import Derived.ChangeOld
import Derived.SizedLaws
import Derived.Carry
import Derived.ChangeSlices
import Derived.Deep.Strs
import Derived.Deep.SlicePairs
import Derived.Lib.SmallJoins
import Derived.ShutString
namespace Go.Proofs.Ytefppiplkmhdmaa.Mat
open Go.ChangeShapes Go.WideShapes Go.ChangeAt Go.RowKit Go.Deep Fld
open Go.ChangeMaps (open_string shut_string)

theorem own : ownKnob Try.prog.godebug = none := by kernel_rfl
theorem laidOut : laidOutB Try.prog = true := by kernel_rfl
theorem maxLen_num : maxLen = 9223372036854775807 := rfl
theorem cellsInt : Try.prog.cellsOf 3 = 1 := by kernel_rfl
theorem cellsU32 : Try.prog.cellsOf 44 = 1 := by kernel_rfl
theorem cellsStr : Try.prog.cellsOf 9 = 1 := by kernel_rfl
theorem cellsBool : Try.prog.cellsOf 4 = 1 := by kernel_rfl
theorem cellsStrs : Try.prog.cellsOf 22 = 1 := by kernel_rfl
theorem cellsWrites : Try.prog.cellsOf 23 = 1 := by kernel_rfl
theorem cellsWrite : Try.prog.cellsOf 55 = 2 := by kernel_rfl
theorem cellsDisk : Try.prog.cellsOf 25 = 4 := by kernel_rfl
theorem bytesStr : Try.prog.bytesOf 9 = 16 := by kernel_rfl
theorem bytesWrite : Try.prog.bytesOf 55 = 24 := by kernel_rfl
theorem weight_all {H : Type} {P : Program} {e : TypeId} : ∀ {l : List (DataW H)} {d : DataW H}, d ∈ l → ∀ n ∈ d.weights P e, n ∈ DataW.weightsAll P e l
  | x :: l, d, hd, n, hn => by
    simp only [DataW.weightsAll, List.mem_append]
    rcases List.mem_cons.1 hd with rfl | h
    · exact .inl hn
    · exact .inr (weight_all h n hn)
theorem weight_slice {H : Type} {P : Program} {t e : TypeId} (ht : P.underlying t = some (.slice e)) {l sp : List (DataW H)} {d : DataW H} (hd : d ∈ l) : ∀ n ∈ d.weights P e, n ∈ (DataW.slice l sp).weights P t := fun n hn => by
  simp only [DataW.weights, ht]
  exact List.mem_cons_of_mem _ (List.mem_append_left _ (weight_all hd n hn))
/-- no more than reaches -/
def Wt {H : Type} (P : Program) (t : TypeId) (d : DataW H) : Prop := ∀ n ∈ d.weights P t, n ≤ reachBytes
theorem wt_arg {H : Type} {P : Program} {ts : List TypeId} {ds : List (DataW H)} (h : (DataW.weightsEach P ts ds).all (· ≤ reachBytes) = true) {j : Nat} {t : TypeId} {d : DataW H} (ht : ts[j]? = some t) (hd : ds[j]? = some d) : Wt P t d := fun n hn =>
  by simpa using List.all_eq_true.1 h n (DataW.weights_mem_each ht hd n hn)
theorem wt_elem {H : Type} {P : Program} {t e : TypeId} (ht : P.underlying t = some (.slice e)) {l sp : List (DataW H)} (h : Wt P t (DataW.slice l sp)) {d : DataW H} (hd : d ∈ l) : Wt P e d := fun n hn => h n (weight_slice ht hd n hn)
theorem wt_str {H : Type} {P : Program} {t : TypeId} {s : ByteArray} (h : Wt P t (DataW.lit (.string s.data.toList) : DataW H)) : s.size ≤ 140737488351232 := by
  have := h s.data.toList.length (by simp [DataW.weights])
  simpa [reachBytes] using this
theorem wt_field {H : Type} {P : Program} {t : TypeId} {fs : Array Field} (ht : P.underlying t = some (.struct fs)) {ds : List (DataW H)} (h : Wt P t (.agg ds)) {j : Nat} {f : Field} {d : DataW H} (hf : fs[j]? = some f) (hd : ds[j]? = some d) : Wt P f.type d := fun n hn =>
  h n (by
    simp only [DataW.weights, ht]
    exact DataW.weights_mem_each (j := j) (by simp [hf]) hd n hn)
/-- how many elements: as many as reach -/
theorem wt_count {H : Type} {P : Program} {t e : TypeId} (ht : P.underlying t = some (.slice e)) {l sp : List (DataW H)} (h : Wt P t (DataW.slice l sp)) : (l.length + sp.length) * P.bytesOf e ≤ 140737488351232 := by
  have := h ((l.length + sp.length) * P.bytesOf e) (by simp [DataW.weights, ht])
  simpa [reachBytes] using this
theorem V32_of (a : Int) (h0 : 0 ≤ a) (h1 : a < 4294967296) : ∃ x : BitVec 32, a = V32 x := ⟨BitVec.ofNat 32 a.toNat, by unfold V32; rw [BitVec.toNat_ofNat, Nat.mod_eq_of_lt (by omega)]; omega⟩

section
variable {H : Type} {enc : TypeId × Value → H} {W : World} {v : Value} {fuel : Nat} {x : DataW H × List MemPlace}
theorem core_i64 {c : Value} (h : DataW.trod enc Try.prog W 0 (fun _ => true) true fuel 3 [c] = some x) : ∃ a : Int, c = .int .i64 a ∧ -9223372036854775808 ≤ a ∧ a ≤ 9223372036854775807 := by
  obtain ⟨a, e, _, w⟩ := DataW.trod_int Try.underlying3 h
  simp at e
  exact ⟨a, e, bounds_i64 w⟩
theorem core_u32 {c : Value} (h : DataW.trod enc Try.prog W 0 (fun _ => true) true fuel 44 [c] = some x) : ∃ a : BitVec 32, c = .int .u32 (V32 a) := by
  obtain ⟨a, e, _, w⟩ := DataW.trod_int Try.underlying44 h
  simp at e
  obtain ⟨h0, h1⟩ := bounds_u32 w
  obtain ⟨b, rfl⟩ := V32_of a h0 (by omega)
  exact ⟨b, e⟩
theorem core_str (h : DataW.trod enc Try.prog W 0 (fun _ => true) true fuel 9 [v] = some x) (hw : Wt Try.prog 9 x.1) : ∃ s : ByteArray, v = .string s ∧ s.size ≤ 140737488351232 := by
  obtain ⟨s, h1, h2, _⟩ := DataW.trod_string Try.underlying9 h
  refine ⟨s, by simpa using h1, ?_⟩
  rw [h2] at hw
  exact wt_str hw
theorem core_strs (h : DataW.trod enc Try.prog W 0 (fun _ => true) true fuel 22 [v] = some x) (hw : Wt Try.prog 22 x.1) :
    ∃ A n cap S, v = .slice A n cap ∧ Fit A n cap ∧ n * 16 ≤ 140737488351232 ∧ (∀ i, i < n → (S i).size ≤ 140737488351232) ∧ St W W.heap.size A n S := by
  rcases open_strs Try.underlying22 Try.underlying9 cellsStr h with ⟨hcs, _⟩ | ⟨a, len, cap, m, Sx, hcs, _, hl, hm, hmm, rfl, hc⟩
  · simp at hcs
    subst hcs
    exact ⟨none, 0, 0, fun _ => ByteArray.empty, rfl, ⟨Nat.le_refl _, fun _ => rfl⟩, by omega, fun i hi => absurd hi (by omega), fun h => absurd h (by omega)⟩
  · simp at hcs
    subst hcs
    simp only [if_true] at hmm
    subst hmm
    have hct := wt_count Try.underlying22 hw
    rw [bytesStr, List.length_map, List.length_map, List.length_range, List.length_range] at hct
    refine ⟨some a, len, m, Sx, rfl, ⟨hl, fun e => by cases e⟩, by omega, fun i hi => ?_, fun hn => ⟨a, rfl, ?_, fun r hr => (hc r (by omega)).1⟩⟩
    · exact wt_str (wt_elem Try.underlying22 hw (List.mem_map.2 ⟨i, List.mem_range.2 hi, rfl⟩))
    · have := World.block_lt_of_cell? W _ (hc 0 (by omega)).1
      rwa [block_of_add] at this
theorem core_writes (h : DataW.trod enc Try.prog W 0 (fun _ => true) true fuel 23 [v] = some x) (hw : Wt Try.prog 23 x.1) :
    ∃ A n cap I S, v = .slice A n cap ∧ Fit A n cap ∧ n * 24 ≤ 140737488351232 ∧ (∀ i, i < n → (S i).size ≤ 140737488351232) ∧ Pc W W.heap.size A n I S := by
  rcases open_slice_pairs Try.underlying23 Try.underlying55 cellsWrite rfl rfl cellsInt cellsStr h with ⟨hcs, _⟩ | ⟨a, len, cap, m, n, V0, V1, D0, D1, P0, P1, hcs, _, hl, hm, hmm, rfl, hc⟩
  · simp at hcs
    subst hcs
    exact ⟨none, 0, 0, fun _ => 0, fun _ => ByteArray.empty, rfl, ⟨Nat.le_refl _, fun _ => rfl⟩, by omega, fun i hi => absurd hi (by omega), fun h => absurd h (by omega)⟩
  · simp at hcs
    subst hcs
    simp only [if_true] at hmm
    subst hmm
    have hct := wt_count Try.underlying23 hw
    rw [bytesWrite, List.length_map, List.length_map, List.length_range, List.length_range] at hct
    have e0 : ∀ i, i < len → ∃ z : Int, V0 i = .int .i64 z := fun i hi => by
      obtain ⟨z, h1, _, h3⟩ := DataW.trod_int Try.underlying3 (hc i (by omega)).2.2.1
      exact ⟨z, by simpa using h1⟩
    have e1 : ∀ i, i < len → ∃ s : ByteArray, V1 i = .string s ∧ s.size ≤ 140737488351232 := fun i hi => by
      obtain ⟨s, h1, h2, _⟩ := DataW.trod_string Try.underlying9 (hc i (by omega)).2.2.2
      refine ⟨s, by simpa using h1, ?_⟩
      have hd := wt_elem Try.underlying23 hw (d := .agg [D0 i, D1 i]) (List.mem_map.2 ⟨i, List.mem_range.2 hi, rfl⟩)
      simp only [Prod.mk.injEq] at h2
      have := wt_field Try.underlying55 hd (j := 1) rfl rfl
      rw [h2.1] at this
      exact wt_str this
    obtain ⟨I, hI⟩ := choose_lt e0
    obtain ⟨S, hS⟩ := choose_lt e1
    refine ⟨some a, len, m, I, S, rfl, ⟨hl, fun e => by cases e⟩, by omega, fun i hi => (hS i hi).2, fun hn => ⟨a, rfl, ?_, fun r hr => ?_⟩⟩
    · have := World.block_lt_of_cell? W _ (hc 0 (by omega)).1
      rwa [block_of_add] at this
    · obtain ⟨q0, q1, _, _⟩ := hc r (by omega)
      rw [q0, q1, hI r hr, (hS r hr).1]
      exact ⟨rfl, rfl⟩
theorem core_disk {c0 c1 c2 c3 : Value} (h : DataW.trod enc Try.prog W 0 (fun _ => true) true fuel 25 [c0, c1, c2, c3] = some x) (hw : Wt Try.prog 25 x.1) :
    ∃ d A c B k, c0 = .slice A (Dk.n d) c ∧ c1 = .slice B d.m k ∧ c2 = .int .i64 d.fuse ∧ c3 = .bool d.off ∧ DOk W A c B k d ∧ d.m * 24 ≤ 140737488351232 := by
  obtain ⟨xs, n, _, hx, hl, hlen, hf⟩ := DataW.trod_struct Try.underlying25 h
  match xs, hlen with
  | [y0, y1, y2, y3], _ =>
    have hx1 : x.1 = .agg [y0.1, y1.1, y2.1, y3.1] := by rw [hx]; rfl
    rw [hx1] at hw
    have g0 := hf 0 _ rfl
    have g1 := hf 1 _ rfl
    have g2 := hf 2 _ rfl
    have g3 := hf 3 _ rfl
    simp [cellsStrs, cellsWrites, cellsInt, cellsBool] at g0 g1 g2 g3
    obtain ⟨A, n, c, S, rfl, f0, b0, z0, s0⟩ := core_strs g0 (wt_field Try.underlying25 hw (j := 0) rfl rfl)
    obtain ⟨B, m, k, I, T, rfl, f1, b1, z1, s1⟩ := core_writes g1 (wt_field Try.underlying25 hw (j := 1) rfl rfl)
    obtain ⟨f, rfl, l0, l1⟩ := core_i64 g2
    obtain ⟨o, e, _⟩ := DataW.trod_bool Try.underlying4 g3
    simp at e
    subst e
    exact ⟨⟨n, S, m, I, T, f, o⟩, A, c, B, k, rfl, rfl, rfl, rfl, ⟨s0, s1, f0, f1, ⟨b0, by show m * 24 ≤ _; omega, z0, z1, l0, l1⟩⟩, b1⟩
end
theorem cellsActsIn : Try.prog.cellsOf 27 = 7 := by kernel_rfl
theorem openActs {H : Type} {enc : TypeId × Value → H} {W : World} {v : Value} {x : DataW H} {p : List MemPlace} {r : Reach} {b0 : Nat} (hv : Value.okWide Try.prog W r b0 27 v) (h : DataW.Trod enc Try.prog W 0 (fun _ => true) true 27 v x p) (hw : Wt Try.prog 27 x) :
    ∃ d A c B k a1 a2 a3, v = .agg #[.slice A (Dk.n d) c, .slice B d.m k, .int .i64 d.fuse, .bool d.off, .int .i64 a1, .string a2, .int .i64 a3] ∧ DOk W A c B k d ∧ d.m * 24 ≤ 140737488351232 ∧ -9223372036854775808 ≤ a1 ∧ a1 ≤ 9223372036854775807 ∧ a2.size ≤ 140737488351232 ∧ -9223372036854775808 ≤ a3 ∧ a3 ≤ 9223372036854775807 := by
  obtain ⟨cs, rfl, hsz⟩ := okWide_struct Try.underlying27 hv
  have hsz := hsz.trans cellsActsIn
  obtain ⟨l⟩ := cs
  match l, hsz with
  | [c0, c1, c2, c3, c4, c5, c6], _ =>
    obtain ⟨fuel, hf⟩ := h
    obtain ⟨xs, n, _, hx, hl, hlen, hf⟩ := DataW.trod_struct Try.underlying27 hf
    match xs, hlen with
    | [y0, y1, y2, y3], _ =>
      simp only [Prod.mk.injEq] at hx
      have hx1 : x = .agg [y0.1, y1.1, y2.1, y3.1] := by rw [hx.1]; rfl
      rw [hx1] at hw
      have g0 := hf 0 _ rfl
      have g1 := hf 1 _ rfl
      have g2 := hf 2 _ rfl
      have g3 := hf 3 _ rfl
      simp [cellsDisk, cellsInt, cellsStr, Value.cells] at g0 g1 g2 g3
      obtain ⟨d, A, c, B, k, rfl, rfl, rfl, rfl, ok0, bm0⟩ := core_disk g0 (wt_field Try.underlying27 hw (j := 0) rfl rfl)
      obtain ⟨a1, rfl, l1, h1⟩ := core_i64 g1
      obtain ⟨a2, rfl, z2⟩ := core_str g2 (wt_field Try.underlying27 hw (j := 2) rfl rfl)
      obtain ⟨a3, rfl, l3, h3⟩ := core_i64 g3
      exact ⟨d, A, c, B, k, a1, a2, a3, rfl, ok0, bm0, l1, h1, z2, l3, h3⟩
theorem cellsFailsIn : Try.prog.cellsOf 46 = 12 := by kernel_rfl
theorem openFails {H : Type} {enc : TypeId × Value → H} {W : World} {v : Value} {x : DataW H} {p : List MemPlace} {r : Reach} {b0 : Nat} (hv : Value.okWide Try.prog W r b0 46 v) (h : DataW.Trod enc Try.prog W 0 (fun _ => true) true 46 v x p) (hw : Wt Try.prog 46 x) :
    ∃ d A c B k a1 a2 a3 a4 d' A' c' B' k', v = .agg #[.slice A (Dk.n d) c, .slice B d.m k, .int .i64 d.fuse, .bool d.off, .int .i64 a1, .int .i64 a2, .int .i64 a3, .int .u32 (V32 a4), .slice A' (Dk.n d') c', .slice B' d'.m k', .int .i64 d'.fuse, .bool d'.off] ∧ DOk W A c B k d ∧ d.m * 24 ≤ 140737488351232 ∧ -9223372036854775808 ≤ a1 ∧ a1 ≤ 9223372036854775807 ∧ -9223372036854775808 ≤ a2 ∧ a2 ≤ 9223372036854775807 ∧ -9223372036854775808 ≤ a3 ∧ a3 ≤ 9223372036854775807 ∧ DOk W A' c' B' k' d' ∧ d'.m * 24 ≤ 140737488351232 := by
  obtain ⟨cs, rfl, hsz⟩ := okWide_struct Try.underlying46 hv
  have hsz := hsz.trans cellsFailsIn
  obtain ⟨l⟩ := cs
  match l, hsz with
  | [c0, c1, c2, c3, c4, c5, c6, c7, c8, c9, c10, c11], _ =>
    obtain ⟨fuel, hf⟩ := h
    obtain ⟨xs, n, _, hx, hl, hlen, hf⟩ := DataW.trod_struct Try.underlying46 hf
    match xs, hlen with
    | [y0, y1, y2, y3, y4, y5], _ =>
      simp only [Prod.mk.injEq] at hx
      have hx1 : x = .agg [y0.1, y1.1, y2.1, y3.1, y4.1, y5.1] := by rw [hx.1]; rfl
      rw [hx1] at hw
      have g0 := hf 0 _ rfl
      have g1 := hf 1 _ rfl
      have g2 := hf 2 _ rfl
      have g3 := hf 3 _ rfl
      have g4 := hf 4 _ rfl
      have g5 := hf 5 _ rfl
      simp [cellsDisk, cellsInt, cellsU32, Value.cells] at g0 g1 g2 g3 g4 g5
      obtain ⟨d, A, c, B, k, rfl, rfl, rfl, rfl, ok0, bm0⟩ := core_disk g0 (wt_field Try.underlying46 hw (j := 0) rfl rfl)
      obtain ⟨a1, rfl, l1, h1⟩ := core_i64 g1
      obtain ⟨a2, rfl, l2, h2⟩ := core_i64 g2
      obtain ⟨a3, rfl, l3, h3⟩ := core_i64 g3
      obtain ⟨a4, rfl⟩ := core_u32 g4
      obtain ⟨d', A', c', B', k', rfl, rfl, rfl, rfl, ok5, bm5⟩ := core_disk g5 (wt_field Try.underlying46 hw (j := 5) rfl rfl)
      exact ⟨d, A, c, B, k, a1, a2, a3, a4, d', A', c', B', k', rfl, ok0, bm0, l1, h1, l2, h2, l3, h3, ok5, bm5⟩
theorem cellsLastsIn : Try.prog.cellsOf 53 = 8 := by kernel_rfl
theorem openLasts {H : Type} {enc : TypeId × Value → H} {W : World} {v : Value} {x : DataW H} {p : List MemPlace} {r : Reach} {b0 : Nat} (hv : Value.okWide Try.prog W r b0 53 v) (h : DataW.Trod enc Try.prog W 0 (fun _ => true) true 53 v x p) (hw : Wt Try.prog 53 x) :
    ∃ d A c B k C ln lc I T a2 a3 a4, v = .agg #[.slice A (Dk.n d) c, .slice B d.m k, .int .i64 d.fuse, .bool d.off, .slice C ln lc, .int .i64 a2, .int .i64 a3, .int .i64 a4] ∧ DOk W A c B k d ∧ d.m * 24 ≤ 140737488351232 ∧ ln * 24 ≤ 140737488351232 ∧ (∀ i, i < ln → (T i).size ≤ 140737488351232) ∧ Pc W W.heap.size C ln I T ∧ -9223372036854775808 ≤ a2 ∧ a2 ≤ 9223372036854775807 ∧ -9223372036854775808 ≤ a3 ∧ a3 ≤ 9223372036854775807 ∧ -9223372036854775808 ≤ a4 ∧ a4 ≤ 9223372036854775807 := by
  obtain ⟨cs, rfl, hsz⟩ := okWide_struct Try.underlying53 hv
  have hsz := hsz.trans cellsLastsIn
  obtain ⟨l⟩ := cs
  match l, hsz with
  | [c0, c1, c2, c3, c4, c5, c6, c7], _ =>
    obtain ⟨fuel, hf⟩ := h
    obtain ⟨xs, n, _, hx, hl, hlen, hf⟩ := DataW.trod_struct Try.underlying53 hf
    match xs, hlen with
    | [y0, y1, y2, y3, y4], _ =>
      simp only [Prod.mk.injEq] at hx
      have hx1 : x = .agg [y0.1, y1.1, y2.1, y3.1, y4.1] := by rw [hx.1]; rfl
      rw [hx1] at hw
      have g0 := hf 0 _ rfl
      have g1 := hf 1 _ rfl
      have g2 := hf 2 _ rfl
      have g3 := hf 3 _ rfl
      have g4 := hf 4 _ rfl
      simp [cellsDisk, cellsWrites, cellsInt, Value.cells] at g0 g1 g2 g3 g4
      obtain ⟨d, A, c, B, k, rfl, rfl, rfl, rfl, ok0, bm0⟩ := core_disk g0 (wt_field Try.underlying53 hw (j := 0) rfl rfl)
      obtain ⟨C, ln, lc, I, T, rfl, _, bl1, zl1, pl1⟩ := core_writes g1 (wt_field Try.underlying53 hw (j := 1) rfl rfl)
      obtain ⟨a2, rfl, l2, h2⟩ := core_i64 g2
      obtain ⟨a3, rfl, l3, h3⟩ := core_i64 g3
      obtain ⟨a4, rfl, l4, h4⟩ := core_i64 g4
      exact ⟨d, A, c, B, k, C, ln, lc, I, T, a2, a3, a4, rfl, ok0, bm0, bl1, zl1, pl1, l2, h2, l3, h3, l4, h4⟩
theorem cellsReadsIn : Try.prog.cellsOf 58 = 7 := by kernel_rfl
theorem openReads {H : Type} {enc : TypeId × Value → H} {W : World} {v : Value} {x : DataW H} {p : List MemPlace} {r : Reach} {b0 : Nat} (hv : Value.okWide Try.prog W r b0 58 v) (h : DataW.Trod enc Try.prog W 0 (fun _ => true) true 58 v x p) (hw : Wt Try.prog 58 x) :
    ∃ d A c B k a1 a2 a3, v = .agg #[.slice A (Dk.n d) c, .slice B d.m k, .int .i64 d.fuse, .bool d.off, .int .i64 a1, .string a2, .int .i64 a3] ∧ DOk W A c B k d ∧ d.m * 24 ≤ 140737488351232 ∧ -9223372036854775808 ≤ a1 ∧ a1 ≤ 9223372036854775807 ∧ a2.size ≤ 140737488351232 ∧ -9223372036854775808 ≤ a3 ∧ a3 ≤ 9223372036854775807 := by
  obtain ⟨cs, rfl, hsz⟩ := okWide_struct Try.underlying58 hv
  have hsz := hsz.trans cellsReadsIn
  obtain ⟨l⟩ := cs
  match l, hsz with
  | [c0, c1, c2, c3, c4, c5, c6], _ =>
    obtain ⟨fuel, hf⟩ := h
    obtain ⟨xs, n, _, hx, hl, hlen, hf⟩ := DataW.trod_struct Try.underlying58 hf
    match xs, hlen with
    | [y0, y1, y2, y3], _ =>
      simp only [Prod.mk.injEq] at hx
      have hx1 : x = .agg [y0.1, y1.1, y2.1, y3.1] := by rw [hx.1]; rfl
      rw [hx1] at hw
      have g0 := hf 0 _ rfl
      have g1 := hf 1 _ rfl
      have g2 := hf 2 _ rfl
      have g3 := hf 3 _ rfl
      simp [cellsDisk, cellsInt, cellsStr, Value.cells] at g0 g1 g2 g3
      obtain ⟨d, A, c, B, k, rfl, rfl, rfl, rfl, ok0, bm0⟩ := core_disk g0 (wt_field Try.underlying58 hw (j := 0) rfl rfl)
      obtain ⟨a1, rfl, l1, h1⟩ := core_i64 g1
      obtain ⟨a2, rfl, z2⟩ := core_str g2 (wt_field Try.underlying58 hw (j := 2) rfl rfl)
      obtain ⟨a3, rfl, l3, h3⟩ := core_i64 g3
      exact ⟨d, A, c, B, k, a1, a2, a3, rfl, ok0, bm0, l1, h1, z2, l3, h3⟩
theorem cellsTornIn : Try.prog.cellsOf 61 = 7 := by kernel_rfl
theorem openTorn {H : Type} {enc : TypeId × Value → H} {W : World} {v : Value} {x : DataW H} {p : List MemPlace} {r : Reach} {b0 : Nat} (hv : Value.okWide Try.prog W r b0 61 v) (h : DataW.Trod enc Try.prog W 0 (fun _ => true) true 61 v x p) (hw : Wt Try.prog 61 x) :
    ∃ d A c B k a1 a2 a3, v = .agg #[.slice A (Dk.n d) c, .slice B d.m k, .int .i64 d.fuse, .bool d.off, .int .i64 a1, .string a2, .int .i64 a3] ∧ DOk W A c B k d ∧ d.m * 24 ≤ 140737488351232 ∧ -9223372036854775808 ≤ a1 ∧ a1 ≤ 9223372036854775807 ∧ a2.size ≤ 140737488351232 ∧ -9223372036854775808 ≤ a3 ∧ a3 ≤ 9223372036854775807 := by
  obtain ⟨cs, rfl, hsz⟩ := okWide_struct Try.underlying61 hv
  have hsz := hsz.trans cellsTornIn
  obtain ⟨l⟩ := cs
  match l, hsz with
  | [c0, c1, c2, c3, c4, c5, c6], _ =>
    obtain ⟨fuel, hf⟩ := h
    obtain ⟨xs, n, _, hx, hl, hlen, hf⟩ := DataW.trod_struct Try.underlying61 hf
    match xs, hlen with
    | [y0, y1, y2, y3], _ =>
      simp only [Prod.mk.injEq] at hx
      have hx1 : x = .agg [y0.1, y1.1, y2.1, y3.1] := by rw [hx.1]; rfl
      rw [hx1] at hw
      have g0 := hf 0 _ rfl
      have g1 := hf 1 _ rfl
      have g2 := hf 2 _ rfl
      have g3 := hf 3 _ rfl
      simp [cellsDisk, cellsInt, cellsStr, Value.cells] at g0 g1 g2 g3
      obtain ⟨d, A, c, B, k, rfl, rfl, rfl, rfl, ok0, bm0⟩ := core_disk g0 (wt_field Try.underlying61 hw (j := 0) rfl rfl)
      obtain ⟨a1, rfl, l1, h1⟩ := core_i64 g1
      obtain ⟨a2, rfl, z2⟩ := core_str g2 (wt_field Try.underlying61 hw (j := 2) rfl rfl)
      obtain ⟨a3, rfl, l3, h3⟩ := core_i64 g3
      exact ⟨d, A, c, B, k, a1, a2, a3, rfl, ok0, bm0, l1, h1, z2, l3, h3⟩
theorem cellsTwiceIn : Try.prog.cellsOf 64 = 7 := by kernel_rfl
theorem openTwice {H : Type} {enc : TypeId × Value → H} {W : World} {v : Value} {x : DataW H} {p : List MemPlace} {r : Reach} {b0 : Nat} (hv : Value.okWide Try.prog W r b0 64 v) (h : DataW.Trod enc Try.prog W 0 (fun _ => true) true 64 v x p) (hw : Wt Try.prog 64 x) :
    ∃ d A c B k a1 a2 a3, v = .agg #[.slice A (Dk.n d) c, .slice B d.m k, .int .i64 d.fuse, .bool d.off, .int .i64 a1, .int .i64 a2, .int .u32 (V32 a3)] ∧ DOk W A c B k d ∧ d.m * 24 ≤ 140737488351232 ∧ -9223372036854775808 ≤ a1 ∧ a1 ≤ 9223372036854775807 ∧ -9223372036854775808 ≤ a2 ∧ a2 ≤ 9223372036854775807 := by
  obtain ⟨cs, rfl, hsz⟩ := okWide_struct Try.underlying64 hv
  have hsz := hsz.trans cellsTwiceIn
  obtain ⟨l⟩ := cs
  match l, hsz with
  | [c0, c1, c2, c3, c4, c5, c6], _ =>
    obtain ⟨fuel, hf⟩ := h
    obtain ⟨xs, n, _, hx, hl, hlen, hf⟩ := DataW.trod_struct Try.underlying64 hf
    match xs, hlen with
    | [y0, y1, y2, y3], _ =>
      simp only [Prod.mk.injEq] at hx
      have hx1 : x = .agg [y0.1, y1.1, y2.1, y3.1] := by rw [hx.1]; rfl
      rw [hx1] at hw
      have g0 := hf 0 _ rfl
      have g1 := hf 1 _ rfl
      have g2 := hf 2 _ rfl
      have g3 := hf 3 _ rfl
      simp [cellsDisk, cellsInt, cellsU32, Value.cells] at g0 g1 g2 g3
      obtain ⟨d, A, c, B, k, rfl, rfl, rfl, rfl, ok0, bm0⟩ := core_disk g0 (wt_field Try.underlying64 hw (j := 0) rfl rfl)
      obtain ⟨a1, rfl, l1, h1⟩ := core_i64 g1
      obtain ⟨a2, rfl, l2, h2⟩ := core_i64 g2
      obtain ⟨a3, rfl⟩ := core_u32 g3
      exact ⟨d, A, c, B, k, a1, a2, a3, rfl, ok0, bm0, l1, h1, l2, h2⟩
end Go.Proofs.Ytefppiplkmhdmaa.Mat
