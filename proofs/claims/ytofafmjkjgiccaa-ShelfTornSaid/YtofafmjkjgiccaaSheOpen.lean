/- How disks, shards and keys among the laws' arguments lie in memory. -/
import Derived.Test.YtofafmjkjgiccaaSheLawG
import Derived.Test.YtofafmjkjgiccaaCelDsg
import Derived.ShutString
import Derived.JoinedCond
import Derived.Deep.CondSized
namespace Go.Proofs.Ytofafmjkjgiccaa.Mat
open Go.ChangeShapes Go.WideShapes Go.ChangeAt Go.RowKit Go.Deep Fld
open Go.ChangeMaps (open_string shut_string)

theorem cellsShard : Try.prog.cellsOf 23 = 3 := by kernel_rfl
theorem cellsKey : Try.prog.cellsOf 41 = 2 := by kernel_rfl
theorem cellsShards : Try.prog.cellsOf 60 = 1 := by kernel_rfl
theorem bytesShard : Try.prog.bytesOf 23 = 32 := by kernel_rfl
theorem cellsShLastsIn : Try.prog.cellsOf 62 = 10 := by kernel_rfl
theorem m_one {m : Nat} (h : m * 24 ≤ 140737488351232) : (m + 1) * 24 ≤ 140737488355328 := by omega
theorem bulk_one {H : Type} (d : DataW H) : 1 ≤ Rows.uptoBulk d := by
  cases d with
  | lit l => cases l <;> simp [Rows.uptoBulk]
  | nil => simp [Rows.uptoBulk]
  | ptr d => simp [Rows.uptoBulk]
  | slice l sp => simp [Rows.uptoBulk]
  | agg l => simp [Rows.uptoBulk]
  | iface t d => simp [Rows.uptoBulk]
  | map l => simp [Rows.uptoBulk]
  | held h => simp [Rows.uptoBulk]
theorem bulk_len {H : Type} : ∀ l : List (DataW H), l.length ≤ Rows.uptoBulkAll l
  | [] => Nat.zero_le _
  | x :: l => by
    have := bulk_len l
    have := bulk_one x
    simp only [List.length_cons, Rows.uptoBulkAll]
    omega
theorem bulk_slice {H : Type} (l sp : List (DataW H)) : l.length ≤ Rows.uptoBulk (.slice l sp) := by
  have := bulk_len l
  simp only [Rows.uptoBulk]
  omega
section
variable {H : Type} {enc : TypeId × Value → H} {W : World} {v : Value} {fuel : Nat} {x : DataW H × List MemPlace} {A B : Option Addr} {n m c k : Nat}
theorem count_strs (h : DataW.trod enc Try.prog W 0 (fun _ => true) true fuel 36 [.slice A n c] = some x) : n ≤ Rows.uptoBulk x.1 := by
  rcases open_strs Try.underlying36 Try.underlying9 cellsStr h with ⟨hcs, _⟩ | ⟨a, len, cap, m, Sx, hcs, _, hl, hm, hmm, rfl, hc⟩
  · simp at hcs
    omega
  · simp at hcs
    have := bulk_slice (H := H) ((List.range len).map fun i => .lit (.string (Sx i).data.toList)) ((List.range (m - len)).map fun j => .lit (.string (Sx (len + j)).data.toList))
    rw [List.length_map, List.length_range] at this
    obtain ⟨_, h2, _⟩ := hcs
    rw [h2]
    exact this
theorem count_writes (h : DataW.trod enc Try.prog W 0 (fun _ => true) true fuel 37 [.slice A n c] = some x) : n ≤ Rows.uptoBulk x.1 := by
  rcases open_slice_pairs Try.underlying37 Try.underlying102 cellsWrite rfl rfl cellsInt cellsStr h with ⟨hcs, _⟩ | ⟨a, len, cap, m, n, V0, V1, D0, D1, P0, P1, hcs, _, hl, hm, hmm, rfl, hc⟩
  · simp at hcs
    omega
  · simp at hcs
    have := bulk_slice (H := H) ((List.range len).map fun i => .agg [D0 i, D1 i]) ((List.range (m - len)).map fun j => .agg [D0 (len + j), D1 (len + j)])
    rw [List.length_map, List.length_range] at this
    obtain ⟨_, h2, _⟩ := hcs
    rw [h2]
    exact this
theorem count_disk {c2 c3 : Value} (h : DataW.trod enc Try.prog W 0 (fun _ => true) true fuel 39 [.slice A n c, .slice B m k, c2, c3] = some x) : n + m ≤ Rows.uptoBulk x.1 := by
  obtain ⟨xs, n', _, hx, hl, hlen, hf⟩ := DataW.trod_struct Try.underlying39 h
  match xs, hlen with
  | [y0, y1, y2, y3], _ =>
    have hx1 : x.1 = .agg [y0.1, y1.1, y2.1, y3.1] := by rw [hx]; rfl
    have g0 := hf 0 _ rfl
    have g1 := hf 1 _ rfl
    simp [cellsStrs, cellsWrites] at g0 g1
    have := count_strs g0
    have := count_writes g1
    rw [hx1]
    simp only [Rows.uptoBulk, Rows.uptoBulkAll]
    omega
theorem core_shard {c0 c1 c2 : Value} (h : DataW.trod enc Try.prog W 0 (fun _ => true) true fuel 23 [c0, c1, c2] = some x) (hw : Wt Try.prog 23 x.1) :
    ∃ (a b : Int) (s : ByteArray), c0 = .int .i64 a ∧ c1 = .int .i64 b ∧ c2 = .string s ∧ s.size ≤ 140737488351232 := by
  obtain ⟨xs, n, _, hx, hl, hlen, hf⟩ := DataW.trod_struct Try.underlying23 h
  match xs, hlen with
  | [y0, y1, y2], _ =>
    have hx1 : x.1 = .agg [y0.1, y1.1, y2.1] := by rw [hx]; rfl
    rw [hx1] at hw
    have g0 := hf 0 _ rfl
    have g1 := hf 1 _ rfl
    have g2 := hf 2 _ rfl
    simp [cellsInt, cellsStr] at g0 g1 g2
    obtain ⟨a, rfl, _, _⟩ := core_i64 g0
    obtain ⟨b, rfl, _, _⟩ := core_i64 g1
    obtain ⟨s, rfl, z⟩ := core_str g2 (wt_field Try.underlying23 hw (j := 2) rfl rfl)
    exact ⟨a, b, s, rfl, rfl, rfl, z⟩
theorem core_key {c0 c1 : Value} (h : DataW.trod enc Try.prog W 0 (fun _ => true) true fuel 41 [c0, c1] = some x) : ∃ a b : Int, c0 = .int .i64 a ∧ c1 = .int .i64 b := by
  obtain ⟨xs, n, _, hx, hl, hlen, hf⟩ := DataW.trod_struct Try.underlying41 h
  match xs, hlen with
  | [y0, y1], _ =>
    have g0 := hf 0 _ rfl
    have g1 := hf 1 _ rfl
    simp [cellsInt] at g0 g1
    obtain ⟨a, rfl, _, _⟩ := core_i64 g0
    obtain ⟨b, rfl, _, _⟩ := core_i64 g1
    exact ⟨a, b, rfl, rfl⟩
theorem core_shards (h : DataW.trod enc Try.prog W 0 (fun _ => true) true fuel 60 [v] = some x) (hw : Wt Try.prog 60 x.1) :
    ∃ A n cap V I X, v = .slice A n cap ∧ n * 32 ≤ 140737488351232 ∧ (∀ r, r < n → (X r : ByteArray).size ≤ 140737488351232) ∧ Lr W W.heap.size A n V I X := by
  rcases open_slice Try.underlying60 h with ⟨hcs, _⟩ | ⟨a, len, cap, m, n, D, Pl, hcs, _, hl, hm, hmm, rfl, hx⟩
  · simp at hcs
    subst hcs
    exact ⟨none, 0, 0, fun _ => 0, fun _ => 0, fun _ => ByteArray.empty, rfl, by omega, fun r hr => absurd hr (by omega), fun h => absurd h (by omega)⟩
  · simp at hcs
    subst hcs
    simp only [if_true] at hmm
    subst hmm
    have hct := wt_count Try.underlying60 hw
    rw [bytesShard, List.length_map, List.length_map, List.length_range, List.length_range] at hct
    have each : ∀ r, r < len → ∃ q : Int × Int × ByteArray, W.cell? (a.add (r * 3)) = some (.int .i64 q.1) ∧ W.cell? (a.add (r * 3 + 1)) = some (.int .i64 q.2.1) ∧ W.cell? (a.add (r * 3 + 2)) = some (.string q.2.2) ∧ q.2.2.size ≤ 140737488351232 := fun r hr => by
      obtain ⟨cs', h1, h2⟩ := hx r (by omega)
      rw [cellsShard] at h1
      obtain ⟨_, hlen, hcell⟩ := World.cells?_some h1
      match cs', hlen with
      | [v0, v1, v2], _ =>
        have hd := wt_elem Try.underlying60 hw (d := D r) (List.mem_map.2 ⟨r, List.mem_range.2 hr, rfl⟩)
        obtain ⟨p, q, s, rfl, rfl, rfl, z⟩ := core_shard h2 hd
        have e0 := hcell 0 (by omega)
        have e1 := hcell 1 (by omega)
        have e2 := hcell 2 (by omega)
        rw [add_add] at e0 e1 e2
        exact ⟨(p, q, s), by simpa using e0, by simpa using e1, by simpa using e2, z⟩
    obtain ⟨Q, hQ⟩ := choose_lt each
    refine ⟨some a, len, m, fun r => (Q r).1, fun r => (Q r).2.1, fun r => (Q r).2.2, rfl, by omega, fun r hr => (hQ r hr).2.2.2, fun hn => ⟨a, rfl, ?_, fun r hr => ⟨(hQ r hr).1, (hQ r hr).2.1, (hQ r hr).2.2.1⟩⟩⟩
    have := World.block_lt_of_cell? W _ (hQ 0 (by omega)).1
    rwa [block_of_add] at this
end
section
variable {H : Type} {enc : TypeId × Value → H} {W : World} {v : Value} {y : DataW H} {p : List MemPlace} {r : Reach} {b0 : Nat}
set_option maxRecDepth 100000 in
theorem openDisk (hv : Value.okWide Try.prog W r b0 39 v) (h : DataW.Trod enc Try.prog W 0 (fun _ => true) true 39 v y p) (hw : Wt Try.prog 39 y) :
    ∃ d A c B k, v = .agg #[.slice A (Dk.n d) c, .slice B d.m k, .int .i64 d.fuse, .bool d.off] ∧ DOk W A c B k d ∧ d.m * 24 ≤ 140737488351232 ∧ d.n + d.m ≤ Rows.uptoBulk y := by
  obtain ⟨cs, rfl, hsz⟩ := okWide_struct Try.underlying39 hv
  have hsz := hsz.trans cellsDisk
  obtain ⟨l⟩ := cs
  match l, hsz with
  | [c0, c1, c2, c3], _ =>
    obtain ⟨fuel, hf⟩ := h
    have hf2 : DataW.trod enc Try.prog W 0 (fun _ => true) true fuel 39 [c0, c1, c2, c3] = some (y, p) := hf
    obtain ⟨d, A, c, B, k, rfl, rfl, rfl, rfl, ok, hm⟩ := core_disk hf2 hw
    exact ⟨d, A, c, B, k, rfl, ok, hm, count_disk hf2⟩
set_option maxRecDepth 100000 in
theorem openShard (hv : Value.okWide Try.prog W r b0 23 v) (h : DataW.Trod enc Try.prog W 0 (fun _ => true) true 23 v y p) (hw : Wt Try.prog 23 y) :
    ∃ (a b : Int) (s : ByteArray), v = .agg #[.int .i64 a, .int .i64 b, .string s] ∧ s.size ≤ 140737488351232 := by
  obtain ⟨cs, rfl, hsz⟩ := okWide_struct Try.underlying23 hv
  have hsz := hsz.trans cellsShard
  obtain ⟨l⟩ := cs
  match l, hsz with
  | [c0, c1, c2], _ =>
    obtain ⟨fuel, hf⟩ := h
    have hf2 : DataW.trod enc Try.prog W 0 (fun _ => true) true fuel 23 [c0, c1, c2] = some (y, p) := hf
    obtain ⟨a, b, s, rfl, rfl, rfl, z⟩ := core_shard hf2 hw
    exact ⟨a, b, s, rfl, z⟩
set_option maxRecDepth 100000 in
theorem openKey (hv : Value.okWide Try.prog W r b0 41 v) (h : DataW.Trod enc Try.prog W 0 (fun _ => true) true 41 v y p) : ∃ a b : Int, v = .agg #[.int .i64 a, .int .i64 b] := by
  obtain ⟨cs, rfl, hsz⟩ := okWide_struct Try.underlying41 hv
  have hsz := hsz.trans cellsKey
  obtain ⟨l⟩ := cs
  match l, hsz with
  | [c0, c1], _ =>
    obtain ⟨fuel, hf⟩ := h
    have hf2 : DataW.trod enc Try.prog W 0 (fun _ => true) true fuel 41 [c0, c1] = some (y, p) := hf
    obtain ⟨a, b, rfl, rfl⟩ := core_key hf2
    exact ⟨a, b, rfl⟩
set_option maxRecDepth 100000 in
theorem openShLasts (hv : Value.okWide Try.prog W r b0 62 v) (h : DataW.Trod enc Try.prog W 0 (fun _ => true) true 62 v y p) (hw : Wt Try.prog 62 y) :
    ∃ d A c B k a1 a2 a3 C ln lc V I X a5 a6, v = .agg #[.slice A (Dk.n d) c, .slice B d.m k, .int .i64 d.fuse, .bool d.off, .int .i64 a1, .int .i64 a2, .string a3, .slice C ln lc, .int .i64 a5, .int .i64 a6] ∧ DOk W A c B k d ∧ d.m * 24 ≤ 140737488351232 ∧ a3.size ≤ 140737488351232 ∧ ln * 32 ≤ 140737488351232 ∧ (∀ r, r < ln → (X r).size ≤ 140737488351232) ∧ Lr W W.heap.size C ln V I X := by
  obtain ⟨cs, rfl, hsz⟩ := okWide_struct Try.underlying62 hv
  have hsz := hsz.trans cellsShLastsIn
  obtain ⟨l⟩ := cs
  match l, hsz with
  | [c0, c1, c2, c3, c4, c5, c6, c7, c8, c9], _ =>
    obtain ⟨fuel, hf⟩ := h
    obtain ⟨xs, n, _, hx, hl, hlen, hf⟩ := DataW.trod_struct Try.underlying62 hf
    match xs, hlen with
    | [y0, y1, y2, y3, y4], _ =>
      simp only [Prod.mk.injEq] at hx
      have hx1 : y = .agg [y0.1, y1.1, y2.1, y3.1, y4.1] := by rw [hx.1]; rfl
      rw [hx1] at hw
      have g0 := hf 0 _ rfl
      have g1 := hf 1 _ rfl
      have g2 := hf 2 _ rfl
      have g3 := hf 3 _ rfl
      have g4 := hf 4 _ rfl
      simp [cellsDisk, cellsShard, cellsShards, cellsInt, Value.cells] at g0 g1 g2 g3 g4
      obtain ⟨d, A, c, B, k, rfl, rfl, rfl, rfl, ok0, bm0⟩ := core_disk g0 (wt_field Try.underlying62 hw (j := 0) rfl rfl)
      obtain ⟨a1, a2, a3, rfl, rfl, rfl, z1⟩ := core_shard g1 (wt_field Try.underlying62 hw (j := 1) rfl rfl)
      obtain ⟨C, ln, lc, V, I, X, rfl, bl2, zl2, pl2⟩ := core_shards g2 (wt_field Try.underlying62 hw (j := 2) rfl rfl)
      obtain ⟨a5, rfl, _, _⟩ := core_i64 g3
      obtain ⟨a6, rfl, _, _⟩ := core_i64 g4
      exact ⟨d, A, c, B, k, a1, a2, a3, C, ln, lc, V, I, X, a5, a6, rfl, ok0, bm0, z1, bl2, zl2, pl2⟩
theorem bulk_three {d0 d1 d2 : DataW H} (h : Rows.uptoSmall H ([d0, d1, d2] ++ []) = true) : Rows.uptoBulk d0 ≤ 1048576 := by
  have := of_decide_eq_true h
  simp only [List.append_nil, Rows.uptoBulkAll] at this
  omega
theorem drop_size {n m b : Nat} (h : n + m ≤ b) (hb : b ≤ 1048576) : (m + n + 1) * 24 ≤ 140737488355328 := Nat.le_trans (Nat.mul_le_mul_right 24 (show m + n + 1 ≤ 1048577 by omega)) (by decide)
end
end Go.Proofs.Ytofafmjkjgiccaa.Mat
