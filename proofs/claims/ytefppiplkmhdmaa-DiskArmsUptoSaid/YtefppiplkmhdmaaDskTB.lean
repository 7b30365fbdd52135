/- Proved here, from the walks: the law DiskArms of layer 8 returns true and leaves its arguments as they were, at every input that holds at most 1048576 values and letters together (its second form). Condition: that bound, for the writes that wait and those that come are put into one slice, which beyond 2^48 bytes Go refuses; and the form's own reach. -/
import Derived.Test.YtefppiplkmhdmaaDskOpen
import Derived.JoinedCond
import Derived.Deep.CondSized
namespace Go.Proofs.Ytefppiplkmhdmaa.Mat
open Go.ChangeShapes Go.WideShapes Go.ChangeAt Go.RowKit Go.Deep
open Go.ChangeMaps (open_string shut_string)

theorem bulk_one {H : Type} (d : DataW H) : 1 ≤ Rows.uptoBulk d := by
  cases d with
  | lit l => cases l <;> simp [Rows.uptoBulk]
  | nil => simp [Rows.uptoBulk]
  | ptr d => simp [Rows.uptoBulk]
  | slice l sp => simp [Rows.uptoBulk]
  | agg l => simp [Rows.uptoBulk]
  | iface t d => simp [Rows.uptoBulk]
  | map l => simp [Rows.uptoBulk]
  | held h => simp [Rows.uptoBulk]
theorem bulk_len {H : Type} : ∀ l : List (DataW H), l.length ≤ Rows.uptoBulkAll l
  | [] => Nat.zero_le _
  | x :: l => by
    have := bulk_len l
    have := bulk_one x
    simp only [List.length_cons, Rows.uptoBulkAll]
    omega
theorem bulk_slice {H : Type} (l sp : List (DataW H)) : l.length ≤ Rows.uptoBulk (.slice l sp) := by
  have := bulk_len l
  simp only [Rows.uptoBulk]
  omega
section
variable {H : Type} {enc : TypeId × Value → H} {W : World} {fuel : Nat} {x : DataW H × List MemPlace} {A B : Option Addr} {n m c k : Nat}
theorem count_strs (h : DataW.trod enc Try.prog W 0 (fun _ => true) true fuel 22 [.slice A n c] = some x) : n ≤ Rows.uptoBulk x.1 := by
  rcases open_strs Try.underlying22 Try.underlying9 cellsStr h with ⟨hcs, _⟩ | ⟨a, len, cap, m, Sx, hcs, _, hl, hm, hmm, rfl, hc⟩
  · simp at hcs
    omega
  · simp at hcs
    have := bulk_slice (H := H) ((List.range len).map fun i => .lit (.string (Sx i).data.toList)) ((List.range (m - len)).map fun j => .lit (.string (Sx (len + j)).data.toList))
    rw [List.length_map, List.length_range] at this
    obtain ⟨_, h2, _⟩ := hcs
    rw [h2]
    exact this
theorem count_writes (h : DataW.trod enc Try.prog W 0 (fun _ => true) true fuel 23 [.slice A n c] = some x) : n ≤ Rows.uptoBulk x.1 := by
  rcases open_slice_pairs Try.underlying23 Try.underlying55 cellsWrite rfl rfl cellsInt cellsStr h with ⟨hcs, _⟩ | ⟨a, len, cap, m, n, V0, V1, D0, D1, P0, P1, hcs, _, hl, hm, hmm, rfl, hc⟩
  · simp at hcs
    omega
  · simp at hcs
    have := bulk_slice (H := H) ((List.range len).map fun i => .agg [D0 i, D1 i]) ((List.range (m - len)).map fun j => .agg [D0 (len + j), D1 (len + j)])
    rw [List.length_map, List.length_range] at this
    obtain ⟨_, h2, _⟩ := hcs
    rw [h2]
    exact this
theorem count_disk {c0 c2 c3 : Value} (h : DataW.trod enc Try.prog W 0 (fun _ => true) true fuel 25 [c0, .slice B m k, c2, c3] = some x) : m ≤ Rows.uptoBulk x.1 := by
  obtain ⟨xs, n, _, hx, hl, hlen, hf⟩ := DataW.trod_struct Try.underlying25 h
  match xs, hlen with
  | [y0, y1, y2, y3], _ =>
    have hx1 : x.1 = .agg [y0.1, y1.1, y2.1, y3.1] := by rw [hx]; rfl
    have g1 := hf 1 _ rfl
    simp [cellsWrites] at g1
    have := count_writes g1
    rw [hx1]
    simp only [Rows.uptoBulk, Rows.uptoBulkAll]
    omega
theorem openDisk {v : Value} {y : DataW H} {p : List MemPlace} {r : Reach} {b0 : Nat} (hv : Value.okWide Try.prog W r b0 25 v) (h : DataW.Trod enc Try.prog W 0 (fun _ => true) true 25 v y p) (hw : Wt Try.prog 25 y) :
    ∃ d A c B k, v = .agg #[.slice A (Dk.n d) c, .slice B d.m k, .int .i64 d.fuse, .bool d.off] ∧ DOk W A c B k d ∧ d.m ≤ Rows.uptoBulk y := by
  obtain ⟨cs, rfl, hsz⟩ := okWide_struct Try.underlying25 hv
  have hsz := hsz.trans cellsDisk
  obtain ⟨l⟩ := cs
  match l, hsz with
  | [c0, c1, c2, c3], _ =>
    obtain ⟨fuel, hf⟩ := h
    have hf2 : DataW.trod enc Try.prog W 0 (fun _ => true) true fuel 25 [c0, c1, c2, c3] = some (y, p) := hf
    obtain ⟨d, A, c, B, k, rfl, rfl, rfl, rfl, ok, _⟩ := core_disk hf2 hw
    exact ⟨d, A, c, B, k, rfl, ok, count_disk hf2⟩
theorem openStrs {v : Value} {y : DataW H} {p : List MemPlace} {r : Reach} {b0 : Nat} (hv : Value.okWide Try.prog W r b0 22 v) (h : DataW.Trod enc Try.prog W 0 (fun _ => true) true 22 v y p) (hw : Wt Try.prog 22 y) :
    ∃ A n c S, v = .slice A n c ∧ (∀ i, i < n → (S i).size ≤ 140737488351232) ∧ St W W.heap.size A n S ∧ n ≤ Rows.uptoBulk y := by
  obtain ⟨a0, len, cap, rfl⟩ := okWide_slice Try.underlying22 hv
  obtain ⟨fuel, hf⟩ := h
  have hf2 : DataW.trod enc Try.prog W 0 (fun _ => true) true fuel 22 [.slice a0 len cap] = some (y, p) := hf
  have hc := count_strs hf2
  obtain ⟨A, n, c, S, e, _, _, z, s⟩ := core_strs hf2 hw
  injection e with e1 e2 e3
  subst e1 e2 e3
  exact ⟨a0, len, cap, S, rfl, z, s, hc⟩
theorem arms_size {a b e n : Nat} (h : a + (b + (e + 0)) ≤ 1048576) (h0 : m ≤ a) (h1 : n ≤ e) : (m + n + 1) * 24 ≤ 140737488355328 := by
  have h2 : m + n + 1 ≤ 1048577 := by omega
  exact Nat.le_trans (Nat.mul_le_mul_right 24 h2) (by decide)
theorem bulk_three {d0 d1 d2 : DataW H} (h : Rows.uptoSmall H ([d0, d1, d2] ++ []) = true) : Rows.uptoBulk d0 + (Rows.uptoBulk d1 + (Rows.uptoBulk d2 + 0)) ≤ 1048576 := of_decide_eq_true h
end

set_option maxRecDepth 100000 in
theorem liftedDiskArms (os : Os) (started : os.Started) (H : Type) (enc : TypeId × Value → H) (F : Stop.Interp) :
    ReturnsInHanded {} Try.checked os 9 .any ((Rows.OpenSpec.upto Rows.diskArmsSpec).pre6 enc Try.prog Try.f9 Rows.diskArmsUptoRow.domain false) (((Rows.OpenSpec.upto Rows.diskArmsSpec).at F).post enc Try.prog Try.f9 false true false false) := by
  refine returnsInHanded_of_cond_sized (C := Try.checked) (s := Rows.OpenSpec.upto Rows.diskArmsSpec) (k := Rows.uptoSmall) rfl own started (by kernel_rfl) Try.func9
    (OpenSpec.witness (enc := enc) (C := Try.checked) (s := Rows.OpenSpec.upto Rows.diskArmsSpec) (k := Rows.uptoSmall) rfl false ⟨#[], #[.agg #[.slice none 0 0, .slice none 0 0, .int .i64 0, .bool false], .int .i64 0, .slice none 0 0], []⟩ 8 (by kernel_rfl) (by kernel_rfl) (by kernel_rfl)
      (x := ([.agg [.nil, .nil, .lit (.int .i64 0), .lit (.bool false)], .lit (.int .i64 0), .nil], [], [])) (by kernel_rfl) rfl (by kernel_rfl)) ?_
  intro W base args ds gs before hval0 hW _hcnd hk hsz0 _
  have hval : ∀ (j : Nat) t v, Try.f9.params[j]? = some t → args[j]? = some v → Value.okWide Try.prog W .any base t v := hval0
  have hsz : (DataW.weightsEach Try.prog (Try.f9.params.toList ++ Rows.diskArmsSpec.plain.varTypes Try.prog) (ds ++ gs)).all (· ≤ reachBytes) = true := hsz0
  have hW' := hW
  obtain ⟨p, q, hA0, hV, rfl, hfz, hnd⟩ := hW
  have hA : DataW.TrodAll enc Try.prog W 0 (fun _ => true) true Try.f9.params.toList args.toList ds p := hA0
  rw [Try.params9] at hA hval hsz
  obtain ⟨v0, vs0, d0, ds0, p0, q0, hargs, rfl, rfl, h0, r0⟩ := trodAll_cons hA
  obtain ⟨v1, vs1, d1, ds1, p1, q1, rfl, rfl, rfl, h1, r1⟩ := trodAll_cons r0
  obtain ⟨v2, vs2, d2, ds2, p2, q2, rfl, rfl, rfl, h2, r2⟩ := trodAll_cons r1
  obtain ⟨rfl, rfl, rfl⟩ := trodAll_nil r2
  obtain rfl : args = #[v0, v1, v2] := by cases args; simp_all
  obtain ⟨rfl, rfl⟩ := trodVars_none hV
  have k0 := h0
  have lt0 : ∀ x ∈ p0, x.block < W.heap.size := by obtain ⟨m, hm⟩ := k0; exact DataW.trod_lt m _ _ _ hm
  have k2 := h2
  have lt2 : ∀ x ∈ p2, x.block < W.heap.size := by obtain ⟨m, hm⟩ := k2; exact DataW.trod_lt m _ _ _ hm
  have hw0 := wt_arg hsz (j := 0) rfl rfl
  have hw2 := wt_arg hsz (j := 2) rfl rfl
  have hbk := bulk_three hk
  obtain ⟨d, A, c, B, k, rfl, ok, hdm⟩ := openDisk (hval 0 25 v0 rfl rfl) h0 hw0
  obtain ⟨a1, rfl, rfl, rfl, w1⟩ := open_int Try.underlying3 (hval 1 3 v1 rfl rfl) h1
  obtain ⟨lo1, hi1⟩ := bounds_i64 w1
  obtain ⟨C, ln, lc, T, rfl, hz, hst, hln⟩ := openStrs (hval 2 22 v2 rfl rfl) h2 hw2
  clear hA0 hval0
  refine (lawArms ok hst (arms_size hbk hdm hln) hz a1 lo1 hi1).mono fun e W' ⟨he, bel⟩ => ?_
  subst he
  exact ⟨_, rfl, _, _, _, [], _, [], hW', trodAll_mk1 (shut_bool Try.underlying4 _), (trodAll_cons_mk (Below.trod laidOut (by kernel_rfl) (of_decide_eq_true (by kernel_rfl)) k0 bel lt0) (trodAll_cons_mk (shut_int Try.underlying3 w1) (trodAll_cons_mk (Below.trod laidOut (by kernel_rfl) (of_decide_eq_true (by kernel_rfl)) k2 bel lt2) trodAll_mk0))), rfl, bel.frame _, fun h => by cases h⟩

/-- THE STATEMENT -/
theorem holdsDiskArms : Rows.DiskArmsUptoSaid :=
  OpenClaim.holds_of_cond 9 Try.f9 rfl rfl rfl rfl rfl rfl rfl ⟨rfl, rfl, rfl, rfl, rfl⟩ rfl rfl rfl rfl rfl (by kernel_rfl) Try.func9 (by kernel_rfl)
    (of_decide_eq_true (by kernel_rfl)) (by unfold Func.isWrapper; first | (rw [if_pos (by decide +kernel)]; kernel_rfl) | (rw [if_neg (by decide +kernel)]; exact ⟨rfl, rfl⟩))
    (fun os started H enc _ F => liftedDiskArms os started H enc F)
end Go.Proofs.Ytefppiplkmhdmaa.Mat
