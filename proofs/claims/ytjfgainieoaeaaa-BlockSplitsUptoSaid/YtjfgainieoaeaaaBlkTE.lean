/- Proved here, from the walks: the law BlockSplits of layer 6 returns true and leaves its argument as it was, at every input that holds at most 1048576 values and letters together (its second form). Condition: that bound, for the document's own Join puts all pieces together, which beyond 2^48 bytes no slice bears; and the form's own reach. -/
import Derived.Test.YtjfgainieoaeaaaBlkOpen
import Derived.JoinedCond
import Derived.Deep.CondSized
namespace Go.Proofs.Ytjfgainieoaeaaa.Mat
open Go.ChangeShapes Go.WideShapes Go.ChangeAt Go.RowKit Go.Deep
open Go.ChangeMaps (open_string shut_string)
open Go.Joins (open_agg4)

theorem bulk_append {H : Type} (l r : List (DataW H)) : Rows.uptoBulkAll (l ++ r) = Rows.uptoBulkAll l + Rows.uptoBulkAll r := by
  induction l with
  | nil => simp [Rows.uptoBulkAll]
  | cons x l ih => simp only [List.cons_append, Rows.uptoBulkAll, ih]; omega
theorem bulk_texts {H : Type} (S : Nat → ByteArray) (n : Nat) : tot S n ≤ Rows.uptoBulkAll ((List.range n).map fun i => (DataW.lit (.string (S i).data.toList) : DataW H)) := by
  induction n with
  | zero => exact Nat.zero_le _
  | succ n ih =>
    rw [List.range_succ, List.map_append, bulk_append, tot_succ]
    have e : (S n).data.toList.length = (S n).size := by rw [Array.length_toList]; rfl
    simp only [List.map_cons, List.map_nil, Rows.uptoBulkAll, Rows.uptoBulk, e]
    omega
section
variable {H : Type} {enc : TypeId × Value → H} {W : World} {v : Value} {fuel : Nat} {x : DataW H × List MemPlace}
/-- texts, and how many bytes they have together -/
theorem core_strs_tot (h : DataW.trod enc Try.prog W 0 (fun _ => true) true fuel 22 [v] = some x) :
    ∃ A n cap S, v = .slice A n cap ∧ n ≤ 9223372036854775807 ∧ tot S n ≤ Rows.uptoBulk x.1 ∧ St W W.heap.size A n S := by
  rcases open_strs Try.underlying22 Try.underlying9 cellsStr h with ⟨hcs, _⟩ | ⟨a, len, cap, m, Sx, hcs, _, hl, hm, hmm, rfl, hc⟩
  · simp at hcs
    subst hcs
    exact ⟨none, 0, 0, fun _ => ByteArray.empty, rfl, by omega, Nat.zero_le _, fun h => absurd h (by omega)⟩
  · simp at hcs
    subst hcs
    simp only [if_true] at hmm
    subst hmm
    refine ⟨some a, len, m, Sx, rfl, by rw [maxLen_num] at hm; omega, ?_, fun hn => ⟨a, rfl, ?_, fun r hr => (hc r (by omega)).1⟩⟩
    · have := bulk_texts (H := H) Sx len
      simp only [Rows.uptoBulk]
      omega
    · have := World.block_lt_of_cell? W _ (hc 0 (by omega)).1
      rwa [block_of_add] at this
theorem bulk_field {d0 d1 d2 d3 : DataW H} (h : Rows.uptoSmall H ([.agg [d0, d1, d2, d3]] ++ []) = true) : Rows.uptoBulk d2 ≤ 1048576 := by
  have h : Rows.uptoBulkAll ([DataW.agg [d0, d1, d2, d3]] ++ []) ≤ 1048576 := of_decide_eq_true h
  rw [bulk_append] at h
  simp only [Rows.uptoBulkAll, Rows.uptoBulk] at h
  omega
end

set_option maxRecDepth 100000 in
theorem liftedBlockSplits (os : Os) (started : os.Started) (H : Type) (enc : TypeId × Value → H) (F : Stop.Interp) :
    ReturnsInHanded {} Try.checked os 3 .any ((Rows.OpenSpec.upto Rows.blockSplitsSpec).pre6 enc Try.prog Try.f3 Rows.blockSplitsUptoRow.domain false) (((Rows.OpenSpec.upto Rows.blockSplitsSpec).at F).post enc Try.prog Try.f3 false true false false) := by
  refine returnsInHanded_of_cond_sized (C := Try.checked) (s := Rows.OpenSpec.upto Rows.blockSplitsSpec) (k := Rows.uptoSmall) rfl own started (by kernel_rfl) Try.func3
    (OpenSpec.witness (enc := enc) (C := Try.checked) (s := Rows.OpenSpec.upto Rows.blockSplitsSpec) (k := Rows.uptoSmall) rfl false ⟨#[], #[.agg #[.string ByteArray.empty, .int .i64 0, .slice none 0 0, .int .i64 0]], []⟩ 8 (by kernel_rfl) (by kernel_rfl) (by kernel_rfl)
      (x := ([.agg [.lit (.string []), .lit (.int .i64 0), .nil, .lit (.int .i64 0)]], [], [])) (by kernel_rfl) rfl (by kernel_rfl)) ?_
  intro W base args ds gs before hval0 hW _hcnd hk hsz0 _
  have hval : ∀ (j : Nat) t v, Try.f3.params[j]? = some t → args[j]? = some v → Value.okWide Try.prog W .any base t v := hval0
  have hsz : (DataW.weightsEach Try.prog (Try.f3.params.toList ++ Rows.blockSplitsSpec.plain.varTypes Try.prog) (ds ++ gs)).all (· ≤ reachBytes) = true := hsz0
  have hW' := hW
  obtain ⟨p, q, hA0, hV, rfl, hfz, hnd⟩ := hW
  have hA : DataW.TrodAll enc Try.prog W 0 (fun _ => true) true Try.f3.params.toList args.toList ds p := hA0
  rw [Try.params3] at hA hval hsz
  obtain ⟨v0, vs0, d0, ds0, p0, q0, hargs, rfl, rfl, h0, r0⟩ := trodAll_cons hA
  obtain ⟨rfl, rfl, rfl⟩ := trodAll_nil r0
  obtain rfl : args = #[v0] := by cases args; simp_all
  obtain ⟨rfl, rfl⟩ := trodVars_none hV
  have k0 := h0
  have lt0 : ∀ x ∈ p0, x.block < W.heap.size := by obtain ⟨m, hm⟩ := k0; exact DataW.trod_lt m _ _ _ hm
  have hw0 := wt_arg hsz (j := 0) rfl rfl
  obtain ⟨c0_0, c0_1, c0_2, c0_3, y0_0, y0_1, y0_2, y0_3, m0, rfl, rfl, rfl, g0_0, g0_1, g0_2, g0_3⟩ := open_agg4 Try.underlying24 (by kernel_rfl) (by kernel_rfl) (hval 0 24 v0 rfl rfl) h0
  have hbk := bulk_field hk
  obtain ⟨a0_0, rfl, z0_0⟩ := core_str g0_0 (wt_field Try.underlying24 hw0 (j := 0) rfl rfl)
  obtain ⟨a0_1, e0_1, u0_1, w0_1⟩ := DataW.trod_int Try.underlying3 g0_1
  simp at e0_1
  subst e0_1
  obtain ⟨lo0_1, hi0_1⟩ := bounds_i64 w0_1
  obtain ⟨A0_2, n0_2, cap0_2, f0_2, rfl, hn0_2, ht0_2, mm0_2⟩ := core_strs_tot g0_2
  obtain ⟨a0_3, e0_3, u0_3, w0_3⟩ := DataW.trod_int Try.underlying3 g0_3
  simp at e0_3
  subst e0_3
  obtain ⟨lo0_3, hi0_3⟩ := bounds_i64 w0_3
  clear hA0 hval0
  refine (lawSplits a0_0 a0_1 A0_2 n0_2 cap0_2 f0_2 a0_3 lo0_1 hi0_1 hn0_2 (by omega) mm0_2 lo0_3 hi0_3).mono fun e W' ⟨he, bel⟩ => ?_
  subst he
  exact ⟨_, rfl, _, _, _, [], _, [], hW', trodAll_mk1 (shut_bool Try.underlying4 _), (trodAll_cons_mk (Below.trod laidOut (by kernel_rfl) (of_decide_eq_true (by kernel_rfl)) k0 bel lt0) trodAll_mk0), rfl, bel.frame _, fun h => by cases h⟩

/-- THE STATEMENT -/
theorem holdsBlockSplits : Rows.BlockSplitsUptoSaid :=
  OpenClaim.holds_of_cond 3 Try.f3 rfl rfl rfl rfl rfl rfl rfl ⟨rfl, rfl, rfl, rfl, rfl⟩ rfl rfl rfl rfl rfl (by kernel_rfl) Try.func3 (by kernel_rfl)
    (of_decide_eq_true (by kernel_rfl)) (by unfold Func.isWrapper; first | (rw [if_pos (by decide +kernel)]; kernel_rfl) | (rw [if_neg (by decide +kernel)]; exact ⟨rfl, rfl⟩))
    (fun os started H enc _ F => liftedBlockSplits os started H enc F)
end Go.Proofs.Ytjfgainieoaeaaa.Mat
