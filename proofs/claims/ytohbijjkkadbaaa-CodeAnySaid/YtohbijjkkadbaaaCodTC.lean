/- Proved here, from the walks: the laws CodeAny and CodeSpoilt of layer 5 return true at every input and leave their arguments as they were. Conditions: none but the form's own reach (a string or a slice that is read takes at most 2^47 - 4096 bytes). -/
import Derived.Test.YtohbijjkkadbaaaCodOpen
import Derived.Test.YtohbijjkkadbaaaCodAA
import Derived.Test.YtohbijjkkadbaaaCodAB
namespace Go.Proofs.Ytohbijjkkadbaaa.Mat
open Go.ChangeShapes Go.WideShapes Go.ChangeAt Go.RowKit
open Go.ChangeMaps (open_string shut_string)
open Go.Joins (open_agg4)
set_option linter.unusedVariables false

/-! ### CodeAny -/
set_option maxRecDepth 100000 in
theorem liftedCodeAny (os : Os) (started : os.Started) (H : Type) (enc : TypeId × Value → H) :
    ReturnsInHanded {} Try.checked os 6 .any (Rows.codeAnySpec.pre6 enc Try.prog Try.f6 Rows.codeAnyRow.domain false) (Rows.codeAnySpec.post enc Try.prog Try.f6 false true false false) := by
  refine returnsInHanded_of_change_sized (C := Try.checked) own started (by kernel_rfl) Try.func6
    (ChangeSpec.witness6 (enc := enc) (C := Try.checked) false ⟨#[], #[.agg #[.int .i64 0, .int .i64 0, .slice none 0 0, .slice none 0 0]], []⟩ 8 (by kernel_rfl) (by kernel_rfl) (by kernel_rfl) (by kernel_rfl)) ?_
  intro W base args ds gs before hval0 hW _hcnd hsz0 _
  have hval : ∀ (j : Nat) t v, Try.f6.params[j]? = some t → args[j]? = some v → Value.okWide Try.prog W .any base t v := hval0
  have hsz : (DataW.weightsEach Try.prog (Try.f6.params.toList ++ Rows.codeAnySpec.plain.varTypes Try.prog) (ds ++ gs)).all (· ≤ reachBytes) = true := hsz0
  have hW' := hW
  obtain ⟨p, q, hA0, hV, rfl, hfz, hnd⟩ := hW
  have hA : DataW.TrodAll enc Try.prog W 0 (fun _ => true) true Try.f6.params.toList args.toList ds p := hA0
  rw [Try.params6] at hA hval hsz
  obtain ⟨v0, vs0, d0, ds0, p0, q0, hargs, rfl, rfl, h0, r0⟩ := trodAll_cons hA
  obtain ⟨rfl, rfl, rfl⟩ := trodAll_nil r0
  obtain rfl : args = #[v0] := by cases args; simp_all
  obtain ⟨rfl, rfl⟩ := trodVars_none hV
  have k0 := h0
  have lt0 : ∀ x ∈ p0, x.block < W.heap.size := by obtain ⟨m, hm⟩ := k0; exact DataW.trod_lt m _ _ _ hm
  have hw0 := wt_arg hsz (j := 0) rfl rfl
  obtain ⟨c0_0, c0_1, c0_2, c0_3, y0_0, y0_1, y0_2, y0_3, m0, rfl, rfl, rfl, g0_0, g0_1, g0_2, g0_3⟩ := open_agg4 Try.underlying47 (by kernel_rfl) (by kernel_rfl) (hval 0 47 v0 rfl rfl) h0
  obtain ⟨a0_0, e0_0, u0_0, w0_0⟩ := DataW.trod_int Try.underlying3 g0_0
  simp at e0_0
  subst e0_0
  obtain ⟨lo0_0, hi0_0⟩ := bounds_i64 w0_0
  obtain ⟨a0_1, e0_1, u0_1, w0_1⟩ := DataW.trod_int Try.underlying3 g0_1
  simp at e0_1
  subst e0_1
  obtain ⟨lo0_1, hi0_1⟩ := bounds_i64 w0_1
  obtain ⟨A0_2, n0_2, cap0_2, f0_2, rfl, hn0_2, mm0_2⟩ := core_strs g0_2 (wt_field Try.underlying47 hw0 (j := 2) rfl rfl)
  obtain ⟨A0_3, n0_3, cap0_3, f0_3, rfl, hn0_3, mm0_3⟩ := core_ints g0_3

  clear hA0 hval0
  refine (lawAny a0_0 a0_1 A0_2 n0_2 cap0_2 f0_2 A0_3 n0_3 cap0_3 f0_3 lo0_0 hi0_0 lo0_1 hi0_1 hn0_2 mm0_2 hn0_3 mm0_3).mono fun e W' ⟨he, bel⟩ => ?_
  subst he
  exact ⟨_, rfl, _, _, _, [], _, [], hW', trodAll_mk1 (shut_bool Try.underlying4 _), (trodAll_cons_mk (Below.trod laidOut (by kernel_rfl) (of_decide_eq_true (by kernel_rfl)) k0 bel lt0) trodAll_mk0), rfl, bel.frame _, fun h => by cases h⟩

/-- THE STATEMENT -/
theorem holdsCodeAny : Rows.CodeAnySaid :=
  OpenClaim.holds_of_wide 6 Try.f6 rfl rfl rfl rfl rfl rfl rfl ⟨rfl, rfl, rfl, rfl, rfl⟩ rfl rfl rfl rfl rfl (by kernel_rfl) Try.func6 (by kernel_rfl)
    (of_decide_eq_true (by kernel_rfl)) (by unfold Func.isWrapper; first | (rw [if_pos (by decide +kernel)]; kernel_rfl) | (rw [if_neg (by decide +kernel)]; exact ⟨rfl, rfl⟩))
    (fun os started H enc _ => liftedCodeAny os started H enc)

/-! ### CodeSpoilt -/
set_option maxRecDepth 100000 in
theorem liftedCodeSpoilt (os : Os) (started : os.Started) (H : Type) (enc : TypeId × Value → H) :
    ReturnsInHanded {} Try.checked os 9 .any (Rows.codeSpoiltSpec.pre6 enc Try.prog Try.f9 Rows.codeSpoiltRow.domain false) (Rows.codeSpoiltSpec.post enc Try.prog Try.f9 false true false false) := by
  refine returnsInHanded_of_change_sized (C := Try.checked) own started (by kernel_rfl) Try.func9
    (ChangeSpec.witness6 (enc := enc) (C := Try.checked) false ⟨#[], #[.agg #[.int .i64 0, .int .i64 0, .slice none 0 0, .int .i64 0, .int .i64 0, .int .u8 0]], []⟩ 8 (by kernel_rfl) (by kernel_rfl) (by kernel_rfl) (by kernel_rfl)) ?_
  intro W base args ds gs before hval0 hW _hcnd hsz0 _
  have hval : ∀ (j : Nat) t v, Try.f9.params[j]? = some t → args[j]? = some v → Value.okWide Try.prog W .any base t v := hval0
  have hsz : (DataW.weightsEach Try.prog (Try.f9.params.toList ++ Rows.codeSpoiltSpec.plain.varTypes Try.prog) (ds ++ gs)).all (· ≤ reachBytes) = true := hsz0
  have hW' := hW
  obtain ⟨p, q, hA0, hV, rfl, hfz, hnd⟩ := hW
  have hA : DataW.TrodAll enc Try.prog W 0 (fun _ => true) true Try.f9.params.toList args.toList ds p := hA0
  rw [Try.params9] at hA hval hsz
  obtain ⟨v0, vs0, d0, ds0, p0, q0, hargs, rfl, rfl, h0, r0⟩ := trodAll_cons hA
  obtain ⟨rfl, rfl, rfl⟩ := trodAll_nil r0
  obtain rfl : args = #[v0] := by cases args; simp_all
  obtain ⟨rfl, rfl⟩ := trodVars_none hV
  have k0 := h0
  have lt0 : ∀ x ∈ p0, x.block < W.heap.size := by obtain ⟨m, hm⟩ := k0; exact DataW.trod_lt m _ _ _ hm
  have hw0 := wt_arg hsz (j := 0) rfl rfl
  obtain ⟨c0_0, c0_1, c0_2, c0_3, c0_4, c0_5, y0_0, y0_1, y0_2, y0_3, y0_4, y0_5, m0, rfl, rfl, rfl, g0_0, g0_1, g0_2, g0_3, g0_4, g0_5⟩ := open_agg6 Try.underlying54 (by kernel_rfl) (by kernel_rfl) (hval 0 54 v0 rfl rfl) h0
  obtain ⟨a0_0, e0_0, u0_0, w0_0⟩ := DataW.trod_int Try.underlying3 g0_0
  simp at e0_0
  subst e0_0
  obtain ⟨lo0_0, hi0_0⟩ := bounds_i64 w0_0
  obtain ⟨a0_1, e0_1, u0_1, w0_1⟩ := DataW.trod_int Try.underlying3 g0_1
  simp at e0_1
  subst e0_1
  obtain ⟨lo0_1, hi0_1⟩ := bounds_i64 w0_1
  obtain ⟨A0_2, n0_2, cap0_2, f0_2, rfl, hn0_2, mm0_2⟩ := core_strs g0_2 (wt_field Try.underlying54 hw0 (j := 2) rfl rfl)
  obtain ⟨a0_3, e0_3, u0_3, w0_3⟩ := DataW.trod_int Try.underlying3 g0_3
  simp at e0_3
  subst e0_3
  obtain ⟨lo0_3, hi0_3⟩ := bounds_i64 w0_3
  obtain ⟨a0_4, e0_4, u0_4, w0_4⟩ := DataW.trod_int Try.underlying3 g0_4
  simp at e0_4
  subst e0_4
  obtain ⟨lo0_4, hi0_4⟩ := bounds_i64 w0_4
  obtain ⟨a0_5, e0_5, u0_5, w0_5⟩ := DataW.trod_int Try.underlying5 g0_5
  simp at e0_5
  subst e0_5
  obtain ⟨lo0_5, hi0_5⟩ := bounds_u8 w0_5
  have lt0_5 : a0_5 < 256 := by omega

  clear hA0 hval0
  refine (lawSpoilt a0_0 a0_1 A0_2 n0_2 cap0_2 f0_2 a0_3 a0_4 a0_5 lo0_0 hi0_0 lo0_1 hi0_1 hn0_2 mm0_2 lo0_3 hi0_3 lo0_4 hi0_4 lo0_5 lt0_5).mono fun e W' ⟨he, bel⟩ => ?_
  subst he
  exact ⟨_, rfl, _, _, _, [], _, [], hW', trodAll_mk1 (shut_bool Try.underlying4 _), (trodAll_cons_mk (Below.trod laidOut (by kernel_rfl) (of_decide_eq_true (by kernel_rfl)) k0 bel lt0) trodAll_mk0), rfl, bel.frame _, fun h => by cases h⟩

/-- THE STATEMENT -/
theorem holdsCodeSpoilt : Rows.CodeSpoiltSaid :=
  OpenClaim.holds_of_wide 9 Try.f9 rfl rfl rfl rfl rfl rfl rfl ⟨rfl, rfl, rfl, rfl, rfl⟩ rfl rfl rfl rfl rfl (by kernel_rfl) Try.func9 (by kernel_rfl)
    (of_decide_eq_true (by kernel_rfl)) (by unfold Func.isWrapper; first | (rw [if_pos (by decide +kernel)]; kernel_rfl) | (rw [if_neg (by decide +kernel)]; exact ⟨rfl, rfl⟩))
    (fun os started H enc _ => liftedCodeSpoilt os started H enc)

end Go.Proofs.Ytohbijjkkadbaaa.Mat
