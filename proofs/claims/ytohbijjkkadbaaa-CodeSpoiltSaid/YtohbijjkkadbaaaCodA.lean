/- May; which are chosen: walked. -/
import Derived.Test.YtohbijjkkadbaaaCodMem
namespace Go.Proofs.Ytohbijjkkadbaaa.Mat
open Go.RowKit Fld

/-- k and m may be -/
def MayB (k m : Int) : Bool := decide (1 ≤ k ∧ 0 ≤ m ∧ k + m ≤ 32)
theorem may_yes' {k m : Int} (h : MayB k m = true) : 1 ≤ k ∧ 0 ≤ m ∧ k + m ≤ 32 := of_decide_eq_true h
set_option maxRecDepth 100000 in
theorem codeMay_any (k m : Int) (hk : -9223372036854775808 ≤ k ∧ k ≤ 9223372036854775807) (hm : -9223372036854775808 ≤ m ∧ m ≤ 9223372036854775807) (w : World) :
    Calls Try.prog 15 #[.int .i64 k, .int .i64 m] w fun e w' => e = .returned (.bool (MayB k m)) ∧ w = w' := by
  by_cases a1 : 1 ≤ k
  · by_cases a2 : 0 ≤ m
    · have g1 : decide (k ≥ 1) = true := decide_eq_true a1
      have g2 : decide (m ≥ 0) = true := decide_eq_true a2
      have wr : IntKind.i64.wrap (32 - m) = 32 - m := IntWalk.i64_in _ (by omega)
      have g3 : decide (k ≤ 32 - m) = MayB k m := by unfold MayB; rw [decide_eq_decide]; omega
      generalize hb : MayB k m = b at g3 ⊢
      clear hb a1 a2
      go_enter Try.func15, Try.ntmps15
      go_wp2
      go_ret
      exact ⟨ret_bool (by first | rfl | simp_all), rfl⟩
    · have g1 : decide (k ≥ 1) = true := decide_eq_true a1
      have g2 : decide (m ≥ 0) = false := decide_eq_false a2
      have e : MayB k m = false := decide_eq_false (fun h => a2 h.2.1)
      rw [e]; clear e a1 a2
      go_enter Try.func15, Try.ntmps15
      go_wp2
      go_ret
      exact ⟨rfl, rfl⟩
  · have g1 : decide (k ≥ 1) = false := decide_eq_false a1
    have e : MayB k m = false := decide_eq_false (fun h => a1 h.1)
    rw [e]; clear e a1
    go_enter Try.func15, Try.ntmps15
    go_wp2
    go_ret
    exact ⟨rfl, rfl⟩
end Go.Proofs.Ytohbijjkkadbaaa.Mat
