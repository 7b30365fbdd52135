/- How the laws' arguments lie in memory. -/
import Derived.Test.YtohbijjkkadbaaaMatL
import Derived.ProofKit
import Derived.OpenShut
import Derived.ChangeOld
import Derived.Below
import Derived.SizedLaws
import Derived.Carry
import Derived.Deep.Matrix
import Derived.ChangeSlices
namespace Go.Proofs.Ytohbijjkkadbaaa.Mat
open Go.ChangeShapes Go.WideShapes Go.ChangeAt Go.RowKit Go.Deep Fld

theorem own : ownKnob Try.prog.godebug = none := by kernel_rfl
theorem laidOut : laidOutB Try.prog = true := by kernel_rfl
theorem cellsRow : Try.prog.cellsOf 55 = 1 := by kernel_rfl
theorem cellsByte : Try.prog.cellsOf 5 = 1 := by kernel_rfl
theorem cellsInt : Try.prog.cellsOf 3 = 1 := by kernel_rfl
theorem maxLen_num : maxLen = 9223372036854775807 := rfl

/-- a row of numbers -/
def Is (w : World) (B : Nat) (A : Option Addr) (n : Nat) (f : Nat → Int) : Prop :=
  0 < n → ∃ ad, A = some ad ∧ ad.block < B ∧ ∀ c, c < n → w.cell? (ad.add c) = some (.int .i64 (f c)) ∧ -9223372036854775808 ≤ f c ∧ f c ≤ 9223372036854775807

section
variable {H : Type} {enc : TypeId × Value → H} {W : World} {base : Nat} {v : Value} {d : DataW H} {p : List MemPlace}
theorem byte_back {z : Int} (h : (Lit.int .u8 z).wf = true) : V (B z) = z := by
  obtain ⟨lo, hi⟩ := bounds_u8 h
  exact V_B z lo (by omega)
theorem wf_mem {k : IntKind} {zs : List Int} (h : ∀ n ∈ zs, (Lit.int k n).wf = true) {c : Nat} (hc : c < zs.length) : (Lit.int k (zs.getD c 0)).wf = true := by
  rw [List.getD_eq_getElem?_getD, List.getElem?_eq_getElem hc]
  exact h _ (List.getElem_mem hc)

theorem open_rows (hv : Value.okWide Try.prog W .any base 23 v) (h : DataW.Trod enc Try.prog W 0 (fun _ => true) true 23 v d p) :
    ∃ A n cap L RA RC F, v = .slice A n cap ∧ n ≤ 9223372036854775807 ∧ Mt W W.heap.size A n L RA RC F := by
  obtain ⟨a0, len, cap, rfl⟩ := okWide_slice Try.underlying23 hv
  obtain ⟨fuel, hf⟩ := h
  rcases open_int_rows Try.underlying23 Try.underlying55 Try.underlying5 cellsRow cellsByte hf with ⟨hcs, _⟩ | ⟨a, len', cap', A, L, C, Z, hcs, _, hl, hm, _, hrows⟩
  · simp [Value.cells] at hcs
    obtain ⟨rfl, rfl, rfl⟩ := hcs
    exact ⟨none, 0, 0, fun _ => 0, fun _ => none, fun _ => 0, fun _ _ => 0#8, rfl, by omega, fun h => absurd h (by omega)⟩
  · simp [Value.cells] at hcs
    obtain ⟨rfl, rfl, rfl⟩ := hcs
    refine ⟨some a, len, cap, L, A, C, fun r c => B ((Z r).getD c 0), rfl, by rw [maxLen_num] at hm; omega, fun hn => ⟨a, rfl, ?_, fun r hr => ?_⟩⟩
    · have := World.block_lt_of_cell? W _ (hrows 0 (by omega)).1
      rwa [block_of_add] at this
    · obtain ⟨e1, e2, e3, e4, e5, e6, e7⟩ := hrows r (by omega)
      refine ⟨e1, e2, fun hL => ?_⟩
      cases hA : A r with
      | none => have := e6 hA; omega
      | some a' =>
        obtain ⟨_, e8⟩ := e7 a' hA
        refine ⟨a', rfl, ?_, fun c hc => ?_⟩
        · have := World.block_lt_of_cell? W _ (e8 0 (by omega))
          rwa [block_of_add] at this
        · rw [e8 c (by omega), byte_back (wf_mem e5 (by omega))]

theorem open_bytes (hv : Value.okWide Try.prog W .any base 55 v) (h : DataW.Trod enc Try.prog W 0 (fun _ => true) true 55 v d p) :
    ∃ A n cap f, v = .slice A n cap ∧ (n ≤ cap ∧ n ≤ 9223372036854775807) ∧ Rw W W.heap.size A n f := by
  obtain ⟨a0, len, cap, rfl⟩ := okWide_slice Try.underlying55 hv
  obtain ⟨fuel, hf⟩ := h
  rcases open_ints Try.underlying55 Try.underlying5 cellsByte hf with ⟨hcs, _⟩ | ⟨a, len', cap', zs, hcs, _, hl, hm, hz, _, hc, hw⟩
  · simp [Value.cells] at hcs
    obtain ⟨rfl, rfl, rfl⟩ := hcs
    exact ⟨none, 0, 0, fun _ => 0#8, rfl, ⟨by omega, by omega⟩, fun h => absurd h (by omega)⟩
  · simp [Value.cells] at hcs
    obtain ⟨rfl, rfl, rfl⟩ := hcs
    simp only [if_true] at hz
    refine ⟨some a, len, cap, fun c => B (zs.getD c 0), rfl, ⟨hl, by rw [maxLen_num] at hm; omega⟩, fun hn => ⟨a, rfl, ?_, fun c hcl => ?_⟩⟩
    · have := World.block_lt_of_cell? W _ (hc 0 (by omega))
      rwa [block_of_add] at this
    · rw [hc c (by omega), byte_back (wf_mem hw (by omega))]

theorem open_ints64 (hv : Value.okWide Try.prog W .any base 45 v) (h : DataW.Trod enc Try.prog W 0 (fun _ => true) true 45 v d p) :
    ∃ A n cap f, v = .slice A n cap ∧ n ≤ 9223372036854775807 ∧ Is W W.heap.size A n f := by
  obtain ⟨a0, len, cap, rfl⟩ := okWide_slice Try.underlying45 hv
  obtain ⟨fuel, hf⟩ := h
  rcases open_ints Try.underlying45 Try.underlying3 cellsInt hf with ⟨hcs, _⟩ | ⟨a, len', cap', zs, hcs, _, hl, hm, hz, _, hc, hw⟩
  · simp [Value.cells] at hcs
    obtain ⟨rfl, rfl, rfl⟩ := hcs
    exact ⟨none, 0, 0, fun _ => 0, rfl, by omega, fun h => absurd h (by omega)⟩
  · simp [Value.cells] at hcs
    obtain ⟨rfl, rfl, rfl⟩ := hcs
    simp only [if_true] at hz
    refine ⟨some a, len, cap, fun c => zs.getD c 0, rfl, by rw [maxLen_num] at hm; omega, fun hn => ⟨a, rfl, ?_, fun c hcl => ?_⟩⟩
    · have := World.block_lt_of_cell? W _ (hc 0 (by omega))
      rwa [block_of_add] at this
    · obtain ⟨lo, hi⟩ := bounds_i64 (wf_mem hw (show c < zs.length by omega))
      exact ⟨hc c (by omega), by omega, by omega⟩
end
end Go.Proofs.Ytohbijjkkadbaaa.Mat
