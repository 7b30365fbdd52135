/- How a struct of two turns and numbers among a law's arguments lies in memory. -/
import Derived.Test.YtjegopkaficbpaaTurnG
import Derived.Test.YtjegopkaficbpaaTurnH
import Derived.Test.YtjegopkaficbpaaTurnL
import Derived.Test.YtjegopkaficbpaaTurnN
import Derived.ProofKit
import Derived.OpenShut
import Derived.ChangeOld
import Derived.SizedLaws
import Derived.Carry
import Derived.Lib.SmallJoins
import Derived.ShutString
namespace Go.Proofs.Ytjegopkaficbpaa.Mat
open Go.ChangeShapes Go.WideShapes Go.ChangeAt Go.RowKit Fld
open Go.ChangeMaps (open_string shut_string)

theorem own : ownKnob Try.prog.godebug = none := by kernel_rfl
theorem laidOut : laidOutB Try.prog = true := by kernel_rfl
theorem cellsInt : Try.prog.cellsOf 3 = 1 := by kernel_rfl
theorem cellsByte : Try.prog.cellsOf 5 = 1 := by kernel_rfl
theorem cellsTurn : Try.prog.cellsOf 23 = 2 := by kernel_rfl
theorem cellsIn : Try.prog.cellsOf 33 = 7 := by kernel_rfl

section
variable {H : Type} {enc : TypeId × Value → H} {W : World} {base : Nat} {spare : Nat → Bool} {held : Bool} {v : Value} {d : DataW H} {p : List MemPlace} {fuel : Nat} {x : DataW H × List MemPlace}
theorem core_i64 {c : Value} (h : DataW.trod enc Try.prog W base spare held fuel 3 [c] = some x) : ∃ a : Int, c = .int .i64 a ∧ -9223372036854775808 ≤ a ∧ a ≤ 9223372036854775807 := by
  obtain ⟨a, e, _, w⟩ := DataW.trod_int Try.underlying3 h
  simp at e
  exact ⟨a, e, bounds_i64 w⟩
theorem core_u8 {c : Value} (h : DataW.trod enc Try.prog W base spare held fuel 5 [c] = some x) : ∃ a : Int, c = .int .u8 a ∧ 0 ≤ a ∧ a < 256 := by
  obtain ⟨a, e, _, w⟩ := DataW.trod_int Try.underlying5 h
  simp at e
  obtain ⟨h0, h1⟩ := bounds_u8 w
  exact ⟨a, e, h0, by omega⟩
theorem core_turn {c0 c1 : Value} (h : DataW.trod enc Try.prog W base spare held fuel 23 [c0, c1] = some x) : ∃ a b : Int, c0 = .int .i64 a ∧ c1 = .int .i64 b := by
  obtain ⟨xs, n, _, hx, hl, hlen, hf⟩ := DataW.trod_struct Try.underlying23 h
  match xs, hlen with
  | [y0, y1], _ =>
    have g0 := hf 0 _ rfl
    have g1 := hf 1 _ rfl
    simp [cellsInt] at g0 g1
    obtain ⟨a, rfl, _⟩ := core_i64 g0
    obtain ⟨b, rfl, _⟩ := core_i64 g1
    exact ⟨a, b, rfl, rfl⟩
theorem open_turnIn {r : Reach} {b0 : Nat} (hv : Value.okWide Try.prog W r b0 33 v) (h : DataW.Trod enc Try.prog W base spare held 33 v d p) :
    ∃ a b c e n o i : Int, v = .agg #[.int .i64 a, .int .i64 b, .int .i64 c, .int .i64 e, .int .i64 n, .int .u8 o, .int .u8 i] ∧ n ≤ 9223372036854775807 ∧ 0 ≤ o ∧ o < 256 ∧ 0 ≤ i ∧ i < 256 := by
  obtain ⟨cs, rfl, hsz⟩ := okWide_struct Try.underlying33 hv
  have hsz := hsz.trans cellsIn
  obtain ⟨l⟩ := cs
  match l, hsz with
  | [c0, c1, c2, c3, c4, c5, c6], _ =>
    obtain ⟨fuel, hf⟩ := h
    obtain ⟨xs, n, _, hx, hl, hlen, hf⟩ := DataW.trod_struct Try.underlying33 hf
    match xs, hlen with
    | [y0, y1, y2, y3, y4], _ =>
      have g0 := hf 0 _ rfl
      have g1 := hf 1 _ rfl
      have g2 := hf 2 _ rfl
      have g3 := hf 3 _ rfl
      have g4 := hf 4 _ rfl
      simp [cellsInt, cellsByte, cellsTurn, Value.cells] at g0 g1 g2 g3 g4
      obtain ⟨a, b, rfl, rfl⟩ := core_turn g0
      obtain ⟨c, e, rfl, rfl⟩ := core_turn g1
      obtain ⟨n, rfl, _, n1⟩ := core_i64 g2
      obtain ⟨o, rfl, o0, o1⟩ := core_u8 g3
      obtain ⟨i, rfl, i0, i1⟩ := core_u8 g4
      exact ⟨a, b, c, e, n, o, i, rfl, n1, o0, o1, i0, i1⟩
end

theorem lawMulsI (a b c d n : Int) (_ : -9223372036854775808 ≤ a) (_ : a ≤ 9223372036854775807) (_ : -9223372036854775808 ≤ b) (_ : b ≤ 9223372036854775807) (_ : -9223372036854775808 ≤ c) (_ : c ≤ 9223372036854775807)
    (_ : -9223372036854775808 ≤ d) (_ : d ≤ 9223372036854775807) (n0 : 0 ≤ n) (n1 : n < 18446744073709551616) (w : World) :
    Calls Try.prog 3 #[tv a b, tv c d, .int .u64 n] w (BoolRet w true) := by
  obtain ⟨m, rfl⟩ : ∃ m : Nat, n = m := ⟨n.toNat, by omega⟩
  exact lawMuls a b c d m (by omega) w
theorem lawPowersI (m n : Int) (m0 : 0 ≤ m) (m1 : m < 18446744073709551616) (n0 : 0 ≤ n) (n1 : n < 18446744073709551616) (w : World) :
    Calls Try.prog 9 #[.int .u64 m, .int .u64 n] w (BoolRet w true) := by
  obtain ⟨m, rfl⟩ : ∃ k : Nat, m = k := ⟨m.toNat, by omega⟩
  obtain ⟨n, rfl⟩ : ∃ k : Nat, n = k := ⟨n.toNat, by omega⟩
  exact lawPowers m n (by omega) (by omega) w
theorem lawTellsI (s : ByteArray) (at_ b : Int) (hs : s.size ≤ 140737488351232) (_ : -9223372036854775808 ≤ at_) (_ : at_ ≤ 9223372036854775807) (b0 : 0 ≤ b) (b1 : b < 256) (w : World) :
    Calls Try.prog 8 #[.string s, .int .i64 at_, .int .u8 b] w (BoolRet w true) := lawTells s at_ b hs b0 b1 w
end Go.Proofs.Ytjegopkaficbpaa.Mat
