/- Which turns may be; turns as complex numbers, and back: walked. -/
import Derived.Test.YtjegopkaficbpaaTurnB
import Derived.Handy
namespace Go.Proofs.Ytjegopkaficbpaa.Mat
open Go.RowKit Fld Flt Trn

/-- a turn as a value -/
abbrev tv (a b : Int) : Value := .agg #[.int .i64 a, .int .i64 b]
/-- a call answers a turn, in new memory -/
def TurnRet (w : World) (z : Tn) (e : Ending) (w' : World) : Prop := e = .returned (tv z.1 z.2) ∧ Below w.heap.size w w'
def TurnErrRet (w : World) (z : Tn) (E : Int) (e : Ending) (w' : World) : Prop := e = .returned (.tuple #[tv z.1 z.2, .int .i64 E]) ∧ Below w.heap.size w w'
def inB (n : Int) : Bool := decide (0 ≤ n ∧ n < 8191)
def mayB (a b : Int) : Bool := inB a && inB b
theorem mayB_iff {a b : Int} : mayB a b = true ↔ may (a, b) := by
  unfold mayB inB may
  rw [Bool.and_eq_true, decide_eq_true_iff, decide_eq_true_iff]
  simp only
  omega

set_option maxRecDepth 100000 in
set_option maxHeartbeats 400000 in
theorem within_any (n : Int) (w : World) : Calls Try.prog 23 #[.int .i64 n] w fun e w' => e = .returned (.bool (inB n)) ∧ w = w' := by
  by_cases h1 : 0 ≤ n
  · by_cases h2 : n < 8191
    · have HF : Hid (inB n = true) := Lib.hid (decide_eq_true ⟨h1, h2⟩)
      go_enter Try.func23, Try.ntmps23
      go_wp2
      go_ret
      exact ⟨by rw [HF.out]; rfl, rfl⟩
    · have HF : Hid (inB n = false) := Lib.hid (decide_eq_false (by omega))
      go_enter Try.func23, Try.ntmps23
      go_wp2
      go_ret
      exact ⟨by rw [HF.out]; rfl, rfl⟩
  · have HF : Hid (inB n = false) := Lib.hid (decide_eq_false (by omega))
    go_enter Try.func23, Try.ntmps23
    go_wp2
    go_ret
    exact ⟨by rw [HF.out]; rfl, rfl⟩

set_option maxRecDepth 100000 in
set_option maxHeartbeats 400000 in
theorem may_any (a b : Int) (w : World) : Calls Try.prog 11 #[tv a b] w (BoolRet w (mayB a b)) := by
  unfold mayB
  cases h : inB a
  · have HF := Lib.hid h
    clear h
    go_enter Try.func11, Try.ntmps11
    go_wp2_with fail
    refine (within_any a _).mono ?_; rintro e w' ⟨rfl, rfl⟩
    rw [HF.out]
    go_wp2
    go_ret
    exact ⟨rfl, (Below.refl _ _).alloc (Nat.le_refl _) _⟩
  · have HF := Lib.hid h
    clear h
    go_enter Try.func11, Try.ntmps11
    go_wp2_with fail
    refine (within_any a _).mono ?_; rintro e w' ⟨rfl, rfl⟩
    rw [HF.out]
    go_wp2_with fail
    refine (within_any b _).mono ?_; rintro e w' ⟨rfl, rfl⟩
    go_wp2
    go_ret
    exact ⟨rfl, (Below.refl _ _).alloc (Nat.le_refl _) _⟩

set_option maxRecDepth 100000 in
set_option maxHeartbeats 800000 in
theorem refMay_any (a b : Int) (w : World) : Calls Try.prog 12 #[tv a b] w (BoolRet w (mayB a b)) := by
  by_cases h1 : 0 ≤ a
  · by_cases h2 : a < 8191
    · by_cases h3 : 0 ≤ b
      · by_cases h4 : b < 8191
        · have HF : Hid (mayB a b = true) := Lib.hid (mayB_iff.2 ⟨h1, h2, h3, h4⟩)
          go_enter Try.func12, Try.ntmps12
          go_wp2
          go_ret
          exact ⟨by rw [HF.out]; rfl, (Below.refl _ _).alloc (Nat.le_refl _) _⟩
        · have HF : Hid (mayB a b = false) := Lib.hid (by rw [Bool.eq_false_iff]; exact fun h => by have := mayB_iff.1 h; unfold may at this; simp only at this; omega)
          go_enter Try.func12, Try.ntmps12
          go_wp2
          go_ret
          exact ⟨by rw [HF.out]; rfl, (Below.refl _ _).alloc (Nat.le_refl _) _⟩
      · have HF : Hid (mayB a b = false) := Lib.hid (by rw [Bool.eq_false_iff]; exact fun h => by have := mayB_iff.1 h; unfold may at this; simp only at this; omega)
        go_enter Try.func12, Try.ntmps12
        go_wp2
        go_ret
        exact ⟨by rw [HF.out]; rfl, (Below.refl _ _).alloc (Nat.le_refl _) _⟩
    · have HF : Hid (mayB a b = false) := Lib.hid (by rw [Bool.eq_false_iff]; exact fun h => by have := mayB_iff.1 h; unfold may at this; simp only at this; omega)
      go_enter Try.func12, Try.ntmps12
      go_wp2
      go_ret
      exact ⟨by rw [HF.out]; rfl, (Below.refl _ _).alloc (Nat.le_refl _) _⟩
  · have HF : Hid (mayB a b = false) := Lib.hid (by rw [Bool.eq_false_iff]; exact fun h => by have := mayB_iff.1 h; unfold may at this; simp only at this; omega)
    go_enter Try.func12, Try.ntmps12
    go_wp2
    go_ret
    exact ⟨by rw [HF.out]; rfl, (Below.refl _ _).alloc (Nat.le_refl _) _⟩

theorem toInt_run {n : Int} (h : n.natAbs < 2 ^ 40) (w : World) : (convert 56 3 (.float .f64 (R n))).run Try.prog w = .ok (.int .i64 n) w :=
  run_convert_float_int w _ _ _ _ _ _ (by rw [Try.underlying56]; rfl) Try.underlying3 (to_int (by omega) (by show (-9223372036854775808 : Int) ≤ n; omega) (by show n ≤ (9223372036854775807 : Int); omega))

set_option maxRecDepth 100000 in
set_option maxHeartbeats 400000 in
theorem told_any (a b : Int) (ha : Sm 40 a) (hb : Sm 40 b) (w : World) : Calls Try.prog 24 #[.complex .f64 (R a) (R b)] w (TurnRet w (a, b)) := by
  have t1 := toInt_run ha
  have t2 := toInt_run hb
  clear ha hb
  generalize R a = p at *
  generalize R b = q at *
  go_enter Try.func24, Try.ntmps24
  go_wp2
  go_returns
  exact ⟨rfl, (Below.refl _ _).alloc (Nat.le_refl _) _⟩

set_option maxRecDepth 100000 in
set_option maxHeartbeats 400000 in
theorem number_any (a b : Int) (h : may (a, b)) (w : World) : Calls Try.prog 26 #[tv a b] w fun e w' => e = .returned (.complex .f64 (R a) (R b)) ∧ Below w.heap.size w w' := by
  obtain ⟨x0, x1, x2, x3⟩ := h
  simp only at x0 x1 x2 x3
  have t1 : floatOfInt .f64 a = R a := of_int (by omega)
  have t2 : floatOfInt .f64 b = R b := of_int (by omega)
  clear x0 x1 x2 x3
  go_enter Try.func26, Try.ntmps26
  go_wp2
  go_ret
  exact ⟨rfl, (Below.refl _ _).alloc (Nat.le_refl _) _⟩
end Go.Proofs.Ytjegopkaficbpaa.Mat
