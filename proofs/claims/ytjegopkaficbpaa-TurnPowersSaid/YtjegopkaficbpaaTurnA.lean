/- Numbers as complex words; rests; a byte behind a print: walked. -/
import Derived.Test.YtjegopkaficbpaaBlkBase
import Derived.Test.YtjegopkaficbpaaTurnQuo
import Derived.Test.YtjegopkaficbpaaTurnMath
namespace Go.Proofs.Ytjegopkaficbpaa.Mat
open Go.RowKit Fld Flt Trn

def Sm (k : Nat) (a : Int) : Prop := a.natAbs < 2 ^ k
theorem Sm.of {k : Nat} {a : Int} (h : a.natAbs < 2 ^ k) : Sm k a := h

theorem R5 : 4617315517961601024 = R 5 := by decide +kernel
theorem R3 : 4613937818241073152 = R 3 := by decide +kernel
theorem R1 : 4607182418800017408 = R 1 := by decide +kernel
theorem R0 : 0 = R 0 := rfl

theorem run_down {P : Program} {q : Nat} {s m e} (h1 : FloatKind.f64.decode q = .number s m e) (w : World) :
    (Extern.MathFloor.toIntegral "math.archFloor" .down #[.float .f64 q]).run P w = .ok (.float .f64 (Ieee.double.write ((Ieee.Datum.number s m e).integral .down))) w := by
  delta Extern.MathFloor.toIntegral
  show Sem.run P (Extern.MathFloor.toIntegral.match_1 (fun _ => Sem Value) (FloatKind.f64.decode q) _ (fun d => pure (Value.float FloatKind.f64 (FloatKind.f64.encode (Ieee.Datum.integral Ieee.Toward.down d))))) w = _
  rw [h1]
  rfl
theorem archFloor_any {q : Nat} (hq : ∃ s m e, Ieee.double.read q = .number s m e) (w : World) :
    (callFunc 34 #[.float .f64 q]).run Try.prog w = .ok (.value (.float .f64 (Ieee.double.write ((Ieee.double.read q).integral .down)))) w := by
  rw [run_callFunc_extern Try.func34 (by kernel_rfl) (by kernel_rfl) (by kernel_rfl) (e := Extern.MathFloor.toIntegral "math.archFloor" .down) (by kernel_rfl)]
  obtain ⟨s, m, e, h⟩ := hq
  have h1 : FloatKind.f64.decode q = .number s m e := h
  rw [h, run_down h1]
  rfl

set_option maxRecDepth 100000 in
set_option maxHeartbeats 400000 in
theorem floor_any {q : Nat} (hq : ∃ s m e, Ieee.double.read q = .number s m e) (w : World) :
    Calls Try.prog 33 #[.float .f64 q] w fun e w' => e = .returned (.float .f64 (Ieee.double.write ((Ieee.double.read q).integral .down))) ∧ w = w' := by
  have hc := fun w => archFloor_any hq w
  clear hq
  generalize Ieee.double.write ((Ieee.double.read q).integral .down) = r at *
  go_enter Try.func33, Try.ntmps33
  go_wp2
  go_ret
  exact ⟨rfl, rfl⟩

theorem quo_run {a q : Nat} (h : floatBits .quo .f64 a 4665728114444206080 = some q) (w : World) : (binOp .quo 56 (.float .f64 a) (.float .f64 4665728114444206080)).run Try.prog w = .ok (.float .f64 q) w := run_float_arith w .quo _ _ _ _ _ h

set_option maxRecDepth 100000 in
set_option maxHeartbeats 400000 in
theorem modulo_any (a : Int) (h : Sm 39 a) (w : World) :
    Calls Try.prog 31 #[.float .f64 (R a)] w fun e w' => e = .returned (.float .f64 (R (a % 8191))) ∧ w = w' := by
  have h : a.natAbs < 2 ^ 39 := h
  obtain ⟨q, e1, e2, e3⟩ := quo_floor h
  have hf := fun w => floor_any e2 w
  rw [e3] at hf
  have hq := fun w => quo_run e1 w
  have m1 : floatBits .mul .f64 (R 8191) (R (a / 8191)) = some (R (8191 * (a / 8191))) := mul_R (by decide) (by omega) (by omega) (by omega)
  have m2 : floatBits .sub .f64 (R a) (R (8191 * (a / 8191))) = some (R (a - 8191 * (a / 8191))) := sub_R (by omega) (by omega) (by omega)
  rw [show a - 8191 * (a / 8191) = a % 8191 by omega] at m2
  rw [R_prime] at m1
  have hm : ∀ w, (binOp .mul 56 (.float .f64 4665728114444206080) (.float .f64 (R (a / 8191)))).run Try.prog w = .ok (.float .f64 (R (8191 * (a / 8191)))) w := fun w => run_float_arith w .mul _ _ _ _ _ m1
  have hs : ∀ w, (binOp .sub 56 (.float .f64 (R a)) (.float .f64 (R (8191 * (a / 8191))))).run Try.prog w = .ok (.float .f64 (R (a % 8191))) w := fun w => run_float_arith w .sub _ _ _ _ _ m2
  clear h e1 e2 e3 m1 m2
  generalize R (8191 * (a / 8191)) = r1 at *
  generalize R (a / 8191) = r2 at *
  generalize R (a % 8191) = r3 at *
  generalize R a = r4 at *
  have HF := Lib.hid hf
  clear hf
  go_enter Try.func31, Try.ntmps31
  go_wp2_with fail
  refine (HF.out _).mono ?_; rintro e w' ⟨rfl, rfl⟩
  go_wp2
  go_ret
  exact ⟨rfl, rfl⟩

set_option maxRecDepth 100000 in
set_option maxHeartbeats 400000 in
theorem rest_any (a b : Int) (ha : Sm 39 a) (hb : Sm 39 b) (w : World) :
    Calls Try.prog 25 #[.complex .f64 (R a) (R b)] w fun e w' => e = .returned (.complex .f64 (R (a % 8191)) (R (b % 8191))) ∧ w = w' := by
  go_enter Try.func25, Try.ntmps25
  go_wp2_with fail
  refine (modulo_any a ha _).mono ?_; rintro e w' ⟨rfl, rfl⟩
  go_wp2_with fail
  refine (modulo_any b hb _).mono ?_; rintro e w' ⟨rfl, rfl⟩
  go_wp2
  go_ret
  exact ⟨rfl, rfl⟩

/-! ### a byte behind a print -/
theorem cmul_R {a b c d : Int} (ha : a.natAbs < 2 ^ 24) (hb : b.natAbs < 2 ^ 24) (hc : c.natAbs < 2 ^ 14) (hd : d.natAbs < 2 ^ 14) (hz : (0 ≤ a ∧ 0 ≤ b ∧ 0 ≤ c ∧ 0 ≤ d) ∨ (0 < c ∧ 0 < d)) :
    cMulBits (R a) (R b) (R c) (R d) = some (R (a * c - b * d), R (a * d + b * c)) := by
  have bd : ∀ {x y : Int}, x.natAbs < 2 ^ 24 → y.natAbs < 2 ^ 14 → (x * y).natAbs < 2 ^ 38 := by
    intro x y hx hy
    rw [Int.natAbs_mul, show (2 : Nat) ^ 38 = 2 ^ 24 * 2 ^ 14 from rfl]
    exact Nat.mul_lt_mul'' hx hy
  have zr : ∀ {x y : Int}, ((0 ≤ x ∧ 0 ≤ y) ∨ 0 < y) → x * y = 0 → 0 ≤ x ∧ 0 ≤ y := by
    intro x y h e
    rcases Int.mul_eq_zero.1 e with h0 | h0 <;> omega
  have h1 := bd ha hc
  have h2 := bd hb hd
  have h3 := bd ha hd
  have h4 := bd hb hc
  unfold cMulBits
  rw [mul_R (by omega) (by omega) (by omega) (zr (by omega)), mul_R (a := b) (b := d) (by omega) (by omega) (by omega) (zr (by omega)), Option.bind_some, Option.bind_some,
    sub_R (by omega) (by omega) (by omega), Option.bind_some, mul_R (a := a) (b := d) (by omega) (by omega) (by omega) (zr (by omega)), Option.bind_some,
    mul_R (a := b) (b := c) (by omega) (by omega) (by omega) (zr (by omega)), Option.bind_some, add_R (by omega) (by omega) (by omega), Option.bind_some]
theorem csum_R {a b c d : Int} (ha : a.natAbs < 2 ^ 40) (hb : b.natAbs < 2 ^ 40) (hc : c.natAbs < 2 ^ 40) (hd : d.natAbs < 2 ^ 40) : cSumBits .add .f64 (R a) (R b) (R c) (R d) = some (R (a + c), R (b + d)) := by
  unfold cSumBits
  rw [add_R (by omega) (by omega) (by omega), Option.bind_some, add_R (by omega) (by omega) (by omega), Option.bind_some]
theorem cdif_R {a b c d : Int} (ha : a.natAbs < 2 ^ 40) (hb : b.natAbs < 2 ^ 40) (hc : c.natAbs < 2 ^ 40) (hd : d.natAbs < 2 ^ 40) : cSumBits .sub .f64 (R a) (R b) (R c) (R d) = some (R (a - c), R (b - d)) := by
  unfold cSumBits
  rw [sub_R (by omega) (by omega) (by omega), Option.bind_some, sub_R (by omega) (by omega) (by omega), Option.bind_some]
theorem mulc_run {a b c d re im : Nat} (h : cMulBits a b c d = some (re, im)) (w : World) : (binOp .mul 49 (.complex .f64 a b) (.complex .f64 c d)).run Try.prog w = .ok (.complex .f64 re im) w := run_complex_mul w _ _ _ _ _ _ _ h
theorem addc_run {a b c d re im : Nat} (h : cSumBits .add .f64 a b c d = some (re, im)) (w : World) : (binOp .add 49 (.complex .f64 a b) (.complex .f64 c d)).run Try.prog w = .ok (.complex .f64 re im) w := run_complex_sum w _ (.inl rfl) _ _ _ _ _ _ _ _ h
theorem subc_run {a b c d re im : Nat} (h : cSumBits .sub .f64 a b c d = some (re, im)) (w : World) : (binOp .sub 49 (.complex .f64 a b) (.complex .f64 c d)).run Try.prog w = .ok (.complex .f64 re im) w := run_complex_sum w _ (.inr rfl) _ _ _ _ _ _ _ _ h

set_option maxRecDepth 100000 in
set_option maxHeartbeats 400000 in
theorem step_any (w : World) : Calls Try.prog 32 #[] w fun e w' => e = .returned (.complex .f64 (R 5) (R 3)) ∧ w = w' := by
  go_enter Try.func32, Try.ntmps32
  go_wp2
  go_ret
  exact ⟨by rw [R5, R3]; rfl, rfl⟩

set_option maxRecDepth 100000 in
set_option maxHeartbeats 400000 in
theorem worth_any (c : Int) (h0 : 0 ≤ c) (h1 : c < 256) (w : World) : Calls Try.prog 30 #[.int .u8 c] w fun e w' => e = .returned (.complex .f64 (R (c + 1)) (R 0)) ∧ w = w' := by
  have hc : floatOfInt .f64 c = R c := of_int (by omega)
  have ha : floatBits .add .f64 (R c) (R 1) = some (R (c + 1)) := add_R (by omega) (by decide) (by omega)
  rw [← R1] at ha
  have hs : ∀ w, (binOp .add 56 (.float .f64 (R c)) (.float .f64 4607182418800017408)).run Try.prog w = .ok (.float .f64 (R (c + 1))) w := fun w => run_float_arith w .add _ _ _ _ _ ha
  clear ha h0 h1
  generalize R (c + 1) = r1 at *
  go_enter Try.func30, Try.ntmps30
  go_wp2
  go_ret
  exact ⟨rfl, rfl⟩

/-- a print, or what is left of it, and a byte -/
def nx (z : Tn) (c : Int) : Tn := md (ad (mu z st) (c + 1, 0))
set_option maxRecDepth 100000 in
set_option maxHeartbeats 400000 in
theorem behind_any (a b c : Int) (ha : Sm 22 a) (hb : Sm 22 b) (h0 : 0 ≤ c) (h1 : c < 256) (w : World) :
    Calls Try.prog 28 #[.complex .f64 (R a) (R b), .int .u8 c] w fun e w' => e = .returned (.complex .f64 (R (nx (a, b) c).1) (R (nx (a, b) c).2)) ∧ w = w' := by
  have ha : a.natAbs < 2 ^ 22 := ha
  have hb : b.natAbs < 2 ^ 22 := hb
  have m1 := mulc_run (cmul_R (a := a) (b := b) (c := 5) (d := 3) (by omega) (by omega) (by decide) (by decide) (.inr ⟨by decide, by decide⟩))
  have m2 := addc_run (csum_R (a := a * 5 - b * 3) (b := a * 3 + b * 5) (c := c + 1) (d := 0) (by omega) (by omega) (by omega) (by decide))
  have hr := rest_any (a * 5 - b * 3 + (c + 1)) (a * 3 + b * 5 + 0) (Sm.of (by omega)) (Sm.of (by omega))
  have HW := Lib.hid (worth_any c h0 h1)
  have HR := Lib.hid hr
  have e : (nx (a, b) c).1 = (a * 5 - b * 3 + (c + 1)) % 8191 ∧ (nx (a, b) c).2 = (a * 3 + b * 5 + 0) % 8191 := ⟨rfl, rfl⟩
  rw [e.1, e.2]
  clear ha hb h0 h1 hr e
  generalize R ((a * 5 - b * 3 + (c + 1)) % 8191) = q1 at *
  generalize R ((a * 3 + b * 5 + 0) % 8191) = q2 at *
  generalize R (a * 5 - b * 3 + (c + 1)) = q3 at *
  generalize R (a * 3 + b * 5 + 0) = q4 at *
  generalize R (a * 5 - b * 3) = q5 at *
  generalize R (a * 3 + b * 5) = q6 at *
  generalize R a = q7 at *
  generalize R b = q8 at *
  go_enter Try.func28, Try.ntmps28
  go_wp2_with fail
  refine (step_any _).mono ?_; rintro e w' ⟨rfl, rfl⟩
  go_wp2_with fail
  refine (HW.out _).mono ?_; rintro e w' ⟨rfl, rfl⟩
  go_wp2_with fail
  refine (HR.out _).mono ?_; rintro e w' ⟨rfl, rfl⟩
  go_wp2
  go_ret
  exact ⟨rfl, rfl⟩
end Go.Proofs.Ytjegopkaficbpaa.Mat
