/- Slices of slices; the document's own tables: walked. -/
import Derived.Test.YtohbijjkkadbaaaCodC
namespace Go.Proofs.Ytohbijjkkadbaaa.Mat
open Go.RowKit Fld

theorem own_cap {w : World} {base e s k cap : Nat} {A : Option Addr} {xs : List Value} (h : w.ownsRow base e s (.slice A k cap) k xs) : k ≤ cap := by
  rcases h.2 with ⟨h1, h2⟩ | ⟨g, c, cur, hv, hg, hh, hc, hm, hs, ht⟩
  · injection h1; omega
  · injection hv; omega
section
variable {P : Program} {t e : TypeId} {i : TypeInfo}
theorem take_run (ht : P.underlying t = some (.slice e)) (hi : (P.info? e).map (fun i => i.size) = some 1) (A : Option Addr) (n cap k : Nat) (hk : k ≤ cap) (w : World) :
    (Instr.sliceAt t (.slice A n cap) none (some (.int .i64 (k : Int))) none).run P w = .ok (.slice A k cap) w := by
  obtain ⟨i, hi, hs⟩ := Option.map_eq_some_iff.1 hi
  have he : P.elem t = e := by simp [Program.elem, ht]
  rw [run_sliceAt_slice w t _ _ _ _ (by rw [he]; exact ht), run_slice_h w t A n cap (by rw [he]; exact ht) .i64 k (by omega) (by omega), he]
  simp [sizeOf, typeInfo, hi, Result.andThen, sliced, add_zero]
theorem from_run (ht : P.underlying t = some (.slice e)) (hi : (P.info? e).map (fun i => i.size) = some 1) (A : Option Addr) (n cap k : Nat) (hk : k ≤ n) (w : World) :
    (Instr.sliceAt t (.slice A n cap) (some (.int .i64 (k : Int))) none none).run P w = .ok (.slice (if cap = k then A else A.map (·.add k)) (n - k) (cap - k)) w := by
  obtain ⟨i, hi, hs⟩ := Option.map_eq_some_iff.1 hi
  have he : P.elem t = e := by simp [Program.elem, ht]
  rw [run_sliceAt_slice w t _ _ _ _ (by rw [he]; exact ht), run_slice_l w t A n cap (by rw [he]; exact ht) .i64 k (by omega) (by omega), he]
  simp [sizeOf, typeInfo, hi, hs, Result.andThen, sliced]
end
theorem sizeRow : (Try.prog.info? 55).map (fun i => i.size) = some 1 := by kernel_rfl
theorem sizeStr : (Try.prog.info? 9).map (fun i => i.size) = some 1 := by kernel_rfl

set_option maxRecDepth 100000 in
theorem refMayC_any (k m : Int) (w : World) :
    Calls Try.prog 16 #[.int .i64 k, .int .i64 m] w fun e w' => e = .returned (.bool (MayB k m)) ∧ w = w' := by
  by_cases a1 : 1 ≤ k
  · have g1 : decide (k ≥ 1) = true := decide_eq_true a1
    by_cases a2 : k ≤ 32
    · have g2 : decide (k ≤ 32) = true := decide_eq_true a2
      by_cases a3 : 0 ≤ m
      · have g3 : decide (m ≥ 0) = true := decide_eq_true a3
        by_cases a4 : m ≤ 32
        · have g4 : decide (m ≤ 32) = true := decide_eq_true a4
          have wr : IntKind.i64.wrap (k + m) = k + m := IntWalk.i64_in _ (by omega)
          have g5 : decide (k + m ≤ 32) = MayB k m := by unfold MayB; rw [decide_eq_decide]; omega
          generalize hb : MayB k m = b at g5 ⊢
          clear hb a1 a2 a3 a4
          go_enter Try.func16, Try.ntmps16
          go_wp2
          go_ret
          exact ⟨ret_bool (by first | rfl | simp_all), rfl⟩
        · have g4 : decide (m ≤ 32) = false := decide_eq_false a4
          have e : MayB k m = false := decide_eq_false (fun h => a4 (by omega))
          rw [e]; clear e a1 a2 a3 a4
          go_enter Try.func16, Try.ntmps16
          go_wp2
          go_ret
          exact ⟨rfl, rfl⟩
      · have g3 : decide (m ≥ 0) = false := decide_eq_false a3
        have e : MayB k m = false := decide_eq_false (fun h => a3 (by omega))
        rw [e]; clear e a1 a2 a3
        go_enter Try.func16, Try.ntmps16
        go_wp2
        go_ret
        exact ⟨rfl, rfl⟩
    · have g2 : decide (k ≤ 32) = false := decide_eq_false a2
      have e : MayB k m = false := decide_eq_false (fun h => a2 (by omega))
      rw [e]; clear e a1 a2
      go_enter Try.func16, Try.ntmps16
      go_wp2
      go_ret
      exact ⟨rfl, rfl⟩
  · have g1 : decide (k ≥ 1) = false := decide_eq_false a1
    have e : MayB k m = false := decide_eq_false (fun h => a1 h.1)
    rw [e]; clear e a1
    go_enter Try.func16, Try.ntmps16
    go_wp2
    go_ret
    exact ⟨rfl, rfl⟩

set_option maxRecDepth 100000 in
set_option maxHeartbeats 800000 in
theorem refTable_yes (k m : Nat) (h1 : 1 ≤ k) (h2 : k + m ≤ 32) (w : World) :
    Calls Try.prog 13 #[.int .i64 (k : Int), .int .i64 (m : Int)] w (MadeRet w (k + m) k (tab k)) := by
  have hmay : MayB (k : Int) (m : Int) = true := decide_eq_true (by omega)
  have ws : IntKind.i64.wrap ((k : Int) + (m : Int)) = ((k + m : Nat) : Int) := by rw [IntWalk.i64_in _ (by omega)]; omega
  have HM := Lib.hid hmay; clear hmay
  go_enter Try.func13, Try.ntmps13
  go_wp2_with fail
  refine (refMayC_any _ _ _).mono ?_; rintro e w1 ⟨rfl, rfl⟩
  rw [HM.out]
  go_wp2_with fail
  refine (refPowers_yes (k + m) k (by omega) h2 h1 (by omega) _).mono ?_; rintro e w1 ⟨v, G, C, rfl, hB⟩
  obtain ⟨g, c1, rfl, hM1, _⟩ := hB.mt (by omega)
  have hcap := own_cap hB.own
  have M1 := Lib.hid hM1
  have HB1 := Lib.hid hB.below
  have hsl := fun w => take_run (P := Try.prog) Try.underlying23 sizeRow (some ⟨g, 0, none⟩) (k + m) c1 k (by omega) w
  clear hM1 hB
  go_wp2_with fail
  refine (refInverse_ok (M1.out.less (k := k) (by omega)) (ok_sq h1 (by omega)) rfl).mono ?_; rintro e w3 (⟨_, A3, c3, RA3, RC3, rfl, hM3, hB3⟩ | ⟨hno, _⟩)
  rotate_left
  · exact absurd (pwm_inv0 (by omega)) hno
  have M3 := Lib.hid hM3
  have M13 := Lib.hid (M1.out.up hB3)
  have HB3 := Lib.hid (up_trans HB1.out hB3)
  clear hM3 hB3 M1 HB1 hsl
  go_wp2_with fail
  refine (refMul_yes M13.out M3.out ⟨ok_rect (by omega) h2 h1 (by omega), ok_sq h1 (by omega), rfl⟩).mono ?_; rintro e w4 hB4
  obtain ⟨A4, c4, RA4, RC4, rfl, hM4, hB4⟩ := hB4.made (by omega)
  have M4 := Lib.hid hM4
  have HB4 := Lib.hid (up_trans HB3.out hB4)
  clear hM4 hB4 M3 M13 HB3
  go_wp2
  go_ret2
  exact ⟨_, _, _, _, rfl, M4.out, HB4.out⟩

set_option maxRecDepth 100000 in
theorem refTable_no (k m : Int) (h : MayB k m = false) (w : World) :
    Calls Try.prog 13 #[.int .i64 k, .int .i64 m] w (FailRet w 1) := by
  have HM := Lib.hid h; clear h
  go_enter Try.func13, Try.ntmps13
  go_wp2_with fail
  refine (refMayC_any _ _ _).mono ?_; rintro e w1 ⟨rfl, rfl⟩
  rw [HM.out]
  go_wp2
  go_ret2
  exact ⟨rfl, Below.refl _ _⟩
end Go.Proofs.Ytohbijjkkadbaaa.Mat
