/- The law MatrixInverts: walked. -/
import Derived.Test.YtkleaibeekgfjaaMatLM
import Derived.Test.YtkleaibeekgfjaaMatJ
namespace Go.Proofs.Ytkleaibeekgfjaa.Mat
open Go.RowKit Fld

set_option maxRecDepth 100000 in
set_option maxHeartbeats 1600000 in
theorem lawInverts_ok {W : World} (A : Option Addr) (n cap : Nat) (L : Nat → Nat) (RA : Nat → Option Addr) (RC : Nat → Nat) (F : Nat → Nat → BitVec 8) (hn : n ≤ 9223372036854775807) (m : Mt W W.heap.size A n L RA RC F) (o : Ok n L) (eL : L 0 = n) :
    Calls Try.prog 4 #[.slice A n cap] W fun e w' => e = .returned (.bool true) ∧ Below W.heap.size W w' := by
  have M := Lib.hid m
  have O := Lib.hid o
  have EL := Lib.hid eL
  clear m o eL
  go_enter Try.func4, Try.ntmps4
  go_wp2_with fail
  refine (shown_any _).mono ?_; rintro e w1 ⟨rfl, hb1⟩
  have B1 := Lib.hid hb1
  have M1 := Lib.hid (M.out.up hb1)
  clear hb1 M
  go_wp2_with fail
  refine (inverse_ok M1.out O.out EL.out).mono ?_; rintro e w2 (⟨hi, A2, c2, RA2, RC2, rfl, hM2, hB2⟩ | ⟨hi, rfl, hB2⟩)
  · have B2 := Lib.hid (up_trans B1.out hB2)
    have a2 := Lib.hid (M1.out.up hB2)
    have x2 := Lib.hid hM2
    have HI := Lib.hid hi
    clear hM2 hB2 B1 M1 hi
    go_wp2_with fail
    refine (refInverse_ok a2.out O.out EL.out).mono ?_; rintro e w3 (⟨hi, A3, c3, RA3, RC3, rfl, hM3, hB3⟩ | ⟨hi, _⟩)
    · have B3 := Lib.hid (up_trans B2.out hB3)
      have x3 := Lib.hid (x2.out.up hB3)
      have y3 := Lib.hid hM3
      clear hM3 hB3 B2 a2 x2 hi
      go_wp2_with fail
      refine (refSame_yes x3.out y3.out hn hn (same_refl _ _ _)).mono ?_; rintro e w4 ⟨rfl, q4, rfl⟩
      go_wp2
      go_ret
      exact ⟨rfl, below_drewN B3.out _⟩
    · exact absurd HI.out hi
  · have B2 := Lib.hid (up_trans B1.out hB2)
    have a2 := Lib.hid (M1.out.up hB2)
    have HI := Lib.hid hi
    clear hB2 B1 M1 hi
    go_wp2_with fail
    refine (refInverse_ok a2.out O.out EL.out).mono ?_; rintro e w3 (⟨hi, _⟩ | ⟨hi, rfl, hB3⟩)
    · exact absurd hi HI.out
    · have B3 := Lib.hid (up_trans B2.out hB3)
      clear hB3 B2 a2 hi
      go_wp2_with fail
      refine (refSame_yes (nil_mt _ 0 (fun _ => 0) (fun _ => 0) (fun _ => none) (fun _ _ => 0#8)) (nil_mt _ 0 (fun _ => 0) (fun _ => 0) (fun _ => none) (fun _ _ => 0#8)) (by omega) (by omega) (same_refl _ _ _)).mono ?_; rintro e w4 ⟨rfl, q4, rfl⟩
      go_wp2
      go_ret
      exact ⟨rfl, below_drewN B3.out _⟩

theorem inverse_no {w : World} {n cap : Nat} {A : Option Addr} {L RC : Nat → Nat} {RA : Nat → Option Addr} {F : Nat → Nat → BitVec 8} (h : Mt w w.heap.size A n L RA RC F) (hn : n ≤ 9223372036854775807) (o : ¬ (Ok n L ∧ L 0 = n)) :
    Calls Try.prog 18 #[.slice A n cap] w (FailRet w 1) := by
  by_cases o1 : Ok n L
  · exact inverse_no2 h o1 (fun e => o ⟨o1, e⟩)
  · exact inverse_no1 h hn o1
theorem refInverse_no {w : World} {n cap : Nat} {A : Option Addr} {L RC : Nat → Nat} {RA : Nat → Option Addr} {F : Nat → Nat → BitVec 8} (h : Mt w w.heap.size A n L RA RC F) (hn : n ≤ 9223372036854775807) (o : ¬ (Ok n L ∧ L 0 = n)) :
    Calls Try.prog 19 #[.slice A n cap] w (FailRet w 1) := by
  by_cases o1 : Ok n L
  · exact refInverse_no2 h o1 (fun e => o ⟨o1, e⟩)
  · exact refInverse_no1 h hn o1

set_option maxRecDepth 100000 in
set_option maxHeartbeats 1600000 in
theorem lawInverts {W : World} (A : Option Addr) (n cap : Nat) (L : Nat → Nat) (RA : Nat → Option Addr) (RC : Nat → Nat) (F : Nat → Nat → BitVec 8) (hn : n ≤ 9223372036854775807) (m : Mt W W.heap.size A n L RA RC F) :
    Calls Try.prog 4 #[.slice A n cap] W fun e w' => e = .returned (.bool true) ∧ Below W.heap.size W w' := by
  by_cases o : Ok n L ∧ L 0 = n
  · exact lawInverts_ok A n cap L RA RC F hn m o.1 o.2
  have M := Lib.hid m
  have O := Lib.hid o
  clear m o
  go_enter Try.func4, Try.ntmps4
  go_wp2_with fail
  refine (shown_any _).mono ?_; rintro e w1 ⟨rfl, hb1⟩
  have B1 := Lib.hid hb1
  have M1 := Lib.hid (M.out.up hb1)
  clear hb1 M
  go_wp2_with fail
  refine (inverse_no M1.out hn O.out).mono ?_; rintro e w2 ⟨rfl, hB2⟩
  have B2 := Lib.hid (up_trans B1.out hB2)
  have a2 := Lib.hid (M1.out.up hB2)
  clear hB2 B1 M1
  go_wp2_with fail
  refine (refInverse_no a2.out hn O.out).mono ?_; rintro e w3 ⟨rfl, hB3⟩
  have B3 := Lib.hid (up_trans B2.out hB3)
  clear hB3 B2 a2
  go_wp2_with fail
  refine (refSame_yes (nil_mt _ 0 (fun _ => 0) (fun _ => 0) (fun _ => none) (fun _ _ => 0#8)) (nil_mt _ 0 (fun _ => 0) (fun _ => 0) (fun _ => none) (fun _ _ => 0#8)) (by omega) (by omega) (same_refl _ _ _)).mono ?_; rintro e w4 ⟨rfl, q4, rfl⟩
  go_wp2
  go_ret
  exact ⟨rfl, below_drewN B3.out _⟩
end Go.Proofs.Ytkleaibeekgfjaa.Mat
