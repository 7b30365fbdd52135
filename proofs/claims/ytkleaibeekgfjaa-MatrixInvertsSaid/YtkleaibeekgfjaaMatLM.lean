/- The laws MatrixMuls, MatrixMade: walked. -/
import Derived.Test.YtkleaibeekgfjaaMatL
import Derived.Test.YtkleaibeekgfjaaMatRM
namespace Go.Proofs.Ytkleaibeekgfjaa.Mat
open Go.RowKit Fld

theorem nil_mt (w : World) (B : Nat) (L RC RA F) : Mt w B none 0 L RA RC F := fun h => absurd h (by omega)
theorem same_refl (n : Nat) (L F) : MSame n L F n L F := ⟨rfl, fun _ _ => ⟨rfl, fun _ _ => rfl⟩⟩
theorem bool_beq (b : Bool) : (b == b) = true := by cases b <;> rfl

set_option maxRecDepth 100000 in
set_option maxHeartbeats 1600000 in
theorem lawMuls {W : World} (A : Option Addr) (n cap : Nat) (L : Nat → Nat) (RA : Nat → Option Addr) (RC : Nat → Nat) (F : Nat → Nat → BitVec 8)
    (A' : Option Addr) (n' cap' : Nat) (L' : Nat → Nat) (RA' : Nat → Option Addr) (RC' : Nat → Nat) (F' : Nat → Nat → BitVec 8)
    (hn : n ≤ 9223372036854775807) (m : Mt W W.heap.size A n L RA RC F) (hn' : n' ≤ 9223372036854775807) (m' : Mt W W.heap.size A' n' L' RA' RC' F') :
    Calls Try.prog 3 #[.slice A n cap, .slice A' n' cap'] W fun e w' => e = .returned (.bool true) ∧ Below W.heap.size W w' := by
  have M := Lib.hid m
  have M' := Lib.hid m'
  clear m m'
  go_enter Try.func3, Try.ntmps3
  go_wp2_with fail
  refine (shown_any _).mono ?_; rintro e w1 ⟨rfl, hb1⟩
  have B1 := Lib.hid hb1
  have a1 := Lib.hid (M.out.up hb1)
  have b1 := Lib.hid (M'.out.up hb1)
  clear hb1 M M'
  by_cases o : MulOk n L n' L'
  · have O := Lib.hid o; clear o
    go_wp2_with fail
    refine (mul_ok a1.out b1.out O.out).mono ?_; rintro e w2 ⟨A2, c2, RA2, RC2, rfl, hM2, hB2⟩
    have B2 := Lib.hid (up_trans B1.out hB2)
    have a2 := Lib.hid (a1.out.up hB2)
    have b2 := Lib.hid (b1.out.up hB2)
    have x2 := Lib.hid hM2
    clear hM2 hB2 B1 a1 b1
    go_wp2_with fail
    refine ((refMul_yes a2.out b2.out O.out).mono fun _ _ hh => hh.made O.out.1.1).mono ?_; rintro e w3 ⟨A3, c3, RA3, RC3, rfl, hM3, hB3⟩
    have B3 := Lib.hid (up_trans B2.out hB3)
    have a3 := Lib.hid (a2.out.up hB3)
    have b3 := Lib.hid (b2.out.up hB3)
    have x3 := Lib.hid (x2.out.up hB3)
    have y3 := Lib.hid hM3
    clear hM3 hB3 B2 a2 b2 x2
    go_wp2_with fail
    refine (refSame_yes x3.out y3.out hn hn (same_mat (m := L' 0) (fun _ _ => rfl) (fun _ _ => rfl) (fun _ _ _ _ => rfl))).mono ?_; rintro e w4 ⟨rfl, q4, rfl⟩
    go_wp2_with fail
    refine (may_any (a3.out.drewN _) hn).mono ?_; rintro e w5 ⟨rfl, rfl⟩
    go_wp2_with fail
    refine (refMay_any (a3.out.drewN _) hn).mono ?_; rintro e w6 ⟨rfl, q6, rfl⟩
    have t1 := bool_beq (okB n L)
    generalize okB n L = ob at *
    go_wp2_with fail
    refine (same_any (a3.out.drewN _) (b3.out.drewN _) hn hn').mono ?_; rintro e w7 ⟨rfl, rfl⟩
    go_wp2_with fail
    refine (refSame_any (a3.out.drewN _) (b3.out.drewN _) hn hn').mono ?_; rintro e w8 ⟨rfl, q8, rfl⟩
    have t2 := bool_beq (msameB n L F n' L' F')
    generalize msameB n L F n' L' F' = sb at *
    go_wp2_with fail
    refine (same_any (a3.out.drewN _) (a3.out.drewN _) hn hn).mono ?_; rintro e w9 ⟨rfl, rfl⟩
    rw [msame_yes (same_refl n L F)]
    go_wp2
    go_ret
    exact ⟨rfl, below_drewN B3.out _⟩
  · have O := Lib.hid o; clear o
    go_wp2_with fail
    refine (mul_no a1.out b1.out hn hn' O.out).mono ?_; rintro e w2 ⟨rfl, hB2⟩
    have B2 := Lib.hid (up_trans B1.out hB2)
    have a2 := Lib.hid (a1.out.up hB2)
    have b2 := Lib.hid (b1.out.up hB2)
    clear hB2 B1 a1 b1
    go_wp2_with fail
    refine (refMul_no a2.out b2.out hn hn' O.out).mono ?_; rintro e w3 ⟨rfl, hB3⟩
    have B3 := Lib.hid (up_trans B2.out hB3)
    have a3 := Lib.hid (a2.out.up hB3)
    have b3 := Lib.hid (b2.out.up hB3)
    clear hB3 B2 a2 b2
    go_wp2_with fail
    refine (refSame_yes (nil_mt _ 0 (fun _ => 0) (fun _ => 0) (fun _ => none) (fun _ _ => 0#8)) (nil_mt _ 0 (fun _ => 0) (fun _ => 0) (fun _ => none) (fun _ _ => 0#8)) (by omega) (by omega) (same_refl _ _ _)).mono ?_; rintro e w4 ⟨rfl, q4, rfl⟩
    go_wp2_with fail
    refine (may_any (a3.out.drewN _) hn).mono ?_; rintro e w5 ⟨rfl, rfl⟩
    go_wp2_with fail
    refine (refMay_any (a3.out.drewN _) hn).mono ?_; rintro e w6 ⟨rfl, q6, rfl⟩
    have t1 := bool_beq (okB n L)
    generalize okB n L = ob at *
    go_wp2_with fail
    refine (same_any (a3.out.drewN _) (b3.out.drewN _) hn hn').mono ?_; rintro e w7 ⟨rfl, rfl⟩
    go_wp2_with fail
    refine (refSame_any (a3.out.drewN _) (b3.out.drewN _) hn hn').mono ?_; rintro e w8 ⟨rfl, q8, rfl⟩
    have t2 := bool_beq (msameB n L F n' L' F')
    generalize msameB n L F n' L' F' = sb at *
    go_wp2_with fail
    refine (same_any (a3.out.drewN _) (a3.out.drewN _) hn hn).mono ?_; rintro e w9 ⟨rfl, rfl⟩
    rw [msame_yes (same_refl n L F)]
    go_wp2
    go_ret
    exact ⟨rfl, below_drewN B3.out _⟩

set_option maxRecDepth 100000 in
set_option maxHeartbeats 3200000 in
theorem lawMade (n m : Int) (h1 : -9223372036854775808 ≤ n) (h2 : n ≤ 9223372036854775807) (h3 : -9223372036854775808 ≤ m) (h4 : m ≤ 9223372036854775807) (W : World) :
    Calls Try.prog 5 #[.int .i64 n, .int .i64 m] W fun e w' => e = .returned (.bool true) ∧ Below W.heap.size W w' := by
  go_enter Try.func5, Try.ntmps5
  go_wp2_with fail
  refine (shown_any _).mono ?_; rintro e w1 ⟨rfl, hb1⟩
  have B1 := Lib.hid hb1
  clear hb1
  by_cases hn : n < 1 ∨ 32 < n
  · have HN := Lib.hid hn; clear hn h1 h2 h3 h4
    go_wp2_with fail
    refine (identity_no n HN.out _).mono ?_; rintro e w2 ⟨rfl, hB2⟩
    have B2 := Lib.hid (up_trans B1.out hB2)
    clear hB2
    go_wp2_with fail
    refine (refIdentity_no n HN.out _).mono ?_; rintro e w3 ⟨rfl, hB3⟩
    have B3 := Lib.hid (up_trans B2.out hB3)
    clear hB3
    go_wp2_with fail
    refine (powers_no n m (.inl HN.out) _).mono ?_; rintro e w4 ⟨rfl, hB4⟩
    have B4 := Lib.hid (up_trans B3.out hB4)
    clear hB4
    go_wp2_with fail
    refine (refPowers_no n m (.inl HN.out) _).mono ?_; rintro e w5 ⟨rfl, hB5⟩
    have B5 := Lib.hid (up_trans B4.out hB5)
    clear hB5 B1 B2 B3 B4
    go_wp2_with fail
    refine (refSame_yes (nil_mt _ 0 (fun _ => 0) (fun _ => 0) (fun _ => none) (fun _ _ => 0#8)) (nil_mt _ 0 (fun _ => 0) (fun _ => 0) (fun _ => none) (fun _ _ => 0#8)) (by omega) (by omega) (same_refl _ _ _)).mono ?_; rintro e w6 ⟨rfl, q6, rfl⟩
    go_wp2_with fail
    refine (refSame_yes (nil_mt _ 0 (fun _ => 0) (fun _ => 0) (fun _ => none) (fun _ _ => 0#8)) (nil_mt _ 0 (fun _ => 0) (fun _ => 0) (fun _ => none) (fun _ _ => 0#8)) (by omega) (by omega) (same_refl _ _ _)).mono ?_; rintro e w7 ⟨rfl, q7, rfl⟩
    go_wp2
    go_ret
    exact ⟨rfl, below_drewN B5.out _⟩
  · obtain ⟨N, rfl⟩ : ∃ N : Nat, n = (N : Int) := ⟨n.toNat, by omega⟩
    have a1 : 1 ≤ N := by omega
    have a2 : N ≤ 32 := by omega
    clear hn h1 h2
    go_wp2_with fail
    refine (identity_yes N a1 a2 _).mono ?_; rintro e w2 ⟨A2, c2, RA2, RC2, rfl, hM2, hB2⟩
    have B2 := Lib.hid (up_trans B1.out hB2)
    have x2 := Lib.hid hM2
    clear hM2 hB2 B1
    go_wp2_with fail
    refine ((refIdentity_yes N a1 a2 _).mono fun _ _ hh => hh.made (by omega)).mono ?_; rintro e w3 ⟨A3, c3, RA3, RC3, rfl, hM3, hB3⟩
    have B3 := Lib.hid (up_trans B2.out hB3)
    have x3 := Lib.hid (x2.out.up hB3)
    have y3 := Lib.hid hM3
    clear hM3 hB3 B2 x2
    by_cases hm : m < 1 ∨ 32 < m
    · have HM := Lib.hid hm; clear hm h3 h4
      go_wp2_with fail
      refine (powers_no N m (.inr HM.out) _).mono ?_; rintro e w4 ⟨rfl, hB4⟩
      have B4 := Lib.hid (up_trans B3.out hB4)
      have x4 := Lib.hid (x3.out.up hB4)
      have y4 := Lib.hid (y3.out.up hB4)
      clear hB4 B3 x3 y3
      go_wp2_with fail
      refine (refPowers_no N m (.inr HM.out) _).mono ?_; rintro e w5 ⟨rfl, hB5⟩
      have B5 := Lib.hid (up_trans B4.out hB5)
      have x5 := Lib.hid (x4.out.up hB5)
      have y5 := Lib.hid (y4.out.up hB5)
      clear hB5 B4 x4 y4
      go_wp2_with fail
      refine (refSame_yes x5.out y5.out (by omega) (by omega) (same_refl _ _ _)).mono ?_; rintro e w6 ⟨rfl, q6, rfl⟩
      go_wp2_with fail
      refine (refSame_yes (nil_mt _ 0 (fun _ => 0) (fun _ => 0) (fun _ => none) (fun _ _ => 0#8)) (nil_mt _ 0 (fun _ => 0) (fun _ => 0) (fun _ => none) (fun _ _ => 0#8)) (by omega) (by omega) (same_refl _ _ _)).mono ?_; rintro e w7 ⟨rfl, q7, rfl⟩
      go_wp2
      go_ret
      exact ⟨rfl, below_drewN B5.out _⟩
    · obtain ⟨K, rfl⟩ : ∃ K : Nat, m = (K : Int) := ⟨m.toNat, by omega⟩
      have a3 : 1 ≤ K := by omega
      have a4 : K ≤ 32 := by omega
      clear hm h3 h4
      go_wp2_with fail
      refine (powers_yes N K a1 a2 a3 a4 _).mono ?_; rintro e w4 ⟨A4, c4, RA4, RC4, rfl, hM4, hB4⟩
      have B4 := Lib.hid (up_trans B3.out hB4)
      have x4 := Lib.hid (x3.out.up hB4)
      have y4 := Lib.hid (y3.out.up hB4)
      have p4 := Lib.hid hM4
      clear hM4 hB4 B3 x3 y3
      go_wp2_with fail
      refine ((refPowers_yes N K a1 a2 a3 a4 _).mono fun _ _ hh => hh.made (by omega)).mono ?_; rintro e w5 ⟨A5, c5, RA5, RC5, rfl, hM5, hB5⟩
      have B5 := Lib.hid (up_trans B4.out hB5)
      have x5 := Lib.hid (x4.out.up hB5)
      have y5 := Lib.hid (y4.out.up hB5)
      have p5 := Lib.hid (p4.out.up hB5)
      have q5 := Lib.hid hM5
      clear hM5 hB5 B4 x4 y4 p4
      go_wp2_with fail
      refine (refSame_yes x5.out y5.out (by omega) (by omega) (same_refl _ _ _)).mono ?_; rintro e w6 ⟨rfl, k6, rfl⟩
      go_wp2_with fail
      refine (refSame_yes (p5.out.drewN _) (q5.out.drewN _) (by omega) (by omega) (same_refl _ _ _)).mono ?_; rintro e w7 ⟨rfl, k7, rfl⟩
      go_wp2
      go_ret
      exact ⟨rfl, below_drewN B5.out _⟩
end Go.Proofs.Ytkleaibeekgfjaa.Mat
