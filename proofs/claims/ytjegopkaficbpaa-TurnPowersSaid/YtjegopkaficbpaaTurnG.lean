/- Products, powers, prints of both sides, held against each other: walked. -/
import Derived.Test.YtjegopkaficbpaaTurnF
namespace Go.Proofs.Ytjegopkaficbpaa.Mat
open Go.RowKit Fld Flt Trn

def mulT (x y : Tn) : Tn := if may x ∧ may y then md (mu x y) else (0, 0)
theorem mul_any (a b c d : Int) (w : World) : Calls Try.prog 13 #[tv a b, tv c d] w (TurnRet w (mulT (a, b) (c, d))) := by
  unfold mulT
  by_cases h : may (a, b)
  · by_cases h' : may (c, d)
    · rw [if_pos ⟨h, h'⟩]; exact mul_yes h h' w
    · rw [if_neg (fun e => h' e.2)]; exact mul_no2 h h' w
  · rw [if_neg (fun e => h e.1)]; exact mul_no1 h w
theorem refMul_any (a b c d : Int) (w : World) : Calls Try.prog 14 #[tv a b, tv c d] w (TurnRet w (mulT (a, b) (c, d))) := by
  unfold mulT
  by_cases h : may (a, b)
  · by_cases h' : may (c, d)
    · rw [if_pos ⟨h, h'⟩]; exact refMul_yes h h' w
    · rw [if_neg (fun e => h' e.2)]; exact refMul_no2 h h' w
  · rw [if_neg (fun e => h e.1)]; exact refMul_no1 h w

set_option maxRecDepth 100000 in
set_option maxHeartbeats 800000 in
theorem lawPrints (s : ByteArray) (hs : s.size ≤ 140737488351232) (w : World) : Calls Try.prog 4 #[.string s] w (BoolRet w true) := by
  go_enter Try.func4, Try.ntmps4
  go_wp2_with fail
  refine (shown_any _).mono ?_; rintro e w1 ⟨rfl, hb1⟩
  have B1 := Lib.hid hb1
  clear hb1
  go_wp2_with fail
  refine (print_any s (by omega) _).mono ?_; rintro e w2 ⟨rfl, hb2⟩
  have B2 := Lib.hid (up_trans B1.out hb2)
  clear hb2
  go_wp2_with fail
  refine (refPrint_any s hs _).mono ?_; rintro e w3 ⟨rfl, hb3⟩
  have B3 := Lib.hid (up_trans B2.out hb3)
  clear hb3
  go_wp2
  go_ret
  exact ⟨rfl, B3.out⟩

theorem sum_powers (m n : Nat) : mulT (md (px st m)) (md (px st n)) = md (px st (m + n)) := by
  unfold mulT
  rw [if_pos ⟨may_md _, may_md _⟩, md_mu, px_add]
set_option maxRecDepth 100000 in
set_option maxHeartbeats 800000 in
theorem lawPowers (m n : Nat) (hm : m < 18446744073709551616) (hn : n < 18446744073709551616) (w : World) :
    Calls Try.prog 9 #[.int .u64 (m : Nat), .int .u64 (n : Nat)] w (BoolRet w true) := by
  by_cases hm1 : m ≤ 4611686018427387904
  · by_cases hn1 : n ≤ 4611686018427387904
    · have g1 : ¬ (4611686018427387904 : Int) < (m : Int) := by omega
      have g2 : ¬ (4611686018427387904 : Int) < (n : Int) := by omega
      have HM := Lib.hid hm
      have HN := Lib.hid hn
      have hs := sum_powers m n
      obtain ⟨p, hp⟩ : ∃ p : Nat, m + n = p := ⟨_, rfl⟩
      have HE : Hid ((m : Int) + (n : Int) = (p : Int)) := Lib.hid (by omega)
      rw [hp] at hs
      have HP : Hid (p < 18446744073709551616) := Lib.hid (by omega)
      have HS := Lib.hid hs
      clear hs hp hm1 hn1
      go_enter Try.func9, Try.ntmps9
      go_wp2_with fail
      refine (shown_any _).mono ?_; rintro e w1 ⟨rfl, hb1⟩
      have B1 := Lib.hid hb1
      clear hb1
      go_wp2_with fail
      rw [HE.out]
      refine (powerT_any p HP.out _).mono ?_; rintro e w2 ⟨rfl, hb2⟩
      have B2 := Lib.hid (up_trans B1.out hb2)
      clear hb2
      go_wp2_with fail
      refine (powerT_any m HM.out _).mono ?_; rintro e w3 ⟨rfl, hb3⟩
      have B3 := Lib.hid (up_trans B2.out hb3)
      clear hb3
      go_wp2_with fail
      refine (powerT_any n HN.out _).mono ?_; rintro e w4 ⟨rfl, hb4⟩
      have B4 := Lib.hid (up_trans B3.out hb4)
      clear hb4
      go_wp2_with fail
      refine (mul_any _ _ _ _ _).mono ?_; rintro e w5 ⟨rfl, hb5⟩
      have B5 := Lib.hid (up_trans B4.out hb5)
      clear hb5
      have hs := HS.out
      change mulT ((md (px st m)).1, (md (px st m)).2) ((md (px st n)).1, (md (px st n)).2) = _ at hs
      rw [hs]
      clear hs
      go_wp2
      go_ret
      exact ⟨rfl, B5.out⟩
    · have g1 : ¬ (4611686018427387904 : Int) < (m : Int) := by omega
      have g2 : (4611686018427387904 : Int) < (n : Int) := by omega
      clear hm hn
      go_enter Try.func9, Try.ntmps9
      go_wp2_with fail
      refine (shown_any _).mono ?_; rintro e w1 ⟨rfl, hb1⟩
      have B1 := Lib.hid hb1
      clear hb1
      go_wp2
      go_ret
      exact ⟨rfl, B1.out⟩
  · have g1 : (4611686018427387904 : Int) < (m : Int) := by omega
    clear hm hn
    go_enter Try.func9, Try.ntmps9
    go_wp2_with fail
    refine (shown_any _).mono ?_; rintro e w1 ⟨rfl, hb1⟩
    have B1 := Lib.hid hb1
    clear hb1
    go_wp2
    go_ret
    exact ⟨rfl, B1.out⟩
end Go.Proofs.Ytjegopkaficbpaa.Mat
