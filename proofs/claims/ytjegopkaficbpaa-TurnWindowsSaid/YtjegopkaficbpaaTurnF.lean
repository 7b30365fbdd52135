/- Prints of both sides, and the document's examples: walked. -/
import Derived.Test.YtjegopkaficbpaaTurnE
namespace Go.Proofs.Ytjegopkaficbpaa.Mat
open Go.RowKit Fld Flt Trn

/-- the print of the first k bytes of a text -/
def prn (s : ByteArray) (k : Nat) : Tn := md (pr (fun i => V (bt s i) + 1) k)
theorem nx_md (z : Tn) (c : Int) : nx (md z) c = md (ad (mu z st) (c + 1, 0)) := by unfold nx; rw [← md_ad1, md_mu1, md_ad1]
theorem prn_next (s : ByteArray) (k : Nat) : nx (prn s k) (V (bt s k)) = prn s (k + 1) := nx_md _ _
theorem prn_zero (s : ByteArray) : prn s 0 = (0, 0) := rfl
theorem prn_may (s : ByteArray) (k : Nat) : may (prn s k) := may_md _
theorem small22 {z : Tn} (h : may z) : Sm 22 z.1 ∧ Sm 22 z.2 := by
  obtain ⟨a, b, c, d⟩ := h
  exact ⟨Sm.of (by omega), Sm.of (by omega)⟩
theorem small40 {z : Tn} (h : may z) : Sm 40 z.1 ∧ Sm 40 z.2 := by
  obtain ⟨a, b, c, d⟩ := h
  exact ⟨Sm.of (by omega), Sm.of (by omega)⟩

set_option maxRecDepth 100000 in
set_option maxHeartbeats 800000 in
theorem print_any (s : ByteArray) (hs : s.size ≤ 281474976710656) (w : World) : Calls Try.prog 17 #[.string s] w (TurnRet w (prn s s.size)) := by
  go_enter Try.func17, Try.ntmps17
  go_wp2
  have h0 := Lib.hid (F1.start w 0 0)
  generalize w.alloc (.cells #[.int .i64 0, .int .i64 0] 23) = w0 at *
  go_loop [3, 4, 7] (fun z u c => ∃ k : Nat, k ≤ s.size ∧ z = .complex .f64 (R (prn s k).1) (R (prn s k).2) ∧ c = .int .i64 (k : Nat)) (fun _ _ c => s.size - (intOf c).toNat)
  case atStart => exact ⟨0, Nat.zero_le _, rfl, rfl⟩
  case round =>
    obtain ⟨k, hk, rfl, rfl⟩ := hrel
    by_cases hks : k < s.size
    · have hki : (k : Int) < (s.size : Int) := by omega
      have k1 := fun w => str_at s k hks w
      have HB := Lib.hid (behind_any (prn s k).1 (prn s k).2 (V (bt s k)) (small22 (prn_may s k)).1 (small22 (prn_may s k)).2 (V_lo _) (V_hi _))
      go_wp2_with fail
      refine (HB.out _).mono ?_; rintro e w' ⟨rfl, rfl⟩
      go_wp2
      go_round
      case rel => exact ⟨k + 1, by omega, by rw [← prn_next], by go_num⟩
      case measure => simp [intOf]; omega
    · have hki : ¬ (k : Int) < (s.size : Int) := by omega
      obtain rfl : k = s.size := by omega
      go_wp2_with fail
      refine (told_any _ _ (small40 (prn_may s _)).1 (small40 (prn_may s _)).2 _).mono ?_; rintro e w1 ⟨rfl, hb1⟩
      have h1 := h0.out.up hb1
      obtain ⟨z0, z1, z2, z3⟩ := h1.cz
      have H1 := Lib.hid h1
      clear h0 h1 hb1
      go_wp2
      have hp := H1.out.put (prn s s.size).1 (prn s s.size).2
      refine bodyPost_ret (results_turn rfl _ _ w.heap.size rfl hp.z.pair) rfl ⟨rfl, hp.below⟩

set_option maxRecDepth 100000 in
set_option maxHeartbeats 800000 in
theorem refPrint_any (s : ByteArray) (hs : s.size ≤ 140737488351232) (w : World) : Calls Try.prog 18 #[.string s] w (TurnRet w (prn s s.size)) := by
  go_enter Try.func18, Try.ntmps18
  go_wp2
  have h0 := Lib.hid (F2.start w 0 0 0 0)
  go_loopg [4] s.size (fun gh c wr => ∃ k : Nat, k ≤ s.size ∧ gh = s.size - k ∧ c = .int .i64 (k : Nat) ∧ F2 w wr 0 0 (prn s k).1 (prn s k).2)
  case atStart => exact ⟨0, Nat.zero_le _, rfl, rfl, h0.out⟩
  case round =>
    obtain ⟨k, hk, rfl, rfl, hF⟩ := hrel
    have HF := Lib.hid hF
    by_cases hks : k < s.size
    · have hki : (k : Int) < (s.size : Int) := by omega
      have k1 := fun w => str_at s k hks w
      obtain ⟨z0, z1, z2, z3⟩ := hF.cz
      have HD := Lib.hid hF.drew
      clear hF
      go_wp2_with fail
      go_still_tail 4, (by kernel_rfl)
      change wpList _ _ _ _ _ wr.drew
      generalize wr.drew = w0 at *
      clear z0 z1 z2 z3
      go_wp2_with fail
      refine (refPut_any (prn_may s k) (V_lo _) (V_hi _) _).mono ?_; rintro e w1 ⟨rfl, hb1⟩
      have h1 := HD.out.up hb1
      obtain ⟨z0, z1, z2, z3⟩ := h1.cz
      have H1 := Lib.hid (h1.putz (nx (prn s k) (V (bt s k))).1 (nx (prn s k) (V (bt s k))).2)
      clear h1 hb1
      go_wp2
      go_roundg (s.size - (k + 1))
      case measure => go_light; omega
      case rel => go_light; exact ⟨k + 1, by omega, rfl, by simp, by rw [← prn_next]; exact H1.out⟩
    · have hki : ¬ (k : Int) < (s.size : Int) := by omega
      obtain rfl : k = s.size := by omega
      obtain ⟨z0, z1, z2, z3⟩ := hF.cz
      obtain ⟨x0, x1, x2, x3⟩ := hF.cx
      clear hF
      go_wp2
      have hp := HF.out.putx (prn s s.size).1 (prn s s.size).2
      refine bodyPost_ret (results_turn rfl _ _ w.heap.size rfl hp.x.pair) rfl ⟨rfl, hp.below⟩

def n1 : ByteArray := ⟨#[0]⟩
def n2 : ByteArray := ⟨#[0, 0]⟩
theorem pn1 : prn n1 n1.size = (1, 0) := by decide +kernel
theorem pn2 : prn n2 n2.size = (6, 3) := by decide +kernel
theorem pw2 : md (px st 2) = (16, 30) := by decide +kernel
set_option maxRecDepth 100000 in
set_option maxHeartbeats 800000 in
theorem shown_any (w : World) : Calls Try.prog 10 #[] w (BoolRet w true) := by
  have p1 := fun w => print_any n1 (by decide) w
  have p2 := fun w => print_any n2 (by decide) w
  have p3 := fun w => powerT_any 2 (by decide) w
  rw [pn1] at p1
  rw [pn2] at p2
  rw [pw2] at p3
  have P1 := Lib.hid p1
  have P2 := Lib.hid p2
  have P3 := Lib.hid p3
  clear p1 p2 p3
  go_enter Try.func10, Try.ntmps10
  go_wp2_with fail
  refine (P1.out _).mono ?_; rintro e w1 ⟨rfl, hb1⟩
  have B1 := Lib.hid hb1
  clear hb1
  go_wp2_with fail
  refine (P2.out _).mono ?_; rintro e w2 ⟨rfl, hb2⟩
  have B2 := Lib.hid (up_trans B1.out hb2)
  clear hb2
  go_wp2_with fail
  refine (P3.out _).mono ?_; rintro e w3 ⟨rfl, hb3⟩
  have B3 := Lib.hid (up_trans B2.out hb3)
  clear hb3
  go_wp2
  go_ret
  exact ⟨rfl, B3.out⟩
end Go.Proofs.Ytjegopkaficbpaa.Mat
