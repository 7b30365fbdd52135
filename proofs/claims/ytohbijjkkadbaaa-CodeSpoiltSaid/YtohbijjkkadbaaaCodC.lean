/- Tables: walked. -/
import Derived.Test.YtohbijjkkadbaaaCodB
import Derived.Test.YtohbijjkkadbaaaMatJ
namespace Go.Proofs.Ytohbijjkkadbaaa.Mat
open Go.RowKit Fld

set_option maxRecDepth 100000 in
theorem loPlace_any (k r : Nat) (p : Nat) (w : World) (h : w.cell? ⟨p, 0, none⟩ = some (.int .i64 (k : Int))) :
    Calls Try.prog 29 #[.int .i64 (r : Int), .pointer (some ⟨p, 0, none⟩)] w fun e w' => e = .returned (.bool (loB k r)) ∧ w = w' := by
  go_enter Try.func29, Try.ntmps29
  go_wp2
  go_ret
  exact ⟨rfl, rfl⟩
set_option maxRecDepth 100000 in
theorem hiPlace_any (k r : Nat) (p : Nat) (w : World) (h : w.cell? ⟨p, 0, none⟩ = some (.int .i64 (k : Int))) :
    Calls Try.prog 36 #[.int .i64 (r : Int), .pointer (some ⟨p, 0, none⟩)] w fun e w' => e = .returned (.bool (hiB k r)) ∧ w = w' := by
  go_enter Try.func36, Try.ntmps36
  go_wp2
  go_ret
  exact ⟨rfl, rfl⟩

theorem mt_lo {w : World} {A : Option Addr} {k m : Nat} {L RC : Nat → Nat} {RA : Nat → Option Addr} {F : Nat → Nat → BitVec 8} {B : Nat}
    (h : Mt w B A (cnt (loB k) (k + m)) (fun i => L (pk (loB k) (k + m) i)) (fun i => RA (pk (loB k) (k + m) i)) (fun i => RC (pk (loB k) (k + m) i)) (fun i => F (pk (loB k) (k + m) i))) : Mt w B A k L RA RC F := by
  rw [cnt_lo] at h
  intro hn
  obtain ⟨ad, h1, h2, h3⟩ := h hn
  refine ⟨ad, h1, h2, fun r hr => ?_⟩
  have := h3 r hr
  simp only [pk_lo hr] at this
  exact this
theorem Mt.less {w : World} {A : Option Addr} {n k B : Nat} {L RC : Nat → Nat} {RA : Nat → Option Addr} {F : Nat → Nat → BitVec 8} (h : Mt w B A n L RA RC F) (hk : k ≤ n) : Mt w B A k L RA RC F := fun hn => by
  obtain ⟨ad, h1, h2, h3⟩ := h (by omega)
  exact ⟨ad, h1, h2, fun r hr => h3 r (by omega)⟩

set_option maxRecDepth 100000 in
set_option maxHeartbeats 800000 in
theorem table_yes (k m : Nat) (h1 : 1 ≤ k) (h2 : k + m ≤ 32) (w : World) :
    Calls Try.prog 12 #[.int .i64 (k : Int), .int .i64 (m : Int)] w (MadeRet w (k + m) k (tab k)) := by
  have hmay : MayB (k : Int) (m : Int) = true := decide_eq_true (by omega)
  have ws : IntKind.i64.wrap ((k : Int) + (m : Int)) = ((k + m : Nat) : Int) := by rw [IntWalk.i64_in _ (by omega)]; omega
  have HM := Lib.hid hmay; clear hmay
  go_enter Try.func12, Try.ntmps12
  go_wp2_with fail
  have hbox := has_box w (.int .i64 (k : Int)) 3
  have hb0 : Below w.heap.size w (w.alloc (.cells #[.int .i64 (k : Int)] 3)) := (Below.refl _ _).alloc (Nat.le_refl _) _
  generalize w.alloc (.cells #[.int .i64 (k : Int)] 3) = w0 at *
  refine (codeMay_any _ _ (by omega) (by omega) _).mono ?_; rintro e w1 ⟨rfl, rfl⟩
  rw [HM.out]
  have hc0 := hbox.cell (i := 0) (by omega)
  have HX := Lib.hid hbox
  have HB := Lib.hid hb0
  clear hbox hb0
  go_wp2_with fail
  refine (powers_yes (k + m) k (by omega) h2 h1 (by omega) _).mono ?_; rintro e w1 ⟨A1, c1, RA1, RC1, rfl, hM1, hB1⟩
  have M1 := Lib.hid hM1
  have HB1 := Lib.hid (HB.out.trans (hB1.mono HB.out.size))
  have HX1 := Lib.hid (HX.out.below hB1 HX.out.lt)
  clear hM1 hB1 HB HX hc0
  go_wp2_with fail
  refine (chosenRows_any (p := loB k) 29 #[.pointer (some ⟨w.heap.size, 0, none⟩)] h2 M1.out
    (fun r W _ hW => loPlace_any k r w.heap.size W ((HX1.out.below hW HX1.out.lt).cell (by omega))) (by kernel_rfl)).mono ?_; rintro e w2 ⟨v, rfl, hC⟩
  obtain ⟨A2, c2, rfl, _, hM2⟩ := hC.mt M1.out
  have M2 := Lib.hid (mt_lo (L := fun _ => k) (RA := RA1) (RC := RC1) (F := pwm) hM2)
  have M12 := Lib.hid (M1.out.up hC.below)
  have HB2 := Lib.hid (up_trans HB1.out hC.below)
  rw [cnt_lo]
  clear hC hM2 HX1 HB1 M1
  go_wp2_with fail
  refine (inverse_yes M2.out (ok_sq h1 (by omega)) rfl (pwm_inv0 (by omega))).mono ?_; rintro e w3 ⟨A3, c3, RA3, RC3, rfl, hM3, hB3⟩
  have M3 := Lib.hid hM3
  have M13 := Lib.hid (M12.out.up hB3)
  have HB3 := Lib.hid (up_trans HB2.out hB3)
  clear hM3 hB3 M2 M12 HB2
  go_wp2_with fail
  refine (mul_ok M13.out M3.out ⟨ok_rect (by omega) h2 h1 (by omega), ok_sq h1 (by omega), rfl⟩).mono ?_; rintro e w4 ⟨A4, c4, RA4, RC4, rfl, hM4, hB4⟩
  have M4 := Lib.hid hM4
  have HB4 := Lib.hid (up_trans HB3.out hB4)
  clear hM4 hB4 M3 M13 HB3
  go_wp2
  go_ret2
  exact ⟨_, _, _, _, rfl, M4.out, HB4.out⟩

set_option maxRecDepth 100000 in
theorem table_no (k m : Int) (hk : -9223372036854775808 ≤ k ∧ k ≤ 9223372036854775807) (hm : -9223372036854775808 ≤ m ∧ m ≤ 9223372036854775807) (h : MayB k m = false) (w : World) :
    Calls Try.prog 12 #[.int .i64 k, .int .i64 m] w (FailRet w 1) := by
  have HM := Lib.hid h; clear h
  go_enter Try.func12, Try.ntmps12
  go_wp2_with fail
  have hb0 : Below w.heap.size w (w.alloc (.cells #[.int .i64 (k : Int)] 3)) := (Below.refl _ _).alloc (Nat.le_refl _) _
  generalize w.alloc (.cells #[.int .i64 (k : Int)] 3) = w0 at *
  refine (codeMay_any _ _ hk hm _).mono ?_; rintro e w1 ⟨rfl, rfl⟩
  rw [HM.out]
  have HB := Lib.hid hb0
  clear hb0
  go_wp2
  go_ret2
  exact ⟨rfl, HB.out⟩
end Go.Proofs.Ytohbijjkkadbaaa.Mat
