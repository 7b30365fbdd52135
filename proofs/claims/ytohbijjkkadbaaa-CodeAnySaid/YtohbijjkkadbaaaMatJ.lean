/- The document's own inverse: walked. -/
import Derived.Test.YtohbijjkkadbaaaMatI
import Derived.Test.YtohbijjkkadbaaaMatG
namespace Go.Proofs.Ytohbijjkkadbaaa.Mat
open Go.RowKit Fld

section
variable {A : Option Addr} {n cap B : Nat} {L RC : Nat → Nat} {RA : Nat → Option Addr} {F : Nat → Nat → BitVec 8} {w : World}
set_option maxRecDepth 100000 in
set_option maxHeartbeats 800000 in
theorem refInverse_no1 (h : Mt w w.heap.size A n L RA RC F) (hn : n ≤ 9223372036854775807) (o : ¬ Ok n L) :
    Calls Try.prog 32 #[.slice A n cap] w (FailRet w 1) := by
  have H := Lib.hid h
  have O := Lib.hid o
  clear h o
  go_enter Try.func32, Try.ntmps32
  go_wp2_with fail
  refine (refMay_no H.out hn O.out).mono ?_; rintro e w1 ⟨rfl, q1, rfl⟩
  go_wp2
  go_ret2
  exact ⟨rfl, below_drewN (Below.refl _ _) _⟩
set_option maxRecDepth 100000 in
set_option maxHeartbeats 800000 in
theorem refInverse_no2 (h : Mt w w.heap.size A n L RA RC F) (o : Ok n L) (e : L 0 ≠ n) :
    Calls Try.prog 32 #[.slice A n cap] w (FailRet w 1) := by
  have H := Lib.hid h
  have O := Lib.hid o
  obtain ⟨ad, rfl, hb, hc0, _, _⟩ := h.row (r := 0) o.1
  rw [add_zero] at hc0
  have p0 : 0 < n := o.1
  have e1 : ((L 0 : Int) != (n : Int)) = true := by rw [bne_iff_ne]; omega
  clear h o e
  go_enter Try.func32, Try.ntmps32
  go_wp2_with fail
  refine (refMay_yes H.out O.out).mono ?_; rintro e w1 ⟨rfl, q1, rfl⟩
  go_wp2
  go_ret2
  exact ⟨rfl, below_drewN (Below.refl _ _) _⟩

theorem Own.lower {wr : World} {B B' g n m : Nat} {G C : Nat → Nat} {F} (h : Own wr B g n m G C F) (hB : B' ≤ B) : Own wr B' g n m G C F :=
  ⟨h.top, by have := h.low; omega, fun r hr => ⟨by have := (h.row r hr).1; omega, (h.row r hr).2.1, (h.row r hr).2.2⟩, h.inj⟩
theorem Own.under {wr wt : World} {B g n m : Nat} {G C : Nat → Nat} {F} (h : Own wr B g n m G C F) (hb : Below wr.heap.size wr wt) : Own wt B g n m G C F :=
  ⟨h.top.below hb h.top.lt, h.low, fun r hr => ⟨(h.row r hr).1, (h.row r hr).2.1, (h.row r hr).2.2.below hb (h.row r hr).2.2.lt⟩, h.inj⟩
/-- the copy and the identity, where the steps begin -/
theorem Two.start {wi wr : World} {g1 g2 : Nat} {G1 C1 G2 C2 : Nat → Nat} (hB : Below w.heap.size w wi) (hb : Own wi w.heap.size g2 n n G2 C2 idm) (ha : Own wr wi.heap.size g1 n n G1 C1 F) (hr : Below wi.heap.size wi wr) :
    Two w g1 g2 n G1 C1 G2 C2 (gj n (aug n F) 0) wr :=
  ⟨(ha.lower hB.size).congr (fun r c _ hc => (aug_lo F r hc).symm), (hb.under hr).congr (fun r c _ _ => (aug_hi n F r c).symm), fun e => by have := ha.low; have := hb.top.lt; omega,
    fun r q hr hq e => by have := (ha.row r hr).1; have := (hb.row q hq).2.2.lt; omega, hB.trans (hr.mono hB.size)⟩

theorem refMul_v (x y : BitVec 8) (w : World) :
    Calls Try.prog 59 #[.int .u8 (V x), .int .u8 (V y)] w fun e w' => e = .returned (.int .u8 (V (gm x y))) ∧ w' = w :=
  (refMul_any _ _ (V_lo _) (V_hi _) (V_lo _) (V_hi _) w).mono fun e w' ⟨he, hw⟩ => ⟨by rw [he, B_V, B_V], hw.symm⟩
theorem refInv_yes {x : BitVec 8} (h : x ≠ 0#8) (w : World) :
    Calls Try.prog 58 #[.int .u8 (V x)] w fun e w' => e = .returned (.tuple #[.int .u8 (V (iv x)), .int .i64 0]) ∧ w = w' :=
  (refInv_any _ (V_lo _) (V_hi _) w).mono fun e w' ⟨he, hw⟩ => ⟨by rw [he]; unfold ivV ivE; rw [if_neg (V_nz h), if_neg (V_nz h), B_V], hw⟩

set_option maxRecDepth 1000000 in
set_option maxHeartbeats 6400000 in
theorem refInverse_ok (h : Mt w w.heap.size A n L RA RC F) (o : Ok n L) (e : L 0 = n) :
    Calls Try.prog 32 #[.slice A n cap] w (InvRet w n F) := by
  obtain ⟨i0, hi, hz0, hz1, hz2⟩ := info_parts infoRow
  have H := Lib.hid h
  have O := Lib.hid o
  have E := Lib.hid e
  obtain ⟨ad, rfl, hb, hc0, _, _⟩ := h.row (r := 0) o.1
  rw [add_zero] at hc0
  have n1 := o.1
  have p0 : 0 < n := o.1
  have n2 := o.2.1
  have e1 : ((L 0 : Int) != (n : Int)) = false := by rw [bne_eq_false_iff_eq]; omega
  clear h o e
  go_enter Try.func32, Try.ntmps32
  go_wp2_with fail
  refine (refMay_yes H.out O.out).mono ?_; rintro e w1 ⟨rfl, q1, rfl⟩
  go_wp2_with fail
  refine (refIdentity_yes n n1 n2 _).mono ?_; rintro e wi ⟨v2, G2, C2, rfl, hB2⟩
  obtain ⟨g2, cap2, rfl, _, hO2⟩ := hB2.mt p0
  have BI : Hid (Below w.heap.size w wi) := Lib.hid ((below_drewN (Below.refl _ _) q1).trans hB2.below)
  have O2 := Lib.hid hO2
  clear hB2 hO2 hc0 e1
  go_wp2_with fail
  go_loopg [8, 9] n (fun gh v i wr => ∃ r G C, r ≤ n ∧ gh = n - r ∧ i = .int .i64 (r : Nat) ∧ Built wi wr v r n G C F)
  case atStart => exact ⟨0, _, _, Nat.zero_le _, rfl, rfl, Built.start wi n (fun _ => 0) (fun _ => 0) F⟩
  case round =>
    obtain ⟨r, G, C, hr, rfl, rfl, hB⟩ := hrel
    by_cases hrn : r < n
    · have hrz : (r : Int) < (n : Int) := by omega
      have HB := Lib.hid hB
      have hs := hB.below.size
      obtain ⟨ad', e', _, c1, _, hrw⟩ := (H.out.below (BI.out.trans (hB.below.mono BI.out.size)) (Nat.le_refl _)).row hrn
      injection e' with e'
      subst e'
      have hLr : L r = n := (O.out.row hrn).trans E.out
      rw [hLr] at c1 hrw
      have d1 := row_convert (c := RC r) hrw
      have d2 := copy_run n (F r)
      have b1 : Below wr.heap.size wr (wr.alloc (cpObj wr n (F r))).drew := ((Below.refl _ _).alloc (Nat.le_refl _) _).drew
      have HX := Lib.hid b1
      have HH : Hid (Has (wr.alloc (cpObj wr n (F r))).drew wr.heap.size 5 n (fun c => .int .u8 (V (F r c)))) := Lib.hid (copy_has wr n (F r)).drew
      have HB2 := Lib.hid (HB.out.under b1)
      have hz9 := size_alloc wr (cpObj wr n (F r))
      have HZ := Lib.hid hz9
      clear hB hrw hLr b1 hz9
      go_wp2_with (at_builtin; refine wpList_append_own _ rfl (.tmp 41) (.tmp 48) 23 rfl wi.heap.size 55 i0 (.slice none 0 0) 1 24 Try.underlying23 hi hz0 hz1 hz2 rfl (by decide) _ _ _ rfl (HB2.out.own.alloc _) ⟨wr.heap.size + 1, 0, none⟩ 1 1 [.slice (some ⟨wr.heap.size, 0, none⟩) n (cpCap wr n)] rfl rfl (by rw [← HZ.out]; exact one_news (w := (wr.alloc (cpObj wr n (F r))).drew) _ _) (by simp [Value.oneCell']) (by unfold maxLen; omega) (by omega) (by show wi.heap.size ≤ ((wr.alloc (cpObj wr n (F r))).alloc _).heap.size; rw [size_alloc, size_alloc]; omega) ?_)
      intro v' w' hown hgrow _
      have HN := Lib.hid (HB.out.next HX.out HH.out (Nat.le_refl _) (copy_cap wr n) hown hgrow)
      clear hown hgrow c1 d1 d2
      go_wp2
      go_roundg (n - (r + 1))
      case measure => go_light; omega
      case rel => go_light; exact ⟨r + 1, _, _, by omega, rfl, by simp, HN.out⟩
    · have hrz : ¬ (r : Int) < (n : Int) := by omega
      obtain rfl : n = r := by omega
      obtain ⟨g1, cap1, rfl, _, hO1⟩ := hB.mt p0
      have HT0 := Lib.hid (Two.start BI.out O2.out hO1 hB.below)
      clear hB hO1 O2 BI hrz hr hrn
      go_wp2_with fail
      go_loopg [10] n (fun gh i wr => ∃ k G1 C1 G2 C2, k ≤ n ∧ gh = n - k ∧ i = .int .i64 (k : Nat) ∧ Went n (aug n F) k ∧ Two w g1 g2 n G1 C1 G2 C2 (gj n (aug n F) k) wr)
      case atStart => exact ⟨0, _, _, _, _, Nat.zero_le _, rfl, rfl, fun j hj => absurd hj (by omega), HT0.out⟩
      case round =>
        obtain ⟨k, G1, C1, G2, C2, hkn, rfl, rfl, hwent, hT⟩ := hrel
        clear HT0
        by_cases hk : k < n
        · have hkz : (k : Int) < (n : Int) := by omega
          have hpk := pvt_ge n (gj n (aug n F) k) k
          have hpn := pvt_le n (gj n (aug n F) k) k hkn
          have hlo := pvt_lo n (gj n (aug n F) k) k
          have hat := pvt_at n (gj n (aug n F) k) k
          have HG : Hid (gj n (aug n F) (k + 1) = s3 n (gj n (aug n F) k) k) := Lib.hid rfl
          have HS1 : Hid (s1 n (gj n (aug n F) k) k = sw (gj n (aug n F) k) k (pvt n (gj n (aug n F) k) k)) := Lib.hid rfl
          have HWE : Hid (Went n (aug n F) k) := Lib.hid hwent
          have HPP : Hid (pvt n (gj n (aug n F) k) k < n → Went n (aug n F) (k + 1)) := Lib.hid (fun hp j hj => by
            by_cases e : j = k
            · subst e; exact hp
            · exact hwent j (by omega))
          have HNI : Hid (¬ pvt n (gj n (aug n F) k) k < n → ¬ Inv n F) := Lib.hid (fun hp hi => hp (hi k hk))
          generalize hFk : gj n (aug n F) k = Fk at *
          generalize hpe : pvt n Fk k = p at *
          have HT := Lib.hid hT
          have HLo := Lib.hid hlo
          have HAt := Lib.hid hat
          clear hT hlo hat hwent hFk hpe
          go_wp2_with fail
          obtain ⟨wo, rfl⟩ : ∃ wo : World, wo = wr := ⟨_, rfl⟩
          go_loopg [11] (n - k) (fun gh i wp => ∃ j : Nat, k ≤ j ∧ j ≤ p ∧ gh = n - j ∧ i = .int .i64 j ∧ wp = wo)
          case atStart => exact ⟨k, Nat.le_refl _, hpk, rfl, rfl, rfl⟩
          case round =>
            obtain ⟨j, hkj, hjp, rfl, rfl, rfl⟩ := hrel
            by_cases hjlt : j < p
            · have hjz : (j : Int) < (n : Int) := by omega
              have t1 : decide ((j : Int) < (n : Int)) = true := by simpa using hjz
              have x1 : wr.cell? ⟨g1, j, none⟩ = some (.slice (some ⟨G1 j, 0, none⟩) n (C1 j)) := HT.out.a.top.cell (by omega)
              have x2 : wr.cell? ⟨G1 j, k, none⟩ = some (.int .u8 0) := by
                have := (HT.out.a.row j (by omega)).2.2.cell hk
                rw [HLo.out j hkj hjlt, V_zero] at this; exact this
              go_wp2
              go_roundg (n - (j + 1))
              case measure => go_light; omega
              case rel => go_light; exact ⟨j + 1, by omega, by omega, rfl, by simp, rfl⟩
            · obtain rfl : p = j := by omega
              clear hjlt
              by_cases hp : p < n
              · have hjz : (p : Int) < (n : Int) := by omega
                have t1 : decide ((p : Int) < (n : Int)) = true := by simpa using hjz
                have t2 : (V (Fk p k) == 0) = false := by
                  rw [beq_eq_false_iff_ne]; exact V_nz (HAt.out hp)
                have t3 : ((p : Int) == (n : Int)) = false := by rw [beq_eq_false_iff_ne]; omega
                have x1 : wr.cell? ⟨g1, p, none⟩ = some (.slice (some ⟨G1 p, 0, none⟩) n (C1 p)) := HT.out.a.top.cell hp
                have x2 : wr.cell? ⟨G1 p, k, none⟩ = some (.int .u8 (V (Fk p k))) := (HT.out.a.row p hp).2.2.cell hk
                have x3 : wr.cell? ⟨g1, k, none⟩ = some (.slice (some ⟨G1 k, 0, none⟩) n (C1 k)) := HT.out.a.top.cell hk
                have f1 : wr.frozen? ⟨g1, p, none⟩ = false := HT.out.a.top.frozen hp
                have f2 : wr.frozen? ⟨g1, k, none⟩ = false := HT.out.a.top.frozen hk
                obtain ⟨v', hy'⟩ := cell?_setCell_some (w := wr) (p := ⟨g1, p, none⟩) (x := .slice (some ⟨G1 k, 0, none⟩) n (C1 k)) (q := ⟨g1, k, none⟩) (v := .slice (some ⟨G1 k, 0, none⟩) n (C1 k)) x3
                go_upto_region 24 with fail
                generalize hw2 : (wr.setCell ⟨g1, p, none⟩ (.slice (some ⟨G1 k, 0, none⟩) n (C1 k))).setCell ⟨g1, k, none⟩ (.slice (some ⟨G1 p, 0, none⟩) n (C1 p)) = w2
                have hsw := HT.out.swapA (k := p) (p := k) hp hk
                rw [hw2] at hsw
                clear hw2 hy' f1 f2 x1 x2 x3 t1 t2 t3
                have y1 : w2.cell? ⟨g2, p, none⟩ = some (.slice (some ⟨G2 p, 0, none⟩) n (C2 p)) := hsw.2.1.top.cell hp
                have y3 : w2.cell? ⟨g2, k, none⟩ = some (.slice (some ⟨G2 k, 0, none⟩) n (C2 k)) := hsw.2.1.top.cell hk
                have f1 : w2.frozen? ⟨g2, p, none⟩ = false := hsw.2.1.top.frozen hp
                have f2 : w2.frozen? ⟨g2, k, none⟩ = false := hsw.2.1.top.frozen hk
                obtain ⟨v', hy'⟩ := cell?_setCell_some (w := w2) (p := ⟨g2, p, none⟩) (x := .slice (some ⟨G2 k, 0, none⟩) n (C2 k)) (q := ⟨g2, k, none⟩) (v := .slice (some ⟨G2 k, 0, none⟩) n (C2 k)) y3
                have HSW := Lib.hid hsw; clear hsw
                go_upto_region 27 with fail
                generalize hw4 : (w2.setCell ⟨g2, p, none⟩ (.slice (some ⟨G2 k, 0, none⟩) n (C2 k))).setCell ⟨g2, k, none⟩ (.slice (some ⟨G2 p, 0, none⟩) n (C2 p)) = w4
                have hT4 := HT.out.swapB (k := p) (p := k) hp hk HSW.out.1 HSW.out.2.1 HSW.out.2.2
                rw [hw4] at hT4
                have hT5 := hT4.congr (F' := s1 n Fk k) (fun r c _ _ => by rw [HS1.out]; exact sw_comm _ _ _ _ _)
                clear hw4 hT4 hy' f1 f2 y1 y3
                obtain ⟨G1', C1', G2', C2', hT5⟩ : ∃ G1' C1' G2' C2', Two w g1 g2 n G1' C1' G2' C2' (s1 n Fk k) w4 := ⟨_, _, _, _, hT5⟩
                have h1k : s1 n Fk k k k ≠ 0#8 := by
                  rw [HS1.out]
                  have : sw Fk k p k k = Fk p k := if_pos rfl
                  rw [this]; exact HAt.out hp
                have HWN := Lib.hid (HPP.out hp)
                have HG2 : Hid (gj n (aug n F) (k + 1) = su (sc (s1 n Fk k) k (iv (s1 n Fk k k k))) k (fun r => sc (s1 n Fk k) k (iv (s1 n Fk k k k)) r k)) := Lib.hid HG.out
                clear HG HS1 HPP HNI HSW HT HLo HAt hpk hpn hkj hjp HWE
                generalize s1 n Fk k = F1 at hT5 h1k HG2
                have z1 : w4.cell? ⟨g1, k, none⟩ = some (.slice (some ⟨G1' k, 0, none⟩) n (C1' k)) := hT5.a.top.cell hk
                have z2 : w4.cell? ⟨G1' k, k, none⟩ = some (.int .u8 (V (F1 k k))) := (hT5.a.row k hk).2.2.cell hk
                have HT5 := Lib.hid hT5
                have H1K := Lib.hid h1k
                clear hT5 h1k
                go_wp2_with fail
                refine (refInv_yes H1K.out _).mono ?_; rintro e w5 ⟨rfl, rfl⟩
                go_wp2_with fail
                clear z1 z2
                generalize iv (F1 k k) = x at *
                go_loopg [15] n (fun gh i wc => ∃ c : Nat, c ≤ n ∧ gh = n - c ∧ i = .int .i64 c ∧ Two w g1 g2 n G1' C1' G2' C2' (sci n F1 k x c) wc)
                case atStart => exact ⟨0, Nat.zero_le _, rfl, rfl, HT5.out.congr (fun r c _ _ => sci_start n F1 k x r c)⟩
                case round =>
                  obtain ⟨c, hc, rfl, rfl, hT⟩ := hrel
                  clear HT5
                  by_cases hcn : c < n
                  · have hcz : (c : Int) < (n : Int) := by omega
                    have u1 : wr.cell? ⟨g1, k, none⟩ = some (.slice (some ⟨G1' k, 0, none⟩) n (C1' k)) := hT.a.top.cell hk
                    have u2 : wr.cell? ⟨G1' k, c, none⟩ = some (.int .u8 (V (F1 k c))) := by
                      have := (hT.a.row k hk).2.2.cell hcn
                      rw [sci_lo n F1 k x c k hcn] at this; exact this
                    have u3 : wr.frozen? ⟨G1' k, c, none⟩ = false := (hT.a.row k hk).2.2.frozen hcn
                    have hT6 := hT.drew.storeA hk hcn (gm (F1 k c) x)
                    have HT6 := Lib.hid hT6
                    clear hT hT6
                    go_wp2_with fail
                    go_still_tail 15, (by kernel_rfl)
                    still_call (refMul_v _ _ _)
                    still_step
                    refine wpStill_nil ?_
                    change wpList _ _ _ _ _ wr.drew
                    go_upto_region 32 with fail
                    generalize hw6 : (wr.setCell ⟨G1' k, c, none⟩ (.int .u8 (V (gm (F1 k c) x)))).drew = w6
                    have hT7 : Two w g1 g2 n G1' C1' G2' C2' (fun q j => if q = k ∧ j = c then gm (F1 k c) x else sci n F1 k x c q j) w6 := by subst hw6; exact HT6.out
                    clear hw6 HT6 u1 u2 u3
                    have u1 : w6.cell? ⟨g2, k, none⟩ = some (.slice (some ⟨G2' k, 0, none⟩) n (C2' k)) := hT7.b.top.cell hk
                    have u2 : w6.cell? ⟨G2' k, c, none⟩ = some (.int .u8 (V (F1 k (n + c)))) := by
                      have := (hT7.b.row k hk).2.2.cell hcn
                      rw [if_neg (by omega), sci_hi] at this; exact this
                    have u3 : w6.frozen? ⟨G2' k, c, none⟩ = false := (hT7.b.row k hk).2.2.frozen hcn
                    have hT8 := (hT7.drew.storeB hk hcn (gm (F1 k (n + c)) x)).congr (F' := sci n F1 k x (c + 1)) (fun q j _ _ => sci_next n F1 k x c q j hcn)
                    have HT8 := Lib.hid hT8
                    clear hT7 hT8
                    go_still_tail 15, (by kernel_rfl)
                    still_call (refMul_v _ _ _)
                    still_step
                    refine wpStill_nil ?_
                    change wpList _ _ _ _ _ w6.drew
                    go_wp2
                    go_roundg (n - (c + 1))
                    case measure => go_light; omega
                    case rel => go_light; exact ⟨c + 1, by omega, rfl, by simp, HT8.out⟩
                  · have hcz : ¬ (c : Int) < (n : Int) := by omega
                    have HT9 : Hid (Two w g1 g2 n G1' C1' G2' C2' (sc F1 k x) wr) := Lib.hid (hT.congr (fun q j hq hj => by
                      have : c = n := by omega
                      rw [this]; exact sci_end n F1 k x q j hj))
                    clear hT
                    go_wp2_with fail
                    have HG3 : Hid (gj n (aug n F) (k + 1) = su (sc F1 k x) k (fun r => sc F1 k x r k)) := Lib.hid HG2.out
                    generalize sc F1 k x = F2 at *
                    go_loopg [16] n (fun gh i wx => ∃ r : Nat, r ≤ n ∧ gh = n - r ∧ i = .int .i64 r ∧ Two w g1 g2 n G1' C1' G2' C2' (sui n F2 k r 0) wx)
                    case atStart => exact ⟨0, Nat.zero_le _, rfl, rfl, HT9.out.congr (fun q j _ _ => sui_start n F2 k q j)⟩
                    case round =>
                      obtain ⟨r, hr, rfl, rfl, hT⟩ := hrel
                      clear HT9
                      by_cases hrn : r < n
                      · have hrz : (r : Int) < (n : Int) := by omega
                        have u1 : wr.cell? ⟨g1, r, none⟩ = some (.slice (some ⟨G1' r, 0, none⟩) n (C1' r)) := hT.a.top.cell hrn
                        have u2 : wr.cell? ⟨G1' r, k, none⟩ = some (.int .u8 (V (F2 r k))) := by
                          have := (hT.a.row r hrn).2.2.cell hk
                          rw [sui_lo n F2 k r 0 k (by unfold inC; omega)] at this; exact this
                        have HT := Lib.hid hT
                        clear hT
                        by_cases hrk : r = k
                        · subst hrk
                          have t1 : ((r : Int) == (r : Int)) = true := by simp
                          go_wp2
                          go_roundg (n - (r + 1))
                          case measure => go_light; omega
                          case rel => go_light; exact ⟨r + 1, by omega, rfl, by simp, HT.out.congr (fun q j _ _ => sui_same n F2 r r q j (.inl rfl))⟩
                        · have t1 : ((r : Int) == (k : Int)) = false := by rw [beq_eq_false_iff_ne]; omega
                          by_cases hf : F2 r k = 0#8
                          · rw [hf, V_zero] at u2
                            have HF := Lib.hid hf
                            clear hf hrk
                            go_wp2
                            go_roundg (n - (r + 1))
                            case measure => go_light; omega
                            case rel => go_light; exact ⟨r + 1, by omega, rfl, by simp, HT.out.congr (fun q j _ _ => sui_same n F2 k r q j (.inr HF.out))⟩
                          · have t2 : (V (F2 r k) == 0) = false := by rw [beq_eq_false_iff_ne]; exact V_nz hf
                            have HRK := Lib.hid hrk
                            clear hf hrk
                            go_wp2_with fail
                            clear u1 u2 t1 t2
                            go_loopg [18] n (fun gh i wy => ∃ c : Nat, c ≤ n ∧ gh = n - c ∧ i = .int .i64 c ∧ Two w g1 g2 n G1' C1' G2' C2' (sui n F2 k r c) wy)
                            case atStart => exact ⟨0, Nat.zero_le _, rfl, rfl, HT.out⟩
                            case round =>
                              obtain ⟨c, hc, rfl, rfl, hT⟩ := hrel
                              clear HT
                              by_cases hcn : c < n
                              · have hcz : (c : Int) < (n : Int) := by omega
                                have u1 : wr.cell? ⟨g1, r, none⟩ = some (.slice (some ⟨G1' r, 0, none⟩) n (C1' r)) := hT.a.top.cell hrn
                                have u2 : wr.cell? ⟨G1' r, c, none⟩ = some (.int .u8 (V (F2 r c))) := by
                                  have := (hT.a.row r hrn).2.2.cell hcn
                                  rw [sui_lo n F2 k r c c (by unfold inC; omega)] at this; exact this
                                have u3 : wr.frozen? ⟨G1' r, c, none⟩ = false := (hT.a.row r hrn).2.2.frozen hcn
                                have u4 : wr.cell? ⟨g1, k, none⟩ = some (.slice (some ⟨G1' k, 0, none⟩) n (C1' k)) := hT.a.top.cell hk
                                have u5 : wr.cell? ⟨G1' k, c, none⟩ = some (.int .u8 (V (F2 k c))) := by
                                  have := (hT.a.row k hk).2.2.cell hcn
                                  rw [sui_k n F2 k r c c] at this; exact this
                                have hT6 := hT.drew.storeA hrn hcn (F2 r c ^^^ gm (F2 r k) (F2 k c))
                                have HT6 := Lib.hid hT6
                                clear hT hT6
                                go_wp2_with fail
                                go_still_tail 23, (by kernel_rfl)
                                still_call (refMul_v _ _ _)
                                repeat still_step
                                refine wpStill_nil ?_
                                rw [xor_V]
                                change wpList _ _ _ _ _ wr.drew
                                go_upto_region 42 with fail
                                generalize hw6 : (wr.setCell ⟨G1' r, c, none⟩ (.int .u8 (V (F2 r c ^^^ gm (F2 r k) (F2 k c))))).drew = w6
                                have hT7 : Two w g1 g2 n G1' C1' G2' C2' (fun q j => if q = r ∧ j = c then F2 r c ^^^ gm (F2 r k) (F2 k c) else sui n F2 k r c q j) w6 := by subst hw6; exact HT6.out
                                clear hw6 HT6 u1 u2 u3 u4 u5
                                have u1 : w6.cell? ⟨g2, r, none⟩ = some (.slice (some ⟨G2' r, 0, none⟩) n (C2' r)) := hT7.b.top.cell hrn
                                have u2 : w6.cell? ⟨G2' r, c, none⟩ = some (.int .u8 (V (F2 r (n + c)))) := by
                                  have := (hT7.b.row r hrn).2.2.cell hcn
                                  rw [if_neg (by omega), sui_lo n F2 k r c (n + c) (by unfold inC; omega)] at this; exact this
                                have u3 : w6.frozen? ⟨G2' r, c, none⟩ = false := (hT7.b.row r hrn).2.2.frozen hcn
                                have u4 : w6.cell? ⟨g2, k, none⟩ = some (.slice (some ⟨G2' k, 0, none⟩) n (C2' k)) := hT7.b.top.cell hk
                                have u5 : w6.cell? ⟨G2' k, c, none⟩ = some (.int .u8 (V (F2 k (n + c)))) := by
                                  have := (hT7.b.row k hk).2.2.cell hcn
                                  rw [if_neg (by omega), sui_k n F2 k r c (n + c)] at this; exact this
                                have hT8 := (hT7.drew.storeB hrn hcn (F2 r (n + c) ^^^ gm (F2 r k) (F2 k (n + c)))).congr (F' := sui n F2 k r (c + 1)) (fun q j _ _ => sui_next n F2 k r c q j HRK.out hcn)
                                have HT8 := Lib.hid hT8
                                clear hT7 hT8
                                go_still_tail 23, (by kernel_rfl)
                                still_call (refMul_v _ _ _)
                                repeat still_step
                                refine wpStill_nil ?_
                                rw [xor_V]
                                change wpList _ _ _ _ _ w6.drew
                                go_wp2
                                go_roundg (n - (c + 1))
                                case measure => go_light; omega
                                case rel => go_light; exact ⟨c + 1, by omega, rfl, by simp, HT8.out⟩
                              · have hcz : ¬ (c : Int) < (n : Int) := by omega
                                have HT := Lib.hid (hT.congr (F' := sui n F2 k (r + 1) 0) (fun q j _ hj => by
                                  have : c = n := by omega
                                  rw [this]; exact sui_row n F2 k r q j hj))
                                clear hT
                                go_wp2
                                go_roundg (n - (r + 1))
                                case measure => go_light; omega
                                case rel => go_light; exact ⟨r + 1, by omega, rfl, by simp, HT.out⟩
                      · have hrz : ¬ (r : Int) < (n : Int) := by omega
                        have HT := Lib.hid (hT.congr (F' := gj n (aug n F) (k + 1)) (fun q j hq _ => by
                          have : r = n := by omega
                          rw [this, HG3.out]; exact sui_end n F2 k q j hq))
                        clear hT
                        go_wp2
                        go_roundg (n - (k + 1))
                        case measure => go_light; omega
                        case rel => go_light; exact ⟨k + 1, _, _, _, _, by omega, rfl, by simp, HWN.out, HT.out⟩
              · have hjz : ¬ (p : Int) < (n : Int) := by omega
                have t1 : decide ((p : Int) < (n : Int)) = false := by simpa using hjz
                have t3 : ((p : Int) == (n : Int)) = true := by rw [beq_iff_eq]; omega
                have HN := Lib.hid (HNI.out hp)
                clear hp
                go_wp2
                go_ret2
                exact .inr ⟨HN.out, rfl, HT.out.below⟩
        · have hkz : ¬ (k : Int) < (n : Int) := by omega
          obtain rfl : n = k := by omega
          have HT := Lib.hid hT
          have HW := Lib.hid hwent
          clear hT hwent
          go_wp2
          go_ret2
          exact .inl ⟨HW.out, _, _, _, _, rfl, HT.out.b.mt, HT.out.below⟩
end
end Go.Proofs.Ytohbijjkkadbaaa.Mat
