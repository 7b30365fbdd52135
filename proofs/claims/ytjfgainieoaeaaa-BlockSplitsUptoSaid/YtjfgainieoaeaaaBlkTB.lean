/- What was split is joined; the pieces of a sum are the sums of the pieces: walked. -/
import Derived.Test.YtjfgainieoaeaaaBlkTA
namespace Go.Proofs.Ytjfgainieoaeaaa.Mat
open Go.RowKit Fld

theorem pcs_size (s : ByteArray) (z i : Nat) : (pcs s z i).size = z := rs_size' _ _
theorem tot_pcs (s : ByteArray) (z r : Nat) : tot (pcs s z) r = r * z := by
  induction r with
  | zero => rw [Nat.zero_mul]; rfl
  | succ r ih => rw [tot_succ, ih, pcs_size, Nat.succ_mul]
theorem ct_pcs (s : ByteArray) (z r c : Nat) (h : c < r * z) : ct (pcs s z) r c = bt s c := by
  induction r with
  | zero => rw [Nat.zero_mul] at h; omega
  | succ r ih =>
    rw [Nat.succ_mul] at h
    by_cases e : c < r * z
    · rw [ct_lo (by rw [tot_pcs]; exact e), ih e]
    · rw [ct_hi (by rw [tot_pcs]; omega), tot_pcs]
      unfold pcs
      rw [bt_rs (by omega), show r * z + (c - r * z) = c by omega]
theorem pz_mul {n k : Nat} (h : 1 ≤ k) : n ≤ pz n k * k := by
  have := (pz_lt (n := n) (x := pz n k) h).2
  omega
theorem pz_le {n k : Nat} (h : 1 ≤ k) : pz n k ≤ n + 1 := by
  unfold pz
  exact Nat.div_le_of_le_mul (by
    have e : k * (n + 1) = k * n + k := by rw [Nat.mul_add, Nat.mul_one]
    have : n ≤ k * n := Nat.le_mul_of_pos_left _ (by omega)
    omega)
theorem pz_le' {n k : Nat} (h : 1 ≤ k) : pz n k ≤ n := by
  have : pz n k < n + 1 := by
    unfold pz
    refine Nat.div_lt_of_lt_mul ?_
    have e : k * (n + 1) = k * n + k := by rw [Nat.mul_add, Nat.mul_one]
    have : n ≤ k * n := Nat.le_mul_of_pos_left _ (by omega)
    omega
  omega
theorem below_of_drew {w w' : World} (h : Below w.drew.heap.size w.drew w') : Below w.heap.size w w' := ⟨h.os, h.tape, h.output, h.size, h.block⟩
theorem back_eq (s : ByteArray) (k : Nat) (h : 1 ≤ k) : rs s.size (ct (pcs s (pz s.size k)) k) = s := by
  refine Eq.trans (rs_congr rfl fun c hc => ct_pcs s (pz s.size k) k c ?_) (rs_bt s)
  have := pz_mul (n := s.size) h
  rw [Nat.mul_comm] at this
  omega
theorem pcs_xr (a b : ByteArray) (z i : Nat) (h : a.size = b.size) : xr (pcs a z i) (pcs b z i) = pcs (xr a b) z i := by
  refine bt_eq.2 ⟨by rw [xr_size, pcs_size, pcs_size], fun c hc => ?_⟩
  rw [xr_size, pcs_size] at hc
  unfold xr
  rw [bt_rs (by rw [pcs_size]; exact hc)]
  unfold pcs
  rw [bt_rs hc, bt_rs hc, bt_rs hc]
  by_cases e : i * z + c < a.size
  · rw [bt_rs e]
  · rw [bt_out (s := a) (by omega), bt_out (s := b) (by omega), bt_out (by rw [rs_size']; omega), BitVec.xor_self]

set_option maxRecDepth 100000 in
set_option maxHeartbeats 1600000 in
theorem lawBack (s : ByteArray) (k : Int) (z : s.size ≤ 140737488351232) (_k0 : -9223372036854775808 ≤ k) (_k1 : k ≤ 9223372036854775807) (w : World) :
    Calls Try.prog 5 #[.string s, .int .i64 k] w fun e w' => e = .returned (.bool true) ∧ Below w.heap.size w w' := by
  by_cases hk : 1 ≤ k ∧ k ≤ 32
  rotate_left
  · have HK : Hid (k < 1 ∨ 32 < k) := Lib.hid (by omega)
    by_cases c1 : k < 1
    · clear hk
      go_enter Try.func5, Try.ntmps5
      go_wp2_with fail
      refine (shown_any _).mono ?_; rintro e w1 ⟨rfl, hb1⟩
      have B1 := Lib.hid hb1
      clear hb1
      go_wp2_with fail
      refine (split_no s k HK.out (fun _ => ByteArray.empty) _).mono ?_; rintro e w2 ⟨A2, c2, rfl, _, _, hb2⟩
      have B2 := Lib.hid (up_trans B1.out hb2)
      clear hb2 B1
      go_wp2
      go_ret
      exact ⟨rfl, B2.out⟩
    · have c2 : 32 < k := by omega
      clear hk
      go_enter Try.func5, Try.ntmps5
      go_wp2_with fail
      refine (shown_any _).mono ?_; rintro e w1 ⟨rfl, hb1⟩
      have B1 := Lib.hid hb1
      clear hb1
      go_wp2_with fail
      refine (split_no s k HK.out (fun _ => ByteArray.empty) _).mono ?_; rintro e w2 ⟨A2, c2, rfl, _, _, hb2⟩
      have B2 := Lib.hid (up_trans B1.out hb2)
      clear hb2 B1
      go_wp2
      go_ret
      exact ⟨rfl, B2.out⟩
  · obtain ⟨k, rfl⟩ : ∃ m : Nat, k = m := ⟨k.toNat, by omega⟩
    have k1 : 1 ≤ k := by omega
    have k2 : k ≤ 32 := by omega
    have p0 : 0 < k := by omega
    have hS := split_yes s k k1 k2 z
    have hJ := back_eq s k k1
    have ht : s.size ≤ tot (pcs s (pz s.size k)) k := by
      rw [tot_pcs, Nat.mul_comm]; exact pz_mul k1
    have hzl := pz_le (n := s.size) k1
    have hm1 := pz_mul (n := s.size) k1
    have hm2 : ∀ x, x < pz s.size k → x * k < s.size := fun x hx => (pz_lt k1).1 hx
    have HTS : Hid (∀ i, (pcs s (pz s.size k) i).size = pz s.size k) := Lib.hid (fun i => pcs_size _ _ _)
    generalize pcs s (pz s.size k) = T at *
    generalize pz s.size k = y at *
    obtain ⟨p, hp⟩ : ∃ p, p = y * k := ⟨_, rfl⟩
    have hpb : p ≤ 140737488351233 * 32 := by rw [hp]; exact Nat.mul_le_mul (by omega) k2
    have hpi : (y : Int) * (k : Int) = (p : Int) := by rw [hp]; exact nat_mul y k
    have HPI := Lib.hid hpi
    have HP := Lib.hid hp
    have HPS : Hid (s.size ≤ p) := Lib.hid (by omega)
    have HS := Lib.hid hS
    have HJ := Lib.hid hJ
    have HT := Lib.hid ht
    have HM := Lib.hid hm2
    clear hk hS hJ ht hm1 hm2 hp hpi _k0 _k1
    go_enter Try.func5, Try.ntmps5
    go_wp2_with fail
    refine (shown_any _).mono ?_; rintro e w1 ⟨rfl, hb1⟩
    have B1 := Lib.hid hb1
    clear hb1
    go_wp2_with fail
    refine (HS.out _).mono ?_; rintro e w2 ⟨A2, c2, rfl, _, hS2, hb2⟩
    have B2 := Lib.hid (up_trans B1.out hb2)
    have S2 := Lib.hid hS2
    clear hb2 B1 hS2
    go_wp2_with fail
    refine (join_yes S2.out (by omega) s.size HT.out z).mono ?_; rintro e w3 ⟨rfl, hb3⟩
    rw [HJ.out]
    have B3 := Lib.hid (up_trans B2.out hb3)
    have S3 := Lib.hid (S2.out.up hb3)
    obtain ⟨t1, t2⟩ := str_yes (rfl : s = s)
    have g1 : ((k : Int) != (k : Int)) = false := by rw [bne_eq_false_iff_eq]
    clear hb3 B2 S2
    go_wp2
    clear t1 t2 g1
    go_loopg [10] k (fun gh v wr => ∃ i q, i ≤ k ∧ gh = k - i ∧ v = .int .i64 (i : Nat) ∧ wr = w3.drewN q)
    case atStart => exact ⟨0, 0, Nat.zero_le _, rfl, rfl, rfl⟩
    case round =>
      obtain ⟨i, q, hi, rfl, rfl, rfl⟩ := hrel
      obtain ⟨ad, rfl, _, c0⟩ := S3.out.at_ (r := 0) p0
      rw [add_zero] at c0
      by_cases hik : i < k
      · have hiz : (i : Int) < (k : Int) := by omega
        obtain ⟨ad', hA, _, c1⟩ := S3.out.at_ hik
        injection hA with hA
        subst hA
        have e1 : (((T i).size : Int) != ((T 0).size : Int)) = false := by rw [bne_eq_false_iff_eq, HTS.out, HTS.out]
        go_wp2_with fail
        go_quiet (fail)
        go_wp2
        go_roundg (k - (i + 1))
        case measure => go_light; omega
        case rel => go_light; exact ⟨i + 1, _, by omega, rfl, by simp, rfl⟩
      · have hiz : ¬ (i : Int) < (k : Int) := by omega
        have m1 := HPI.out
        have hz0 : ((T 0).size : Int) = (y : Int) := by rw [HTS.out]
        have g1 : (s.size : Int) ≤ (p : Int) := by have := HPS.out; omega
        by_cases hy : y = 0
        · have g2 : ((T 0).size : Int) = 0 := by rw [hz0, hy]; rfl
          have g3 : (s.size : Int) ≤ 0 := by
            have := HP.out
            rw [hy, Nat.zero_mul] at this
            omega
          have HSE : Hid (s = ByteArray.empty) := Lib.hid (bt_eq.2 ⟨by show s.size = 0; omega, fun c hc => by omega⟩)
          clear hz0 m1 g1 hy
          go_wp2
          all_goals first | exact absurd HSE.out (by assumption) | (go_ret; exact ⟨rfl, below_drewN B3.out _⟩)
        · have HYX : Hid (∃ x, y = x + 1) := Lib.hid ⟨y - 1, by omega⟩
          obtain ⟨r, hr⟩ : ∃ r, r = (y - 1) * k := ⟨_, rfl⟩
          have m2 : ((y : Int) - 1) * (k : Int) = (r : Int) := by
            obtain ⟨x, hx⟩ := HYX.out
            rw [hr, hx, ← nat_mul]
            congr 1
            omega
          have g3 : (r : Int) < (s.size : Int) := by have := HM.out (y - 1) (by omega); omega
          have g4 : ((y : Int) == 0) = false := by rw [beq_eq_false_iff_ne]; omega
          have g5 : (1 : Int) ≤ (y : Int) := by omega
          clear hr hy
          go_wp2
          go_ret
          exact ⟨rfl, below_drewN B3.out _⟩

set_option maxRecDepth 100000 in
set_option maxHeartbeats 1600000 in
theorem lawSums (a b : ByteArray) (k : Int) (za : a.size ≤ 140737488351232) (zb : b.size ≤ 140737488351232) (_k0 : -9223372036854775808 ≤ k) (_k1 : k ≤ 9223372036854775807) (w : World) :
    Calls Try.prog 7 #[.string a, .string b, .int .i64 k] w fun e w' => e = .returned (.bool true) ∧ Below w.heap.size w w' := by
  by_cases hk : 1 ≤ k ∧ k ≤ 32
  rotate_left
  · have HK : Hid (k < 1 ∨ 32 < k) := Lib.hid (by omega)
    clear hk _k0 _k1
    have hx := xor_any a b za
    generalize xorE a b = E1 at *
    generalize xorS a b = X1 at *
    have HX := Lib.hid hx
    clear hx
    cases hE : (E1 != 0)
    all_goals
      go_enter Try.func7, Try.ntmps7
      go_wp2_with fail
      refine (shown_any _).mono ?_; rintro e w1 ⟨rfl, hb1⟩
      have B1 := Lib.hid hb1
      clear hb1
      go_wp2_with fail
      refine (HX.out _).mono ?_; rintro e w2 ⟨rfl, hb2⟩
      have B2 := Lib.hid (up_trans B1.out hb2)
      clear hb2 B1
      go_wp2_with fail
      refine (split_no a k HK.out (fun _ => ByteArray.empty) _).mono ?_; rintro e w3 ⟨A3, c3, rfl, _, _, hb3⟩
      have B3 := Lib.hid (up_trans B2.out hb3)
      clear hb3 B2
      go_wp2_with fail
      refine (split_no b k HK.out (fun _ => ByteArray.empty) _).mono ?_; rintro e w4 ⟨A4, c4, rfl, _, _, hb4⟩
      have B4 := Lib.hid (up_trans B3.out hb4)
      clear hb4 B3
      go_wp2
      go_ret
      exact ⟨rfl, B4.out⟩
  · obtain ⟨k, rfl⟩ : ∃ m : Nat, k = m := ⟨k.toNat, by omega⟩
    have k1 : 1 ≤ k := by omega
    have k2 : k ≤ 32 := by omega
    clear hk _k0 _k1
    by_cases hab : a.size = b.size
    rotate_left
    · have HAB := Lib.hid hab
      clear hab
      go_enter Try.func7, Try.ntmps7
      go_wp2_with fail
      refine (shown_any _).mono ?_; rintro e w1 ⟨rfl, hb1⟩
      have B1 := Lib.hid hb1
      clear hb1
      go_wp2_with fail
      refine (xor_no a b HAB.out _).mono ?_; rintro e w2 ⟨rfl, hb2⟩
      have B2 := Lib.hid (up_trans B1.out hb2)
      clear hb2 B1
      go_wp2_with fail
      refine (split_yes a k k1 k2 za _).mono ?_; rintro e w3 ⟨A3, c3, rfl, _, _, hb3⟩
      have B3 := Lib.hid (up_trans B2.out hb3)
      clear hb3 B2
      go_wp2_with fail
      refine (split_yes b k k1 k2 zb _).mono ?_; rintro e w4 ⟨A4, c4, rfl, _, _, hb4⟩
      have B4 := Lib.hid (up_trans B3.out hb4)
      clear hb4 B3
      go_wp2
      go_ret
      exact ⟨rfl, B4.out⟩
    · have hx := xor_yes a b hab za
      have hsa := split_yes a k k1 k2 za
      have hsb := split_yes b k k1 k2 zb
      have hsx := split_yes (xr a b) k k1 k2 (by rw [xr_size]; exact za)
      rw [xr_size] at hsx
      rw [← hab] at hsb
      have hq : ∀ i, xr (pcs a (pz a.size k) i) (pcs b (pz a.size k) i) = pcs (xr a b) (pz a.size k) i := fun i => pcs_xr a b _ i hab
      have hsz : ∀ i, (pcs a (pz a.size k) i).size = (pcs b (pz a.size k) i).size ∧ (pcs a (pz a.size k) i).size ≤ 140737488351232 := fun i => by
        rw [pcs_size, pcs_size]
        have := pz_le' (n := a.size) k1
        exact ⟨rfl, by omega⟩
      generalize pcs a (pz a.size k) = TA at *
      generalize pcs b (pz a.size k) = TB at *
      generalize pcs (xr a b) (pz a.size k) = TX at *
      generalize xr a b = X at *
      have HX := Lib.hid hx
      have HSA := Lib.hid hsa
      have HSB := Lib.hid hsb
      have HSX := Lib.hid hsx
      have HQ := Lib.hid hq
      have HSZ := Lib.hid hsz
      clear hx hsa hsb hsx hq hsz hab
      go_enter Try.func7, Try.ntmps7
      go_wp2_with fail
      refine (shown_any _).mono ?_; rintro e w1 ⟨rfl, hb1⟩
      have B1 := Lib.hid hb1
      clear hb1
      go_wp2_with fail
      refine (HX.out _).mono ?_; rintro e w2 ⟨rfl, hb2⟩
      have B2 := Lib.hid (up_trans B1.out hb2)
      clear hb2 B1
      go_wp2_with fail
      refine (HSA.out _).mono ?_; rintro e w3 ⟨A3, c3, rfl, _, s3, hb3⟩
      have B3 := Lib.hid (up_trans B2.out hb3)
      have S3 := Lib.hid s3
      clear hb3 B2 s3
      go_wp2_with fail
      refine (HSB.out _).mono ?_; rintro e w4 ⟨A4, c4, rfl, _, s4, hb4⟩
      have B4 := Lib.hid (up_trans B3.out hb4)
      have S4 := Lib.hid s4
      have S34 := Lib.hid (S3.out.up hb4)
      clear hb4 B3 s4 S3
      go_wp2_with fail
      refine (HSX.out _).mono ?_; rintro e w5 ⟨A5, c5, rfl, _, s5, hb5⟩
      have B5 := Lib.hid (up_trans B4.out hb5)
      have S5 := Lib.hid s5
      have S45 := Lib.hid (S4.out.up hb5)
      have S35 := Lib.hid (S34.out.up hb5)
      have g1 : ((k : Int) != (k : Int)) = false := by rw [bne_eq_false_iff_eq]
      clear hb5 B4 s5 S4 S34
      go_wp2
      clear g1
      go_loopg [16] k (fun gh v wr => ∃ i, i ≤ k ∧ gh = k - i ∧ v = .int .i64 (i : Nat) ∧ Below w5.heap.size w5 wr)
      case atStart => exact ⟨0, Nat.zero_le _, rfl, rfl, Below.refl _ _⟩
      case round =>
        obtain ⟨i, hi, rfl, rfl, hB⟩ := hrel
        by_cases hik : i < k
        · have hiz : (i : Int) < (k : Int) := by omega
          obtain ⟨a3, rfl, _, q3⟩ := (S35.out.up hB).at_ hik
          obtain ⟨a4, rfl, _, q4⟩ := (S45.out.up hB).at_ hik
          obtain ⟨a5, rfl, _, q5⟩ := (S5.out.up hB).at_ hik
          have HB := Lib.hid hB
          have HQ5 := Lib.hid (S5.out.up hB)
          have K3 : Hid (∀ W, Below wr.heap.size wr W → W.cell? (a3.add i) = some (.string (TA i)) ∧ W.cell? (a4.add i) = some (.string (TB i))) := Lib.hid (fun W hW => by
            obtain ⟨b3, hA3, l3, z3⟩ := (S35.out.up hB).at_ hik
            obtain ⟨b4, hA4, l4, z4⟩ := (S45.out.up hB).at_ hik
            injection hA3 with hA3
            injection hA4 with hA4
            subst hA3; subst hA4
            exact ⟨by rw [hW.cell (by rw [block_of_add]; exact l3)]; exact z3, by rw [hW.cell (by rw [block_of_add]; exact l4)]; exact z4⟩)
          obtain ⟨t1, t2⟩ := str_yes (rfl : TX i = TX i)
          clear hB q5
          go_wp2_with fail
          go_region_held3 (fun w' => w'.cell? (a3.add i) = some (.string (TA i)) ∧ w'.cell? (a4.add i) = some (.string (TB i))) (first | exact ⟨q3, q4⟩ | go_keep | exact K3.out _ (below_of_drew hb7))
            ((go_at_call 16; refine (xor_yes (TA i) (TB i) (HSZ.out i).1 (HSZ.out i).2 _).mono ?_; rintro e w7 ⟨rfl, hb7⟩; rw [HQ.out]))
          have hb8 := below_of_drew hb7
          obtain ⟨a6, hA, _, q6⟩ := (HQ5.out.up hb8).at_ hik
          injection hA with hA
          subst hA
          have HB7 := Lib.hid (up_trans HB.out hb8)
          clear hb7 hb8
          go_wp2
          go_roundg (k - (i + 1))
          case measure => go_light; omega
          case rel => go_light; exact ⟨i + 1, by omega, rfl, by simp, HB7.out⟩
        · have hiz : ¬ (i : Int) < (k : Int) := by omega
          go_wp2
          go_ret
          exact ⟨rfl, up_trans B5.out hB⟩
end Go.Proofs.Ytjfgainieoaeaaa.Mat
