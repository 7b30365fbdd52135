/- The laws FieldOne, FieldPows, FieldLogs and FieldGenerates, walked. -/
import Derived.Test.YtkhjokpikbbbkaaFieldE
namespace Go.Proofs.Ytkhjokpikbbbkaa.Fld
open Go.RowKit

theorem V_nz {x : BitVec 8} (h : x ≠ 0#8) : V x ≠ 0 := by rw [← V_zero]; exact fun e => h (V_inj e)
theorem lgV_V {x : BitVec 8} (h : x ≠ 0#8) : lgV (V x) = (L x : Int) := by unfold lgV; rw [if_neg (V_nz h), B_V]
theorem ivE_V {x : BitVec 8} (h : x ≠ 0#8) : ivE (V x) = 0 := by unfold ivE; rw [if_neg (V_nz h)]
theorem ivE_nz {a : Int} (h : a ≠ 0) : ivE a = 0 := by unfold ivE; rw [if_neg h]
theorem ivV_nz {a : Int} (h : a ≠ 0) : ivV a = V (iv (B a)) := by unfold ivV; rw [if_neg h]
theorem lgV_nz {a : Int} (h : a ≠ 0) : lgV a = (L (B a) : Int) := by unfold lgV; rw [if_neg h]
theorem dvV_nz {a b : Int} (h : b ≠ 0) : dvV a b = V (gm (B a) (iv (B b))) := by unfold dvV; rw [if_neg h]
theorem gm_nz {x y : BitVec 8} (hx : x ≠ 0#8) (hy : y ≠ 0#8) : gm x y ≠ 0#8 := fun e => by
  rcases (gm_zero x y).1 e with h | h
  · exact hx h
  · exact hy h

theorem pow_int (a n : Int) (h0 : 0 ≤ a) (h1 : a < 256) (h2 : 0 ≤ n) (w : World) :
    Calls Try.prog 15 #[.int .u8 a, .int .u64 n] w fun e w' => e = .returned (.int .u8 (V (pw (B a) n.toNat))) ∧ w = w' := by
  obtain ⟨m, rfl⟩ := Int.eq_ofNat_of_zero_le h2
  exact pow_any a m h0 h1 w

theorem one_t (b : Int) (x : BitVec 8) (hx : x ≠ 0#8) (h2 : 0 ≤ b) (h3 : b < 256) : ((V (gm x (B b)) == 1) == (b == V (iv x))) = true := by
  rw [beq_iff_eq, Bool.eq_iff_iff, beq_iff_eq, beq_iff_eq]
  constructor
  · intro e
    have e2 : V (gm x (B b)) = V 1#8 := by rw [e, V_one]
    rw [← (iv_one x _ hx).1 (V_inj e2), V_B b h2 h3]
  · intro e
    have e2 : B b = iv x := by rw [e, B_V]
    rw [e2, gm_iv x hx, V_one]
theorem zero_t (b : Int) (x : BitVec 8) (hx : x ≠ 0#8) (h2 : 0 ≤ b) (h3 : b < 256) : ((V (gm x (B b)) == 0) == (b == 0)) = true := by
  rw [beq_iff_eq, Bool.eq_iff_iff, beq_iff_eq, beq_iff_eq]
  constructor
  · intro e
    have e2 : V (gm x (B b)) = V 0#8 := by rw [e, V_zero]
    rcases (gm_zero x _).1 (V_inj e2) with h | h
    · exact absurd h hx
    · rw [← V_B b h2 h3, h, V_zero]
  · rintro rfl
    rw [show B 0 = 0#8 from rfl, gm_zero_right, V_zero]

set_option maxRecDepth 100000 in
set_option maxHeartbeats 400000 in
theorem lawOne (a b : Int) (h0 : 0 ≤ a) (h1 : a < 256) (h2 : 0 ≤ b) (h3 : b < 256) (w : World) :
    Calls Try.prog 7 #[.int .u8 a, .int .u8 b] w fun e w' => e = .returned (.bool true) ∧ Below w.heap.size w w' := by
  by_cases hz : a = 0
  · subst hz
    have e0 : V (gm (B 0) (B b)) = 0 := by rw [show B 0 = 0#8 from rfl, gm_zero_left]; rfl
    have E0 := Lib.hid e0
    clear e0
    go_enter Try.func7, Try.ntmps7
    go_wp2_with fail
    refine (shown_any _).mono ?_; rintro e w1 ⟨rfl, hb1⟩
    go_wp2_with fail
    refine (inv_any 0 h0 h1 _).mono ?_; rintro e w2 ⟨rfl, rfl⟩
    rw [show ivV 0 = 0 from rfl, show ivE 0 = 1 from rfl]
    go_wp2_with fail
    refine (mul_any 0 b h0 h1 h2 h3 _).mono ?_; rintro e w2 ⟨rfl, rfl⟩
    rw [E0.out]
    go_wp2
    go_ret
    exact ⟨rfl, hb1⟩
  · have hb : (a == 0) = false := by simpa using hz
    have hx := B_nz a h0 h1 hz
    have t1 := one_t b (B a) hx h2 h3
    have t2 := zero_t b (B a) hx h2 h3
    have e1 : V (gm (B a) (B (V (iv (B a))))) = 1 := by rw [B_V, gm_iv _ hx, V_one]
    have E1 := Lib.hid e1
    have HV := Lib.hid (ivV_nz hz)
    have HE := Lib.hid (ivE_nz hz)
    clear e1 hz hx
    go_enter Try.func7, Try.ntmps7
    go_wp2_with fail
    refine (shown_any _).mono ?_; rintro e w1 ⟨rfl, hb1⟩
    go_wp2_with fail
    refine (inv_any a h0 h1 _).mono ?_; rintro e w2 ⟨rfl, rfl⟩
    rw [HV.out, HE.out]
    go_wp2_with fail
    refine (mul_any a _ h0 h1 (V_lo _) (V_hi _) _).mono ?_; rintro e w2 ⟨rfl, rfl⟩
    rw [E1.out]
    go_wp2_with fail
    refine (mul_any a b h0 h1 h2 h3 _).mono ?_; rintro e w2 ⟨rfl, rfl⟩
    go_wp2_with fail
    refine (mul_any a b h0 h1 h2 h3 _).mono ?_; rintro e w2 ⟨rfl, rfl⟩
    go_wp2
    go_ret
    exact ⟨rfl, hb1⟩

set_option maxRecDepth 100000 in
set_option maxHeartbeats 400000 in
theorem lawPows (a m n : Int) (h0 : 0 ≤ a) (h1 : a < 256) (h2 : 0 ≤ m) (h3 : m < 18446744073709551616) (h4 : 0 ≤ n) (h5 : n < 18446744073709551616) (w : World) :
    Calls Try.prog 8 #[.int .u8 a, .int .u64 m, .int .u64 n] w fun e w' => e = .returned (.bool true) ∧ Below w.heap.size w w' := by
  by_cases hc : m ≤ 4611686018427387904 ∧ n ≤ 4611686018427387904
  · obtain ⟨hm, hn⟩ := hc
    clear h3 h5
    have e1 : pw (B a) (m + n).toNat = gm (pw (B a) m.toNat) (pw (B a) n.toNat) := by rw [← pw_add]; congr 1; omega
    have e2 : a ≠ 0 → V (pw (B a) (255 : Int).toNat) = 1 := fun hz => by
      rw [show (255 : Int).toNat = 255 from rfl, pw_full _ (B_nz a h0 h1 hz), V_one]
    have E1 := Lib.hid e1
    have E2 := Lib.hid e2
    clear e1 e2
    by_cases hz : a = 0
    · have hb : (a == 0) = true := by simpa using hz
      clear hz
      go_enter Try.func8, Try.ntmps8
      go_wp2_with fail
      refine (shown_any _).mono ?_; rintro e w1 ⟨rfl, hb1⟩
      go_wp2_with fail
      refine (pow_int a _ h0 h1 (by omega) _).mono ?_; rintro e w2 ⟨rfl, rfl⟩
      rw [E1.out]
      go_wp2_with fail
      refine (pow_int a m h0 h1 h2 _).mono ?_; rintro e w2 ⟨rfl, rfl⟩
      go_wp2_with fail
      refine (pow_int a n h0 h1 h4 _).mono ?_; rintro e w2 ⟨rfl, rfl⟩
      go_wp2_with fail
      refine (mul_any _ _ (V_lo _) (V_hi _) (V_lo _) (V_hi _) _).mono ?_; rintro e w2 ⟨rfl, rfl⟩
      rw [B_V, B_V]
      go_wp2
      go_ret
      exact ⟨rfl, hb1⟩
    · have hb : (a == 0) = false := by simpa using hz
      have HZ := Lib.hid hz
      clear hz
      go_enter Try.func8, Try.ntmps8
      go_wp2_with fail
      refine (shown_any _).mono ?_; rintro e w1 ⟨rfl, hb1⟩
      go_wp2_with fail
      refine (pow_int a _ h0 h1 (by omega) _).mono ?_; rintro e w2 ⟨rfl, rfl⟩
      rw [E1.out]
      go_wp2_with fail
      refine (pow_int a m h0 h1 h2 _).mono ?_; rintro e w2 ⟨rfl, rfl⟩
      go_wp2_with fail
      refine (pow_int a n h0 h1 h4 _).mono ?_; rintro e w2 ⟨rfl, rfl⟩
      go_wp2_with fail
      refine (mul_any _ _ (V_lo _) (V_hi _) (V_lo _) (V_hi _) _).mono ?_; rintro e w2 ⟨rfl, rfl⟩
      rw [B_V, B_V]
      go_wp2_with fail
      refine (pow_int a 255 h0 h1 (by omega) _).mono ?_; rintro e w2 ⟨rfl, rfl⟩
      rw [E2.out HZ.out]
      go_wp2
      go_ret
      exact ⟨rfl, hb1⟩
  · by_cases hm : m ≤ 4611686018427387904
    · have hn : 4611686018427387904 < n := by omega
      clear hc h3 h5
      go_enter Try.func8, Try.ntmps8
      go_wp2_with fail
      refine (shown_any _).mono ?_; rintro e w1 ⟨rfl, hb1⟩
      go_wp2
      go_ret
      exact ⟨rfl, hb1⟩
    · clear hc h3 h5
      go_enter Try.func8, Try.ntmps8
      go_wp2_with fail
      refine (shown_any _).mono ?_; rintro e w1 ⟨rfl, hb1⟩
      go_wp2
      go_ret
      exact ⟨rfl, hb1⟩

set_option maxRecDepth 100000 in
set_option maxHeartbeats 400000 in
theorem lawLogs (a b : Int) (h0 : 0 ≤ a) (h1 : a < 256) (h2 : 0 ≤ b) (h3 : b < 256) (w : World) :
    Calls Try.prog 9 #[.int .u8 a, .int .u8 b] w fun e w' => e = .returned (.bool true) ∧ Below w.heap.size w w' := by
  by_cases hz : a = 0
  · subst hz
    go_enter Try.func9, Try.ntmps9
    go_wp2_with fail
    refine (shown_any _).mono ?_; rintro e w1 ⟨rfl, hb1⟩
    go_wp2
    go_ret
    exact ⟨rfl, hb1⟩
  · have hb : (a == 0) = false := by simpa using hz
    by_cases hy : b = 0
    · subst hy
      clear hz
      go_enter Try.func9, Try.ntmps9
      go_wp2_with fail
      refine (shown_any _).mono ?_; rintro e w1 ⟨rfl, hb1⟩
      go_wp2
      go_ret
      exact ⟨rfl, hb1⟩
    · have hb2 : (b == 0) = false := by simpa using hy
      have hx := B_nz a h0 h1 hz
      have hw := B_nz b h2 h3 hy
      have l1 := L_lt (B a) hx
      have l2 := L_lt (B b) hw
      have ha := lgV_nz hz
      have hbb := lgV_nz hy
      have hq := dvV_nz (a := a) hy
      have hc : lgV (V (gm (B a) (B b))) = ((L (B a) : Int) + (L (B b) : Int)) % 255 := by
        rw [lgV_V (gm_nz hx hw), L_gm _ _ hx hw]; omega
      have hd : lgV (V (gm (B a) (iv (B b)))) = ((L (B a) : Int) + 255 - (L (B b) : Int)) % 255 := by
        rw [lgV_V (gm_nz hx (iv_nz _)), L_gm _ _ hx (iv_nz _), L_iv]; omega
      have HA := Lib.hid ha
      have HB := Lib.hid hbb
      have HQ := Lib.hid hq
      have HC := Lib.hid hc
      have HD := Lib.hid hd
      have EA := Lib.hid (ivE_nz hz)
      have EB := Lib.hid (ivE_nz hy)
      have EC := Lib.hid (ivE_V (gm_nz hx hw))
      have ED := Lib.hid (ivE_V (gm_nz hx (iv_nz (B b))))
      clear ha hbb hq hc hd hz hy hx hw
      generalize L (B a) = p at *
      generalize L (B b) = q at *
      go_enter Try.func9, Try.ntmps9
      go_wp2_with fail
      refine (shown_any _).mono ?_; rintro e w1 ⟨rfl, hb1⟩
      go_wp2_with fail
      refine (log_any a h0 h1 _).mono ?_; rintro e w2 ⟨rfl, hb2⟩
      rw [HA.out, EA.out]
      go_wp2_with fail
      refine (log_any b h2 h3 _).mono ?_; rintro e w3 ⟨rfl, hb3⟩
      rw [HB.out, EB.out]
      go_wp2_with fail
      refine (mul_any a b h0 h1 h2 h3 _).mono ?_; rintro e w4 ⟨rfl, rfl⟩
      go_wp2_with fail
      refine (log_any _ (V_lo _) (V_hi _) _).mono ?_; rintro e w4 ⟨rfl, hb4⟩
      rw [HC.out, EC.out]
      go_wp2_with fail
      refine (div_any a b h0 h1 h2 h3 _).mono ?_; rintro e w5 ⟨rfl, rfl⟩
      rw [HQ.out, EB.out]
      go_wp2_with fail
      refine (log_any _ (V_lo _) (V_hi _) _).mono ?_; rintro e w5 ⟨rfl, hb5⟩
      rw [HD.out, ED.out]
      go_wp2
      go_ret
      have s1 := hb1.size
      have s2 := hb2.size
      have s3 := hb3.size
      have s4 := hb4.size
      exact ⟨rfl, (((hb1.trans (hb2.mono s1)).trans (hb3.mono (by omega))).trans (hb4.mono (by omega))).trans (hb5.mono (by omega))⟩

theorem same_t (a b : Int) (h0 : 0 ≤ a) (h1 : a < 256) (h2 : 0 ≤ b) (h3 : b < 256) (hz : a ≠ 0) (hy : b ≠ 0) : (((L (B a) : Int) == (L (B b) : Int)) == (a == b)) = true := by
  rw [beq_iff_eq, Bool.eq_iff_iff, beq_iff_eq, beq_iff_eq]
  constructor
  · intro e
    have e2 := (L_inj _ _ (B_nz a h0 h1 hz) (B_nz b h2 h3 hy)).1 (by omega)
    rw [← V_B a h0 h1, e2, V_B b h2 h3]
  · rintro rfl; rfl

set_option maxRecDepth 100000 in
set_option maxHeartbeats 400000 in
theorem lawGenerates (a b : Int) (h0 : 0 ≤ a) (h1 : a < 256) (h2 : 0 ≤ b) (h3 : b < 256) (w : World) :
    Calls Try.prog 10 #[.int .u8 a, .int .u8 b] w fun e w' => e = .returned (.bool true) ∧ Below w.heap.size w w' := by
  by_cases hz : a = 0
  · subst hz
    go_enter Try.func10, Try.ntmps10
    go_wp2_with fail
    refine (shown_any _).mono ?_; rintro e w1 ⟨rfl, hb1⟩
    go_wp2
    go_ret
    exact ⟨rfl, hb1⟩
  · have hb : (a == 0) = false := by simpa using hz
    by_cases hy : b = 0
    · subst hy
      clear hz
      go_enter Try.func10, Try.ntmps10
      go_wp2_with fail
      refine (shown_any _).mono ?_; rintro e w1 ⟨rfl, hb1⟩
      go_wp2
      go_ret
      exact ⟨rfl, hb1⟩
    · have hb2 : (b == 0) = false := by simpa using hy
      have hx := B_nz a h0 h1 hz
      have l1 := L_lt (B a) hx
      have HA := Lib.hid (lgV_nz hz)
      have HB := Lib.hid (lgV_nz hy)
      have EA := Lib.hid (ivE_nz hz)
      have EB := Lib.hid (ivE_nz hy)
      have t := same_t a b h0 h1 h2 h3 hz hy
      have hp : V (pw (B 2) ((L (B a) : Int)).toNat) = a := by
        rw [show B 2 = 2#8 from rfl, pw_two, Int.toNat_natCast, E_L _ hx, V_B a h0 h1]
      have HP := Lib.hid hp
      clear hz hy hx hp
      generalize L (B a) = p at *
      generalize L (B b) = q at *
      go_enter Try.func10, Try.ntmps10
      go_wp2_with fail
      refine (shown_any _).mono ?_; rintro e w1 ⟨rfl, hb1⟩
      go_wp2_with fail
      refine (log_any a h0 h1 _).mono ?_; rintro e w2 ⟨rfl, hb2⟩
      rw [HA.out, EA.out]
      go_wp2_with fail
      refine (log_any b h2 h3 _).mono ?_; rintro e w3 ⟨rfl, hb3⟩
      rw [HB.out, EB.out]
      go_wp2_with fail
      refine (pow_int 2 _ (by omega) (by omega) (by omega) _).mono ?_; rintro e w4 ⟨rfl, rfl⟩
      rw [HP.out]
      go_wp2
      go_ret
      have s1 := hb1.size
      have s2 := hb2.size
      exact ⟨rfl, (hb1.trans (hb2.mono s1)).trans (hb3.mono (by omega))⟩
end Go.Proofs.Ytkhjokpikbbbkaa.Fld
