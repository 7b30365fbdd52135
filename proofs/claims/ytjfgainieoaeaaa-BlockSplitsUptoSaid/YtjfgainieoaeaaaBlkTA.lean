/- Sums that are taken twice; parts that stand together; sums, contents of parts, and parts: walked. -/
import Derived.Test.YtjfgainieoaeaaaBlkS
namespace Go.Proofs.Ytjfgainieoaeaaa.Mat
open Go.RowKit Fld

theorem box_trans {w w1 : World} {o : Obj} (h : Below (w.alloc o).heap.size (w.alloc o) w1) : Below w.heap.size w w1 := up_trans ((Below.refl _ _).alloc (Nat.le_refl _) o) h
theorem xr_twice {a b : ByteArray} : xr (xr a b) b = a := by
  refine bt_eq.2 ⟨by rw [xr_size, xr_size], fun c hc => ?_⟩
  rw [xr_size, xr_size] at hc
  unfold xr
  rw [bt_rs (by rw [rs_size']; exact hc), bt_rs hc, BitVec.xor_assoc, BitVec.xor_self, BitVec.xor_zero]
theorem xr_comm {a b : ByteArray} (h : a.size = b.size) : xr a b = xr b a := by
  refine bt_eq.2 ⟨by rw [xr_size, xr_size, h], fun c hc => ?_⟩
  rw [xr_size] at hc
  unfold xr
  rw [bt_rs hc, bt_rs (by omega), BitVec.xor_comm]
theorem xr_self {a : ByteArray} {c : Nat} (hc : c < a.size) : bt (xr a a) c = 0#8 := by
  unfold xr
  rw [bt_rs hc, BitVec.xor_self]
theorem bt_app (s t : ByteArray) (c : Nat) : bt (s ++ t) c = if c < s.size then bt s c else bt t (c - s.size) := by
  unfold bt
  rw [ByteArray.data_append, Array.getElem?_append]
  have : s.data.size = s.size := rfl
  rw [this]
  split <;> rfl
theorem sub_app (s : ByteArray) (off m n : Nat) : sub s off m ++ sub s (off + m) n = sub s off (m + n) := by
  refine bt_eq.2 ⟨by rw [ByteArray.size_append, sub_size, sub_size, sub_size], fun c hc => ?_⟩
  rw [ByteArray.size_append, sub_size, sub_size] at hc
  rw [bt_app, sub_size]
  unfold sub
  rw [bt_rs (n := m + n) hc]
  by_cases e : c < m
  · rw [if_pos e, bt_rs e]
  · rw [if_neg e, bt_rs (by omega), show off + m + (c - m) = off + c by omega]

set_option maxRecDepth 100000 in
set_option maxHeartbeats 1600000 in
theorem lawTwice (a b : ByteArray) (za : a.size ≤ 140737488351232) (zb : b.size ≤ 140737488351232) (w : World) :
    Calls Try.prog 6 #[.string a, .string b] w fun e w' => e = .returned (.bool true) ∧ Below w.heap.size w w' := by
  by_cases hab : a.size = b.size
  rotate_left
  · have e1 : ((a.size : Int) != (b.size : Int)) = true := by rw [bne_iff_ne]; omega
    have HAB := Lib.hid hab
    clear hab
    go_enter Try.func6, Try.ntmps6
    go_wp2_with fail
    refine (shown_any _).mono ?_; rintro e w1 ⟨rfl, hb1⟩
    have B1 := Lib.hid hb1
    clear hb1
    go_wp2_with fail
    refine (xor_no a b HAB.out _).mono ?_; rintro e w2 ⟨rfl, hb2⟩
    have B2 := Lib.hid (up_trans B1.out hb2)
    clear hb2 B1
    go_wp2
    go_ret
    exact ⟨rfl, B2.out⟩
  · have e1 : ((a.size : Int) != (b.size : Int)) = false := by rw [bne_eq_false_iff_eq]; omega
    obtain ⟨t1, _⟩ := str_yes (xr_twice (a := a) (b := b))
    obtain ⟨t2, _⟩ := str_yes (xr_comm hab.symm)
    have hz := xr_size a a
    have HAB := Lib.hid hab
    have T1 := Lib.hid t1
    have T2 := Lib.hid t2
    have HX : Hid (∀ c, c < a.size → V (bt (xr a a) c) = 0) := Lib.hid (fun c hc => by rw [xr_self hc, V_zero])
    have hx1 : Hid ((xr a b).size = b.size ∧ (xr a b).size ≤ 140737488351232) := Lib.hid (by rw [xr_size]; exact ⟨hab, za⟩)
    clear hab t1 t2
    generalize hw : xr a a = wv at *
    have HW := Lib.hid hw
    have HZ := Lib.hid hz
    clear hw hz
    go_enter Try.func6, Try.ntmps6
    go_wp2_with fail
    refine (shown_any _).mono ?_; rintro e w1 ⟨rfl, hb1⟩
    have B1 := Lib.hid hb1
    clear hb1
    go_wp2_with fail
    refine (xor_yes a b HAB.out za _).mono ?_; rintro e w2 ⟨rfl, hb2⟩
    have B2 := Lib.hid (up_trans B1.out hb2)
    clear hb2 B1
    go_wp2_with fail
    refine (xor_yes (xr a b) b hx1.out.1 hx1.out.2 _).mono ?_; rintro e w3 ⟨rfl, hb3⟩
    have B3 := Lib.hid (up_trans B2.out hb3)
    clear hb3 B2
    go_wp2_with fail
    refine (xor_yes b a HAB.out.symm zb _).mono ?_; rintro e w4 ⟨rfl, hb4⟩
    have B4 := Lib.hid (up_trans B3.out hb4)
    clear hb4 B3
    go_wp2_with fail
    refine (xor_yes a a rfl za _).mono ?_; rintro e w5 ⟨rfl, hb5⟩
    rw [HW.out]
    have B5 := Lib.hid (up_trans B4.out hb5)
    clear hb5 B4
    go_wp2
    go_loop [14] (fun v => ∃ x : Nat, x ≤ wv.size ∧ v = .int .i64 x) (fun v => wv.size - (intOf v).toNat)
    case atStart => exact ⟨0, Nat.zero_le _, rfl⟩
    case round =>
      obtain ⟨x, hx, rfl⟩ := hrel
      by_cases hxz : x < wv.size
      · have hxi : (x : Int) < (wv.size : Int) := by omega
        have hb := bt_at wv x hxz
        rw [HX.out x (by rw [← HZ.out]; exact hxz)] at hb
        have hzz := HZ.out
        have hle : wv.size ≤ 140737488351232 := by omega
        clear hzz
        go_wp2
        go_round
        case rel => exact ⟨x + 1, by omega, by go_num⟩
        case measure => simp [intOf]; omega
      · have hxi : ¬ (x : Int) < (wv.size : Int) := by omega
        have t1 := T1.out
        have t2 := T2.out
        have t3 : ((wv.size : Int) == (a.size : Int)) = true := by rw [HZ.out]; simp
        go_wp2
        go_ret
        exact ⟨rfl, B5.out⟩

set_option maxRecDepth 100000 in
set_option maxHeartbeats 1600000 in
theorem lawCuts {w : World} (s : ByteArray) (off m n : Int) (z : s.size ≤ 140737488351232) (o0 : -9223372036854775808 ≤ off) (o1 : off ≤ 9223372036854775807) (m0 : -9223372036854775808 ≤ m) (m1 : m ≤ 9223372036854775807)
    (n0 : -9223372036854775808 ≤ n) (n1 : n ≤ 9223372036854775807) :
    Calls Try.prog 9 #[.agg #[.string s, .int .i64 off, .int .i64 m, .int .i64 n]] w fun e w' => e = .returned (.bool true) ∧ Below w.heap.size w w' := by
  by_cases c0 : off < 0
  · go_enter Try.func9, Try.ntmps9
    go_wp2_with fail
    refine (shown_any _).mono ?_; rintro e w1 ⟨rfl, hb1⟩
    have B1 := Lib.hid (box_trans hb1)
    clear hb1
    go_wp2
    go_ret
    exact ⟨rfl, B1.out⟩
  by_cases c1 : m < 0
  · go_enter Try.func9, Try.ntmps9
    go_wp2_with fail
    refine (shown_any _).mono ?_; rintro e w1 ⟨rfl, hb1⟩
    have B1 := Lib.hid (box_trans hb1)
    clear hb1
    go_wp2
    go_ret
    exact ⟨rfl, B1.out⟩
  by_cases c2 : n < 0
  · go_enter Try.func9, Try.ntmps9
    go_wp2_with fail
    refine (shown_any _).mono ?_; rintro e w1 ⟨rfl, hb1⟩
    have B1 := Lib.hid (box_trans hb1)
    clear hb1
    go_wp2
    go_ret
    exact ⟨rfl, B1.out⟩
  by_cases c3 : (1073741824 : Int) < off
  · go_enter Try.func9, Try.ntmps9
    go_wp2_with fail
    refine (shown_any _).mono ?_; rintro e w1 ⟨rfl, hb1⟩
    have B1 := Lib.hid (box_trans hb1)
    clear hb1
    go_wp2
    go_ret
    exact ⟨rfl, B1.out⟩
  by_cases c4 : (1073741824 : Int) < m
  · go_enter Try.func9, Try.ntmps9
    go_wp2_with fail
    refine (shown_any _).mono ?_; rintro e w1 ⟨rfl, hb1⟩
    have B1 := Lib.hid (box_trans hb1)
    clear hb1
    go_wp2
    go_ret
    exact ⟨rfl, B1.out⟩
  by_cases c5 : (1073741824 : Int) < n
  · go_enter Try.func9, Try.ntmps9
    go_wp2_with fail
    refine (shown_any _).mono ?_; rintro e w1 ⟨rfl, hb1⟩
    have B1 := Lib.hid (box_trans hb1)
    clear hb1
    go_wp2
    go_ret
    exact ⟨rfl, B1.out⟩
  obtain ⟨off, rfl⟩ : ∃ k : Nat, off = k := ⟨off.toNat, by omega⟩
  obtain ⟨m, rfl⟩ : ∃ k : Nat, m = k := ⟨m.toNat, by omega⟩
  obtain ⟨n, rfl⟩ : ∃ k : Nat, n = k := ⟨n.toNat, by omega⟩
  have b1 : (off : Int) ≤ 1073741824 := by omega
  have b2 : (m : Int) ≤ 1073741824 := by omega
  have b3 : (n : Int) ≤ 1073741824 := by omega
  clear c0 c1 c2 c3 c4 c5 o0 o1 m0 m1 n0 n1
  go_enter Try.func9, Try.ntmps9
  go_wp2_with fail
  refine (shown_any _).mono ?_; rintro e w1 ⟨rfl, hb1⟩
  have B1 := Lib.hid (box_trans hb1)
  clear hb1
  go_wp2_with fail
  refine (cut_any s _ _ z ⟨by omega, by omega⟩ ⟨by omega, by omega⟩ _).mono ?_; rintro e w2 ⟨rfl, rfl⟩
  go_wp2_with fail
  refine (cut_any s _ _ z ⟨by omega, by omega⟩ ⟨by omega, by omega⟩ _).mono ?_; rintro e w2 ⟨rfl, rfl⟩
  go_wp2_with fail
  refine (cut_any s _ _ z ⟨by omega, by omega⟩ ⟨by omega, by omega⟩ _).mono ?_; rintro e w2 ⟨rfl, rfl⟩
  by_cases hin : off + m + n ≤ s.size
  · have f1 := cut_in (s := s) (off := off) (n := m) (by omega)
    have f2 := cut_in (s := s) (off := off + m) (n := n) (by omega)
    have f3 := cut_in (s := s) (off := off) (n := m + n) (by omega)
    rw [Int.natCast_add] at f2 f3
    rw [f1.1, f1.2, f2.1, f2.2, f3.1, f3.2]
    obtain ⟨t1, _⟩ := str_yes (sub_app s off m n)
    have g : ¬ (s.size : Int) < (off : Int) + (m : Int) + (n : Int) := by omega
    have hsz : ¬ 9223372036854775807 < (sub s off m).size + (sub s (off + m) n).size := by rw [sub_size, sub_size]; omega
    clear f1 f2 f3
    go_wp2
    go_ret
    exact ⟨rfl, B1.out⟩
  · have f3 := cut_out (s := s) (off := (off : Int)) (n := (m : Int) + (n : Int)) (with_niff.2 (by omega))
    rw [f3.1, f3.2]
    have g : (s.size : Int) < (off : Int) + (m : Int) + (n : Int) := by omega
    clear f3
    go_wp2
    go_ret
    exact ⟨rfl, B1.out⟩

def xorE (a b : ByteArray) : Int := if a.size = b.size then 0 else 3
def xorS (a b : ByteArray) : ByteArray := if a.size = b.size then xr a b else ByteArray.empty
theorem xor_any (a b : ByteArray) (ha : a.size ≤ 140737488351232) (w : World) : Calls Try.prog 16 #[.string a, .string b] w (TxtRet w (xorE a b) (xorS a b)) := by
  unfold xorE xorS
  by_cases h : a.size = b.size
  · rw [if_pos h, if_pos h]; exact xor_yes a b h ha w
  · rw [if_neg h, if_neg h]; exact xor_no a b h w
theorem refXor_any (a b : ByteArray) (ha : a.size ≤ 140737488351232) (w : World) : Calls Try.prog 17 #[.string a, .string b] w (TxtRet w (xorE a b) (xorS a b)) := by
  unfold xorE xorS
  by_cases h : a.size = b.size
  · rw [if_pos h, if_pos h]; exact refXor_yes a b h ha w
  · rw [if_neg h, if_neg h]; exact refXor_no a b h w
theorem str_refl (s : ByteArray) : (s.toList == s.toList) = true := (str_yes rfl).1

set_option maxRecDepth 100000 in
set_option maxHeartbeats 1600000 in
theorem lawLays {w : World} (a b : ByteArray) (size : Int) (A : Option Addr) (n cap : Nat) (I : Nat → Int) (S : Nat → ByteArray) (off k : Int) (za : a.size ≤ 140737488351232) (_zb : b.size ≤ 140737488351232)
    (_s0 : -9223372036854775808 ≤ size) (_s1 : size ≤ 9223372036854775807) (hok : PcOk n cap I S) (hP : Pc w w.heap.size A n I S)
    (o0 : -9223372036854775808 ≤ off) (o1 : off ≤ 9223372036854775807) (k0 : -9223372036854775808 ≤ k) (k1 : k ≤ 9223372036854775807) :
    Calls Try.prog 4 #[.agg #[.string a, .string b, .int .i64 size, .slice A n cap, .int .i64 off, .int .i64 k]] w fun e w' => e = .returned (.bool true) ∧ Below w.heap.size w w' := by
  have HP := Lib.hid hP
  have HOK := Lib.hid hok
  have hcc := cut_any a off k za ⟨o0, o1⟩ ⟨k0, k1⟩
  have hcr := refCut_any a off k za ⟨o0, o1⟩ ⟨k0, k1⟩
  have hll := fun (w : World) (h : Pc w w.heap.size A n I S) => lay_any h hok size
  have hlr := fun (w : World) (h : Pc w w.heap.size A n I S) => refLay_any h hok size
  have hx := xor_any a b za
  have hxr := refXor_any a b za
  generalize xorE a b = E1 at *
  generalize xorS a b = X1 at *
  generalize layE size n I S = E2 at *
  generalize layS size n I S = X2 at *
  generalize cutE a off k = E3 at *
  generalize cutS a off k = X3 at *
  have HC := Lib.hid hcc
  have HCR := Lib.hid hcr
  have HL := Lib.hid hll
  have HLR := Lib.hid hlr
  have HX := Lib.hid hx
  have HXR := Lib.hid hxr
  have t1 := str_refl X1
  have t2 := str_refl X2
  have t3 := str_refl X3
  have T1 := Lib.hid t1
  have T2 := Lib.hid t2
  have T3 := Lib.hid t3
  clear hP hok hcc hcr hll hlr hx hxr t1 t2 t3
  go_enter Try.func4, Try.ntmps4
  go_wp2_with fail
  refine (shown_any _).mono ?_; rintro e w1 ⟨rfl, hb1⟩
  have B1 := Lib.hid (box_trans hb1)
  have P1 := Lib.hid (HP.out.up (box_trans hb1))
  clear hb1 HP
  go_wp2_with fail
  refine (HX.out _).mono ?_; rintro e w2 ⟨rfl, hb2⟩
  have B2 := Lib.hid (up_trans B1.out hb2)
  have P2 := Lib.hid (P1.out.up hb2)
  clear hb2 B1 P1
  go_wp2_with fail
  refine (HXR.out _).mono ?_; rintro e w3 ⟨rfl, hb3⟩
  have B3 := Lib.hid (up_trans B2.out hb3)
  have P3 := Lib.hid (P2.out.up hb3)
  clear hb3 B2 P2
  go_wp2_with fail
  refine (HL.out _ P3.out).mono ?_; rintro e w4 ⟨rfl, hb4⟩
  have B4 := Lib.hid (up_trans B3.out hb4)
  have P4 := Lib.hid (P3.out.up hb4)
  clear hb4 B3 P3
  go_wp2_with fail
  refine (HLR.out _ P4.out).mono ?_; rintro e w5 ⟨rfl, hb5⟩
  have B5 := Lib.hid (up_trans B4.out hb5)
  clear hb5 B4 P4
  go_wp2_with fail
  refine (HC.out _).mono ?_; rintro e w6 ⟨rfl, rfl⟩
  go_wp2_with fail
  refine (HCR.out _).mono ?_; rintro e w6 ⟨rfl, rfl⟩
  have t1 := T1.out
  have t2 := T2.out
  have t3 := T3.out
  go_wp2
  go_ret
  exact ⟨rfl, B5.out⟩
end Go.Proofs.Ytjfgainieoaeaaa.Mat
