/- The law SiteAll: walked from what it asks of the program. -/
import Derived.Test.YthalaihpgjniiaaSitLawB
namespace Go.Proofs.Ythalaihpgjniiaa.Mat
open Go.RowKit Fld

/-- how often x is among the first ones -/
def ct (R : List Nat) (x i : Nat) : Nat := (R.take i).count x
theorem ct_yes {R : List Nat} {x i : Nat} (hi : i < R.length) (h : R[i] = x) : ct R x (i + 1) = ct R x i + 1 := by
  unfold ct
  rw [List.take_add_one, List.getElem?_eq_getElem hi, List.count_append]
  simp [h]
theorem ct_no {R : List Nat} {x i : Nat} (hi : i < R.length) (h : R[i] ≠ x) : ct R x (i + 1) = ct R x i := by
  unfold ct
  rw [List.take_add_one, List.getElem?_eq_getElem hi, List.count_append]
  simp [h]
theorem ct_le (R : List Nat) (x i : Nat) : ct R x i ≤ i := by
  unfold ct
  exact Nat.le_trans List.count_le_length (by rw [List.length_take]; omega)
theorem ct_one {R : List Nat} {x : Nat} (hn : R.Nodup) (hm : x ∈ R) : ct R x R.length = 1 := by
  unfold ct
  rw [List.take_length]
  have h1 := List.nodup_iff_count.1 hn x
  have h2 := List.count_pos_iff.2 hm
  omega
section
variable {w : World} {A : Option Addr} {c N : Nat} {f : Nat → Bool}
set_option maxRecDepth 100000 in
set_option maxHeartbeats 3200000 in
theorem lawAll (C : SiteOk) (vol nodes : Int) (h1 : I64 vol) (h4 : I64 nodes) (hN : N ≤ 140737488355328) (hF : Fit A N c) (h : Bl w w.heap.size A N f) :
    Calls Try.prog 7 #[.int .i64 vol, .int .i64 nodes, .slice A N c] w (BoolRet w true) := by
  have CS := Lib.hid (siteShown_any C)
  have c1 := fun W' (hb : Below w.heap.size w W') => C.ring W' vol nodes A N c f h1 h4 hN hF (h.up hb)
  have c5 := fun (n : Nat) W' (hb : Below w.heap.size w W') => lives_any (w := W') (c := c) (n : Int) N f (h.up hb)
  have no := fun q => rgL_no (p := lv f N) (vol := vol) (nodes := nodes) q
  have C5 := Lib.hid c5
  clear c5 h h1 h4 hF C hN
  by_cases b0 : vol < 0
  · rw [no (.inl b0)] at c1
    have C1 := Lib.hid c1
    clear c1 no
    go_enter Try.func7, Try.ntmps7
    go_wp2_with fail
    refine (CS.out _).mono ?_; rintro e w1 ⟨rfl, hb1⟩
    have H1 := Lib.hid hb1
    clear hb1
    go_wp2_with fail
    refine (C1.out _ H1.out).mono ?_; rintro e w2 ⟨A2, c2, rfl, _, hb2⟩
    have H2 := Lib.hid (up_trans H1.out hb2)
    clear hb2
    simp only [List.length_nil]
    go_wp2
    go_ret
    exact ⟨ret_bool (by first | rfl | decide | simp), H2.out⟩
  by_cases b1 : nodes < 1
  · rw [no (.inr (.inl b1))] at c1
    have C1 := Lib.hid c1
    clear c1 no
    go_enter Try.func7, Try.ntmps7
    go_wp2_with fail
    refine (CS.out _).mono ?_; rintro e w1 ⟨rfl, hb1⟩
    have H1 := Lib.hid hb1
    clear hb1
    go_wp2_with fail
    refine (C1.out _ H1.out).mono ?_; rintro e w2 ⟨A2, c2, rfl, _, hb2⟩
    have H2 := Lib.hid (up_trans H1.out hb2)
    clear hb2
    simp only [List.length_nil]
    go_wp2
    go_ret
    exact ⟨ret_bool (by first | rfl | decide | simp), H2.out⟩
  by_cases b2 : 64 < nodes
  · rw [no (.inr (.inr b2))] at c1
    have C1 := Lib.hid c1
    clear c1 no
    go_enter Try.func7, Try.ntmps7
    go_wp2_with fail
    refine (CS.out _).mono ?_; rintro e w1 ⟨rfl, hb1⟩
    have H1 := Lib.hid hb1
    clear hb1
    go_wp2_with fail
    refine (C1.out _ H1.out).mono ?_; rintro e w2 ⟨A2, c2, rfl, _, hb2⟩
    have H2 := Lib.hid (up_trans H1.out hb2)
    clear hb2
    simp only [List.length_nil]
    go_wp2
    go_ret
    exact ⟨ret_bool (by first | rfl | decide | simp), H2.out⟩
  obtain ⟨v, rfl⟩ := Int.eq_ofNat_of_zero_le (show 0 ≤ vol by omega)
  obtain ⟨n, rfl⟩ := Int.eq_ofNat_of_zero_le (show 0 ≤ nodes by omega)
  have hn1 : 1 ≤ n := by omega
  have hn2 : n ≤ 64 := by omega
  have hnz : ¬ n = 0 := by omega
  have hmod := Nat.mod_lt v hn1
  have hm : ((v : Int) % (n : Int)) = ((v % n : Nat) : Int) := rfl
  have hmem := fun x (hx : x < n) (hp : lv f N x = true) => ct_one (rg_nodup (lv f N) v n) ((rg_mem hn1).2 ⟨hx, hp⟩)
  have hcn := rg_count (p := lv f N) (v := v) hn1
  have hhd := rg_head (p := lv f N) (v := v) hn1
  have hl64 := rg_len (p := lv f N) (v := v) hn1
  rw [rgL_yes hn1 hn2] at c1
  generalize rg (lv f N) v n = R at *
  generalize v % n = a at *
  have C1 := Lib.hid c1
  have HMEM := Lib.hid hmem
  have HCN := Lib.hid hcn
  have HHD := Lib.hid hhd
  clear c1 no hmem hcn hhd
  go_enter Try.func7, Try.ntmps7
  go_wp2_with fail
  refine (CS.out _).mono ?_; rintro e w1 ⟨rfl, hb1⟩
  have H1 := Lib.hid hb1
  clear hb1
  go_wp2_with fail
  refine (C1.out _ H1.out).mono ?_; rintro e w2 ⟨A2, c2, rfl, hn2', hb2⟩
  have H2 := Lib.hid (up_trans H1.out hb2)
  have N2 := Lib.hid hn2'
  clear hb2 hn2'
  go_wp2
  go_loopg [9, 10] n (fun gh y x wr => ∃ j : Nat, j ≤ n ∧ gh = n - j ∧ y = .int .i64 (cn (lv f N) j : Nat) ∧ x = .int .i64 (j : Nat) ∧ Below w2.heap.size w2 wr)
  case atStart => exact ⟨0, Nat.zero_le _, rfl, rfl, rfl, Below.refl _ _⟩
  case round =>
    obtain ⟨j, hj, hgh, rfl, rfl, hb⟩ := hrel
    have HR := Lib.hid hb
    clear hb
    by_cases hlt : j < n
    · have hjz : (j : Int) < (n : Int) := by omega
      have hc := C5.out j wr (up_trans H2.out HR.out)
      rw [Int.toNat_natCast, decide_eq_true (show (0 : Int) ≤ (j : Int) by omega), Bool.true_and] at hc
      have hle := cn_le (lv f N) j
      cases hp : lv f N j
      · rw [hp] at hc
        have HC := Lib.hid hc
        have HT := Lib.hid (cn_no hp)
        generalize cn (lv f N) j = m at *
        clear hc hp
        go_wp2_with fail
        refine HC.out.mono ?_; rintro e w3 ⟨rfl, hb3⟩
        have H3 := Lib.hid (up_trans HR.out hb3)
        clear hb3
        go_wp2
        go_roundg (n - (j + 1))
        case measure => go_light; omega
        case rel => go_light; exact ⟨j + 1, by omega, rfl, by rw [HT.out], by simp, H3.out⟩
      · rw [hp] at hc
        have HC := Lib.hid hc
        have HT := Lib.hid (cn_yes hp)
        have HONE := Lib.hid (HMEM.out j hlt hp)
        generalize cn (lv f N) j = m at *
        clear hc hp
        go_wp2_with fail
        refine HC.out.mono ?_; rintro e w3 ⟨rfl, hb3⟩
        have H3 := Lib.hid (up_trans HR.out hb3)
        clear hb3
        go_wp2
        go_loopg [12, 13] R.length (fun gh y x wz => ∃ i : Nat, i ≤ R.length ∧ gh = R.length - i ∧ y = .int .i64 (ct R j i : Nat) ∧ x = .int .i64 (i : Nat) ∧ wz = w3)
        case atStart => exact ⟨0, Nat.zero_le _, rfl, by rfl, rfl, rfl⟩
        case round =>
          obtain ⟨i, hi, hgh2, rfl, rfl, rfl⟩ := hrel
          by_cases hil : i < R.length
          · have hiz : (i : Int) < (R.length : Int) := by omega
            obtain ⟨ad, e, _, r0⟩ := (N2.out.up H3.out).at_ hil
            subst e
            have hcl := ct_le R j i
            by_cases he : R[i] = j
            · have HT2 := Lib.hid (ct_yes hil he)
              have g1 : (((R[i] : Nat) : Int) == (j : Int)) = true := beq_iff_eq.2 (by rw [he])
              generalize ct R j i = q at *
              generalize R[i] = ri at *
              clear he
              go_wp2
              go_roundg (R.length - (i + 1))
              case measure => go_light; omega
              case rel => go_light; exact ⟨i + 1, by omega, rfl, by rw [HT2.out]; simp, by simp, rfl⟩
            · have HT2 := Lib.hid (ct_no hil he)
              have g1 : (((R[i] : Nat) : Int) == (j : Int)) = false := beq_eq_false_iff_ne.2 (by omega)
              generalize ct R j i = q at *
              generalize R[i] = ri at *
              clear he
              go_wp2
              go_roundg (R.length - (i + 1))
              case measure => go_light; omega
              case rel => go_light; exact ⟨i + 1, by omega, rfl, by rw [HT2.out], by simp, rfl⟩
          · obtain rfl : i = R.length := by omega
            have hiz : ¬ (R.length : Int) < (R.length : Int) := by omega
            rw [HONE.out]
            go_wp2
            go_roundg (n - (j + 1))
            case measure => go_light; omega
            case rel => go_light; exact ⟨j + 1, by omega, rfl, by rw [HT.out]; simp, by simp, H3.out⟩
    · obtain rfl : n = j := by omega
      have hjz : ¬ (n : Int) < (n : Int) := by omega
      rw [← HCN.out]
      have hc := C5.out a wr (up_trans H2.out HR.out)
      rw [Int.toNat_natCast, decide_eq_true (show (0 : Int) ≤ (a : Int) by omega), Bool.true_and] at hc
      cases hp : lv f N a
      · rw [hp] at hc
        have HC := Lib.hid hc
        clear hc hp
        go_wp2_with fail
        refine HC.out.mono ?_; rintro e w3 ⟨rfl, hb3⟩
        have H3 := Lib.hid (up_trans H2.out (up_trans HR.out hb3))
        clear hb3
        go_wp2
        go_ret
        exact ⟨ret_bool (by first | rfl | decide | simp), H3.out⟩
      · rw [hp] at hc
        have HC := Lib.hid hc
        have hd := HHD.out hp
        obtain ⟨hR0, hR1⟩ := List.getElem?_eq_some_iff.1 hd
        have HR1 := Lib.hid hR1
        clear hc hp hd hR1
        go_wp2_with fail
        refine HC.out.mono ?_; rintro e w3 ⟨rfl, hb3⟩
        have H3 := Lib.hid (up_trans HR.out hb3)
        clear hb3
        obtain ⟨ad, e, _, r0⟩ := (N2.out.up H3.out).at_ hR0
        subst e
        rw [add_zero, HR1.out] at r0
        have g2 : ((a : Int) == (a : Int)) = true := by simp
        go_wp2
        go_ret
        exact ⟨ret_bool (by first | rfl | decide | simp), up_trans H2.out H3.out⟩
end
end Go.Proofs.Ythalaihpgjniiaa.Mat
