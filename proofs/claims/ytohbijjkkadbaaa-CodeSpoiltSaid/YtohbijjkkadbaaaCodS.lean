/- The document's examples; the laws CodeTables, CodeEncodes, CodeOne: walked. -/
import Derived.Test.YtohbijjkkadbaaaCodI
namespace Go.Proofs.Ytohbijjkkadbaaa.Mat
open Go.RowKit Fld

def one1 : ByteArray := ⟨#[1]⟩
theorem t00 : V (tab 2 0 0) = 1 := by decide +kernel
theorem t20 : V (tab 2 2 0) = 3 := by decide +kernel
theorem t21 : V (tab 2 2 1) = 2 := by decide +kernel
theorem e20 : enc 2 (fun _ => one1) (2 + 0) = one1 := by decide +kernel
theorem one_size : one1.size = 1 := rfl
theorem add_pos (a : Addr) (n : Nat) (h : n ≠ 0) : a.add n = ⟨a.block, a.off + n, none⟩ := if_neg h
theorem has_lit {w : World} {b n : Nat} {f : Nat → Value} (cs : Array Value) (t : TypeId) (e : w.heap.size = b) (h : ∀ i, i < n → cs[i]? = some (f i)) : Has (w.alloc (.cells cs t)) b t n f := by
  subst e; exact has_new w cs t h

set_option maxRecDepth 100000 in
set_option maxHeartbeats 1600000 in
theorem codeShown_any (w : World) : Calls Try.prog 11 #[] w (BoolRet w true) := by
  go_enter Try.func11, Try.ntmps11
  go_wp2_with fail
  refine (table_yes 2 1 (by omega) (by omega) _).mono ?_; rintro e w1 ⟨A1, c1, RA1, RC1, rfl, hM1, hB1⟩
  have M1 := Lib.hid hM1
  have B1 := Lib.hid hB1
  clear hM1 hB1
  have hS : St (w1.alloc (.cells #[.string one1, .string one1] 9)) (w1.alloc (.cells #[.string one1, .string one1] 9)).heap.size (some ⟨w1.heap.size, 0, none⟩) 2 (fun _ => one1) :=
    St.of_has (has_lit _ _ rfl (fun i hi => by
      have : i = 0 ∨ i = 1 := by omega
      rcases this with rfl | rfl <;> rfl)) (by rw [size_alloc]; exact Nat.lt_succ_self _)
  have hB2 : Below w1.heap.size w1 (w1.alloc (.cells #[.string one1, .string one1] 9)) := (Below.refl _ _).alloc (Nat.le_refl _) _
  have HS := Lib.hid hS
  have B2 := Lib.hid hB2
  clear hS hB2
  go_wp2_with fail
  change Calls _ _ _ (w1.alloc (.cells #[.string one1, .string one1] 9)) _
  generalize w1.alloc (.cells #[.string one1, .string one1] 9) = w2 at *
  refine (encode_yes (n := 2) (m := 1) HS.out (by omega) (by omega) (fun _ _ => rfl) (by rw [one_size]; omega)).mono ?_; rintro e w3 ⟨A3, c3, rfl, _, hS3, hB3⟩
  have M3 := M1.out.up (B2.out.trans (hB3.mono B2.out.size))
  have B3 := Lib.hid (up_trans (up_trans B1.out B2.out) hB3)
  obtain ⟨ad, rfl, _, q0, _, r0⟩ := M3.row (r := 0) (by omega)
  obtain ⟨ad', hA, _, q2, _, r2⟩ := M3.row (r := 2) (by omega)
  injection hA with hA
  subst hA
  obtain ⟨a0, h0, _, s0⟩ := r0.at_ (c := 0) (by omega)
  obtain ⟨a2, h2, _, s20⟩ := r2.at_ (c := 0) (by omega)
  obtain ⟨a3, h3, _, s21⟩ := r2.at_ (c := 1) (by omega)
  rw [h2] at h3
  injection h3 with h3
  subst h3
  rw [h0, add_zero] at q0
  rw [h2, add_pos _ _ (by omega)] at q2
  rw [add_zero, t00] at s0
  rw [add_zero, t20] at s20
  rw [t21, add_pos _ _ (by omega)] at s21
  obtain ⟨a4, rfl, _, s4⟩ := hS3.at_ (r := 0) (by omega)
  rw [e20, add_zero] at s4
  have t1 : (one1.toList == [1]) = true := by rw [ByteArray.toList_eq]; rfl
  clear hS3 hB3 M3 r0 r2 h0 h2 HS M1 B1 B2
  go_wp2
  go_ret
  exact ⟨rfl, B3.out⟩

/-- a table, or why there is none -/
def TabAll (w : World) (k m : Int) (e : Ending) (w' : World) : Prop :=
  (∃ k' m' : Nat, k = k' ∧ m = m' ∧ 1 ≤ k' ∧ k' + m' ≤ 32 ∧ MadeRet w (k' + m') k' (tab k') e w') ∨ (MayB k m = false ∧ FailRet w 1 e w')
theorem may_nat {k m : Int} (h : MayB k m = true) : ∃ k' m' : Nat, k = k' ∧ m = m' ∧ 1 ≤ k' ∧ k' + m' ≤ 32 := by
  have := may_yes' h
  exact ⟨k.toNat, m.toNat, by omega, by omega, by omega, by omega⟩
theorem table_all (k m : Int) (hk : i64 k) (hm : i64 m) (w : World) : Calls Try.prog 12 #[.int .i64 k, .int .i64 m] w (TabAll w k m) := by
  cases h : MayB k m
  · exact (table_no k m hk hm h w).mono fun _ _ hh => .inr ⟨h, hh⟩
  · obtain ⟨k', m', rfl, rfl, h1, h2⟩ := may_nat h
    exact (table_yes k' m' h1 h2 w).mono fun _ _ hh => .inl ⟨k', m', rfl, rfl, h1, h2, hh⟩

set_option maxRecDepth 100000 in
set_option maxHeartbeats 1600000 in
theorem lawTables (k m : Int) (k0 : -9223372036854775808 ≤ k) (k1 : k ≤ 9223372036854775807) (m0 : -9223372036854775808 ≤ m) (m1 : m ≤ 9223372036854775807) (w : World) :
    Calls Try.prog 3 #[.int .i64 k, .int .i64 m] w fun e w' => e = .returned (.bool true) ∧ Below w.heap.size w w' := by
  cases h : MayB k m
  · have HM := Lib.hid h; clear h
    go_enter Try.func3, Try.ntmps3
    go_wp2_with fail
    refine (codeShown_any _).mono ?_; rintro e w1 ⟨rfl, hb1⟩
    have B1 := Lib.hid hb1
    clear hb1
    go_wp2_with fail
    refine (table_no k m ⟨k0, k1⟩ ⟨m0, m1⟩ HM.out _).mono ?_; rintro e w2 ⟨rfl, hb2⟩
    have B2 := Lib.hid (up_trans B1.out hb2)
    clear hb2 B1
    go_wp2_with fail
    refine (refTable_no k m HM.out _).mono ?_; rintro e w3 ⟨rfl, hb3⟩
    have B3 := Lib.hid (up_trans B2.out hb3)
    clear hb3 B2
    go_wp2_with fail
    refine (refSame_yes (L := fun _ => 0) (RC := fun _ => 0) (RA := fun _ => none) (F := fun _ _ => 0#8) (L' := fun _ => 0) (RC' := fun _ => 0) (RA' := fun _ => none) (F' := fun _ _ => 0#8) (B := 0) (B' := 0) (fun h => absurd h (by omega)) (fun h => absurd h (by omega)) (by omega) (by omega) ⟨rfl, fun r hr => absurd hr (by omega)⟩).mono ?_; rintro e w4 ⟨rfl, q4, rfl⟩
    go_wp2_with fail
    refine (codeMay_any _ _ ⟨k0, k1⟩ ⟨m0, m1⟩ _).mono ?_; rintro e w5 ⟨rfl, rfl⟩
    rw [HM.out]
    go_wp2_with fail
    refine (refMayC_any _ _ _).mono ?_; rintro e w5 ⟨rfl, rfl⟩
    rw [HM.out]
    go_wp2
    go_ret
    exact ⟨rfl, below_drewN B3.out _⟩
  · have HM := Lib.hid h
    obtain ⟨k, m, rfl, rfl, h1, h2⟩ := may_nat h
    clear h
    go_enter Try.func3, Try.ntmps3
    go_wp2_with fail
    refine (codeShown_any _).mono ?_; rintro e w1 ⟨rfl, hb1⟩
    have B1 := Lib.hid hb1
    clear hb1
    go_wp2_with fail
    refine (table_yes k m h1 h2 _).mono ?_; rintro e w2 ⟨A2, c2, RA2, RC2, rfl, hM2, hb2⟩
    have B2 := Lib.hid (up_trans B1.out hb2)
    have M2 := Lib.hid hM2
    clear hb2 hM2 B1
    go_wp2_with fail
    refine (refTable_yes k m h1 h2 _).mono ?_; rintro e w3 ⟨A3, c3, RA3, RC3, rfl, hM3, hb3⟩
    have B3 := Lib.hid (up_trans B2.out hb3)
    have M23 := Lib.hid (M2.out.up hb3)
    have M3 := Lib.hid hM3
    clear hb3 hM3 B2 M2
    go_wp2_with fail
    refine (refSame_yes M23.out M3.out (by omega) (by omega) ⟨rfl, fun r hr => ⟨rfl, fun c hc => rfl⟩⟩).mono ?_; rintro e w4 ⟨rfl, q4, rfl⟩
    go_wp2_with fail
    refine (codeMay_any _ _ ⟨k0, k1⟩ ⟨m0, m1⟩ _).mono ?_; rintro e w5 ⟨rfl, rfl⟩
    rw [HM.out]
    go_wp2_with fail
    refine (refMayC_any _ _ _).mono ?_; rintro e w5 ⟨rfl, rfl⟩
    rw [HM.out]
    go_wp2
    go_ret
    exact ⟨rfl, below_drewN B3.out _⟩

set_option maxRecDepth 100000 in
set_option maxHeartbeats 1600000 in
theorem lawEncodes {w : World} (k m : Int) (A : Option Addr) (n cap : Nat) (S : Nat → ByteArray) (k0 : -9223372036854775808 ≤ k) (k1 : k ≤ 9223372036854775807) (m0 : -9223372036854775808 ≤ m) (m1 : m ≤ 9223372036854775807)
    (hn : n ≤ cap ∧ n ≤ 9223372036854775807 ∧ ∀ i, i < n → (S i).size ≤ 140737488351232) (hS : St w w.heap.size A n S) :
    Calls Try.prog 4 #[.int .i64 k, .int .i64 m, .slice A n cap] w fun e w' => e = .returned (.bool true) ∧ Below w.heap.size w w' := by
  obtain ⟨hc, hn, hz⟩ := hn
  have hz0 : 0 < n → (S 0).size ≤ 140737488351232 := fun h => hz 0 h
  have hLm : encL k m n S ≤ 9223372036854775807 := by unfold encL; split <;> omega
  have HZ := Lib.hid hz0
  have HS := Lib.hid hS
  have HL := Lib.hid hLm
  clear hz hz0 hS hLm
  generalize hE : encE k m n S = E
  generalize hLL : encL k m n S = L at *
  generalize hF : fitsB k m n S = fb
  have HE := Lib.hid hE
  have HLL := Lib.hid hLL
  have HF := Lib.hid hF
  clear hE hLL hF
  go_enter Try.func4, Try.ntmps4
  go_wp2_with fail
  refine (codeShown_any _).mono ?_; rintro e w1 ⟨rfl, hb1⟩
  have B1 := Lib.hid hb1
  have S1 := Lib.hid (HS.out.up hb1)
  clear hb1 HS
  go_wp2_with fail
  refine (small_any S1.out).mono ?_; rintro e w2 ⟨b, rfl, rfl⟩
  cases b
  · go_wp2
    go_ret
    exact ⟨rfl, B1.out⟩
  · go_wp2_with fail
    refine (encode_any S1.out hn ⟨k0, k1⟩ ⟨m0, m1⟩ HZ.out).mono ?_; rintro e w2 ⟨A2, c2, rfl, _, hS2, hb2⟩
    rw [HE.out, HLL.out]
    rw [HLL.out] at hS2
    have B2 := Lib.hid (up_trans B1.out hb2)
    have T2 := Lib.hid hS2
    have S2 := Lib.hid (S1.out.up hb2)
    clear hb2 hS2 B1 S1
    go_wp2_with fail
    refine (refEncode_any S2.out HZ.out).mono ?_; rintro e w3 ⟨A3, c3, rfl, _, hS3, hb3⟩
    rw [HE.out, HLL.out]
    rw [HLL.out] at hS3
    have B3 := Lib.hid (up_trans B2.out hb3)
    have T23 := Lib.hid (T2.out.up hb3)
    have T3 := Lib.hid hS3
    have S3 := Lib.hid (S2.out.up hb3)
    clear hb3 hS3 B2 S2 T2
    go_wp2_with fail
    refine (strSame_any T23.out T3.out HL.out HL.out).mono ?_; rintro e w4 ⟨rfl, q4, rfl⟩
    rw [stB_yes ⟨rfl, fun _ _ => rfl⟩]
    have B4 := Lib.hid (below_drewN B3.out q4)
    have S4 : Hid (St (w3.drewN q4) (w3.drewN q4).heap.size A n S) := Lib.hid (S3.out.drewN q4)
    clear B3 S3 T23 T3
    generalize w3.drewN q4 = w4 at *
    go_wp2_with fail
    refine (fits_any S4.out hc ⟨k0, k1⟩ ⟨m0, m1⟩ HZ.out).mono ?_; rintro e w5 ⟨rfl, hb5⟩
    rw [HF.out]
    have B5 := Lib.hid (up_trans B4.out hb5)
    have S5 := Lib.hid (S4.out.up hb5)
    clear hb5 B4 S4
    go_wp2_with fail
    refine (refFits_any S5.out hc HZ.out).mono ?_; rintro e w6 ⟨rfl, hb6⟩
    rw [HF.out]
    have B6 := Lib.hid (up_trans B5.out hb6)
    clear hb6 B5 S5
    go_wp2
    go_ret
    exact ⟨ret_bool (by simp), B6.out⟩

theorem one_st (w : World) (s : ByteArray) : St (w.alloc (.cells #[.string s] 9)) (w.alloc (.cells #[.string s] 9)).heap.size (some ⟨w.heap.size, 0, none⟩) 1 (fun _ => s) :=
  St.of_has ((has_box w (.string s) 9).congr (fun _ _ => rfl)) (by rw [size_alloc]; exact Nat.lt_succ_self _)

set_option maxRecDepth 100000 in
set_option maxHeartbeats 1600000 in
theorem lawOne (m : Int) (s : ByteArray) (m0 : -9223372036854775808 ≤ m) (m1 : m ≤ 9223372036854775807) (z : s.size ≤ 140737488351232) (w : World) :
    Calls Try.prog 10 #[.int .i64 m, .string s] w fun e w' => e = .returned (.bool true) ∧ Below w.heap.size w w' := by
  cases hs : decide ((s.size : Int) > 200)
  rotate_left
  · go_enter Try.func10, Try.ntmps10
    go_wp2_with fail
    refine (codeShown_any _).mono ?_; rintro e w1 ⟨rfl, hb1⟩
    have B1 := Lib.hid hb1
    clear hb1
    go_wp2
    go_ret
    exact ⟨rfl, B1.out⟩
  · by_cases hm : 0 ≤ m ∧ m ≤ 31
    · obtain ⟨ha, hb⟩ := hm
      obtain ⟨m, rfl⟩ : ∃ m' : Nat, m = m' := ⟨m.toNat, by omega⟩
      have g1 : decide ((m : Int) < 0) = false := by simp
      have g2 : decide ((m : Int) > 31) = false := by simp; omega
      have g3 : ((m : Int) == (m : Int)) = true := by simp
      obtain ⟨t1, t2⟩ := str_yes (rfl : s = s)
      have HE : Hid (∀ r, enc 1 (fun _ => s) (1 + r) = s) := Lib.hid (fun r => enc_one _ _)
      go_enter Try.func10, Try.ntmps10
      go_wp2_with fail
      refine (codeShown_any _).mono ?_; rintro e w1 ⟨rfl, hb1⟩
      have S2 := Lib.hid (one_st w1 s)
      have B2 := Lib.hid (up_trans hb1 ((Below.refl _ _).alloc (Nat.le_refl _) (.cells #[.string s] 9)))
      clear hb1
      go_wp2_with fail
      generalize w1.alloc (.cells #[.string s] 9) = w2 at *
      refine (encode_yes (n := 1) (m := m) S2.out (by omega) (by omega) (fun i hi => rfl) z).mono ?_; rintro e w3 ⟨A3, c3, rfl, _, hS3, hB3⟩
      have S3 := Lib.hid hS3
      have B3 := Lib.hid (up_trans B2.out hB3)
      clear hS3 hB3 S2 B2
      go_wp2
      go_loop [8] (fun i => ∃ k : Nat, k ≤ m ∧ i = .int .i64 k) (fun i => m - (intOf i).toNat)
      case atStart => exact ⟨0, by omega, rfl⟩
      case round =>
        obtain ⟨k, hk, rfl⟩ := hrel
        by_cases hlt : k < m
        · have hkz : (k : Int) < (m : Int) := by omega
          obtain ⟨ad, rfl, _, c1⟩ := S3.out.at_ hlt
          rw [HE.out] at c1
          go_wp2
          go_round
          case rel => exact ⟨k + 1, by omega, by go_num⟩
          case measure => simp [intOf]; omega
        · have hkz : ¬ (k : Int) < (m : Int) := by omega
          go_wp2
          go_ret
          exact ⟨rfl, B3.out⟩
    · have hmay : MayB 1 m = false := decide_eq_false (by omega)
      have HM := Lib.hid hmay
      have hg : (decide (m < 0) || decide (m > 31)) = true := by
        rw [Bool.or_eq_true, decide_eq_true_iff, decide_eq_true_iff]; omega
      clear hmay hm
      cases hm0 : decide (m < 0)
      · cases hm1 : decide (m > 31)
        · rw [hm0, hm1] at hg; cases hg
        · clear hg
          go_enter Try.func10, Try.ntmps10
          go_wp2_with fail
          refine (codeShown_any _).mono ?_; rintro e w1 ⟨rfl, hb1⟩
          have B2 := Lib.hid (up_trans hb1 ((Below.refl _ _).alloc (Nat.le_refl _) (.cells #[.string s] 9)))
          clear hb1
          go_wp2_with fail
          generalize w1.alloc (.cells #[.string s] 9) = w2 at *
          refine (encode_no1 (n := 1) ⟨by omega, by omega⟩ ⟨m0, m1⟩ HM.out).mono ?_; rintro e w3 ⟨rfl, hB3⟩
          have B3 := Lib.hid (up_trans B2.out hB3)
          clear hB3 B2
          go_wp2
          go_ret
          exact ⟨rfl, B3.out⟩
      · clear hg
        go_enter Try.func10, Try.ntmps10
        go_wp2_with fail
        refine (codeShown_any _).mono ?_; rintro e w1 ⟨rfl, hb1⟩
        have B2 := Lib.hid (up_trans hb1 ((Below.refl _ _).alloc (Nat.le_refl _) (.cells #[.string s] 9)))
        clear hb1
        go_wp2_with fail
        generalize w1.alloc (.cells #[.string s] 9) = w2 at *
        refine (encode_no1 (n := 1) ⟨by omega, by omega⟩ ⟨m0, m1⟩ HM.out).mono ?_; rintro e w3 ⟨rfl, hB3⟩
        have B3 := Lib.hid (up_trans B2.out hB3)
        clear hB3 B2
        go_wp2
        go_ret
        exact ⟨rfl, B3.out⟩
end Go.Proofs.Ytohbijjkkadbaaa.Mat
