/- XCelNum, as far as this dump goes. -/
import Derived.Test.YtofafmjkjgiccaaCelMath
import Derived.ScopeJumps
/- Num, Text of both sides: walked. -/
namespace Go.Proofs.Ytofafmjkjgiccaa.Mat
open Go.RowKit Fld

theorem and64 (v : Nat) (h : v < 18446744073709551616) : bits .and .u64 (v : Int) 127 = ((v % 128 : Nat) : Int) := by
  have := bits_and_u64_nat v 127 h (by omega)
  rw [show (127 : Nat) = 2 ^ 7 - 1 from rfl, Nat.and_two_pow_sub_one_eq_mod] at this
  exact this
theorem or64 (x y : Nat) (h : x < 144115188075855872) (hy : y < 128) : bits .or .u64 ((x * 128 : Nat) : Int) (y : Int) = ((x * 128 + y : Nat) : Int) := by
  rw [bits_or_u64_nat _ _ (by omega) (by omega)]
  have := Nat.shiftLeft_add_eq_or_of_lt (i := 7) (b := y) (by omega) x
  rw [Nat.shiftLeft_eq] at this
  rw [← this]
theorem and8 (b : BitVec 8) : bits .and .u8 (V b) 127 = ((b.toNat % 128 : Nat) : Int) := by
  have := u8_and_nat b.toNat 127 b.isLt (by omega)
  rw [show (127 : Nat) = 2 ^ 7 - 1 from rfl, Nat.and_two_pow_sub_one_eq_mod] at this
  exact this
theorem V_dg0 (v : Nat) : V (dg v 0) = ((v % 128 : Nat) : Int) := by unfold V; rw [dg_zero]
theorem V_dgk (v : Nat) {k : Nat} (h : k ≠ 0) : V (dg v k) = ((v / 128 ^ k % 128 + 128 : Nat) : Int) := by unfold V; rw [dg_pos v h]

/-- the cells when the place j is the first one -/
def cN (v j : Nat) (i : Nat) : Value := .int .u8 (V (if i < j then 0#8 else dg v (9 - i)))
theorem zeros_cN (w : World) (v : Nat) : Has (w.alloc (.cells #[.int .u8 0, .int .u8 0, .int .u8 0, .int .u8 0, .int .u8 0, .int .u8 0, .int .u8 0, .int .u8 0, .int .u8 0, .int .u8 0] 107)) w.heap.size 107 10 (cN v 10) :=
  has_new w _ _ (fun i hi => by
    have e : cN v 10 i = .int .u8 0 := by unfold cN; rw [if_pos hi, V_zero]
    rw [e]
    rcases (show i = 0 ∨ i = 1 ∨ i = 2 ∨ i = 3 ∨ i = 4 ∨ i = 5 ∨ i = 6 ∨ i = 7 ∨ i = 8 ∨ i = 9 by omega) with rfl | rfl | rfl | rfl | rfl | rfl | rfl | rfl | rfl | rfl <;> rfl)
theorem cN_put {w : World} {g v j : Nat} (h : Has w g 107 10 (cN v (j + 1))) (_ : j < 10) : Has (w.setCell ⟨g, j, none⟩ (.int .u8 (V (dg v (9 - j))))) g 107 10 (cN v j) :=
  (h.set_ j _).congr (fun i _ => by
    unfold cN
    by_cases e : i = j
    · subst e
      rw [if_pos rfl, if_neg (Nat.lt_irrefl _)]
    · rw [if_neg e]
      by_cases e2 : i < j
      · rw [if_pos e2, if_pos (by omega)]
      · rw [if_neg e2, if_neg (by omega)])
/-- the text of the places from j on -/
theorem cN_text {w : World} {g v j : Nat} (h : Has w g 107 10 (cN v j)) (hj : j < 10) (c : Nat) :
    (convert 109 9 (.slice (some ⟨g, j, none⟩) (10 - j) c)).run Try.prog w = .ok (.string (rs (10 - j) (fun c => dg v (9 - j - c)))) w := by
  refine row_convert (B := w.heap.size) (fun _ => ⟨_, rfl, h.lt, fun c hc => ?_⟩)
  have e : (⟨g, j, none⟩ : Addr).add c = ⟨g, j + c, none⟩ := by
    unfold Addr.add
    by_cases h0 : c = 0
    · subst h0; simp
    · rw [if_neg h0]
  rw [e, h.cell (by omega)]
  unfold cN
  rw [if_neg (by omega), show 9 - (j + c) = 9 - j - c by omega]
theorem arr_cut (g j : Nat) (h : j < 10) (w : World) : (Instr.sliceAt 107 (.pointer (some ⟨g, 0, none⟩)) (some (.int .i64 (j : Int))) none none).run Try.prog w = .ok (.slice (some ⟨g, j, none⟩) (10 - j) (10 - j)) w := by
  have ht : Try.prog.underlying 107 = some (.array 10 5) := Try.underlying107
  have hl : Try.prog.arrayLen 107 = 10 := by simp [Program.arrayLen, ht]
  have he : Try.prog.elem 107 = 5 := by simp [Program.elem, ht]
  obtain ⟨i, hi, hs⟩ := Option.map_eq_some_iff.1 infoByte
  rw [run_sliceAt_array_l w 107 ⟨g, 0, none⟩ (by rw [hl, he]; exact ht) .i64 _ (by omega) (by rw [hl]; omega), hl, he]
  simp only [Prod.mk.injEq] at hs
  simp [sizeOf, typeInfo, hi, hs.2.1, Result.andThen, slicedAt, Addr.add]
  by_cases h0 : j = 0
  · subst h0; simp
  · simp [h0]
    omega

/-- the frame at the label -/
def JN (w : World) (v : Nat) (a' : Act) (w' : World) : Prop :=
  ∃ j : Nat, j < 10 ∧ Has w' w.heap.size 107 10 (cN v j) ∧ Below w.heap.size w w' ∧ (j = 9 ∨ 0 < v / 128 ^ (9 - j)) ∧ ∃ u1 u5 u6 u7 u8 u9 u10 u11 u12 u13 u14 u15 u16 u17 u18 u19 u20 u21 u22 u23 u24 : Value,
    a' = { tmps := #[.int .u64 ((v / 128 ^ (9 - j) : Nat) : Int), u1, .string ⟨#[]⟩, .pointer (some ⟨w.heap.size, 0, none⟩), .int .i64 (j : Int), u5, u6, u7, u8, u9, u10, u11, u12, u13, u14, u15, u16, u17, u18, u19, u20, u21, u22, u23, u24], defers := [] }

set_option maxRecDepth 100000 in
set_option maxHeartbeats 1600000 in
theorem num_any (v : Nat) (hv : v < 18446744073709551616) (w : World) :
    Calls Try.prog 37 #[.int .u64 (v : Int)] w (TextRet w (numS v)) := by
  have h0 := zeros_cN w v
  have hb := (Below.refl w.heap.size w).alloc (Nat.le_refl _) (.cells #[.int .u8 0, .int .u8 0, .int .u8 0, .int .u8 0, .int .u8 0, .int .u8 0, .int .u8 0, .int .u8 0, .int .u8 0, .int .u8 0] 107)
  have H0 := Lib.hid h0
  have HB := Lib.hid hb
  have ha := and64 v hv
  have HV := Lib.hid hv
  clear h0 hb hv
  go_enter Try.func37, Try.ntmps37
  go_wp2_with fail
  refine wp_scope_jumps 0 (JN w v) (fun a' _ => (intOf (a'.tmps.getD 4 undef)).toNat) rfl ?_ ?_
  · go_upto_region 2 with fail
    generalize w.alloc (.cells #[.int .u8 0, .int .u8 0, .int .u8 0, .int .u8 0, .int .u8 0, .int .u8 0, .int .u8 0, .int .u8 0, .int .u8 0, .int .u8 0] 107) = wb at *
    have c9 := H0.out.cell (show 9 < 10 by omega)
    have f9 := H0.out.frozen (show 9 < 10 by omega)
    have hd : V (dg v (9 - 9)) = ((v % 128 : Nat) : Int) := V_dg0 v
    have hP := cN_put H0.out (show 9 < 10 by omega)
    have hW := HB.out.setCell (p := ⟨w.heap.size, 9, none⟩) (Nat.le_refl _) (.int .u8 (V (dg v (9 - 9))))
    rw [hd] at hP hW
    have hz1 : v % 128 < 128 := by omega
    generalize v % 128 = z at *
    have HP := Lib.hid hP
    have HW := Lib.hid hW
    have HV' := HV
    clear hd hP hW H0 HB
    go_wp2_with fail
    clear c9 f9 ha hz1
    have hy : (v : Int) / 128 = ((v / 128 : Nat) : Int) := by omega
    by_cases h0 : v / 128 = 0
    · have HE : Hid (numS v = rs 1 (fun c => dg v (0 - c))) := Lib.hid (numS_of (k := 0) (by rw [Nat.pow_one]; exact h0) (.inl rfl))
      generalize (wb.setCell ⟨w.heap.size, 9, none⟩ (.int .u8 (z : Int))) = W at *
      have ht2 : (convert 109 9 (.slice (some ⟨w.heap.size, 9, none⟩) 1 1)).run Try.prog W = .ok (.string (rs 1 (fun c => dg v (0 - c)))) W := cN_text HP.out (by omega) 1
      rw [h0] at hy
      clear h0
      go_step3
      go_wp2_with fail
      simp only [Exit.jump]
      go_ret
      exact ⟨by rw [HE.out]; rfl, HW.out⟩
    · have hlt : v / 128 < 18446744073709551616 := by have := HV.out; omega
      have ha2 := and64 _ hlt
      have hg := V_dgk v (show 9 - 8 ≠ 0 by omega)
      rw [show v / 128 ^ (9 - 8) = v / 128 by rw [show 9 - 8 = 1 from rfl, Nat.pow_one]] at hg
      have hc := HP.out.cell (show 8 < 10 by omega)
      have hf := HP.out.frozen (show 8 < 10 by omega)
      have HP2 := Lib.hid (cN_put HP.out (show 8 < 10 by omega))
      have HW2 := Lib.hid (HW.out.setCell (p := ⟨w.heap.size, 8, none⟩) (Nat.le_refl _) (.int .u8 (V (dg v (9 - 8)))))
      generalize (wb.setCell ⟨w.heap.size, 9, none⟩ (.int .u8 (z : Int))) = W at *
      generalize hyy : v / 128 = y at *
      have HG : Hid (v / 128 ^ (9 - 8) = y) := Lib.hid (by rw [show 9 - 8 = 1 from rfl, Nat.pow_one]; exact hyy)
      have HX : Hid (0 < y) := Lib.hid (by omega)
      have hm : y % 128 < 128 := by omega
      generalize hzz : y % 128 = z2 at *
      have e2 : (z2 : Int) % 256 = z2 := by omega
      have e3 : bits .or .u8 (z2 : Int) 128 = V (dg v (9 - 8)) := by rw [u8_or128_right _ (by omega) (by omega), hg]; omega
      have hy0 : 0 < (y : Int) := by omega
      generalize hbb : dg v (9 - 8) = b2 at *
      clear hlt h0 hg hzz hm hbb hyy
      go_step3
      go_wp2_with fail
      go_step3
      exact ⟨rfl, 8, by omega, HP2.out, HW2.out, .inr (by rw [HG.out]; exact HX.out), _, _, _, _, _, _, _, _, _, _, _, _, _, _, _, _, _, _, _, _, _, by rw [HG.out]; rfl⟩
  · rintro a' w' ⟨j, hj, hh, hb, hp, u1, u5, u6, u7, u8, u9, u10, u11, u12, u13, u14, u15, u16, u17, u18, u19, u20, u21, u22, u23, u24, rfl⟩
    have HH := Lib.hid hh
    have HW := Lib.hid hb
    have HP := Lib.hid hp
    have hy : ((v / 128 ^ (9 - j) : Nat) : Int) / 128 = ((v / 128 ^ (9 - j + 1) : Nat) : Int) := by rw [← div_back]; omega
    have hlt : v / 128 ^ (9 - j + 1) < 18446744073709551616 := Nat.lt_of_le_of_lt (Nat.div_le_self _ _) HV.out
    clear hh hb hp H0 HB ha
    by_cases h0 : v / 128 ^ (9 - j + 1) = 0
    · have HE : Hid (numS v = rs (9 - j + 1) (fun c => dg v (9 - j - c))) := Lib.hid (numS_of h0 (HP.out.imp (fun h => by omega) id))
      have ht := fun c W (h : Has W w.heap.size 107 10 (cN v j)) => cN_text h hj c
      have hs := fun W => arr_cut w.heap.size j hj W
      have ht2 := ht (10 - j) w' HH.out
      rw [h0] at hy
      generalize v / 128 ^ (9 - j) = x at *
      clear h0 hlt ht
      go_wp2_with fail
      simp only [Exit.jump]
      go_ret
      exact ⟨by rw [HE.out, show 9 - j + 1 = 10 - j by omega]; rfl, HW.out⟩
    · obtain ⟨k, rfl⟩ : ∃ k, j = k + 1 := ⟨j - 1, by
        have : j ≠ 0 := by
          intro e
          subst e
          apply h0
          exact Nat.div_eq_of_lt (Nat.lt_of_lt_of_le HV.out (by decide))
        omega⟩
      have e9 : 9 - (k + 1) + 1 = 9 - k := by omega
      rw [e9] at hy hlt h0
      have hk : k < 10 := by omega
      have hg := V_dgk v (show 9 - k ≠ 0 by omega)
      have hc := HH.out.cell hk
      have hf := HH.out.frozen hk
      have HP2 := Lib.hid (cN_put HH.out hk)
      have HW2 := Lib.hid (HW.out.setCell (p := ⟨w.heap.size, k, none⟩) (Nat.le_refl _) (.int .u8 (V (dg v (9 - k)))))
      have ha := and64 _ hlt
      have hkt : (((k + 1 : Nat) : Int)) - 1 = (k : Int) := by omega
      have hkz : (k : Int) < 10 := by omega
      have hwr : IntKind.i64.wrap (((k + 1 : Nat) : Int) - 1) = (k : Int) := by rw [hkt, IntWalk.i64_in _ (by omega)]
      have HX : Hid (k = 9 ∨ 0 < v / 128 ^ (9 - k)) := Lib.hid (.inr (Nat.pos_of_ne_zero h0))
      have HY := Lib.hid hy
      generalize hyy : v / 128 ^ (9 - k) = y at *
      have hm : y % 128 < 128 := by omega
      generalize hzz : y % 128 = z at *
      have e1 : (z : Int) % 256 = z := by omega
      have e2 : bits .or .u8 (z : Int) 128 = V (dg v (9 - k)) := by rw [u8_or128_right _ (by omega) (by omega), hg]; omega
      have hy0 : 0 < (y : Int) := by omega
      have HG := Lib.hid hyy
      generalize hbb : dg v (9 - k) = b at *
      generalize v / 128 ^ (9 - (k + 1)) = x at *
      clear hlt h0 hg hzz hm hbb hj hyy e9
      go_wp2_with fail
      go_step3
      exact ⟨rfl, ⟨k, by omega, HP2.out, HW2.out, (by rw [HG.out]; exact HX.out), _, _, _, _, _, _, _, _, _, _, _, _, _, _, _, _, _, _, _, _, _, by rw [HG.out]⟩, by simp [intOf]⟩

/-! ### the document's -/
theorem conv1 (x : Int) (h0 : 0 ≤ x) (h1 : x < 256) (t : TypeId) (w : World) :
    (convert 109 9 (.slice (some ⟨w.heap.size, 0, none⟩) 1 1)).run Try.prog (w.alloc (.cells #[.int .u8 x] t)) = .ok (.string (rs 1 (fun _ => B x))) (w.alloc (.cells #[.int .u8 x] t)) := by
  refine row_convert (B := w.heap.size + 1) (fun _ => ⟨_, rfl, Nat.lt_succ_self _, fun c hc => ?_⟩)
  rw [add_lit, (has_box w _ t).cell hc, V_B x h0 h1]
theorem num_step (v k : Nat) : rs 1 (fun _ => dg v (k + 1)) ++ rs (k + 1) (fun c => dg v (k - c)) = rs (k + 1 + 1) (fun c => dg v (k + 1 - c)) := by
  refine bt_eq.2 ⟨by rw [size_app, rs_size, rs_size, rs_size]; omega, fun c hc => ?_⟩
  rw [size_app, rs_size, rs_size] at hc
  rw [bt_app, rs_size, bt_rs (show c < k + 1 + 1 by omega)]
  by_cases h : c < 1
  · rw [if_pos h, bt_rs h, show c = 0 by omega]
    rfl
  · rw [if_neg h, bt_rs (by omega), show k - (c - 1) = k + 1 - c by omega]
theorem B_dg0 (v : Nat) : B ((v % 128 : Nat) : Int) = dg v 0 := by rw [← V_dg0, B_V]
theorem B_dgk (v : Nat) {k : Nat} (h : k ≠ 0) : B ((v / 128 ^ k % 128 + 128 : Nat) : Int) = dg v k := by rw [← V_dgk v h, B_V]
set_option maxRecDepth 100000 in
set_option maxHeartbeats 1600000 in
theorem refNum_any (v : Nat) (hv : v < 18446744073709551616) (w : World) :
    Calls Try.prog 40 #[.int .u64 (v : Int)] w (TextRet w (numS v)) := by
  have HV := Lib.hid hv
  have hr : (v : Int) % 128 = ((v % 128 : Nat) : Int) := by omega
  have hz : v % 128 < 128 := by omega
  have hdg := B_dg0 v
  have hc := conv1 ((v % 128 : Nat) : Int) (by omega) (by omega) 5 w
  have HS : Hid (rs 1 (fun _ => B ((v % 128 : Nat) : Int)) = rs (0 + 1) (fun c => dg v (0 - c))) := Lib.hid (rs_congr rfl (fun c _ => by rw [hdg, Nat.zero_sub]))
  have hq : (v : Int) / 128 = ((v / 128 : Nat) : Int) := by omega
  generalize v % 128 = z at *
  have hyl : v / 128 < 18446744073709551616 := by omega
  generalize hyy : v / 128 = y at *
  have HQ : Hid (y = v / 128 ^ (0 + 1)) := Lib.hid (by rw [Nat.zero_add, Nat.pow_one]; exact hyy.symm)
  clear hv hdg hyy
  go_enter Try.func40, Try.ntmps40
  go_wp2_with fail
  have hb := (Below.refl w.heap.size w).alloc (Nat.le_refl _) (.cells #[.int .u8 (z : Int)] 5)
  go_loopg [0, 3] 10 (fun gh u s wr => ∃ k x : Nat, k < 10 ∧ gh = 10 - k ∧ u = .int .u64 (x : Int) ∧ s = .string (rs (k + 1) (fun c => dg v (k - c))) ∧ Hid (x = v / 128 ^ (k + 1) ∧ (k = 0 ∨ 0 < v / 128 ^ k)) ∧ Below w.heap.size w wr)
  case atStart => exact ⟨0, y, by omega, rfl, rfl, by rw [HS.out], Lib.hid ⟨HQ.out, .inl rfl⟩, hb⟩
  case round =>
    obtain ⟨k, x, hk, hgh, rfl, rfl, HX, hbr⟩ := hrel
    have HB := Lib.hid hbr
    clear hbr hc hr hq hz hyl HS HQ hb
    have hlt : x < 18446744073709551616 := by have := HX.out.1; have := HV.out; have := Nat.div_le_self v (128 ^ (k + 1)); omega
    by_cases h0 : x = 0
    · subst h0
      go_wp2
      go_ret
      exact ⟨by rw [numS_of HX.out.1.symm HX.out.2]; rfl, HB.out⟩
    · have hk9 : k + 1 < 10 := by
        rcases Nat.lt_or_ge (k + 1) 10 with h | h
        · exact h
        · exfalso
          apply h0
          rw [HX.out.1]
          exact Nat.div_eq_of_lt (Nat.lt_of_lt_of_le HV.out (Nat.le_trans (by decide) (Nat.pow_le_pow_right (by omega) h)))
      have hx0 : 0 < (x : Int) := by omega
      have hr : (x : Int) % 128 = ((x % 128 : Nat) : Int) := by omega
      have hq : (x : Int) / 128 = ((x / 128 : Nat) : Int) := by omega
      have HN : Hid (x / 128 = v / 128 ^ (k + 1 + 1) ∧ (k + 1 = 0 ∨ 0 < v / 128 ^ (k + 1))) := Lib.hid ⟨by rw [← div_back, HX.out.1], .inr (by have := HX.out.1; omega)⟩
      have hd := B_dgk v (show k + 1 ≠ 0 by omega)
      rw [← HX.out.1] at hd
      have hz : x % 128 < 128 := by omega
      have hy2 : x / 128 < 18446744073709551616 := by omega
      have hp : (((x % 128 + 128 : Nat) : Int)) = ((x % 128 : Nat) : Int) + 128 := by omega
      rw [hp] at hd
      have hc := fun W => conv1 (((x % 128 : Nat) : Int) + 128) (by omega) (by omega) 5 W
      rw [hd] at hc
      have hz1 := rs_size 1 (fun _ => dg v (k + 1))
      have hz2 := rs_size (k + 1) (fun c => dg v (k - c))
      have hadd := fun W => run_string_add_sum (P := Try.prog) (w := W) (rs 1 (fun _ => dg v (k + 1))) (rs (k + 1) (fun c => dg v (k - c))) (by omega)
      rw [num_step] at hadd
      generalize rs 1 (fun _ => dg v (k + 1)) = s1 at *
      generalize rs (k + 1) (fun c => dg v (k - c)) = s2 at *
      generalize x % 128 = z at *
      generalize x / 128 = y2 at *
      have hw8 : (z : Int) % 256 = z := by omega
      clear hd hp hz1 hz2 h0
      go_wp2
      go_roundg (10 - (k + 1))
      case measure => go_light; omega
      case rel => go_light; exact ⟨k + 1, y2, hk9, rfl, rfl, rfl, HN, HB.out.alloc HB.out.size _⟩

/-! ### texts -/
theorem len64 (s : ByteArray) (h : s.size ≤ 140737488351232) : IntKind.u64.wrap (s.size : Int) = ((s.size : Nat) : Int) := by
  rw [IntKind.wrap_u64]; omega
set_option maxRecDepth 100000 in
set_option maxHeartbeats 800000 in
theorem text_any (s : ByteArray) (hs : s.size ≤ 140737488351232) (w : World) :
    Calls Try.prog 38 #[.string s] w (TextRet w (textS s)) := by
  have hw := len64 s hs
  have hn : nl s.size ≤ 10 := nl_ten (by omega)
  have hz := numS_size s.size
  have hadd := fun W => run_string_add_sum (P := Try.prog) (w := W) (numS s.size) s (by omega)
  clear hn hz
  go_enter Try.func38, Try.ntmps38
  go_wp2_with fail
  refine (num_any s.size (by omega) _).mono ?_; rintro e w1 ⟨rfl, hb1⟩
  go_wp2
  go_ret
  exact ⟨rfl, hb1⟩
set_option maxRecDepth 100000 in
set_option maxHeartbeats 800000 in
theorem refText_any (s : ByteArray) (hs : s.size ≤ 140737488351232) (w : World) :
    Calls Try.prog 41 #[.string s] w (TextRet w (textS s)) := by
  have hw := len64 s hs
  have hn : nl s.size ≤ 10 := nl_ten (by omega)
  have hz := numS_size s.size
  have hadd := fun W => run_string_add_sum (P := Try.prog) (w := W) (numS s.size) s (by omega)
  clear hn hz
  go_enter Try.func41, Try.ntmps41
  go_wp2_with fail
  refine (refNum_any s.size (by omega) _).mono ?_; rintro e w1 ⟨rfl, hb1⟩
  go_wp2
  go_ret
  exact ⟨rfl, hb1⟩
end Go.Proofs.Ytofafmjkjgiccaa.Mat

