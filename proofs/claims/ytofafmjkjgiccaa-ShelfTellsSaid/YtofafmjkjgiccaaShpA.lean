/- The program's May, Record, Take of shards; a disk with rows of its own: walked. -/
import Derived.Test.YtofafmjkjgiccaaShpL
namespace Go.Proofs.Ytofafmjkjgiccaa.Mat
open Go.RowKit Fld

/-! ### May -/
set_option maxRecDepth 100000 in
set_option maxHeartbeats 800000 in
theorem may_any (v i : Int) (x : ByteArray) (hx : x.size ≤ 140737488351232) (w : World) :
    Calls Try.prog 16 #[.agg #[.int .i64 v, .int .i64 i, .string x]] w (BoolRet w (mayB v i x)) := by
  by_cases h1 : 1 ≤ v
  rotate_left
  · rw [show mayB v i x = false from may_niff.2 (fun q => h1 (by omega))]
    go_enter Try.func16, Try.ntmps16
    go_wp2
    go_ret
    exact ⟨rfl, (Below.refl _ _).alloc (Nat.le_refl _) _⟩
  by_cases h2 : v ≤ 1048576
  rotate_left
  · rw [show mayB v i x = false from may_niff.2 (fun q => h2 (by omega))]
    go_enter Try.func16, Try.ntmps16
    go_wp2
    go_ret
    exact ⟨rfl, (Below.refl _ _).alloc (Nat.le_refl _) _⟩
  by_cases h3 : 0 ≤ i
  rotate_left
  · rw [show mayB v i x = false from may_niff.2 (fun q => h3 (by omega))]
    go_enter Try.func16, Try.ntmps16
    go_wp2
    go_ret
    exact ⟨rfl, (Below.refl _ _).alloc (Nat.le_refl _) _⟩
  by_cases h4 : i ≤ 1024
  rotate_left
  · rw [show mayB v i x = false from may_niff.2 (fun q => h4 (by omega))]
    go_enter Try.func16, Try.ntmps16
    go_wp2
    go_ret
    exact ⟨rfl, (Below.refl _ _).alloc (Nat.le_refl _) _⟩
  by_cases h5 : (x.size : Int) ≤ 512
  rotate_left
  · rw [show mayB v i x = false from may_niff.2 (fun q => h5 (by omega))]
    go_enter Try.func16, Try.ntmps16
    go_wp2
    go_ret
    exact ⟨rfl, (Below.refl _ _).alloc (Nat.le_refl _) _⟩
  rw [show mayB v i x = true from may_iff.2 ⟨h1, h2, h3, h4, by omega⟩]
  go_enter Try.func16, Try.ntmps16
  go_wp2
  go_ret
  exact ⟨rfl, (Below.refl _ _).alloc (Nat.le_refl _) _⟩

/-! ### Record -/
set_option maxRecDepth 100000 in
set_option maxHeartbeats 1600000 in
theorem shRec_any (v i : Int) (x : ByteArray) (hx : x.size ≤ 140737488351232) (w : World) :
    Calls Try.prog 12 #[.agg #[.int .i64 v, .int .i64 i, .string x]] w (TxtRet w (srE v i x) (srT v i x)) := by
  have c1 := fun W => may_any v i x hx W
  obtain ⟨x0, x1, x2⟩ := (sx_new w v i x).cells
  have HX := Lib.hid (sx_new w v i x)
  have HB := Lib.hid ((Below.refl w.heap.size w).alloc (Nat.le_refl _) (.cells #[.int .i64 v, .int .i64 i, .string x] 23))
  by_cases hm : mayB v i x = true
  rotate_left
  · have hm' : mayB v i x = false := by simpa using hm
    obtain ⟨e1, e2⟩ := srT_no hm'
    rw [e1, e2]
    rw [hm'] at c1
    clear hm hm' e1 e2
    go_enter Try.func12, Try.ntmps12
    go_wp2_with fail
    refine (c1 _).mono ?_; rintro e w1 ⟨rfl, hb1⟩
    go_wp2
    go_ret2
    exact ⟨rfl, up_trans HB.out hb1⟩
  obtain ⟨e1, e2⟩ := srT_yes hm
  obtain ⟨a0, a1, a2, a3, a4⟩ := may_iff.1 hm
  rw [e1, e2]
  rw [hm] at c1
  obtain ⟨v, rfl⟩ := Int.eq_ofNat_of_zero_le (show 0 ≤ v by omega)
  obtain ⟨i, rfl⟩ := Int.eq_ofNat_of_zero_le a2
  rw [Int.toNat_natCast, Int.toNat_natCast]
  have W1 := Lib.hid (wrapN v (by omega))
  have W2 := Lib.hid (wrapN i (by omega))
  have hn : nl v ≤ 10 := nl_ten (by omega)
  have hn2 : nl i ≤ 10 := nl_ten (by omega)
  have hn3 : nl x.size ≤ 10 := nl_ten (by omega)
  have z1 := numS_size v
  have z2 := numS_size i
  have z3 : (textS x).size = nl x.size + x.size := by unfold textS; rw [size_app, numS_size]
  have z4 : (numS v ++ numS i).size = nl v + nl i := by rw [size_app, z1, z2]
  have z5 := shBody_size v i x
  have hadd1 := fun W => run_string_add_sum (P := Try.prog) (w := W) (numS v) (numS i) (by omega)
  have hadd2 := fun W => run_string_add_sum (P := Try.prog) (w := W) (numS v ++ numS i) (textS x) (by omega)
  have hb : shBody v i x = numS v ++ numS i ++ textS x := rfl
  rw [← hb] at hadd2
  have c2 := fun W => num_any v (by omega) W
  have c3 := fun W => num_any i (by omega) W
  have c4 := fun W => text_any x hx W
  have c5 := fun W => Crc.seal_any (shBody v i x) W (by omega)
  have e3 : Crc.sealS (shBody v i x) = shR v i x := rfl
  rw [e3] at c5
  generalize shR v i x = r at *
  generalize shBody v i x = b at *
  generalize numS v ++ numS i = ni at *
  generalize numS v = n at *
  generalize numS i = m at *
  generalize textS x = y at *
  have C2 := Lib.hid c2
  have C3 := Lib.hid c3
  have C4 := Lib.hid c4
  have C5 := Lib.hid c5
  clear hn hn2 hn3 z1 z2 z3 z4 z5 hb e1 e2 e3 hm a0 a1 a2 a3 a4 hx c2 c3 c4 c5
  go_enter Try.func12, Try.ntmps12
  go_wp2_with fail
  refine (c1 _).mono ?_; rintro e w1 ⟨rfl, hb1⟩
  clear c1 x0 x1 x2
  have HB1 := Lib.hid (up_trans HB.out hb1)
  have HX1 := Lib.hid (HX.out.up hb1)
  obtain ⟨x0, x1, x2⟩ := HX1.out.cells
  have K : Hid (∀ W, Below w1.heap.size w1 W → W.cell? ⟨w.heap.size, 0, none⟩ = some (.int .i64 v) ∧ W.cell? ⟨w.heap.size, 1, none⟩ = some (.int .i64 i) ∧ W.cell? ⟨w.heap.size, 2, none⟩ = some (.string x)) := Lib.hid (fun W hb => (HX1.out.up hb).cells)
  clear hb1
  go_upto_region 3 with fail
  go_region_held3 (fun W => W.cell? ⟨w.heap.size, 0, none⟩ = some (.int .i64 v) ∧ W.cell? ⟨w.heap.size, 1, none⟩ = some (.int .i64 i) ∧ W.cell? ⟨w.heap.size, 2, none⟩ = some (.string x))
    (first | exact ⟨x0, x1, x2⟩ | exact K.out _ b2.out | exact K.out _ b3.out | exact K.out _ b4.out | exact K.out _ b5.out | go_keep)
    (first
      | (go_at_call 37; (try rw [W1.out]); (with_reducible refine Calls.mono (C2.out _) ?_); rintro e w2 ⟨rfl, hb2⟩; have b2 : Hid (Below w1.heap.size w1 w2) := Lib.hid (below_of_drew hb2))
      | (go_at_call 37; (try rw [W2.out]); (with_reducible refine Calls.mono (C3.out _) ?_); rintro e w3 ⟨rfl, hb3⟩; have b3 : Hid (Below w1.heap.size w1 w3) := Lib.hid (up_trans b2.out hb3))
      | (go_at_call 38; (with_reducible refine Calls.mono (C4.out _) ?_); rintro e w4 ⟨rfl, hb4⟩; have b4 : Hid (Below w1.heap.size w1 w4) := Lib.hid (up_trans b3.out hb4))
      | (go_at_call 36; (with_reducible refine Calls.mono (C5.out _) ?_); rintro e w5 ⟨rfl, hb5⟩; have b5 : Hid (Below w1.heap.size w1 w5) := Lib.hid (up_trans b4.out hb5)))
  go_wp2
  go_ret2
  exact ⟨rfl, up_trans HB1.out b5.out⟩

/-! ### Take -/
theorem list_none {s : ByteArray} (h : s.size = 0) : (s.toList == ([] : List UInt8)) = true := by
  rw [ByteArray.toList_eq]
  have : s.data.toList.length = 0 := by simpa using h
  rw [List.length_eq_zero_iff.1 this]
  rfl
theorem list_some {s : ByteArray} (h : s.size ≠ 0) : (s.toList == ([] : List UInt8)) = false := by
  rw [ByteArray.toList_eq, beq_eq_false_iff_ne]
  intro e
  apply h
  have := congrArg List.length e
  simpa using this
theorem openS_bad {s : ByteArray} (h : Crc.openE s ≠ 0) : Crc.openS s = ⟨#[]⟩ := by
  by_cases h4 : s.size < 4
  · exact Crc.openS_short s h4
  · by_cases h2 : s.data.toList.drop (s.data.toList.length - 4) = Crc.laidL (Crc.sumL (s.data.toList.take (s.data.toList.length - 4)))
    · exfalso
      apply h
      unfold Crc.openE
      rw [Crc.openL_ok _ (by simpa using h4) h2]
    · unfold Crc.openS
      rw [Crc.openL_sum _ (by simpa using h4) h2]
theorem tn_void {s : ByteArray} (h : s.size = 0) : tnE s ≠ 0 := by
  unfold tnE; rw [take_none h]; decide
theorem tnR_bad {s : ByteArray} (h : tnE s ≠ 0) : tnR s = ByteArray.empty := if_neg h
theorem tt_good {s : ByteArray} {m : Nat} (h : ttE s m = 0) : tnE s = 0 ∧ tnV s ≤ m := by
  by_cases h1 : tnE s = 0
  · refine ⟨h1, ?_⟩
    rcases Nat.lt_or_ge m (tnV s) with q | q
    · rw [(tt_big h1 q).1] at h; cases h
    · exact q
  · rw [(tt_bad h1).1] at h; exact absurd h h1
theorem ttT_le (s : ByteArray) (m : Nat) : (ttT s m).size ≤ m ∧ (ttT s m).size ≤ (tnR s).size := by
  by_cases h : ttE s m = 0
  · have e : ttT s m = (tnR s).extract 0 (tnV s) := if_pos h
    have := (tt_good h).2
    rw [e, ByteArray.size_extract]; omega
  · have e : ttT s m = ByteArray.empty := if_neg h
    rw [e]; exact ⟨Nat.zero_le _, Nat.zero_le _⟩
/-- what is told as an int -/
theorem as_int {v : Nat} (hv : v < 18446744073709551616) : ∃ z : Int, IntKind.i64.wrap (v : Int) = z ∧ (1 ≤ z → z = (v : Int)) ∧ (0 ≤ z → z = (v : Int)) ∧ (v ≤ 9223372036854775807 → z = (v : Int)) := by
  refine ⟨_, rfl, ?_⟩
  rcases Nat.lt_or_ge v 9223372036854775808 with q | q
  · rw [IntWalk.i64_in _ (by omega)]
    exact ⟨fun _ => rfl, fun _ => rfl, fun _ => rfl⟩
  · have e : IntKind.i64.wrap (v : Int) = (v : Int) - 18446744073709551616 := by
      rw [IntKind.wrap_i64]; omega
    rw [e]
    exact ⟨fun h => by omega, fun h => by omega, fun h => by omega⟩
/-- the last error, and whether the shard may be, tell of all -/
theorem sh_told {s : ByteArray} {v i : Int} (h0 : 1 ≤ v → v = (tnV (Crc.openS s) : Int)) (h1 : 0 ≤ i → i = (tnV (tnR (Crc.openS s)) : Int)) (he : ttE (tnR (tnR (Crc.openS s))) 512 = 0) (hr : (ttR (tnR (tnR (Crc.openS s))) 512).size = 0)
    (hm : mayB v i (ttT (tnR (tnR (Crc.openS s))) 512) = true) : shB s = true := by
  obtain ⟨m1, m2, m3, m4, m5⟩ := may_iff.1 hm
  have e3 := (tt_good he).1
  have e2 : tnE (tnR (Crc.openS s)) = 0 := by
    by_cases q : tnE (tnR (Crc.openS s)) = 0
    · exact q
    · rw [tnR_bad q] at e3; exact absurd e3 (tn_void rfl)
  have e1 : tnE (Crc.openS s) = 0 := by
    by_cases q : tnE (Crc.openS s) = 0
    · exact q
    · rw [tnR_bad q] at e2; exact absurd e2 (tn_void rfl)
  have e0 : Crc.openE s = 0 := by
    by_cases q : Crc.openE s = 0
    · exact q
    · rw [openS_bad q] at e1; exact absurd e1 (tn_void rfl)
  have := h0 m1
  have := h1 m3
  exact decide_eq_true ⟨e0, e1, ⟨by omega, by omega⟩, e2, by omega, he, hr⟩

set_option maxRecDepth 100000 in
set_option maxHeartbeats 3200000 in
theorem shTake_any (s : ByteArray) (hs : s.size ≤ 140737488351232) (w : World) :
    Calls Try.prog 14 #[.string s] w (ShRet w (shE s) (shV s : Int) (shI s : Int) (shX s)) := by
  have z1 := openS_size s
  have z2 := tnR_size (Crc.openS s)
  have z3 := tnR_size (tnR (Crc.openS s))
  have z4 := tnR_size (tnR (tnR (Crc.openS s)))
  have z5 := (ttT_le (tnR (tnR (Crc.openS s))) 512).2
  have c1 := fun W => Crc.open_any s W (by omega)
  have c2 := fun W => takeNum_any (Crc.openS s) (by omega) W
  have c3 := fun W => takeNum_any (tnR (Crc.openS s)) (by omega) W
  have c4 := fun W => takeText_any (tnR (tnR (Crc.openS s))) (by omega) 512 (by omega) W
  obtain ⟨v, wv, v1, v2, v3⟩ := as_int (takeN_lt (Crc.openS s))
  obtain ⟨i, wi, i1, i2, i3⟩ := as_int (takeN_lt (tnR (Crc.openS s)))
  have c5 := fun W => may_any v i (ttT (tnR (tnR (Crc.openS s))) 512) (by omega) W
  have told := sh_told (s := s) (v := v) (i := i) v1 i2
  obtain ⟨hX, hB⟩ := zero_sx w
  have yes : shB s = true → ttE (tnR (tnR (Crc.openS s))) 512 = 0 ∧ (ttR (tnR (tnR (Crc.openS s))) 512).size = 0 ∧ mayB v i (ttT (tnR (tnR (Crc.openS s))) 512) = true ∧ 0 = shE s ∧ v = (shV s : Int) ∧ i = (shI s : Int) ∧ ttT (tnR (tnR (Crc.openS s))) 512 = shX s := fun h => by
    obtain ⟨a1, a2, a3, a4, a5, a6, a7⟩ := shB_yes h
    obtain ⟨e1, e2, e3, e4⟩ := sh_yes h
    have := v3 (by omega)
    have := i3 (by omega)
    have := (ttT_le (tnR (tnR (Crc.openS s))) 512).1
    exact ⟨a6, a7, may_iff.2 ⟨by omega, by omega, by omega, by omega, by omega⟩, e1.symm, by omega, by omega, e4.symm⟩
  have no : shB s = false → 3 = shE s ∧ 0 = (shV s : Int) ∧ 0 = (shI s : Int) ∧ ByteArray.empty = shX s := fun h => by
    obtain ⟨e1, e2, e3, e4⟩ := sh_no h
    exact ⟨e1.symm, by rw [e2]; rfl, by rw [e3]; rfl, e4.symm⟩
  clear v1 v2 v3 i1 i2 i3 z1 z2 z3 z4 z5 hs
  generalize shB s = b at *
  generalize shE s = E at *
  generalize (shV s : Int) = V at *
  generalize (shI s : Int) = I at *
  generalize shX s = X at *
  generalize mayB v i (ttT (tnR (tnR (Crc.openS s))) 512) = M at *
  generalize ttE (tnR (tnR (Crc.openS s))) 512 = E4 at *
  generalize ttT (tnR (tnR (Crc.openS s))) 512 = x at *
  generalize ttR (tnR (tnR (Crc.openS s))) 512 = r4 at *
  generalize tnE (tnR (Crc.openS s)) = E3 at *
  generalize tnV (tnR (Crc.openS s)) = ni at *
  generalize tnR (tnR (Crc.openS s)) = r3 at *
  generalize tnE (Crc.openS s) = E2 at *
  generalize tnV (Crc.openS s) = nv at *
  generalize tnR (Crc.openS s) = r2 at *
  generalize Crc.openE s = E1 at *
  generalize Crc.openS s = r1 at *
  have C1 := Lib.hid c1
  have C2 := Lib.hid c2
  have C3 := Lib.hid c3
  have C4 := Lib.hid c4
  have C5 := Lib.hid c5
  have HX := Lib.hid hX
  have HB := Lib.hid hB
  have TOLD := Lib.hid told
  have YES := Lib.hid yes
  have NO := Lib.hid no
  clear c1 c2 c3 c4 c5 hX hB told yes no
  go_enter Try.func14, Try.ntmps14
  go_wp2_with fail
  refine (C1.out _).mono ?_; rintro e w1 ⟨rfl, hb1⟩
  have H1 := Lib.hid hb1
  clear hb1
  go_wp2_with fail
  refine (C2.out _).mono ?_; rintro e w2 ⟨rfl, hb2⟩
  have H2 := Lib.hid (up_trans H1.out hb2)
  clear hb2
  go_wp2_with fail
  refine (C3.out _).mono ?_; rintro e w3 ⟨rfl, hb3⟩
  have H3 := Lib.hid (up_trans H2.out hb3)
  clear hb3
  go_wp2_with fail
  refine (C4.out _).mono ?_; rintro e w4 ⟨rfl, hb4⟩
  have H4 := Lib.hid (up_trans H3.out hb4)
  clear hb4
  have hbb := up_trans HB.out H4.out
  have H5 := Lib.hid (H4.out.alloc H4.out.size (.cells #[.int .i64 v, .int .i64 i, .string x] 23))
  have hr := (HX.out.up H4.out).alloc (.cells #[.int .i64 v, .int .i64 i, .string x] 23)
  have HR := Lib.hid hr
  have HBB := Lib.hid (hbb.alloc hbb.size (.cells #[.int .i64 v, .int .i64 i, .string x] 23))
  have HN := Lib.hid (sx_new w4 v i x)
  have hno : ∀ W, Below (w4.alloc (.cells #[.int .i64 v, .int .i64 i, .string x] 23)).heap.size (w4.alloc (.cells #[.int .i64 v, .int .i64 i, .string x] 23)) W → Sx W w.heap.size 0 0 ByteArray.empty ∧ Below w.heap.size w W := fun W hb => ⟨HR.out.up hb, up_trans HBB.out hb⟩
  have HNO := Lib.hid hno
  clear hbb hr hno
  by_cases g4 : E4 = 0
  rotate_left
  · have g : (E4 != 0) = true := bne_iff_ne.2 g4
    have hb : b = false := by cases b; rfl; exact absurd (YES.out rfl).1 g4
    obtain ⟨rfl, rfl, rfl, rfl⟩ := NO.out hb
    obtain ⟨hr, hB⟩ := HNO.out _ (Below.refl _ _)
    obtain ⟨f0, f1, f2⟩ := hr.free
    obtain ⟨x0, x1, x2⟩ := hr.cells
    have HP := Lib.hid (hr.put 0 0 ByteArray.empty)
    have HQ := Lib.hid (put3_below hB (Nat.le_refl _) 0 0 ByteArray.empty)
    clear hr hB g4 hb
    go_wp2
    exact bodyPost_ret (results_shard_err rfl _ _ w.heap.size rfl HP.out) rfl ⟨rfl, HQ.out⟩
  have g : (E4 != 0) = false := by rw [g4]; rfl
  by_cases g5 : r4.size = 0
  rotate_left
  · have hb : b = false := by cases b; rfl; exact absurd (YES.out rfl).2.1 g5
    obtain ⟨rfl, rfl, rfl, rfl⟩ := NO.out hb
    obtain ⟨hr, hB⟩ := HNO.out _ (Below.refl _ _)
    obtain ⟨f0, f1, f2⟩ := hr.free
    obtain ⟨x0, x1, x2⟩ := hr.cells
    have HP := Lib.hid (hr.put 0 0 ByteArray.empty)
    have HQ := Lib.hid (put3_below hB (Nat.le_refl _) 0 0 ByteArray.empty)
    clear hr hB g4 hb
    have g7 := list_some g5
    clear g5
    go_wp2
    exact bodyPost_ret (results_shard_err rfl _ _ w.heap.size rfl HP.out) rfl ⟨rfl, HQ.out⟩
  have g7 := list_none g5
  obtain ⟨y0, y1, y2⟩ := HN.out.cells
  go_wp2_with fail
  refine (C5.out _).mono ?_; rintro e w5 ⟨rfl, hb5⟩
  obtain ⟨hr, hB⟩ := HNO.out _ hb5
  obtain ⟨f0, f1, f2⟩ := hr.free
  obtain ⟨x0, x1, x2⟩ := hr.cells
  clear y0 y1 y2
  obtain ⟨y0, y1, y2⟩ := (HN.out.up hb5).cells
  cases M
  · have hb : b = false := by cases b; rfl; exact absurd (YES.out rfl).2.2.1 Bool.false_ne_true
    obtain ⟨rfl, rfl, rfl, rfl⟩ := NO.out hb
    have HP := Lib.hid (hr.put 0 0 ByteArray.empty)
    have HQ := Lib.hid (put3_below hB (Nat.le_refl _) 0 0 ByteArray.empty)
    clear hr hB g4 g5 hb hb5
    go_wp2
    exact bodyPost_ret (results_shard_err rfl _ _ w.heap.size rfl HP.out) rfl ⟨rfl, HQ.out⟩
  · have hb := TOLD.out g4 g5 rfl
    obtain ⟨_, _, _, rfl, rfl, rfl, rfl⟩ := YES.out hb
    have HP := Lib.hid (hr.put v i x)
    have HQ := Lib.hid (put3_below hB (Nat.le_refl _) v i x)
    clear hr hB g4 g5 hb hb5
    go_wp2
    exact bodyPost_ret (results_shard_err rfl _ _ w.heap.size rfl HP.out) rfl ⟨rfl, HQ.out⟩

/-! ### has, key -/
set_option maxRecDepth 100000 in
set_option maxHeartbeats 800000 in
theorem shHas_any (s : ByteArray) (hs : s.size ≤ 140737488351232) (w : World) :
    Calls Try.prog 52 #[.string s] w (BoolRet w (shB s)) := by
  have c1 := fun W => shTake_any s hs W
  have he : (shE s == 0) = shB s := by
    cases hb : shB s
    · rw [(sh_no hb).1]; rfl
    · rw [(sh_yes hb).1]; rfl
  generalize shB s = b at *
  generalize shE s = E at *
  generalize (shV s : Int) = V at *
  generalize (shI s : Int) = I at *
  generalize shX s = X at *
  have C1 := Lib.hid c1
  clear c1 hs
  go_enter Try.func52, Try.ntmps52
  go_wp2_with fail
  refine (C1.out _).mono ?_; rintro e w1 ⟨rfl, hb1⟩
  have H1 := Lib.hid (hb1.alloc hb1.size (.cells #[.int .i64 V, .int .i64 I, .string X] 23))
  clear hb1
  go_wp2
  go_ret
  exact ⟨rfl, H1.out⟩
/-- a call answers a key -/
def KeyRet (w : World) (v i : Int) (e : Ending) (w' : World) : Prop := e = .returned (.agg #[.int .i64 v, .int .i64 i]) ∧ Below w.heap.size w w'
theorem results_key {fn : Func} {t : Tmp} (h : fn.results = #[.cell t 41]) (tmps : Array Value) (w : World) (g : Nat) {v i : Int} (hp : tmps.getD t undef = .pointer (some ⟨g, 0, none⟩)) (hc : Kx w g v i) :
    (results fn tmps).run Try.prog w = .ok (.agg #[.int .i64 v, .int .i64 i]) w := by
  have hp' : tmps[t]?.getD undef = .pointer (some ⟨g, 0, none⟩) := by simpa using hp
  obtain ⟨c0, c1⟩ := hc.cells
  simp [results, h, hp', asAddr, go_sem, c0, c1]
set_option maxRecDepth 100000 in
set_option maxHeartbeats 800000 in
theorem key_any (v i : Int) (x : ByteArray) (w : World) :
    Calls Try.prog 49 #[.agg #[.int .i64 v, .int .i64 i, .string x]] w (KeyRet w v i) := by
  have h1 := (sx_new w v i x).alloc (.cells #[.int .i64 0, .int .i64 0] 41)
  have h2 := kx_new (w.alloc (.cells #[.int .i64 v, .int .i64 i, .string x] 23)) v i
  rw [size_alloc] at h2
  have hb := (Below.refl w.heap.size w).alloc (Nat.le_refl _) (.cells #[.int .i64 v, .int .i64 i, .string x] 23)
  have HQ := Lib.hid (hb.alloc hb.size (.cells #[.int .i64 v, .int .i64 i] 41))
  obtain ⟨x0, x1, x2⟩ := h1.cells
  have HP := Lib.hid h2
  clear h1 h2 hb
  go_enter Try.func49, Try.ntmps49
  go_wp2
  exact bodyPost_ret (results_key rfl _ _ (w.heap.size + 1) rfl HP.out) rfl ⟨rfl, HQ.out⟩

section
variable {A B : Option Addr} {c k : Nat} {d : Dk} {w : World}
set_option maxRecDepth 100000 in
set_option maxHeartbeats 1600000 in
theorem shApart_any (h : DOk w A c B k d) : Calls Try.prog 53 #[.agg #[.slice A d.n c, .slice B d.m k, .int .i64 d.fuse, .bool d.off]] w (OwnRet w d) := by
  have h0 := D2.start w (.slice A d.n c) (.slice B d.m k) (.int .i64 d.fuse) (.bool d.off) (.slice none 0 0) (.slice none 0 0) (.int .i64 0) (.bool false)
  have hd := h.up h0.below
  have HD := Lib.hid hd
  have H0 := Lib.hid h0
  clear h h0 hd
  go_enter Try.func53, Try.ntmps53
  go_upto_region 1 with fail
  generalize (w.alloc (.cells #[.slice A d.n c, .slice B d.m k, .int .i64 d.fuse, .bool d.off] 39)).alloc (.cells #[.slice none 0 0, .slice none 0 0, .int .i64 0, .bool false] 39) = wb at *
  obtain ⟨x0, x1, x2, x3⟩ := H0.out.x.cells
  obtain ⟨y0, y1, y2, y3⟩ := H0.out.x.free
  obtain ⟨z0, z1, z2, z3⟩ := H0.out.z.cells
  obtain ⟨u0, u1, u2, u3⟩ := H0.out.z.free
  have K : Hid (∀ W, Below wb.heap.size wb W → W.cell? ⟨w.heap.size, 0, none⟩ = some (.slice A d.n c) ∧ W.cell? ⟨w.heap.size, 1, none⟩ = some (.slice B d.m k) ∧ W.frozen? ⟨w.heap.size, 0, none⟩ = false ∧ W.frozen? ⟨w.heap.size, 1, none⟩ = false) :=
    Lib.hid (fun W hb => ⟨(H0.out.up hb).x.c0, (H0.out.up hb).x.c1, (H0.out.up hb).x.free.1, (H0.out.up hb).x.free.2.1⟩)
  go_cut [] from 3 to 10 (fun wc => Owns w d wc)
  case first =>
    go_region_with
    (first
      | (go_at_call 67; (first | (with_reducible refine Calls.mono (cloneS_any (HD.out.drew).st HD.out.fa (by have := HD.out.sz.bn; omega)) ?_) | (with_reducible refine Calls.mono (cloneS_any ((HD.out.up b4.out).st) HD.out.fa (by have := HD.out.sz.bn; omega)) ?_)); rintro e w3 ⟨A3, c3, rfl, hf3, ho3, hb3⟩; have b3 : Hid (Below wb.heap.size wb w3) := Lib.hid (by first | exact up_trans b4.out hb3 | exact ⟨hb3.os, hb3.tape, hb3.output, hb3.size, hb3.block⟩); obtain ⟨q0, q1, q2, q3⟩ := K.out _ b3.out)
      | (go_at_call 68; (first | (with_reducible refine Calls.mono (cloneW_any (HD.out.drew).pc HD.out.fb HD.out.sz.bm) ?_) | (with_reducible refine Calls.mono (cloneW_any ((HD.out.up b3.out).pc) HD.out.fb HD.out.sz.bm) ?_)); rintro e w4 ⟨B4, k4, rfl, hf4, ho4, hb4⟩; have b4 : Hid (Below wb.heap.size wb w4) := Lib.hid (by first | exact up_trans b3.out hb4 | exact ⟨hb4.os, hb4.tape, hb4.output, hb4.size, hb4.block⟩); obtain ⟨q0, q1, q2, q3⟩ := K.out _ b4.out))
    all_goals
      go_wp2_with fail
      go_meet
      case rel =>
        go_light
        first
          | exact ⟨_, _, _, _, (own_fin H0.out b4.out hf3 (own_up ho3 hb4) (own_low ho4 b3.out.size)).1⟩
          | exact ⟨_, _, _, _, (own_fin H0.out b4.out hf3 (own_up ho3 hb4) (own_low ho4 b3.out.size)).2⟩
          | exact ⟨_, _, _, _, (own_fin H0.out b3.out hf3 (own_low ho3 b4.out.size) (own_up ho4 hb3)).1⟩
          | exact ⟨_, _, _, _, (own_fin H0.out b3.out hf3 (own_low ho3 b4.out.size) (own_up ho4 hb3)).2⟩
  case rest =>
    obtain ⟨A', c', B', k', hO⟩ := hcut
    obtain ⟨x0, x1, x2, x3⟩ := hO.fr.x.cells
    obtain ⟨z0, z1, z2, z3⟩ := hO.fr.z.cells
    obtain ⟨u0, u1, u2, u3⟩ := hO.fr.z.free
    have HO := Lib.hid hO
    clear hO
    go_wp2
    have hp := HO.out.fr.putz (.slice A' d.n c') (.slice B' d.m k') (.int .i64 d.fuse) (.bool d.off)
    refine bodyPost_ret (results_disk rfl _ _ (w.heap.size + 1) rfl hp.z) rfl ⟨A', c', B', k', rfl, HO.out.fa, own_put4 HO.out.fr.z HO.out.s (by decide) _ _ _ _, own_put4 HO.out.fr.z HO.out.t (by decide) _ _ _ _, hp.below⟩
end
end Go.Proofs.Ytofafmjkjgiccaa.Mat
