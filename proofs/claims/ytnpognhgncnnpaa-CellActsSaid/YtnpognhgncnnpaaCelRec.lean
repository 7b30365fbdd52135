/- Record, Take of both sides: walked. -/
import Derived.Test.YtnpognhgncnnpaaCelTake
namespace Go.Proofs.Ytnpognhgncnnpaa.Mat
open Go.RowKit Fld

theorem openS_size (s : ByteArray) : (Crc.openS s).size ≤ s.size := by
  by_cases h : Crc.openE s = 0
  · rw [open_ok h, ByteArray.size_extract]; omega
  · by_cases h4 : s.size < 4
    · rw [Crc.openS_short s h4]; exact Nat.zero_le _
    · have e : Crc.openS s = ⟨#[]⟩ := by
        by_cases h2 : s.data.toList.drop (s.data.toList.length - 4) = Crc.laidL (Crc.sumL (s.data.toList.take (s.data.toList.length - 4)))
        · exfalso
          apply h
          unfold Crc.openE
          rw [Crc.openL_ok _ (by simpa using h4) h2]
        · unfold Crc.openS
          rw [Crc.openL_sum _ (by simpa using h4) h2]
      rw [e]; exact Nat.zero_le _
theorem ttR_size (s : ByteArray) (m : Nat) : (ttR s m).size ≤ s.size := by
  unfold ttR
  by_cases h : ttE s m = 0
  · rw [if_pos h, ByteArray.size_extract]
    have := tnR_size s
    omega
  · rw [if_neg h]; simp
theorem list_none {s : ByteArray} (h : s.size = 0) : (s.toList == ([] : List UInt8)) = true := by
  rw [ByteArray.toList_eq]
  have : s.data.toList.length = 0 := by simpa using h
  rw [List.length_eq_zero_iff.1 this]
  rfl
theorem list_some {s : ByteArray} (h : s.size ≠ 0) : (s.toList == ([] : List UInt8)) = false := by
  rw [ByteArray.toList_eq, beq_eq_false_iff_ne]
  intro e
  apply h
  have := congrArg List.length e
  simpa using this

set_option maxRecDepth 100000 in
set_option maxHeartbeats 800000 in
theorem rec_any (t : Nat) (ht : t < 18446744073709551616) (x : ByteArray) (hx : x.size ≤ 140737488351232) (w : World) :
    Calls Try.prog 11 #[.int .u64 (t : Int), .string x] w (TxtRet w (recE x) (recT t x)) := by
  by_cases h : 1000 < x.size
  · have e1 : recE x = 4 := if_pos h
    have e2 : recT t x = ByteArray.empty := if_pos h
    rw [e1, e2]
    clear e1 e2
    go_enter Try.func11, Try.ntmps11
    go_wp2
    go_ret2
    exact ⟨rfl, Below.refl _ _⟩
  · have e1 : recE x = 0 := if_neg h
    have e2 : recT t x = recS t x := if_neg h
    rw [e1, e2]
    have hn : nl t ≤ 10 := nl_ten ht
    have hn2 : nl x.size ≤ 10 := nl_ten (by omega)
    have hb : bodyS t x = numS t ++ textS x := rfl
    have hz := bodyS_size t x
    have hz1 := numS_size t
    have hz2 : (textS x).size = nl x.size + x.size := by unfold textS; rw [size_app, numS_size]
    have hadd := fun W => run_string_add_sum (P := Try.prog) (w := W) (numS t) (textS x) (by omega)
    rw [← hb] at hadd
    have c1 := fun W => num_any t ht W
    have c2 := fun W => text_any x hx W
    have c3 := fun W => Crc.seal_any (bodyS t x) W (by omega)
    have e3 : Crc.sealS (bodyS t x) = recS t x := rfl
    rw [e3] at c3
    generalize recS t x = r at *
    generalize bodyS t x = b at *
    generalize numS t = n at *
    generalize textS x = y at *
    clear hn hn2 hz hz1 hz2 e1 e2 e3 hb ht
    go_enter Try.func11, Try.ntmps11
    go_wp2_with fail
    refine (c1 _).mono ?_; rintro e w1 ⟨rfl, hb1⟩
    go_wp2_with fail
    refine (c2 _).mono ?_; rintro e w2 ⟨rfl, hb2⟩
    go_wp2_with fail
    refine (c3 _).mono ?_; rintro e w3 ⟨rfl, hb3⟩
    go_wp2
    go_ret2
    exact ⟨rfl, up_trans (up_trans hb1 hb2) hb3⟩

set_option maxRecDepth 100000 in
set_option maxHeartbeats 800000 in
theorem refRec_any (t : Nat) (ht : t < 18446744073709551616) (x : ByteArray) (hx : x.size ≤ 140737488351232) (w : World) :
    Calls Try.prog 12 #[.int .u64 (t : Int), .string x] w (TxtRet w (recE x) (recT t x)) := by
  by_cases h : 1000 < x.size
  · have e1 : recE x = 4 := if_pos h
    have e2 : recT t x = ByteArray.empty := if_pos h
    rw [e1, e2]
    clear e1 e2
    go_enter Try.func12, Try.ntmps12
    go_wp2
    go_ret2
    exact ⟨rfl, Below.refl _ _⟩
  · have e1 : recE x = 0 := if_neg h
    have e2 : recT t x = recS t x := if_neg h
    rw [e1, e2]
    have hn : nl t ≤ 10 := nl_ten ht
    have hn2 : nl x.size ≤ 10 := nl_ten (by omega)
    have hb : bodyS t x = numS t ++ textS x := rfl
    have hz := bodyS_size t x
    have hz1 := numS_size t
    have hz2 : (textS x).size = nl x.size + x.size := by unfold textS; rw [size_app, numS_size]
    have hadd := fun W => run_string_add_sum (P := Try.prog) (w := W) (numS t) (textS x) (by omega)
    rw [← hb] at hadd
    have c1 := fun W => refNum_any t ht W
    have c2 := fun W => refText_any x hx W
    have c3 := fun W => Crc.refSeal_any (bodyS t x) W (by omega)
    have e3 : Crc.sealS (bodyS t x) = recS t x := rfl
    rw [e3] at c3
    generalize recS t x = r at *
    generalize bodyS t x = b at *
    generalize numS t = n at *
    generalize textS x = y at *
    clear hn hn2 hz hz1 hz2 e1 e2 e3 hb ht
    go_enter Try.func12, Try.ntmps12
    go_wp2_with fail
    refine (c1 _).mono ?_; rintro e w1 ⟨rfl, hb1⟩
    go_wp2_with fail
    refine (c2 _).mono ?_; rintro e w2 ⟨rfl, hb2⟩
    go_wp2_with fail
    refine (c3 _).mono ?_; rintro e w3 ⟨rfl, hb3⟩
    go_wp2
    go_ret2
    exact ⟨rfl, up_trans (up_trans hb1 hb2) hb3⟩

set_option maxRecDepth 100000 in
set_option maxHeartbeats 1600000 in
theorem takeRec_any (s : ByteArray) (hs : s.size ≤ 140737488351232) (w : World) :
    Calls Try.prog 13 #[.string s] w (NumRet w (tcE s) (tcV s) (tcX s)) := by
  have z1 := openS_size s
  have z2 := tnR_size (Crc.openS s)
  have c1 := fun W => Crc.open_any s W (by omega)
  have c2 := fun W => takeNum_any (Crc.openS s) (by omega) W
  have c3 := fun W => takeText_any (tnR (Crc.openS s)) (by omega) 1000 (by omega) W
  by_cases h1 : Crc.openE s = 0
  rotate_left
  · obtain ⟨e1, e2, e3⟩ := tc_no (s := s) (decide_eq_false (fun h => h1 h.1))
    rw [e1, e2, e3]
    have g1 : (Crc.openE s != 0) = true := bne_iff_ne.2 h1
    clear e1 e2 e3 c2 c3 z1 z2 h1
    generalize Crc.openE s = E1 at *
    generalize Crc.openS s = r1 at *
    go_enter Try.func13, Try.ntmps13
    go_wp2_with fail
    refine (c1 _).mono ?_; rintro e w1 ⟨rfl, hb1⟩
    go_wp2
    go_ret3
    exact ⟨rfl, hb1⟩
  by_cases h2 : tnE (Crc.openS s) = 0
  rotate_left
  · obtain ⟨e1, e2, e3⟩ := tc_no (s := s) (decide_eq_false (fun h => h2 h.2.1))
    rw [e1, e2, e3]
    have g1 : (Crc.openE s != 0) = false := by rw [h1]; rfl
    have g2 : (tnE (Crc.openS s) != 0) = true := bne_iff_ne.2 h2
    clear e1 e2 e3 c3 z1 z2 h1 h2
    generalize tnE (Crc.openS s) = E2 at *
    generalize tnV (Crc.openS s) = v at *
    generalize tnR (Crc.openS s) = r2 at *
    generalize Crc.openE s = E1 at *
    generalize Crc.openS s = r1 at *
    go_enter Try.func13, Try.ntmps13
    go_wp2_with fail
    refine (c1 _).mono ?_; rintro e w1 ⟨rfl, hb1⟩
    go_wp2_with fail
    refine (c2 _).mono ?_; rintro e w2 ⟨rfl, hb2⟩
    go_wp2
    go_ret3
    exact ⟨rfl, up_trans hb1 hb2⟩
  by_cases h3 : ttE (tnR (Crc.openS s)) 1000 = 0
  rotate_left
  · obtain ⟨e1, e2, e3⟩ := tc_no (s := s) (decide_eq_false (fun h => h3 h.2.2.1))
    rw [e1, e2, e3]
    have g1 : (Crc.openE s != 0) = false := by rw [h1]; rfl
    have g2 : (tnE (Crc.openS s) != 0) = false := by rw [h2]; rfl
    have g3 : (ttE (tnR (Crc.openS s)) 1000 != 0) = true := bne_iff_ne.2 h3
    clear e1 e2 e3 z1 z2 h1 h2 h3
    generalize ttE (tnR (Crc.openS s)) 1000 = E3 at *
    generalize ttT (tnR (Crc.openS s)) 1000 = x at *
    generalize ttR (tnR (Crc.openS s)) 1000 = r3 at *
    generalize tnE (Crc.openS s) = E2 at *
    generalize tnV (Crc.openS s) = v at *
    generalize tnR (Crc.openS s) = r2 at *
    generalize Crc.openE s = E1 at *
    generalize Crc.openS s = r1 at *
    go_enter Try.func13, Try.ntmps13
    go_wp2_with fail
    refine (c1 _).mono ?_; rintro e w1 ⟨rfl, hb1⟩
    go_wp2_with fail
    refine (c2 _).mono ?_; rintro e w2 ⟨rfl, hb2⟩
    go_wp2_with fail
    refine (c3 _).mono ?_; rintro e w3 ⟨rfl, hb3⟩
    go_wp2
    go_ret3
    exact ⟨rfl, up_trans (up_trans hb1 hb2) hb3⟩
  have g1 : (Crc.openE s != 0) = false := by rw [h1]; rfl
  have g2 : (tnE (Crc.openS s) != 0) = false := by rw [h2]; rfl
  have g3 : (ttE (tnR (Crc.openS s)) 1000 != 0) = false := by rw [h3]; rfl
  by_cases h4 : (ttR (tnR (Crc.openS s)) 1000).size = 0
  · obtain ⟨e1, e2, e3⟩ := tc_yes (s := s) (decide_eq_true ⟨h1, h2, h3, h4⟩)
    rw [e1, e2, e3]
    have g4 := list_none h4
    clear e1 e2 e3 z1 z2 h1 h2 h3 h4
    generalize ttE (tnR (Crc.openS s)) 1000 = E3 at *
    generalize ttT (tnR (Crc.openS s)) 1000 = x at *
    generalize ttR (tnR (Crc.openS s)) 1000 = r3 at *
    generalize tnE (Crc.openS s) = E2 at *
    generalize tnV (Crc.openS s) = v at *
    generalize tnR (Crc.openS s) = r2 at *
    generalize Crc.openE s = E1 at *
    generalize Crc.openS s = r1 at *
    go_enter Try.func13, Try.ntmps13
    go_wp2_with fail
    refine (c1 _).mono ?_; rintro e w1 ⟨rfl, hb1⟩
    go_wp2_with fail
    refine (c2 _).mono ?_; rintro e w2 ⟨rfl, hb2⟩
    go_wp2_with fail
    refine (c3 _).mono ?_; rintro e w3 ⟨rfl, hb3⟩
    go_wp2
    go_ret3
    exact ⟨rfl, up_trans (up_trans hb1 hb2) hb3⟩
  · obtain ⟨e1, e2, e3⟩ := tc_no (s := s) (decide_eq_false (fun h => h4 h.2.2.2))
    rw [e1, e2, e3]
    have g4 := list_some h4
    clear e1 e2 e3 z1 z2 h1 h2 h3 h4
    generalize ttE (tnR (Crc.openS s)) 1000 = E3 at *
    generalize ttT (tnR (Crc.openS s)) 1000 = x at *
    generalize ttR (tnR (Crc.openS s)) 1000 = r3 at *
    generalize tnE (Crc.openS s) = E2 at *
    generalize tnV (Crc.openS s) = v at *
    generalize tnR (Crc.openS s) = r2 at *
    generalize Crc.openE s = E1 at *
    generalize Crc.openS s = r1 at *
    go_enter Try.func13, Try.ntmps13
    go_wp2_with fail
    refine (c1 _).mono ?_; rintro e w1 ⟨rfl, hb1⟩
    go_wp2_with fail
    refine (c2 _).mono ?_; rintro e w2 ⟨rfl, hb2⟩
    go_wp2_with fail
    refine (c3 _).mono ?_; rintro e w3 ⟨rfl, hb3⟩
    go_wp2
    go_ret3
    exact ⟨rfl, up_trans (up_trans hb1 hb2) hb3⟩

set_option maxRecDepth 100000 in
set_option maxHeartbeats 1600000 in
theorem refTakeRec_any (s : ByteArray) (hs : s.size ≤ 140737488351232) (w : World) :
    Calls Try.prog 14 #[.string s] w (NumRet w (tcE s) (tcV s) (tcX s)) := by
  have z1 := openS_size s
  have z2 := tnR_size (Crc.openS s)
  have c1 := fun W => Crc.refOpen_any s W (by omega)
  have c2 := fun W => refTakeNum_any (Crc.openS s) (by omega) W
  have c3 := fun W => refTakeText_any (tnR (Crc.openS s)) (by omega) 1000 (by omega) W
  by_cases h1 : Crc.openE s = 0
  rotate_left
  · obtain ⟨e1, e2, e3⟩ := tc_no (s := s) (decide_eq_false (fun h => h1 h.1))
    rw [e1, e2, e3]
    have g1 : (Crc.openE s != 0) = true := bne_iff_ne.2 h1
    clear e1 e2 e3 c2 c3 z1 z2 h1
    generalize Crc.openE s = E1 at *
    generalize Crc.openS s = r1 at *
    go_enter Try.func14, Try.ntmps14
    go_wp2_with fail
    refine (c1 _).mono ?_; rintro e w1 ⟨rfl, hb1⟩
    go_wp2
    go_ret3
    exact ⟨rfl, hb1⟩
  by_cases h2 : tnE (Crc.openS s) = 0
  rotate_left
  · obtain ⟨e1, e2, e3⟩ := tc_no (s := s) (decide_eq_false (fun h => h2 h.2.1))
    rw [e1, e2, e3]
    have g1 : (Crc.openE s != 0) = false := by rw [h1]; rfl
    have g2 : (tnE (Crc.openS s) != 0) = true := bne_iff_ne.2 h2
    clear e1 e2 e3 c3 z1 z2 h1 h2
    generalize tnE (Crc.openS s) = E2 at *
    generalize tnV (Crc.openS s) = v at *
    generalize tnR (Crc.openS s) = r2 at *
    generalize Crc.openE s = E1 at *
    generalize Crc.openS s = r1 at *
    go_enter Try.func14, Try.ntmps14
    go_wp2_with fail
    refine (c1 _).mono ?_; rintro e w1 ⟨rfl, hb1⟩
    go_wp2_with fail
    refine (c2 _).mono ?_; rintro e w2 ⟨rfl, hb2⟩
    go_wp2
    go_ret3
    exact ⟨rfl, up_trans hb1 hb2⟩
  by_cases h3 : ttE (tnR (Crc.openS s)) 1000 = 0
  rotate_left
  · obtain ⟨e1, e2, e3⟩ := tc_no (s := s) (decide_eq_false (fun h => h3 h.2.2.1))
    rw [e1, e2, e3]
    have g1 : (Crc.openE s != 0) = false := by rw [h1]; rfl
    have g2 : (tnE (Crc.openS s) != 0) = false := by rw [h2]; rfl
    have g3 : (ttE (tnR (Crc.openS s)) 1000 != 0) = true := bne_iff_ne.2 h3
    clear e1 e2 e3 z1 z2 h1 h2 h3
    generalize ttE (tnR (Crc.openS s)) 1000 = E3 at *
    generalize ttT (tnR (Crc.openS s)) 1000 = x at *
    generalize ttR (tnR (Crc.openS s)) 1000 = r3 at *
    generalize tnE (Crc.openS s) = E2 at *
    generalize tnV (Crc.openS s) = v at *
    generalize tnR (Crc.openS s) = r2 at *
    generalize Crc.openE s = E1 at *
    generalize Crc.openS s = r1 at *
    go_enter Try.func14, Try.ntmps14
    go_wp2_with fail
    refine (c1 _).mono ?_; rintro e w1 ⟨rfl, hb1⟩
    go_wp2_with fail
    refine (c2 _).mono ?_; rintro e w2 ⟨rfl, hb2⟩
    go_wp2_with fail
    refine (c3 _).mono ?_; rintro e w3 ⟨rfl, hb3⟩
    go_wp2
    go_ret3
    exact ⟨rfl, up_trans (up_trans hb1 hb2) hb3⟩
  have g1 : (Crc.openE s != 0) = false := by rw [h1]; rfl
  have g2 : (tnE (Crc.openS s) != 0) = false := by rw [h2]; rfl
  have g3 : (ttE (tnR (Crc.openS s)) 1000 != 0) = false := by rw [h3]; rfl
  by_cases h4 : (ttR (tnR (Crc.openS s)) 1000).size = 0
  · obtain ⟨e1, e2, e3⟩ := tc_yes (s := s) (decide_eq_true ⟨h1, h2, h3, h4⟩)
    rw [e1, e2, e3]
    have g4 : ¬ 0 < (ttR (tnR (Crc.openS s)) 1000).size := by omega
    clear e1 e2 e3 z1 z2 h1 h2 h3 h4
    generalize ttE (tnR (Crc.openS s)) 1000 = E3 at *
    generalize ttT (tnR (Crc.openS s)) 1000 = x at *
    generalize ttR (tnR (Crc.openS s)) 1000 = r3 at *
    generalize tnE (Crc.openS s) = E2 at *
    generalize tnV (Crc.openS s) = v at *
    generalize tnR (Crc.openS s) = r2 at *
    generalize Crc.openE s = E1 at *
    generalize Crc.openS s = r1 at *
    go_enter Try.func14, Try.ntmps14
    go_wp2_with fail
    refine (c1 _).mono ?_; rintro e w1 ⟨rfl, hb1⟩
    go_wp2_with fail
    refine (c2 _).mono ?_; rintro e w2 ⟨rfl, hb2⟩
    go_wp2_with fail
    refine (c3 _).mono ?_; rintro e w3 ⟨rfl, hb3⟩
    go_wp2
    go_ret3
    exact ⟨rfl, up_trans (up_trans hb1 hb2) hb3⟩
  · obtain ⟨e1, e2, e3⟩ := tc_no (s := s) (decide_eq_false (fun h => h4 h.2.2.2))
    rw [e1, e2, e3]
    have g4 : 0 < (ttR (tnR (Crc.openS s)) 1000).size := by omega
    clear e1 e2 e3 z1 z2 h1 h2 h3 h4
    generalize ttE (tnR (Crc.openS s)) 1000 = E3 at *
    generalize ttT (tnR (Crc.openS s)) 1000 = x at *
    generalize ttR (tnR (Crc.openS s)) 1000 = r3 at *
    generalize tnE (Crc.openS s) = E2 at *
    generalize tnV (Crc.openS s) = v at *
    generalize tnR (Crc.openS s) = r2 at *
    generalize Crc.openE s = E1 at *
    generalize Crc.openS s = r1 at *
    go_enter Try.func14, Try.ntmps14
    go_wp2_with fail
    refine (c1 _).mono ?_; rintro e w1 ⟨rfl, hb1⟩
    go_wp2_with fail
    refine (c2 _).mono ?_; rintro e w2 ⟨rfl, hb2⟩
    go_wp2_with fail
    refine (c3 _).mono ?_; rintro e w3 ⟨rfl, hb3⟩
    go_wp2
    go_ret3
    exact ⟨rfl, up_trans (up_trans hb1 hb2) hb3⟩
end Go.Proofs.Ytnpognhgncnnpaa.Mat
