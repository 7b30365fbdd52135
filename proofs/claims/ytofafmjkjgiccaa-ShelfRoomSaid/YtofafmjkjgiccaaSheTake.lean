/- The document's Take of shards, and what a slot has: walked. -/
import Derived.Test.YtofafmjkjgiccaaSheRec
namespace Go.Proofs.Ytofafmjkjgiccaa.Mat
open Go.RowKit Fld

theorem zero_sx (w : World) : Sx (w.alloc (.cells #[.int .i64 0, .int .i64 0, .string ⟨#[]⟩] 23)) w.heap.size 0 0 ByteArray.empty ∧ Below w.heap.size w (w.alloc (.cells #[.int .i64 0, .int .i64 0, .string ⟨#[]⟩] 23)) :=
  ⟨sx_new w 0 0 ByteArray.empty, (Below.refl _ _).alloc (Nat.le_refl _) _⟩
theorem openS_size (s : ByteArray) : (Crc.openS s).size ≤ s.size := by
  by_cases h : Crc.openE s = 0
  · rw [open_ok h, ByteArray.size_extract]; omega
  · by_cases h4 : s.size < 4
    · rw [Crc.openS_short s h4]; exact Nat.zero_le _
    · have e : Crc.openS s = ⟨#[]⟩ := by
        by_cases h2 : s.data.toList.drop (s.data.toList.length - 4) = Crc.laidL (Crc.sumL (s.data.toList.take (s.data.toList.length - 4)))
        · exfalso
          apply h
          unfold Crc.openE
          rw [Crc.openL_ok _ (by simpa using h4) h2]
        · unfold Crc.openS
          rw [Crc.openL_sum _ (by simpa using h4) h2]
      rw [e]; exact Nat.zero_le _

set_option maxRecDepth 100000 in
set_option maxHeartbeats 3200000 in
theorem refShTake_any (s : ByteArray) (hs : s.size ≤ 140737488351232) (w : World) :
    Calls Try.prog 15 #[.string s] w (ShRet w (shE s) (shV s : Int) (shI s : Int) (shX s)) := by
  have z1 := openS_size s
  have z2 := tnR_size (Crc.openS s)
  have z3 := tnR_size (tnR (Crc.openS s))
  have c1 := fun W => Crc.refOpen_any s W (by omega)
  have c2 := fun W => refTakeNum_any (Crc.openS s) (by omega) W
  have c3 := fun W => refTakeNum_any (tnR (Crc.openS s)) (by omega) W
  have c4 := fun W => refTakeText_any (tnR (tnR (Crc.openS s))) (by omega) 512 (by omega) W
  obtain ⟨hX, hB⟩ := zero_sx w
  by_cases h1 : Crc.openE s = 0
  rotate_left
  · obtain ⟨e1, e2, e3, e4⟩ := sh_no (s := s) (decide_eq_false (fun h => h1 h.1))
    rw [e1, e2, e3, e4]
    have g1 : (Crc.openE s != 0) = true := bne_iff_ne.2 h1
    clear e1 e2 e3 e4 h1
    clear c2 c3 c4 z1 z2 z3
    generalize ttE (tnR (tnR (Crc.openS s))) 512 = E4 at *
    generalize ttT (tnR (tnR (Crc.openS s))) 512 = x at *
    generalize ttR (tnR (tnR (Crc.openS s))) 512 = r4 at *
    generalize tnE (tnR (Crc.openS s)) = E3 at *
    generalize tnV (tnR (Crc.openS s)) = i at *
    generalize tnR (tnR (Crc.openS s)) = r3 at *
    generalize tnE (Crc.openS s) = E2 at *
    generalize tnV (Crc.openS s) = v at *
    generalize tnR (Crc.openS s) = r2 at *
    generalize Crc.openE s = E1 at *
    generalize Crc.openS s = r1 at *
    have C1 := Lib.hid c1
    have HX := Lib.hid hX
    have HB := Lib.hid hB
    clear c1 hX hB hs
    go_enter Try.func15, Try.ntmps15
    go_wp2_with fail
    refine (C1.out _).mono ?_; rintro e w1 ⟨rfl, hb1⟩
    have H1 := Lib.hid hb1
    clear hb1
    have hr := HX.out.up H1.out
    obtain ⟨f0, f1, f2⟩ := hr.free
    obtain ⟨x0, x1, x2⟩ := hr.cells
    have HP := Lib.hid (hr.put 0 0 ByteArray.empty)
    have HQ := Lib.hid (put3_below (up_trans HB.out H1.out) (Nat.le_refl _) 0 0 ByteArray.empty)
    clear hr
    go_wp2
    exact bodyPost_ret (results_shard_err rfl _ _ w.heap.size rfl HP.out) rfl ⟨rfl, HQ.out⟩
  have g1 : (Crc.openE s != 0) = false := by rw [h1]; rfl
  by_cases h2 : tnE (Crc.openS s) = 0
  rotate_left
  · obtain ⟨e1, e2, e3, e4⟩ := sh_no (s := s) (decide_eq_false (fun h => h2 h.2.1))
    rw [e1, e2, e3, e4]
    have g2 : (tnE (Crc.openS s) != 0) = true := bne_iff_ne.2 h2
    clear e1 e2 e3 e4 h1 h2
    clear c3 c4 z1 z2 z3
    generalize ttE (tnR (tnR (Crc.openS s))) 512 = E4 at *
    generalize ttT (tnR (tnR (Crc.openS s))) 512 = x at *
    generalize ttR (tnR (tnR (Crc.openS s))) 512 = r4 at *
    generalize tnE (tnR (Crc.openS s)) = E3 at *
    generalize tnV (tnR (Crc.openS s)) = i at *
    generalize tnR (tnR (Crc.openS s)) = r3 at *
    generalize tnE (Crc.openS s) = E2 at *
    generalize tnV (Crc.openS s) = v at *
    generalize tnR (Crc.openS s) = r2 at *
    generalize Crc.openE s = E1 at *
    generalize Crc.openS s = r1 at *
    have C1 := Lib.hid c1
    have C2 := Lib.hid c2
    have HX := Lib.hid hX
    have HB := Lib.hid hB
    clear c1 c2 hX hB hs
    go_enter Try.func15, Try.ntmps15
    go_wp2_with fail
    refine (C1.out _).mono ?_; rintro e w1 ⟨rfl, hb1⟩
    have H1 := Lib.hid hb1
    clear hb1
    go_wp2_with fail
    refine (C2.out _).mono ?_; rintro e w2 ⟨rfl, hb2⟩
    have H2 := Lib.hid (up_trans H1.out hb2)
    clear hb2
    have hr := HX.out.up H2.out
    obtain ⟨f0, f1, f2⟩ := hr.free
    obtain ⟨x0, x1, x2⟩ := hr.cells
    have HP := Lib.hid (hr.put 0 0 ByteArray.empty)
    have HQ := Lib.hid (put3_below (up_trans HB.out H2.out) (Nat.le_refl _) 0 0 ByteArray.empty)
    clear hr
    go_wp2
    exact bodyPost_ret (results_shard_err rfl _ _ w.heap.size rfl HP.out) rfl ⟨rfl, HQ.out⟩
  have g2 : (tnE (Crc.openS s) != 0) = false := by rw [h2]; rfl
  by_cases h3 : (tnV (Crc.openS s) : Int) < 1
  · obtain ⟨e1, e2, e3, e4⟩ := sh_no (s := s) (decide_eq_false (fun h => by have := h.2.2.1.1; omega))
    rw [e1, e2, e3, e4]
    clear e1 e2 e3 e4 h1 h2
    clear c3 c4 z1 z2 z3
    generalize ttE (tnR (tnR (Crc.openS s))) 512 = E4 at *
    generalize ttT (tnR (tnR (Crc.openS s))) 512 = x at *
    generalize ttR (tnR (tnR (Crc.openS s))) 512 = r4 at *
    generalize tnE (tnR (Crc.openS s)) = E3 at *
    generalize tnV (tnR (Crc.openS s)) = i at *
    generalize tnR (tnR (Crc.openS s)) = r3 at *
    generalize tnE (Crc.openS s) = E2 at *
    generalize tnV (Crc.openS s) = v at *
    generalize tnR (Crc.openS s) = r2 at *
    generalize Crc.openE s = E1 at *
    generalize Crc.openS s = r1 at *
    have C1 := Lib.hid c1
    have C2 := Lib.hid c2
    have HX := Lib.hid hX
    have HB := Lib.hid hB
    clear c1 c2 hX hB hs
    go_enter Try.func15, Try.ntmps15
    go_wp2_with fail
    refine (C1.out _).mono ?_; rintro e w1 ⟨rfl, hb1⟩
    have H1 := Lib.hid hb1
    clear hb1
    go_wp2_with fail
    refine (C2.out _).mono ?_; rintro e w2 ⟨rfl, hb2⟩
    have H2 := Lib.hid (up_trans H1.out hb2)
    clear hb2
    have hr := HX.out.up H2.out
    obtain ⟨f0, f1, f2⟩ := hr.free
    obtain ⟨x0, x1, x2⟩ := hr.cells
    have HP := Lib.hid (hr.put 0 0 ByteArray.empty)
    have HQ := Lib.hid (put3_below (up_trans HB.out H2.out) (Nat.le_refl _) 0 0 ByteArray.empty)
    clear hr
    go_wp2
    exact bodyPost_ret (results_shard_err rfl _ _ w.heap.size rfl HP.out) rfl ⟨rfl, HQ.out⟩
  by_cases h4 : 1048576 < (tnV (Crc.openS s) : Int)
  · obtain ⟨e1, e2, e3, e4⟩ := sh_no (s := s) (decide_eq_false (fun h => by have := h.2.2.1.2; omega))
    rw [e1, e2, e3, e4]
    clear e1 e2 e3 e4 h1 h2
    clear c3 c4 z1 z2 z3
    generalize ttE (tnR (tnR (Crc.openS s))) 512 = E4 at *
    generalize ttT (tnR (tnR (Crc.openS s))) 512 = x at *
    generalize ttR (tnR (tnR (Crc.openS s))) 512 = r4 at *
    generalize tnE (tnR (Crc.openS s)) = E3 at *
    generalize tnV (tnR (Crc.openS s)) = i at *
    generalize tnR (tnR (Crc.openS s)) = r3 at *
    generalize tnE (Crc.openS s) = E2 at *
    generalize tnV (Crc.openS s) = v at *
    generalize tnR (Crc.openS s) = r2 at *
    generalize Crc.openE s = E1 at *
    generalize Crc.openS s = r1 at *
    have C1 := Lib.hid c1
    have C2 := Lib.hid c2
    have HX := Lib.hid hX
    have HB := Lib.hid hB
    clear c1 c2 hX hB hs
    go_enter Try.func15, Try.ntmps15
    go_wp2_with fail
    refine (C1.out _).mono ?_; rintro e w1 ⟨rfl, hb1⟩
    have H1 := Lib.hid hb1
    clear hb1
    go_wp2_with fail
    refine (C2.out _).mono ?_; rintro e w2 ⟨rfl, hb2⟩
    have H2 := Lib.hid (up_trans H1.out hb2)
    clear hb2
    have hr := HX.out.up H2.out
    obtain ⟨f0, f1, f2⟩ := hr.free
    obtain ⟨x0, x1, x2⟩ := hr.cells
    have HP := Lib.hid (hr.put 0 0 ByteArray.empty)
    have HQ := Lib.hid (put3_below (up_trans HB.out H2.out) (Nat.le_refl _) 0 0 ByteArray.empty)
    clear hr
    go_wp2
    exact bodyPost_ret (results_shard_err rfl _ _ w.heap.size rfl HP.out) rfl ⟨rfl, HQ.out⟩
  by_cases h5 : tnE (tnR (Crc.openS s)) = 0
  rotate_left
  · obtain ⟨e1, e2, e3, e4⟩ := sh_no (s := s) (decide_eq_false (fun h => h5 h.2.2.2.1))
    rw [e1, e2, e3, e4]
    have g5 : (tnE (tnR (Crc.openS s)) != 0) = true := bne_iff_ne.2 h5
    clear e1 e2 e3 e4 h1 h2 h5
    clear c4 z1 z2 z3
    generalize ttE (tnR (tnR (Crc.openS s))) 512 = E4 at *
    generalize ttT (tnR (tnR (Crc.openS s))) 512 = x at *
    generalize ttR (tnR (tnR (Crc.openS s))) 512 = r4 at *
    generalize tnE (tnR (Crc.openS s)) = E3 at *
    generalize tnV (tnR (Crc.openS s)) = i at *
    generalize tnR (tnR (Crc.openS s)) = r3 at *
    generalize tnE (Crc.openS s) = E2 at *
    generalize tnV (Crc.openS s) = v at *
    generalize tnR (Crc.openS s) = r2 at *
    generalize Crc.openE s = E1 at *
    generalize Crc.openS s = r1 at *
    have C1 := Lib.hid c1
    have C2 := Lib.hid c2
    have C3 := Lib.hid c3
    have HX := Lib.hid hX
    have HB := Lib.hid hB
    clear c1 c2 c3 hX hB hs
    go_enter Try.func15, Try.ntmps15
    go_wp2_with fail
    refine (C1.out _).mono ?_; rintro e w1 ⟨rfl, hb1⟩
    have H1 := Lib.hid hb1
    clear hb1
    go_wp2_with fail
    refine (C2.out _).mono ?_; rintro e w2 ⟨rfl, hb2⟩
    have H2 := Lib.hid (up_trans H1.out hb2)
    clear hb2
    go_wp2_with fail
    refine (C3.out _).mono ?_; rintro e w3 ⟨rfl, hb3⟩
    have H3 := Lib.hid (up_trans H2.out hb3)
    clear hb3
    have hr := HX.out.up H3.out
    obtain ⟨f0, f1, f2⟩ := hr.free
    obtain ⟨x0, x1, x2⟩ := hr.cells
    have HP := Lib.hid (hr.put 0 0 ByteArray.empty)
    have HQ := Lib.hid (put3_below (up_trans HB.out H3.out) (Nat.le_refl _) 0 0 ByteArray.empty)
    clear hr
    go_wp2
    exact bodyPost_ret (results_shard_err rfl _ _ w.heap.size rfl HP.out) rfl ⟨rfl, HQ.out⟩
  have g5 : (tnE (tnR (Crc.openS s)) != 0) = false := by rw [h5]; rfl
  by_cases h6 : 1024 < (tnV (tnR (Crc.openS s)) : Int)
  · obtain ⟨e1, e2, e3, e4⟩ := sh_no (s := s) (decide_eq_false (fun h => by have := h.2.2.2.2.1; omega))
    rw [e1, e2, e3, e4]
    clear e1 e2 e3 e4 h1 h2 h5
    clear c4 z1 z2 z3
    generalize ttE (tnR (tnR (Crc.openS s))) 512 = E4 at *
    generalize ttT (tnR (tnR (Crc.openS s))) 512 = x at *
    generalize ttR (tnR (tnR (Crc.openS s))) 512 = r4 at *
    generalize tnE (tnR (Crc.openS s)) = E3 at *
    generalize tnV (tnR (Crc.openS s)) = i at *
    generalize tnR (tnR (Crc.openS s)) = r3 at *
    generalize tnE (Crc.openS s) = E2 at *
    generalize tnV (Crc.openS s) = v at *
    generalize tnR (Crc.openS s) = r2 at *
    generalize Crc.openE s = E1 at *
    generalize Crc.openS s = r1 at *
    have C1 := Lib.hid c1
    have C2 := Lib.hid c2
    have C3 := Lib.hid c3
    have HX := Lib.hid hX
    have HB := Lib.hid hB
    clear c1 c2 c3 hX hB hs
    go_enter Try.func15, Try.ntmps15
    go_wp2_with fail
    refine (C1.out _).mono ?_; rintro e w1 ⟨rfl, hb1⟩
    have H1 := Lib.hid hb1
    clear hb1
    go_wp2_with fail
    refine (C2.out _).mono ?_; rintro e w2 ⟨rfl, hb2⟩
    have H2 := Lib.hid (up_trans H1.out hb2)
    clear hb2
    go_wp2_with fail
    refine (C3.out _).mono ?_; rintro e w3 ⟨rfl, hb3⟩
    have H3 := Lib.hid (up_trans H2.out hb3)
    clear hb3
    have hr := HX.out.up H3.out
    obtain ⟨f0, f1, f2⟩ := hr.free
    obtain ⟨x0, x1, x2⟩ := hr.cells
    have HP := Lib.hid (hr.put 0 0 ByteArray.empty)
    have HQ := Lib.hid (put3_below (up_trans HB.out H3.out) (Nat.le_refl _) 0 0 ByteArray.empty)
    clear hr
    go_wp2
    exact bodyPost_ret (results_shard_err rfl _ _ w.heap.size rfl HP.out) rfl ⟨rfl, HQ.out⟩
  by_cases h7 : ttE (tnR (tnR (Crc.openS s))) 512 = 0
  rotate_left
  · obtain ⟨e1, e2, e3, e4⟩ := sh_no (s := s) (decide_eq_false (fun h => h7 h.2.2.2.2.2.1))
    rw [e1, e2, e3, e4]
    have g7 : (ttE (tnR (tnR (Crc.openS s))) 512 != 0) = true := bne_iff_ne.2 h7
    clear e1 e2 e3 e4 h1 h2 h5 h7
    clear z1 z2 z3
    generalize ttE (tnR (tnR (Crc.openS s))) 512 = E4 at *
    generalize ttT (tnR (tnR (Crc.openS s))) 512 = x at *
    generalize ttR (tnR (tnR (Crc.openS s))) 512 = r4 at *
    generalize tnE (tnR (Crc.openS s)) = E3 at *
    generalize tnV (tnR (Crc.openS s)) = i at *
    generalize tnR (tnR (Crc.openS s)) = r3 at *
    generalize tnE (Crc.openS s) = E2 at *
    generalize tnV (Crc.openS s) = v at *
    generalize tnR (Crc.openS s) = r2 at *
    generalize Crc.openE s = E1 at *
    generalize Crc.openS s = r1 at *
    have C1 := Lib.hid c1
    have C2 := Lib.hid c2
    have C3 := Lib.hid c3
    have C4 := Lib.hid c4
    have HX := Lib.hid hX
    have HB := Lib.hid hB
    clear c1 c2 c3 c4 hX hB hs
    go_enter Try.func15, Try.ntmps15
    go_wp2_with fail
    refine (C1.out _).mono ?_; rintro e w1 ⟨rfl, hb1⟩
    have H1 := Lib.hid hb1
    clear hb1
    go_wp2_with fail
    refine (C2.out _).mono ?_; rintro e w2 ⟨rfl, hb2⟩
    have H2 := Lib.hid (up_trans H1.out hb2)
    clear hb2
    go_wp2_with fail
    refine (C3.out _).mono ?_; rintro e w3 ⟨rfl, hb3⟩
    have H3 := Lib.hid (up_trans H2.out hb3)
    clear hb3
    go_wp2_with fail
    refine (C4.out _).mono ?_; rintro e w4 ⟨rfl, hb4⟩
    have H4 := Lib.hid (up_trans H3.out hb4)
    clear hb4
    have hr := HX.out.up H4.out
    obtain ⟨f0, f1, f2⟩ := hr.free
    obtain ⟨x0, x1, x2⟩ := hr.cells
    have HP := Lib.hid (hr.put 0 0 ByteArray.empty)
    have HQ := Lib.hid (put3_below (up_trans HB.out H4.out) (Nat.le_refl _) 0 0 ByteArray.empty)
    clear hr
    go_wp2
    exact bodyPost_ret (results_shard_err rfl _ _ w.heap.size rfl HP.out) rfl ⟨rfl, HQ.out⟩
  have g7 : (ttE (tnR (tnR (Crc.openS s))) 512 != 0) = false := by rw [h7]; rfl
  by_cases h8 : (ttR (tnR (tnR (Crc.openS s))) 512).size = 0
  rotate_left
  · obtain ⟨e1, e2, e3, e4⟩ := sh_no (s := s) (decide_eq_false (fun h => h8 h.2.2.2.2.2.2))
    rw [e1, e2, e3, e4]
    have g8 : 0 < (ttR (tnR (tnR (Crc.openS s))) 512).size := by omega
    clear e1 e2 e3 e4 h1 h2 h5 h7 h8
    clear z1 z2 z3
    generalize ttE (tnR (tnR (Crc.openS s))) 512 = E4 at *
    generalize ttT (tnR (tnR (Crc.openS s))) 512 = x at *
    generalize ttR (tnR (tnR (Crc.openS s))) 512 = r4 at *
    generalize tnE (tnR (Crc.openS s)) = E3 at *
    generalize tnV (tnR (Crc.openS s)) = i at *
    generalize tnR (tnR (Crc.openS s)) = r3 at *
    generalize tnE (Crc.openS s) = E2 at *
    generalize tnV (Crc.openS s) = v at *
    generalize tnR (Crc.openS s) = r2 at *
    generalize Crc.openE s = E1 at *
    generalize Crc.openS s = r1 at *
    have C1 := Lib.hid c1
    have C2 := Lib.hid c2
    have C3 := Lib.hid c3
    have C4 := Lib.hid c4
    have HX := Lib.hid hX
    have HB := Lib.hid hB
    clear c1 c2 c3 c4 hX hB hs
    go_enter Try.func15, Try.ntmps15
    go_wp2_with fail
    refine (C1.out _).mono ?_; rintro e w1 ⟨rfl, hb1⟩
    have H1 := Lib.hid hb1
    clear hb1
    go_wp2_with fail
    refine (C2.out _).mono ?_; rintro e w2 ⟨rfl, hb2⟩
    have H2 := Lib.hid (up_trans H1.out hb2)
    clear hb2
    go_wp2_with fail
    refine (C3.out _).mono ?_; rintro e w3 ⟨rfl, hb3⟩
    have H3 := Lib.hid (up_trans H2.out hb3)
    clear hb3
    go_wp2_with fail
    refine (C4.out _).mono ?_; rintro e w4 ⟨rfl, hb4⟩
    have H4 := Lib.hid (up_trans H3.out hb4)
    clear hb4
    have hr := HX.out.up H4.out
    obtain ⟨f0, f1, f2⟩ := hr.free
    obtain ⟨x0, x1, x2⟩ := hr.cells
    have HP := Lib.hid (hr.put 0 0 ByteArray.empty)
    have HQ := Lib.hid (put3_below (up_trans HB.out H4.out) (Nat.le_refl _) 0 0 ByteArray.empty)
    clear hr
    go_wp2
    exact bodyPost_ret (results_shard_err rfl _ _ w.heap.size rfl HP.out) rfl ⟨rfl, HQ.out⟩
  obtain ⟨e1, e2, e3, e4⟩ := sh_yes (s := s) (decide_eq_true ⟨h1, h2, ⟨by omega, by omega⟩, h5, by omega, h7, h8⟩)
  rw [e1, e2, e3, e4]
  have g8 : ¬ 0 < (ttR (tnR (tnR (Crc.openS s))) 512).size := by omega
  have k1 : IntKind.i64.wrap (tnV (Crc.openS s) : Int) = (tnV (Crc.openS s) : Int) := IntWalk.i64_in _ (by omega)
  have k2 : IntKind.i64.wrap (tnV (tnR (Crc.openS s)) : Int) = (tnV (tnR (Crc.openS s)) : Int) := IntWalk.i64_in _ (by omega)
  clear e1 e2 e3 e4 h1 h2 h5 h7 h8
  clear z1 z2 z3
  generalize ttE (tnR (tnR (Crc.openS s))) 512 = E4 at *
  generalize ttT (tnR (tnR (Crc.openS s))) 512 = x at *
  generalize ttR (tnR (tnR (Crc.openS s))) 512 = r4 at *
  generalize tnE (tnR (Crc.openS s)) = E3 at *
  generalize tnV (tnR (Crc.openS s)) = i at *
  generalize tnR (tnR (Crc.openS s)) = r3 at *
  generalize tnE (Crc.openS s) = E2 at *
  generalize tnV (Crc.openS s) = v at *
  generalize tnR (Crc.openS s) = r2 at *
  generalize Crc.openE s = E1 at *
  generalize Crc.openS s = r1 at *
  have C1 := Lib.hid c1
  have C2 := Lib.hid c2
  have C3 := Lib.hid c3
  have C4 := Lib.hid c4
  have HX := Lib.hid hX
  have HB := Lib.hid hB
  clear c1 c2 c3 c4 hX hB hs
  go_enter Try.func15, Try.ntmps15
  go_wp2_with fail
  refine (C1.out _).mono ?_; rintro e w1 ⟨rfl, hb1⟩
  have H1 := Lib.hid hb1
  clear hb1
  go_wp2_with fail
  refine (C2.out _).mono ?_; rintro e w2 ⟨rfl, hb2⟩
  have H2 := Lib.hid (up_trans H1.out hb2)
  clear hb2
  go_wp2_with fail
  refine (C3.out _).mono ?_; rintro e w3 ⟨rfl, hb3⟩
  have H3 := Lib.hid (up_trans H2.out hb3)
  clear hb3
  go_wp2_with fail
  refine (C4.out _).mono ?_; rintro e w4 ⟨rfl, hb4⟩
  have H4 := Lib.hid (up_trans H3.out hb4)
  clear hb4
  have hr := HX.out.up H4.out
  obtain ⟨f0, f1, f2⟩ := hr.free
  obtain ⟨x0, x1, x2⟩ := hr.cells
  have HP := Lib.hid (hr.put (v : Int) (i : Int) x)
  have HQ := Lib.hid (put3_below (up_trans HB.out H4.out) (Nat.le_refl _) (v : Int) (i : Int) x)
  clear hr
  go_wp2
  exact bodyPost_ret (results_shard_err rfl _ _ w.heap.size rfl HP.out) rfl ⟨rfl, HQ.out⟩

theorem lastT_size {I : Nat → Int} {T : Nat → ByteArray} {slot : Int} {s : ByteArray} {L : Nat} (hs : s.size ≤ L) : ∀ (m : Nat), (∀ i, i < m → (T i).size ≤ L) → (lastT I T slot s m).size ≤ L
  | 0, _ => hs
  | m + 1, h => by
    show (if I m = slot then T m else lastT I T slot s m).size ≤ L
    by_cases e : I m = slot
    · rw [if_pos e]; exact h m (Nat.lt_succ_self m)
    · rw [if_neg e]; exact lastT_size hs m (fun i hi => h i (by omega))
theorem getS_size {d : Dk} (h : Sz d) (slot : Int) : (getS d slot).size ≤ 140737488351232 := by
  unfold getS
  by_cases e : hasB d.n slot = true
  · rw [if_pos e]
    obtain ⟨a, b⟩ := hasB_iff.1 e
    exact lastT_size (h.zs _ (by omega)) _ h.zt
  · rw [if_neg e]; simp
section
variable {w : World} {A B : Option Addr} {c k : Nat} {d : Dk}
theorem at_start (h : DOk w A c B k d) : ∃ W, W = (w.alloc (.cells #[.slice A d.n c, .slice B d.m k, .int .i64 d.fuse, .bool d.off] 39)).alloc (.cells #[.int .i64 0, .int .i64 0, .string ⟨#[]⟩] 23) ∧
    Bx W w.heap.size (.slice A d.n c) (.slice B d.m k) (.int .i64 d.fuse) (.bool d.off) ∧ Sx W (w.heap.size + 1) 0 0 ByteArray.empty ∧ DOk W A c B k d ∧ Below w.heap.size w W := by
  have hx := bx_new w (.slice A d.n c) (.slice B d.m k) (.int .i64 d.fuse) (.bool d.off)
  have hb := (Below.refl w.heap.size w).alloc (Nat.le_refl _) (.cells #[.slice A d.n c, .slice B d.m k, .int .i64 d.fuse, .bool d.off] 39)
  have hs := (zero_sx (w.alloc (.cells #[.slice A d.n c, .slice B d.m k, .int .i64 d.fuse, .bool d.off] 39))).1
  rw [size_alloc] at hs
  have hb2 := hb.alloc hb.size (.cells #[.int .i64 0, .int .i64 0, .string ⟨#[]⟩] 23)
  exact ⟨_, rfl, hx.alloc _, hs, h.up hb2, hb2⟩
set_option maxRecDepth 100000 in
set_option maxHeartbeats 1600000 in
/-- what a slot has -/
theorem refAt_any (h : DOk w A c B k d) (j : Nat) (hj : j < d.n) :
    Calls Try.prog 50 #[.agg #[.slice A d.n c, .slice B d.m k, .int .i64 d.fuse, .bool d.off], .int .i64 (j : Int)] w (AtRet w (shV (getS d j) : Int) (shI (getS d j) : Int) (shX (getS d j)) (shB (getS d j)) ((getS d j).size == 0)) := by
  obtain ⟨W, hW, hX, hR, hD, hB⟩ := at_start h
  have hsz := getS_size h.sz j
  have c1 := fun W' (hb : Below W.heap.size W W') => refGet_any (hD.up hb) (j : Int)
  have E1 := (get_in (d := d) (slot := (j : Int)) (hasB_yes ⟨by omega, by omega⟩)).1
  rw [E1] at c1
  have c2 := fun W => refShTake_any (getS d j) hsz W
  have he : (shE (getS d j) == 0) = shB (getS d j) := by
    cases hb : shB (getS d j)
    · rw [(sh_no hb).1]; rfl
    · rw [(sh_yes hb).1]; rfl
  have hz : (((getS d j).size : Int) == 0) = ((getS d j).size == 0) := by
    by_cases q : (getS d j).size = 0
    · rw [q]; rfl
    · rw [beq_eq_false_iff_ne.2 q, beq_eq_false_iff_ne.2 (by omega)]
  obtain ⟨x0, x1, x2, x3⟩ := hX.cells
  generalize shB (getS d j) = is at *
  generalize shV (getS d j) = v at *
  generalize shI (getS d j) = i at *
  generalize shX (getS d j) = x at *
  generalize shE (getS d j) = E at *
  generalize ((getS d j).size == 0) = em at *
  generalize getS d j = S at *
  have C1 := Lib.hid c1
  have C2 := Lib.hid c2
  have HX := Lib.hid hX
  have HR := Lib.hid hR
  have HB := Lib.hid hB
  clear c1 c2 hX hR hB hD h hj E1 hsz
  go_enter Try.func50, Try.ntmps50
  go_upto_region 1 with fail
  rw [← hW]
  clear hW
  go_wp2_with fail
  refine (C1.out _ (Below.refl _ _)).mono ?_; rintro e w1 ⟨rfl, hb1⟩
  have H1 := Lib.hid hb1
  clear hb1 x0 x1 x2 x3
  go_wp2_with fail
  refine (C2.out _).mono ?_; rintro e w2 ⟨rfl, hb2⟩
  have H2 := Lib.hid (up_trans H1.out hb2)
  clear hb2
  have hr := (HR.out.up H2.out).alloc (.cells #[.int .i64 (v : Int), .int .i64 (i : Int), .string x] 23)
  obtain ⟨f0, f1, f2⟩ := hr.free
  obtain ⟨y0, y1, y2⟩ := hr.cells
  obtain ⟨z0, z1, z2⟩ := (sx_new w2 (v : Int) (i : Int) x).cells
  have HP := Lib.hid (hr.put (v : Int) (i : Int) x)
  have hbb := up_trans HB.out H2.out
  have HQ := Lib.hid (put3_below (hbb.alloc hbb.size (.cells #[.int .i64 (v : Int), .int .i64 (i : Int), .string x] 23)) (Nat.le_succ _) (v : Int) (i : Int) x)
  clear hr hbb
  go_wp2
  exact bodyPost_ret (results_shard_two rfl _ _ (w.heap.size + 1) rfl HP.out) rfl ⟨rfl, HQ.out⟩
end
end Go.Proofs.Ytofafmjkjgiccaa.Mat
