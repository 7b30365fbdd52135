/- The laws on records, and on one write: walked. -/
import Derived.Test.YtnpognhgncnnpaaCelFact
namespace Go.Proofs.Ytnpognhgncnnpaa.Mat
open Go.RowKit Fld

set_option maxRecDepth 100000 in
set_option maxHeartbeats 1600000 in
theorem lawRecords (t : Nat) (ht : t < 18446744073709551616) (x s : ByteArray) (hx : x.size ≤ 140737488351232) (hs : s.size ≤ 140737488351232) (w : World) :
    Calls Try.prog 3 #[.int .u64 (t : Int), .string x, .string s] w (BoolRet w true) := by
  have c1 := fun W => rec_any t ht x hx W
  have c2 := fun W => refRec_any t ht x hx W
  have c3 := fun W => takeRec_any s hs W
  have c4 := fun W => refTakeRec_any s hs W
  generalize recE x = E1 at *
  generalize recT t x = T1 at *
  generalize tcE s = E2 at *
  generalize tcV s = v2 at *
  generalize tcX s = X2 at *
  have C1 := Lib.hid c1
  have C2 := Lib.hid c2
  have C3 := Lib.hid c3
  have C4 := Lib.hid c4
  clear c1 c2 c3 c4 ht hx hs
  go_enter Try.func3, Try.ntmps3
  go_wp2_with fail
  refine (shown_any _).mono ?_; rintro e w1 ⟨rfl, hb1⟩
  go_wp2_with fail
  refine (C1.out _).mono ?_; rintro e w2 ⟨rfl, hb2⟩
  go_wp2_with fail
  refine (C2.out _).mono ?_; rintro e w3 ⟨rfl, hb3⟩
  go_wp2_with fail
  refine (C3.out _).mono ?_; rintro e w4 ⟨rfl, hb4⟩
  go_wp2_with fail
  refine (C4.out _).mono ?_; rintro e w5 ⟨rfl, hb5⟩
  go_wp2
  go_ret
  exact ⟨ret_bool (by first | rfl | simp), up_trans (up_trans (up_trans (up_trans hb1 hb2) hb3) hb4) hb5⟩

set_option maxRecDepth 100000 in
set_option maxHeartbeats 1600000 in
theorem lawCut (t : Nat) (ht : t < 18446744073709551616) (x : ByteArray) (hx : x.size ≤ 140737488351232) (cut : Int) (w : World) :
    Calls Try.prog 7 #[.int .u64 (t : Int), .string x, .int .i64 cut] w (BoolRet w true) := by
  have c1 := fun W => rec_any t ht x hx W
  by_cases hx1 : 1000 < x.size
  · have g1 : (recE x != 0) = true := by rw [show recE x = 4 from if_pos hx1]; rfl
    generalize recE x = E1 at *
    generalize recT t x = T1 at *
    have C1 := Lib.hid c1
    clear c1 ht hx hx1
    go_enter Try.func7, Try.ntmps7
    go_wp2_with fail
    refine (shown_any _).mono ?_; rintro e w1 ⟨rfl, hb1⟩
    go_wp2_with fail
    refine (C1.out _).mono ?_; rintro e w2 ⟨rfl, hb2⟩
    go_wp2
    go_ret
    exact ⟨rfl, up_trans hb1 hb2⟩
  have e1 : recE x = 0 := if_neg hx1
  have e2 : recT t x = recS t x := if_neg hx1
  rw [e1, e2] at c1
  by_cases hc : cut < 0
  · have g1 : decide (cut < 0) = true := decide_eq_true hc
    generalize recS t x = T1 at *
    have C1 := Lib.hid c1
    clear c1 ht hx hx1 e1 e2 hc
    go_enter Try.func7, Try.ntmps7
    go_wp2_with fail
    refine (shown_any _).mono ?_; rintro e w1 ⟨rfl, hb1⟩
    go_wp2_with fail
    refine (C1.out _).mono ?_; rintro e w2 ⟨rfl, hb2⟩
    go_wp2
    go_ret
    exact ⟨rfl, up_trans hb1 hb2⟩
  obtain ⟨k, rfl⟩ : ∃ k : Nat, cut = k := ⟨cut.toNat, by omega⟩
  by_cases hk : k < (recS t x).size
  rotate_left
  · have g2 : decide ((k : Int) ≥ ((recS t x).size : Int)) = true := decide_eq_true (by omega)
    have g2' : (recS t x).size ≤ k := by omega
    generalize recS t x = T1 at *
    have C1 := Lib.hid c1
    clear c1 ht hx hx1 e1 e2 hc hk
    go_enter Try.func7, Try.ntmps7
    go_wp2_with fail
    refine (shown_any _).mono ?_; rintro e w1 ⟨rfl, hb1⟩
    go_wp2_with fail
    refine (C1.out _).mono ?_; rintro e w2 ⟨rfl, hb2⟩
    go_wp2
    go_ret
    exact ⟨rfl, up_trans hb1 hb2⟩
  · have hfit := recS_fits (t := t) (x := x) ht (by omega)
    have hn := rec_cut ht (by omega) hk
    obtain ⟨f1, f2, f3⟩ := tc_no hn
    obtain ⟨_, k1, k2, k3⟩ := rec_taken ht (show x.size ≤ 1000 by omega)
    have c2 := fun W => takeRec_any ((recS t x).extract 0 k) (by rw [ByteArray.size_extract]; omega) W
    have c3 := fun W => takeRec_any (recS t x) (by omega) W
    rw [f1, f2, f3] at c2
    rw [k1, k2, k3] at c3
    have hs2 := fun W => run_slice_string_h (P := Try.prog) W 9 (recS t x) Try.underlying9 .i64 (k : Int) (by omega) (by omega)
    rw [Int.toNat_natCast] at hs2
    have g2 : ¬ (recS t x).size ≤ k := by omega
    generalize recS t x = T1 at *
    have C1 := Lib.hid c1
    have C2 := Lib.hid c2
    have C3 := Lib.hid c3
    clear c1 c2 c3 ht hx hx1 e1 e2 hc hk hfit hn f1 f2 f3 k1 k2 k3
    go_enter Try.func7, Try.ntmps7
    go_wp2_with fail
    refine (shown_any _).mono ?_; rintro e w1 ⟨rfl, hb1⟩
    go_wp2_with fail
    refine (C1.out _).mono ?_; rintro e w2 ⟨rfl, hb2⟩
    go_wp2_with fail
    refine (C2.out _).mono ?_; rintro e w3 ⟨rfl, hb3⟩
    go_wp2_with fail
    refine (C3.out _).mono ?_; rintro e w4 ⟨rfl, hb4⟩
    go_wp2
    go_ret
    exact ⟨ret_bool (by first | rfl | simp), up_trans (up_trans (up_trans hb1 hb2) hb3) hb4⟩
section
variable {w : World} {d : Dk} {A B : Option Addr} {c k : Nat}
theorem cell_start (h : DOk w A c B k d) : Vr (w.alloc (.cells #[.slice A d.n c, .slice B d.m k, .int .i64 d.fuse, .bool d.off] 37)) w.heap.size d A c B k ∧ Below w.heap.size w (w.alloc (.cells #[.slice A d.n c, .slice B d.m k, .int .i64 d.fuse, .bool d.off] 37)) :=
  ⟨Vr.new h, (Below.refl _ _).alloc (Nat.le_refl _) _⟩
set_option maxRecDepth 100000 in
set_option maxHeartbeats 3200000 in
theorem lawActs (h : DOk w A c B k d) (hm : (d.m + 1) * 24 ≤ 140737488355328) (base : Int) (b0 : -9223372036854775808 ≤ base) (b1 : base ≤ 9223372036854775807) (x : ByteArray) (hx : x.size ≤ 140737488351232) :
    Calls Try.prog 4 #[.agg #[.slice A d.n c, .slice B d.m k, .int .i64 d.fuse, .bool d.off], .int .i64 base, .string x] w (BoolRet w true) := by
  have c1 := fun W A c B k (h : DOk W A c B k d) => read_any h base b0 b1
  have c2 := fun W A c B k (h : DOk W A c B k d) => refRead_any h base b0 b1
  have c3 := fun W A c B k (h : DOk W A c B k d) => write_any h hm base b0 b1 x hx
  have c4 := fun W A c B k (h : DOk W A c B k d) => refWrite_any h hm base b0 b1 x hx
  generalize rdE d base = E1 at *
  generalize rdX d base = X1 at *
  generalize rdT d base = t1 at *
  generalize wrD d base x = D1 at *
  generalize wrE d base x = E2 at *
  have C1 := Lib.hid c1
  have C2 := Lib.hid c2
  have C3 := Lib.hid c3
  have C4 := Lib.hid c4
  obtain ⟨hV, hB⟩ := cell_start h
  have Hd := Lib.hid hV
  have HB0 := Lib.hid hB
  clear c1 c2 c3 c4 hm hx h hV hB b0 b1
  go_enter Try.func4, Try.ntmps4
  go_upto_region 1 with fail
  generalize w.alloc (.cells #[.slice A d.n c, .slice B d.m k, .int .i64 d.fuse, .bool d.off] 37) = w0 at *
  go_wp2_with fail
  refine (shown_any _).mono ?_; rintro e w1 ⟨rfl, hb1⟩
  have Nd := Lib.hid (Hd.out.up hb1)
  clear Hd
  have Hd := Nd
  clear Nd
  have HB1 := Lib.hid (up_trans HB0.out hb1)
  clear hb1 HB0
  obtain ⟨da, db, dc, dd⟩ := Hd.out.cells
  go_wp2_with fail
  clear da db dc dd
  refine (C1.out _ _ _ _ _ Hd.out.ok).mono ?_; rintro e w2 ⟨rfl, hb2⟩
  have Nd := Lib.hid (Hd.out.up hb2)
  clear Hd
  have Hd := Nd
  clear Nd
  have HB2 := Lib.hid (up_trans HB1.out hb2)
  clear hb2 HB1
  obtain ⟨da, db, dc, dd⟩ := Hd.out.cells
  go_wp2_with fail
  clear da db dc dd
  refine (C2.out _ _ _ _ _ Hd.out.ok).mono ?_; rintro e w3 ⟨rfl, hb3⟩
  have Nd := Lib.hid (Hd.out.up hb3)
  clear Hd
  have Hd := Nd
  clear Nd
  have HB3 := Lib.hid (up_trans HB2.out hb3)
  clear hb3 HB2
  obtain ⟨da, db, dc, dd⟩ := Hd.out.cells
  go_wp2_with fail
  clear da db dc dd
  refine (C3.out _ _ _ _ _ Hd.out.ok).mono ?_; rintro e w4 ⟨A4, c4, B4, k4, rfl, ok4, hb4⟩
  have Nd := Lib.hid ((Hd.out.up hb4).alloc (.cells #[.slice A4 D1.n c4, .slice B4 D1.m k4, .int .i64 D1.fuse, .bool D1.off] 37))
  clear Hd
  have Hd := Nd
  clear Nd
  have Ha := Lib.hid (Vr.new ok4)
  have hbb := up_trans HB3.out hb4
  have HB4 := Lib.hid (hbb.alloc hbb.size (.cells #[.slice A4 D1.n c4, .slice B4 D1.m k4, .int .i64 D1.fuse, .bool D1.off] 37))
  clear hbb ok4 hb4 HB3
  go_upto_region 5 with fail
  generalize w4.alloc (.cells #[.slice A4 D1.n c4, .slice B4 D1.m k4, .int .i64 D1.fuse, .bool D1.off] 37) = W4 at *
  generalize w4.heap.size = g4 at *
  obtain ⟨da, db, dc, dd⟩ := Hd.out.cells
  go_wp2_with fail
  clear da db dc dd
  refine (C4.out _ _ _ _ _ Hd.out.ok).mono ?_; rintro e w5 ⟨A5, c5, B5, k5, rfl, ok5, hb5⟩
  have Nd := Lib.hid ((Hd.out.up hb5).alloc (.cells #[.slice A5 D1.n c5, .slice B5 D1.m k5, .int .i64 D1.fuse, .bool D1.off] 37))
  have Na := Lib.hid ((Ha.out.up hb5).alloc (.cells #[.slice A5 D1.n c5, .slice B5 D1.m k5, .int .i64 D1.fuse, .bool D1.off] 37))
  clear Hd Ha
  have Hd := Nd
  have Ha := Na
  clear Nd Na
  have Hb := Lib.hid (Vr.new ok5)
  have hbb := up_trans HB4.out hb5
  have HB5 := Lib.hid (hbb.alloc hbb.size (.cells #[.slice A5 D1.n c5, .slice B5 D1.m k5, .int .i64 D1.fuse, .bool D1.off] 37))
  clear hbb ok5 hb5 HB4
  go_upto_region 6 with fail
  generalize w5.alloc (.cells #[.slice A5 D1.n c5, .slice B5 D1.m k5, .int .i64 D1.fuse, .bool D1.off] 37) = W5 at *
  generalize w5.heap.size = g5 at *
  obtain ⟨aa, ab, ac, ad⟩ := Ha.out.cells
  obtain ⟨ba, bb, bc, bd⟩ := Hb.out.cells
  go_wp2_with fail
  clear aa ab ac ad ba bb bc bd
  refine (refSame_any Ha.out.ok Hb.out.ok).mono ?_; rintro e w6 ⟨rfl, hb6⟩
  rw [same_self]
  have Nd := Lib.hid (Hd.out.up hb6)
  have Na := Lib.hid (Ha.out.up hb6)
  have Nb := Lib.hid (Hb.out.up hb6)
  clear Hd Ha Hb
  have Hd := Nd
  have Ha := Na
  have Hb := Nb
  clear Nd Na Nb
  have HB6 := Lib.hid (up_trans HB5.out hb6)
  clear hb6 HB5
  go_wp2
  go_ret
  exact ⟨ret_bool (by first | rfl | simp), HB6.out⟩

set_option maxRecDepth 100000 in
set_option maxHeartbeats 3200000 in
theorem lawReads (h : DOk w A c B k d) (hm : (d.m + 1) * 24 ≤ 140737488355328) (base : Int) (b0 : -9223372036854775808 ≤ base) (b1 : base ≤ 9223372036854775807) (x : ByteArray) (hx : x.size ≤ 140737488351232) :
    Calls Try.prog 5 #[.agg #[.slice A d.n c, .slice B d.m k, .int .i64 d.fuse, .bool d.off], .int .i64 base, .string x] w (BoolRet w true) := by
  have c1 := fun W A c B k (h : DOk W A c B k d) => read_any h base b0 b1
  have c2 := fun W A c B k (h : DOk W A c B k d) => write_any h hm base b0 b1 x hx
  by_cases hE : wrE d base x = 0
  rotate_left
  · have g1 : (wrE d base x != 0) = true := bne_iff_ne.2 hE
    generalize rdE d base = E1 at *
    generalize rdX d base = X1 at *
    generalize rdT d base = t1 at *
    generalize wrD d base x = D1 at *
    generalize wrE d base x = E2 at *
    have C1 := Lib.hid c1
    have C2 := Lib.hid c2
    obtain ⟨hV, hB⟩ := cell_start h
    have Hd := Lib.hid hV
    have HB0 := Lib.hid hB
    clear c1 c2 hm hx h hV hB b0 b1 hE
    go_enter Try.func5, Try.ntmps5
    go_upto_region 1 with fail
    generalize w.alloc (.cells #[.slice A d.n c, .slice B d.m k, .int .i64 d.fuse, .bool d.off] 37) = w0 at *
    go_wp2_with fail
    refine (shown_any _).mono ?_; rintro e w1 ⟨rfl, hb1⟩
    have Nd := Lib.hid (Hd.out.up hb1)
    clear Hd
    have Hd := Nd
    clear Nd
    have HB1 := Lib.hid (up_trans HB0.out hb1)
    clear hb1 HB0
    obtain ⟨da, db, dc, dd⟩ := Hd.out.cells
    go_wp2_with fail
    clear da db dc dd
    refine (C1.out _ _ _ _ _ Hd.out.ok).mono ?_; rintro e w2 ⟨rfl, hb2⟩
    have Nd := Lib.hid (Hd.out.up hb2)
    clear Hd
    have Hd := Nd
    clear Nd
    have HB2 := Lib.hid (up_trans HB1.out hb2)
    clear hb2 HB1
    obtain ⟨da, db, dc, dd⟩ := Hd.out.cells
    go_wp2_with fail
    clear da db dc dd
    refine (C2.out _ _ _ _ _ Hd.out.ok).mono ?_; rintro e w3 ⟨A3, c3, B3, k3, rfl, ok3, hb3⟩
    have Nd := Lib.hid ((Hd.out.up hb3).alloc (.cells #[.slice A3 D1.n c3, .slice B3 D1.m k3, .int .i64 D1.fuse, .bool D1.off] 37))
    clear Hd
    have Hd := Nd
    clear Nd
    have Ha := Lib.hid (Vr.new ok3)
    have hbb := up_trans HB2.out hb3
    have HB3 := Lib.hid (hbb.alloc hbb.size (.cells #[.slice A3 D1.n c3, .slice B3 D1.m k3, .int .i64 D1.fuse, .bool D1.off] 37))
    clear hbb ok3 hb3 HB2
    go_upto_region 4 with fail
    generalize w3.alloc (.cells #[.slice A3 D1.n c3, .slice B3 D1.m k3, .int .i64 D1.fuse, .bool D1.off] 37) = W3 at *
    generalize w3.heap.size = g3 at *
    go_wp2
    go_ret
    exact ⟨rfl, HB3.out⟩
  · obtain ⟨e1, e2, e3, e4, e5, e6, e7⟩ := reads_all hE
    have htl := (wr_ok hE).2.2.1
    have c3 := fun W A c B k (h : DOk W A c B k (wrD d base x)) => read_any h base b0 b1
    have c4 := fun W A c B k (h : DOk W A c B k (wrD d base x)) => refFlush_any h
    have c5 := fun W A c B k (h : DOk W A c B k (flushD (wrD d base x))) => read_any h base b0 b1
    rw [hE] at c2
    rw [e1, e2, e3] at c3
    rw [e4] at c4
    rw [e5, e6, e7] at c5
    have hwt : IntKind.u64.wrap ((rdT d base : Int) + 1) = ((rdT d base + 1 : Nat) : Int) := by rw [IntKind.wrap_u64]; omega
    generalize flushD (wrD d base x) = D2 at *
    generalize wrD d base x = D1 at *
    generalize rdE d base = E1 at *
    generalize rdX d base = X1 at *
    generalize rdT d base + 1 = t2 at *
    generalize rdT d base = t1 at *
    have C1 := Lib.hid c1
    have C2 := Lib.hid c2
    have C3 := Lib.hid c3
    have C4 := Lib.hid c4
    have C5 := Lib.hid c5
    obtain ⟨hV, hB⟩ := cell_start h
    have Hd := Lib.hid hV
    have HB0 := Lib.hid hB
    clear c1 c2 c3 c4 c5 hm hx h hV hB b0 b1 hE e1 e2 e3 e4 e5 e6 e7 htl
    go_enter Try.func5, Try.ntmps5
    go_upto_region 1 with fail
    generalize w.alloc (.cells #[.slice A d.n c, .slice B d.m k, .int .i64 d.fuse, .bool d.off] 37) = w0 at *
    go_wp2_with fail
    refine (shown_any _).mono ?_; rintro e w1 ⟨rfl, hb1⟩
    have Nd := Lib.hid (Hd.out.up hb1)
    clear Hd
    have Hd := Nd
    clear Nd
    have HB1 := Lib.hid (up_trans HB0.out hb1)
    clear hb1 HB0
    obtain ⟨da, db, dc, dd⟩ := Hd.out.cells
    go_wp2_with fail
    clear da db dc dd
    refine (C1.out _ _ _ _ _ Hd.out.ok).mono ?_; rintro e w2 ⟨rfl, hb2⟩
    have Nd := Lib.hid (Hd.out.up hb2)
    clear Hd
    have Hd := Nd
    clear Nd
    have HB2 := Lib.hid (up_trans HB1.out hb2)
    clear hb2 HB1
    obtain ⟨da, db, dc, dd⟩ := Hd.out.cells
    go_wp2_with fail
    clear da db dc dd
    refine (C2.out _ _ _ _ _ Hd.out.ok).mono ?_; rintro e w3 ⟨A3, c3, B3, k3, rfl, ok3, hb3⟩
    have Nd := Lib.hid ((Hd.out.up hb3).alloc (.cells #[.slice A3 D1.n c3, .slice B3 D1.m k3, .int .i64 D1.fuse, .bool D1.off] 37))
    clear Hd
    have Hd := Nd
    clear Nd
    have Ha := Lib.hid (Vr.new ok3)
    have hbb := up_trans HB2.out hb3
    have HB3 := Lib.hid (hbb.alloc hbb.size (.cells #[.slice A3 D1.n c3, .slice B3 D1.m k3, .int .i64 D1.fuse, .bool D1.off] 37))
    clear hbb ok3 hb3 HB2
    go_upto_region 4 with fail
    generalize w3.alloc (.cells #[.slice A3 D1.n c3, .slice B3 D1.m k3, .int .i64 D1.fuse, .bool D1.off] 37) = W3 at *
    generalize w3.heap.size = g3 at *
    obtain ⟨aa, ab, ac, ad⟩ := Ha.out.cells
    go_wp2_with fail
    clear aa ab ac ad
    refine (C3.out _ _ _ _ _ Ha.out.ok).mono ?_; rintro e w4 ⟨rfl, hb4⟩
    have Nd := Lib.hid (Hd.out.up hb4)
    have Na := Lib.hid (Ha.out.up hb4)
    clear Hd Ha
    have Hd := Nd
    have Ha := Na
    clear Nd Na
    have HB4 := Lib.hid (up_trans HB3.out hb4)
    clear hb4 HB3
    obtain ⟨aa, ab, ac, ad⟩ := Ha.out.cells
    go_wp2_with fail
    clear aa ab ac ad
    refine (C4.out _ _ _ _ _ Ha.out.ok).mono ?_; rintro e w5 ⟨A5, c5, B5, k5, rfl, ok5, hb5⟩
    have Nd := Lib.hid ((Hd.out.up hb5).alloc (.cells #[.slice A5 D2.n c5, .slice B5 D2.m k5, .int .i64 D2.fuse, .bool D2.off] 37))
    have Na := Lib.hid ((Ha.out.up hb5).alloc (.cells #[.slice A5 D2.n c5, .slice B5 D2.m k5, .int .i64 D2.fuse, .bool D2.off] 37))
    clear Hd Ha
    have Hd := Nd
    have Ha := Na
    clear Nd Na
    have Hb := Lib.hid (Vr.new ok5)
    have hbb := up_trans HB4.out hb5
    have HB5 := Lib.hid (hbb.alloc hbb.size (.cells #[.slice A5 D2.n c5, .slice B5 D2.m k5, .int .i64 D2.fuse, .bool D2.off] 37))
    clear hbb ok5 hb5 HB4
    go_upto_region 8 with fail
    generalize w5.alloc (.cells #[.slice A5 D2.n c5, .slice B5 D2.m k5, .int .i64 D2.fuse, .bool D2.off] 37) = W5 at *
    generalize w5.heap.size = g5 at *
    obtain ⟨ba, bb, bc, bd⟩ := Hb.out.cells
    go_wp2_with fail
    clear ba bb bc bd
    refine (C5.out _ _ _ _ _ Hb.out.ok).mono ?_; rintro e w6 ⟨rfl, hb6⟩
    have Nd := Lib.hid (Hd.out.up hb6)
    have Na := Lib.hid (Ha.out.up hb6)
    have Nb := Lib.hid (Hb.out.up hb6)
    clear Hd Ha Hb
    have Hd := Nd
    have Ha := Na
    have Hb := Nb
    clear Nd Na Nb
    have HB6 := Lib.hid (up_trans HB5.out hb6)
    clear hb6 HB5
    by_cases hq : E1 = 0
    · have g3 : (E1 != 0) = false := by rw [hq]; rfl
      clear hq
      go_wp2
      go_ret
      exact ⟨ret_bool (by first | rfl | simp), HB6.out⟩
    · have g3 : (E1 != 0) = true := bne_iff_ne.2 hq
      clear hq
      go_wp2
      go_ret
      exact ⟨ret_bool (by first | rfl | simp), HB6.out⟩

set_option maxRecDepth 100000 in
set_option maxHeartbeats 3200000 in
theorem lawApart (h : DOk w A c B k d) (hm : (d.m + 1) * 24 ≤ 140737488355328) (base : Int) (b0 : -9223372036854775808 ≤ base) (b1 : base ≤ 9223372036854775807) (x : ByteArray) (hx : x.size ≤ 140737488351232) (slot : Int) :
    Calls Try.prog 8 #[.agg #[.slice A d.n c, .slice B d.m k, .int .i64 d.fuse, .bool d.off, .int .i64 base, .string x, .int .i64 slot]] w (BoolRet w true) := by
  have c1 := fun W A c B k (h : DOk W A c B k d) => refGet_any h slot
  have c2 := fun W A c B k (h : DOk W A c B k d) => write_any h hm base b0 b1 x hx
  have c3 := fun W A c B k (h : DOk W A c B k (wrD d base x)) => refGet_any h slot
  have hbn := h.sz.bn
  obtain ⟨hV, hB⟩ := law_start h (.cells #[.slice A d.n c, .slice B d.m k, .int .i64 d.fuse, .bool d.off, .int .i64 base, .string x, .int .i64 slot] 55)
  have Hd := Lib.hid hV
  have HB0 := Lib.hid hB
  by_cases hs0 : slot = base
  · have g1 : (slot == base) = true := beq_iff_eq.2 hs0
    clear c1 c2 c3 hm hx h hV hB b0 b1 hs0 hbn
    go_enter Try.func8, Try.ntmps8
    go_upto_region 5 with fail
    generalize (w.alloc (.cells #[.slice A d.n c, .slice B d.m k, .int .i64 d.fuse, .bool d.off, .int .i64 base, .string x, .int .i64 slot] 55)).alloc (.cells #[.slice A d.n c, .slice B d.m k, .int .i64 d.fuse, .bool d.off] 37) = w0 at *
    go_wp2_with fail
    refine (shown_any _).mono ?_; rintro e w1 ⟨rfl, hb1⟩
    have Nd := Lib.hid (Hd.out.up hb1)
    clear Hd
    have Hd := Nd
    clear Nd
    have HB1 := Lib.hid (up_trans HB0.out hb1)
    clear hb1 HB0
    go_wp2
    go_ret
    exact ⟨rfl, HB1.out⟩
  have g1 : (slot == base) = false := beq_eq_false_iff_ne.2 hs0
  by_cases hs1 : slot = wrap64 (base + 1)
  · have g2 : (slot == wrap64 (base + 1)) = true := beq_iff_eq.2 hs1
    clear c1 c2 c3 hm hx h hV hB b0 b1 hs0 hs1 hbn
    go_enter Try.func8, Try.ntmps8
    go_upto_region 5 with fail
    generalize (w.alloc (.cells #[.slice A d.n c, .slice B d.m k, .int .i64 d.fuse, .bool d.off, .int .i64 base, .string x, .int .i64 slot] 55)).alloc (.cells #[.slice A d.n c, .slice B d.m k, .int .i64 d.fuse, .bool d.off] 37) = w0 at *
    go_wp2_with fail
    refine (shown_any _).mono ?_; rintro e w1 ⟨rfl, hb1⟩
    have Nd := Lib.hid (Hd.out.up hb1)
    clear Hd
    have Hd := Nd
    clear Nd
    have HB1 := Lib.hid (up_trans HB0.out hb1)
    clear hb1 HB0
    go_wp2
    go_ret
    exact ⟨rfl, HB1.out⟩
  have g2 : (slot == wrap64 (base + 1)) = false := beq_eq_false_iff_ne.2 hs1
  have e1 := apart_slot (d := d) (base := base) (slot := slot) (x := x) hs0 (fun hb => by
    obtain ⟨a0, a1⟩ := both_iff.1 hb
    have hw : wrap64 (base + 1) = base + 1 := IntWalk.wrap64_in _ (by omega)
    rw [hw] at hs1
    exact hs1)
  rw [e1] at c3
  generalize getE (wrD d base x) slot = E4 at *
  generalize getE d slot = E3 at *
  generalize getS d slot = X3 at *
  generalize wrD d base x = D1 at *
  generalize wrE d base x = E2 at *
  have C1 := Lib.hid c1
  have C2 := Lib.hid c2
  have C3 := Lib.hid c3
  clear c1 c2 c3 hm hx h hV hB b0 b1 hs0 hs1 e1 hbn
  go_enter Try.func8, Try.ntmps8
  go_upto_region 5 with fail
  generalize (w.alloc (.cells #[.slice A d.n c, .slice B d.m k, .int .i64 d.fuse, .bool d.off, .int .i64 base, .string x, .int .i64 slot] 55)).alloc (.cells #[.slice A d.n c, .slice B d.m k, .int .i64 d.fuse, .bool d.off] 37) = w0 at *
  go_wp2_with fail
  refine (shown_any _).mono ?_; rintro e w1 ⟨rfl, hb1⟩
  have Nd := Lib.hid (Hd.out.up hb1)
  clear Hd
  have Hd := Nd
  clear Nd
  have HB1 := Lib.hid (up_trans HB0.out hb1)
  clear hb1 HB0
  obtain ⟨da, db, dc, dd⟩ := Hd.out.cells
  go_wp2_with fail
  clear da db dc dd
  refine (C1.out _ _ _ _ _ Hd.out.ok).mono ?_; rintro e w2 ⟨rfl, hb2⟩
  have Nd := Lib.hid (Hd.out.up hb2)
  clear Hd
  have Hd := Nd
  clear Nd
  have HB2 := Lib.hid (up_trans HB1.out hb2)
  clear hb2 HB1
  obtain ⟨da, db, dc, dd⟩ := Hd.out.cells
  go_wp2_with fail
  clear da db dc dd
  refine (C2.out _ _ _ _ _ Hd.out.ok).mono ?_; rintro e w3 ⟨A3, c3, B3, k3, rfl, ok3, hb3⟩
  have Nd := Lib.hid ((Hd.out.up hb3).alloc (.cells #[.slice A3 D1.n c3, .slice B3 D1.m k3, .int .i64 D1.fuse, .bool D1.off] 37))
  clear Hd
  have Hd := Nd
  clear Nd
  have Ha := Lib.hid (Vr.new ok3)
  have hbb := up_trans HB2.out hb3
  have HB3 := Lib.hid (hbb.alloc hbb.size (.cells #[.slice A3 D1.n c3, .slice B3 D1.m k3, .int .i64 D1.fuse, .bool D1.off] 37))
  clear hbb ok3 hb3 HB2
  go_upto_region 10 with fail
  generalize w3.alloc (.cells #[.slice A3 D1.n c3, .slice B3 D1.m k3, .int .i64 D1.fuse, .bool D1.off] 37) = W3 at *
  generalize w3.heap.size = g3 at *
  obtain ⟨aa, ab, ac, ad⟩ := Ha.out.cells
  go_wp2_with fail
  clear aa ab ac ad
  refine (C3.out _ _ _ _ _ Ha.out.ok).mono ?_; rintro e w4 ⟨rfl, hb4⟩
  have Nd := Lib.hid (Hd.out.up hb4)
  have Na := Lib.hid (Ha.out.up hb4)
  clear Hd Ha
  have Hd := Nd
  have Ha := Na
  clear Nd Na
  have HB4 := Lib.hid (up_trans HB3.out hb4)
  clear hb4 HB3
  go_wp2
  go_ret
  exact ⟨ret_bool (by first | rfl | simp), HB4.out⟩
end
end Go.Proofs.Ytnpognhgncnnpaa.Mat
