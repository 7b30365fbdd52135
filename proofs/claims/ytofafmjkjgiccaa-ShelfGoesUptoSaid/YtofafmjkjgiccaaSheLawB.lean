/- The laws ShelfTorn and ShelfRoom: walked from what they ask of the program. -/
import Derived.Test.YtofafmjkjgiccaaSheLawA
namespace Go.Proofs.Ytofafmjkjgiccaa.Mat
open Go.RowKit Fld

section
variable {w : World} {d : Dk} {A B : Option Addr} {c k : Nat}
set_option maxRecDepth 100000 in
set_option maxHeartbeats 6400000 in
theorem lawTorn (C : ShelfOk) (h : DOk w A c B k d) (v i : Int) (x : ByteArray) (hx : x.size ≤ 140737488351232) (hm : (d.m + 1) * 24 ≤ 140737488355328) (tear : Int) :
    Calls Try.prog 9 #[.agg #[.slice A d.n c, .slice B d.m k, .int .i64 d.fuse, .bool d.off], .agg #[.int .i64 v, .int .i64 i, .string x], .int .i64 tear] w (BoolRet w true) := by
  have c1 := fun W A c B k (h : DOk W A c B k d) => refFlush_any h
  have c2 := fun W A c B k (h : DOk W A c B k (flushD d)) => C.find W A c B k (flushD d) h v i
  have hm2 : ((flushD d).m + 1) * 24 ≤ 140737488355328 := by
    unfold flushD
    by_cases e : d.off = true
    · rw [if_pos e]; exact hm
    · rw [if_neg e]; show (0 + 1) * 24 ≤ _; omega
  have c3 := fun W A c B k (h : DOk W A c B k (flushD d)) => C.put W A c B k (flushD d) h hm2 v i x hx
  have CS := Lib.hid (shelfShown_any C)
  obtain ⟨W, hW, hV, hS, hB, hsz⟩ := room_start h v i x
  have HSZ := Lib.hid hsz
  have Hd := Lib.hid hV
  have Hs := Lib.hid hS
  have HB0 := Lib.hid hB
  clear hV hS hB hsz h hm hm2 hx
  by_cases hF : flushE d = 0
  rotate_left
  · have g1 : (flushE d != 0) = true := bne_iff_ne.2 hF
    clear hF
    generalize fdE (flushD d) v i = E2 at *
    generalize fdX (flushD d) v i = X2 at *
    generalize spE (flushD d) v i x = E3 at *
    generalize spD (flushD d) v i x = D2 at *
    generalize flushE d = E1 at *
    generalize flushD d = D1 at *
    clear C
    have C1 := Lib.hid c1
    have C2 := Lib.hid c2
    have C3 := Lib.hid c3
    clear c1 c2 c3
    go_enter Try.func9, Try.ntmps9
    go_upto_region 1 with fail
    rw [← hW]
    clear hW
    go_wp2_with fail
    refine (CS.out _).mono ?_; rintro e w1 ⟨rfl, hb1⟩
    have Hd1 := Lib.hid (Hd.out.up hb1)
    have Hs1 := Lib.hid (Hs.out.up hb1)
    have HB1 := Lib.hid (up_trans HB0.out hb1)
    clear hb1 Hd Hs HB0
    obtain ⟨x0, x1, x2, x3⟩ := Hd1.out.cells
    go_wp2_with fail
    refine (C1.out _ _ _ _ _ Hd1.out.ok).mono ?_; rintro e w2 ⟨A2, c2, B2, k2, rfl, ok2, hb2⟩
    clear x0 x1 x2 x3
    have h2 := Hd1.out.up hb2
    obtain ⟨x0, x1, x2, x3⟩ := h2.cells
    obtain ⟨f0, f1, f2, f3⟩ := h2.bx.free
    have Hd2 := Lib.hid (h2.put ok2)
    have Hs2 := Lib.hid ((Hs1.out.up hb2).put4 (g := w.heap.size) (by omega) (.slice A2 D1.n c2) (.slice B2 D1.m k2) (.int .i64 D1.fuse) (.bool D1.off))
    have HB2 := Lib.hid (put4_below (up_trans HB1.out hb2) (Nat.le_refl _) (.slice A2 D1.n c2) (.slice B2 D1.m k2) (.int .i64 D1.fuse) (.bool D1.off))
    clear h2 ok2 hb2 Hd1 Hs1 HB1
    go_upto_region 3 with fail
    change Code.wp _ _ _ _ (put4 w2 w.heap.size (.slice A2 D1.n c2) (.slice B2 D1.m k2) (.int .i64 D1.fuse) (.bool D1.off))
    generalize put4 w2 w.heap.size (.slice A2 D1.n c2) (.slice B2 D1.m k2) (.int .i64 D1.fuse) (.bool D1.off) = W2 at *
    clear x0 x1 x2 x3 f0 f1 f2 f3
    obtain ⟨y0, y1, y2⟩ := Hs2.out.cells
    have Hk3 := Lib.hid (kx_new W2 v i)
    have Hd3 := Lib.hid (Hd2.out.alloc (.cells #[.int .i64 v, .int .i64 i] 41))
    have Hs3 := Lib.hid (Hs2.out.alloc (.cells #[.int .i64 v, .int .i64 i] 41))
    have HB3 := Lib.hid (HB2.out.alloc HB2.out.size (.cells #[.int .i64 v, .int .i64 i] 41))
    clear Hd2 Hs2 HB2
    go_upto_region 4 with fail
    generalize W2.alloc (.cells #[.int .i64 v, .int .i64 i] 41) = W3 at *
    generalize W2.heap.size = gk at *
    clear y0 y1 y2
    obtain ⟨x0, x1, x2, x3⟩ := Hd3.out.cells
    obtain ⟨k0, k1⟩ := Hk3.out.cells
    go_wp2_with fail
    refine (C2.out _ _ _ _ _ Hd3.out.ok).mono ?_; rintro e w3 ⟨rfl, hb3⟩
    have Hd4 := Lib.hid (Hd3.out.up hb3)
    have Hs4 := Lib.hid (Hs3.out.up hb3)
    have Hk4 := Lib.hid (Hk3.out.up hb3)
    have HB4 := Lib.hid (up_trans HB3.out hb3)
    clear hb3 Hd3 Hs3 Hk3 HB3 x0 x1 x2 x3 k0 k1
    obtain ⟨x0, x1, x2, x3⟩ := Hd4.out.cells
    obtain ⟨y0, y1, y2⟩ := Hs4.out.cells
    go_wp2_with fail
    refine (C3.out _ _ _ _ _ Hd4.out.ok).mono ?_; rintro e w4 ⟨A4, c4, B4, k4, rfl, ok4, hb4⟩
    have hb5 := hb4.alloc hb4.size (.cells #[.slice A4 D2.n c4, .slice B4 D2.m k4, .int .i64 D2.fuse, .bool D2.off] 39)
    have Ha5 := Lib.hid (Vr.new ok4)
    have Hs5 := Lib.hid (Hs4.out.up hb5)
    have Hk5 := Lib.hid (Hk4.out.up hb5)
    have HB5 := Lib.hid (up_trans HB4.out hb5)
    clear ok4 hb4 hb5 Hd4 Hs4 Hk4 HB4 x0 x1 x2 x3 y0 y1 y2
    go_upto_region 6 with fail
    generalize w4.alloc (.cells #[.slice A4 D2.n c4, .slice B4 D2.m k4, .int .i64 D2.fuse, .bool D2.off] 39) = W5 at *
    generalize w4.heap.size = ga at *
    go_wp2
    go_ret
    exact ⟨ret_bool (by first | rfl | simp), HB5.out⟩
  by_cases hE : fdE (flushD d) v i = 0
  · have g1 : (flushE d != 0) = false := by rw [hF]; rfl
    have g2 : (fdE (flushD d) v i == 0) = true := beq_iff_eq.2 hE
    clear hF hE
    generalize fdE (flushD d) v i = E2 at *
    generalize fdX (flushD d) v i = X2 at *
    generalize spE (flushD d) v i x = E3 at *
    generalize spD (flushD d) v i x = D2 at *
    generalize flushE d = E1 at *
    generalize flushD d = D1 at *
    clear C
    have C1 := Lib.hid c1
    have C2 := Lib.hid c2
    have C3 := Lib.hid c3
    clear c1 c2 c3
    go_enter Try.func9, Try.ntmps9
    go_upto_region 1 with fail
    rw [← hW]
    clear hW
    go_wp2_with fail
    refine (CS.out _).mono ?_; rintro e w1 ⟨rfl, hb1⟩
    have Hd1 := Lib.hid (Hd.out.up hb1)
    have Hs1 := Lib.hid (Hs.out.up hb1)
    have HB1 := Lib.hid (up_trans HB0.out hb1)
    clear hb1 Hd Hs HB0
    obtain ⟨x0, x1, x2, x3⟩ := Hd1.out.cells
    go_wp2_with fail
    refine (C1.out _ _ _ _ _ Hd1.out.ok).mono ?_; rintro e w2 ⟨A2, c2, B2, k2, rfl, ok2, hb2⟩
    clear x0 x1 x2 x3
    have h2 := Hd1.out.up hb2
    obtain ⟨x0, x1, x2, x3⟩ := h2.cells
    obtain ⟨f0, f1, f2, f3⟩ := h2.bx.free
    have Hd2 := Lib.hid (h2.put ok2)
    have Hs2 := Lib.hid ((Hs1.out.up hb2).put4 (g := w.heap.size) (by omega) (.slice A2 D1.n c2) (.slice B2 D1.m k2) (.int .i64 D1.fuse) (.bool D1.off))
    have HB2 := Lib.hid (put4_below (up_trans HB1.out hb2) (Nat.le_refl _) (.slice A2 D1.n c2) (.slice B2 D1.m k2) (.int .i64 D1.fuse) (.bool D1.off))
    clear h2 ok2 hb2 Hd1 Hs1 HB1
    go_upto_region 3 with fail
    change Code.wp _ _ _ _ (put4 w2 w.heap.size (.slice A2 D1.n c2) (.slice B2 D1.m k2) (.int .i64 D1.fuse) (.bool D1.off))
    generalize put4 w2 w.heap.size (.slice A2 D1.n c2) (.slice B2 D1.m k2) (.int .i64 D1.fuse) (.bool D1.off) = W2 at *
    clear x0 x1 x2 x3 f0 f1 f2 f3
    obtain ⟨y0, y1, y2⟩ := Hs2.out.cells
    have Hk3 := Lib.hid (kx_new W2 v i)
    have Hd3 := Lib.hid (Hd2.out.alloc (.cells #[.int .i64 v, .int .i64 i] 41))
    have Hs3 := Lib.hid (Hs2.out.alloc (.cells #[.int .i64 v, .int .i64 i] 41))
    have HB3 := Lib.hid (HB2.out.alloc HB2.out.size (.cells #[.int .i64 v, .int .i64 i] 41))
    clear Hd2 Hs2 HB2
    go_upto_region 4 with fail
    generalize W2.alloc (.cells #[.int .i64 v, .int .i64 i] 41) = W3 at *
    generalize W2.heap.size = gk at *
    clear y0 y1 y2
    obtain ⟨x0, x1, x2, x3⟩ := Hd3.out.cells
    obtain ⟨k0, k1⟩ := Hk3.out.cells
    go_wp2_with fail
    refine (C2.out _ _ _ _ _ Hd3.out.ok).mono ?_; rintro e w3 ⟨rfl, hb3⟩
    have Hd4 := Lib.hid (Hd3.out.up hb3)
    have Hs4 := Lib.hid (Hs3.out.up hb3)
    have Hk4 := Lib.hid (Hk3.out.up hb3)
    have HB4 := Lib.hid (up_trans HB3.out hb3)
    clear hb3 Hd3 Hs3 Hk3 HB3 x0 x1 x2 x3 k0 k1
    obtain ⟨x0, x1, x2, x3⟩ := Hd4.out.cells
    obtain ⟨y0, y1, y2⟩ := Hs4.out.cells
    go_wp2_with fail
    refine (C3.out _ _ _ _ _ Hd4.out.ok).mono ?_; rintro e w4 ⟨A4, c4, B4, k4, rfl, ok4, hb4⟩
    have hb5 := hb4.alloc hb4.size (.cells #[.slice A4 D2.n c4, .slice B4 D2.m k4, .int .i64 D2.fuse, .bool D2.off] 39)
    have Ha5 := Lib.hid (Vr.new ok4)
    have Hs5 := Lib.hid (Hs4.out.up hb5)
    have Hk5 := Lib.hid (Hk4.out.up hb5)
    have HB5 := Lib.hid (up_trans HB4.out hb5)
    clear ok4 hb4 hb5 Hd4 Hs4 Hk4 HB4 x0 x1 x2 x3 y0 y1 y2
    go_upto_region 6 with fail
    generalize w4.alloc (.cells #[.slice A4 D2.n c4, .slice B4 D2.m k4, .int .i64 D2.fuse, .bool D2.off] 39) = W5 at *
    generalize w4.heap.size = ga at *
    go_wp2
    go_ret
    exact ⟨ret_bool (by first | rfl | simp), HB5.out⟩
  by_cases hP : spE (flushD d) v i x = 0
  rotate_left
  · have g1 : (flushE d != 0) = false := by rw [hF]; rfl
    have g2 : (fdE (flushD d) v i == 0) = false := beq_eq_false_iff_ne.2 hE
    have g3 : (spE (flushD d) v i x != 0) = true := bne_iff_ne.2 hP
    clear hF hE hP
    generalize fdE (flushD d) v i = E2 at *
    generalize fdX (flushD d) v i = X2 at *
    generalize spE (flushD d) v i x = E3 at *
    generalize spD (flushD d) v i x = D2 at *
    generalize flushE d = E1 at *
    generalize flushD d = D1 at *
    clear C
    have C1 := Lib.hid c1
    have C2 := Lib.hid c2
    have C3 := Lib.hid c3
    clear c1 c2 c3
    go_enter Try.func9, Try.ntmps9
    go_upto_region 1 with fail
    rw [← hW]
    clear hW
    go_wp2_with fail
    refine (CS.out _).mono ?_; rintro e w1 ⟨rfl, hb1⟩
    have Hd1 := Lib.hid (Hd.out.up hb1)
    have Hs1 := Lib.hid (Hs.out.up hb1)
    have HB1 := Lib.hid (up_trans HB0.out hb1)
    clear hb1 Hd Hs HB0
    obtain ⟨x0, x1, x2, x3⟩ := Hd1.out.cells
    go_wp2_with fail
    refine (C1.out _ _ _ _ _ Hd1.out.ok).mono ?_; rintro e w2 ⟨A2, c2, B2, k2, rfl, ok2, hb2⟩
    clear x0 x1 x2 x3
    have h2 := Hd1.out.up hb2
    obtain ⟨x0, x1, x2, x3⟩ := h2.cells
    obtain ⟨f0, f1, f2, f3⟩ := h2.bx.free
    have Hd2 := Lib.hid (h2.put ok2)
    have Hs2 := Lib.hid ((Hs1.out.up hb2).put4 (g := w.heap.size) (by omega) (.slice A2 D1.n c2) (.slice B2 D1.m k2) (.int .i64 D1.fuse) (.bool D1.off))
    have HB2 := Lib.hid (put4_below (up_trans HB1.out hb2) (Nat.le_refl _) (.slice A2 D1.n c2) (.slice B2 D1.m k2) (.int .i64 D1.fuse) (.bool D1.off))
    clear h2 ok2 hb2 Hd1 Hs1 HB1
    go_upto_region 3 with fail
    change Code.wp _ _ _ _ (put4 w2 w.heap.size (.slice A2 D1.n c2) (.slice B2 D1.m k2) (.int .i64 D1.fuse) (.bool D1.off))
    generalize put4 w2 w.heap.size (.slice A2 D1.n c2) (.slice B2 D1.m k2) (.int .i64 D1.fuse) (.bool D1.off) = W2 at *
    clear x0 x1 x2 x3 f0 f1 f2 f3
    obtain ⟨y0, y1, y2⟩ := Hs2.out.cells
    have Hk3 := Lib.hid (kx_new W2 v i)
    have Hd3 := Lib.hid (Hd2.out.alloc (.cells #[.int .i64 v, .int .i64 i] 41))
    have Hs3 := Lib.hid (Hs2.out.alloc (.cells #[.int .i64 v, .int .i64 i] 41))
    have HB3 := Lib.hid (HB2.out.alloc HB2.out.size (.cells #[.int .i64 v, .int .i64 i] 41))
    clear Hd2 Hs2 HB2
    go_upto_region 4 with fail
    generalize W2.alloc (.cells #[.int .i64 v, .int .i64 i] 41) = W3 at *
    generalize W2.heap.size = gk at *
    clear y0 y1 y2
    obtain ⟨x0, x1, x2, x3⟩ := Hd3.out.cells
    obtain ⟨k0, k1⟩ := Hk3.out.cells
    go_wp2_with fail
    refine (C2.out _ _ _ _ _ Hd3.out.ok).mono ?_; rintro e w3 ⟨rfl, hb3⟩
    have Hd4 := Lib.hid (Hd3.out.up hb3)
    have Hs4 := Lib.hid (Hs3.out.up hb3)
    have Hk4 := Lib.hid (Hk3.out.up hb3)
    have HB4 := Lib.hid (up_trans HB3.out hb3)
    clear hb3 Hd3 Hs3 Hk3 HB3 x0 x1 x2 x3 k0 k1
    obtain ⟨x0, x1, x2, x3⟩ := Hd4.out.cells
    obtain ⟨y0, y1, y2⟩ := Hs4.out.cells
    go_wp2_with fail
    refine (C3.out _ _ _ _ _ Hd4.out.ok).mono ?_; rintro e w4 ⟨A4, c4, B4, k4, rfl, ok4, hb4⟩
    have hb5 := hb4.alloc hb4.size (.cells #[.slice A4 D2.n c4, .slice B4 D2.m k4, .int .i64 D2.fuse, .bool D2.off] 39)
    have Ha5 := Lib.hid (Vr.new ok4)
    have Hs5 := Lib.hid (Hs4.out.up hb5)
    have Hk5 := Lib.hid (Hk4.out.up hb5)
    have HB5 := Lib.hid (up_trans HB4.out hb5)
    clear ok4 hb4 hb5 Hd4 Hs4 Hk4 HB4 x0 x1 x2 x3 y0 y1 y2
    go_upto_region 6 with fail
    generalize w4.alloc (.cells #[.slice A4 D2.n c4, .slice B4 D2.m k4, .int .i64 D2.fuse, .bool D2.off] 39) = W5 at *
    generalize w4.heap.size = ga at *
    go_wp2
    go_ret
    exact ⟨ret_bool (by first | rfl | simp), HB5.out⟩
  have h7 : fdE (flushD d) v i = 7 := by rcases fdE_or (flushD d) v i with e | e <;> omega
  have htorn := torn_told (flushed_n hF).2 h7 hP 0 tear
  have c4 := fun W A c B k (h : DOk W A c B k (spD (flushD d) v i x)) => refCrash_any h 0 tear
  have c5 := fun W A c B k (h : DOk W A c B k (crashD (spD (flushD d) v i x) 0 tear)) => C.find W A c B k _ h v i
  rw [hF] at c1
  rw [h7] at c2
  rw [hP] at c3
  clear hF hE hP h7 C
  generalize fdE (crashD (spD (flushD d) v i x) 0 tear) v i = E5 at *
  generalize fdX (crashD (spD (flushD d) v i x) 0 tear) v i = X5 at *
  generalize crashD (spD (flushD d) v i x) 0 tear = D3 at *
  generalize fdX (flushD d) v i = X2 at *
  generalize spD (flushD d) v i x = D2 at *
  generalize flushD d = D1 at *
  have C4 := Lib.hid c4
  have C5 := Lib.hid c5
  have HT := Lib.hid htorn
  clear c4 c5 htorn
  have C1 := Lib.hid c1
  have C2 := Lib.hid c2
  have C3 := Lib.hid c3
  clear c1 c2 c3
  go_enter Try.func9, Try.ntmps9
  go_upto_region 1 with fail
  rw [← hW]
  clear hW
  go_wp2_with fail
  refine (CS.out _).mono ?_; rintro e w1 ⟨rfl, hb1⟩
  have Hd1 := Lib.hid (Hd.out.up hb1)
  have Hs1 := Lib.hid (Hs.out.up hb1)
  have HB1 := Lib.hid (up_trans HB0.out hb1)
  clear hb1 Hd Hs HB0
  obtain ⟨x0, x1, x2, x3⟩ := Hd1.out.cells
  go_wp2_with fail
  refine (C1.out _ _ _ _ _ Hd1.out.ok).mono ?_; rintro e w2 ⟨A2, c2, B2, k2, rfl, ok2, hb2⟩
  clear x0 x1 x2 x3
  have h2 := Hd1.out.up hb2
  obtain ⟨x0, x1, x2, x3⟩ := h2.cells
  obtain ⟨f0, f1, f2, f3⟩ := h2.bx.free
  have Hd2 := Lib.hid (h2.put ok2)
  have Hs2 := Lib.hid ((Hs1.out.up hb2).put4 (g := w.heap.size) (by omega) (.slice A2 D1.n c2) (.slice B2 D1.m k2) (.int .i64 D1.fuse) (.bool D1.off))
  have HB2 := Lib.hid (put4_below (up_trans HB1.out hb2) (Nat.le_refl _) (.slice A2 D1.n c2) (.slice B2 D1.m k2) (.int .i64 D1.fuse) (.bool D1.off))
  clear h2 ok2 hb2 Hd1 Hs1 HB1
  go_upto_region 3 with fail
  change Code.wp _ _ _ _ (put4 w2 w.heap.size (.slice A2 D1.n c2) (.slice B2 D1.m k2) (.int .i64 D1.fuse) (.bool D1.off))
  generalize put4 w2 w.heap.size (.slice A2 D1.n c2) (.slice B2 D1.m k2) (.int .i64 D1.fuse) (.bool D1.off) = W2 at *
  clear x0 x1 x2 x3 f0 f1 f2 f3
  obtain ⟨y0, y1, y2⟩ := Hs2.out.cells
  have Hk3 := Lib.hid (kx_new W2 v i)
  have Hd3 := Lib.hid (Hd2.out.alloc (.cells #[.int .i64 v, .int .i64 i] 41))
  have Hs3 := Lib.hid (Hs2.out.alloc (.cells #[.int .i64 v, .int .i64 i] 41))
  have HB3 := Lib.hid (HB2.out.alloc HB2.out.size (.cells #[.int .i64 v, .int .i64 i] 41))
  clear Hd2 Hs2 HB2
  go_upto_region 4 with fail
  generalize W2.alloc (.cells #[.int .i64 v, .int .i64 i] 41) = W3 at *
  generalize W2.heap.size = gk at *
  clear y0 y1 y2
  obtain ⟨x0, x1, x2, x3⟩ := Hd3.out.cells
  obtain ⟨k0, k1⟩ := Hk3.out.cells
  go_wp2_with fail
  refine (C2.out _ _ _ _ _ Hd3.out.ok).mono ?_; rintro e w3 ⟨rfl, hb3⟩
  have Hd4 := Lib.hid (Hd3.out.up hb3)
  have Hs4 := Lib.hid (Hs3.out.up hb3)
  have Hk4 := Lib.hid (Hk3.out.up hb3)
  have HB4 := Lib.hid (up_trans HB3.out hb3)
  clear hb3 Hd3 Hs3 Hk3 HB3 x0 x1 x2 x3 k0 k1
  obtain ⟨x0, x1, x2, x3⟩ := Hd4.out.cells
  obtain ⟨y0, y1, y2⟩ := Hs4.out.cells
  go_wp2_with fail
  refine (C3.out _ _ _ _ _ Hd4.out.ok).mono ?_; rintro e w4 ⟨A4, c4, B4, k4, rfl, ok4, hb4⟩
  have hb5 := hb4.alloc hb4.size (.cells #[.slice A4 D2.n c4, .slice B4 D2.m k4, .int .i64 D2.fuse, .bool D2.off] 39)
  have Ha5 := Lib.hid (Vr.new ok4)
  have Hs5 := Lib.hid (Hs4.out.up hb5)
  have Hk5 := Lib.hid (Hk4.out.up hb5)
  have HB5 := Lib.hid (up_trans HB4.out hb5)
  clear ok4 hb4 hb5 Hd4 Hs4 Hk4 HB4 x0 x1 x2 x3 y0 y1 y2
  go_upto_region 6 with fail
  generalize w4.alloc (.cells #[.slice A4 D2.n c4, .slice B4 D2.m k4, .int .i64 D2.fuse, .bool D2.off] 39) = W5 at *
  generalize w4.heap.size = ga at *
  obtain ⟨x0, x1, x2, x3⟩ := Ha5.out.cells
  obtain ⟨k0, k1⟩ := Hk5.out.cells
  have K : Hid (∀ W, Below W5.heap.size W5 W → (W.cell? ⟨ga, 0, none⟩ = some (.slice A4 D2.n c4) ∧ W.cell? ⟨ga, 1, none⟩ = some (.slice B4 D2.m k4) ∧ W.cell? ⟨ga, 2, none⟩ = some (.int .i64 D2.fuse) ∧ W.cell? ⟨ga, 3, none⟩ = some (.bool D2.off)) ∧ W.cell? ⟨gk, 0, none⟩ = some (.int .i64 v) ∧ W.cell? ⟨gk, 1, none⟩ = some (.int .i64 i)) := Lib.hid (fun W hb => ⟨(Ha5.out.up hb).cells, (Hk5.out.up hb).cells⟩)
  go_upto_region 8 with fail
  go_region_held3 (fun W => (W.cell? ⟨ga, 0, none⟩ = some (.slice A4 D2.n c4) ∧ W.cell? ⟨ga, 1, none⟩ = some (.slice B4 D2.m k4) ∧ W.cell? ⟨ga, 2, none⟩ = some (.int .i64 D2.fuse) ∧ W.cell? ⟨ga, 3, none⟩ = some (.bool D2.off)) ∧ W.cell? ⟨gk, 0, none⟩ = some (.int .i64 v) ∧ W.cell? ⟨gk, 1, none⟩ = some (.int .i64 i))
    (first | exact ⟨⟨x0, x1, x2, x3⟩, k0, k1⟩ | exact K.out _ b6.out | exact K.out _ b7.out | go_keep)
    (first
      | (go_at_call 34; (with_reducible refine Calls.mono (C4.out _ _ _ _ _ Ha5.out.ok.drew) ?_); rintro e w6 ⟨A6, c6, B6, k6, rfl, ok6, hb6⟩; have b6 : Hid (Below W5.heap.size W5 w6) := Lib.hid (below_of_drew hb6); have OK6 := Lib.hid ok6; clear ok6 hb6)
      | (go_at_call 24; (with_reducible refine Calls.mono (C5.out _ _ _ _ _ OK6.out) ?_); rintro e w7 ⟨rfl, hb7⟩; have b7 : Hid (Below W5.heap.size W5 w7) := Lib.hid (up_trans b6.out hb7); clear hb7))
  clear x0 x1 x2 x3 k0 k1
  obtain ⟨y0, y1, y2⟩ := (Hs5.out.up b7.out).cells
  rcases HT.out with e | ⟨e, e2⟩
  · subst e
    go_wp2
    go_ret
    exact ⟨ret_bool (by first | rfl | simp), up_trans HB5.out b7.out⟩
  · subst e e2
    have g1 := (str_yes (s := X5) rfl).1
    go_wp2
    go_ret
    exact ⟨ret_bool (by first | rfl | simp), up_trans HB5.out b7.out⟩
end
end Go.Proofs.Ytofafmjkjgiccaa.Mat
