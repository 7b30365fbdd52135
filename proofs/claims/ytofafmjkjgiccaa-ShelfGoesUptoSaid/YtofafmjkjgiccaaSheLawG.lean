/- The law ShelfLasts: walked from what it asks of the program. -/
import Derived.Test.YtofafmjkjgiccaaSheLawF
namespace Go.Proofs.Ytofafmjkjgiccaa.Mat
open Go.RowKit Fld

/-- shards that are read -/
def Lr (w : World) (B : Nat) (A : Option Addr) (n : Nat) (V I : Nat → Int) (X : Nat → ByteArray) : Prop :=
  0 < n → ∃ ad, A = some ad ∧ ad.block < B ∧ ∀ r, r < n → w.cell? (ad.add (r * 3)) = some (.int .i64 (V r)) ∧ w.cell? (ad.add (r * 3 + 1)) = some (.int .i64 (I r)) ∧ w.cell? (ad.add (r * 3 + 2)) = some (.string (X r))
section
variable {w w' : World} {B B' n : Nat} {A : Option Addr} {V I : Nat → Int} {X : Nat → ByteArray}
theorem Lr.below (h : Lr w B A n V I X) (hb : Below B w w') (hB : B ≤ B') : Lr w' B' A n V I X := fun hn => by
  obtain ⟨ad, e, hl, hc⟩ := h hn
  exact ⟨ad, e, by omega, fun r hr => ⟨(hb.cell (by rw [block_of_add]; exact hl)).trans (hc r hr).1, (hb.cell (by rw [block_of_add]; exact hl)).trans (hc r hr).2.1, (hb.cell (by rw [block_of_add]; exact hl)).trans (hc r hr).2.2⟩⟩
theorem Lr.at_ (h : Lr w B A n V I X) {r : Nat} (hr : r < n) :
    ∃ ad, A = some ad ∧ ad.block < B ∧ w.cell? (ad.add (r * 3)) = some (.int .i64 (V r)) ∧ w.cell? ⟨(ad.add (r * 3)).block, (ad.add (r * 3)).off + 1, none⟩ = some (.int .i64 (I r)) ∧ w.cell? ⟨(ad.add (r * 3)).block, (ad.add (r * 3)).off + 2, none⟩ = some (.string (X r)) := by
  obtain ⟨ad, e, hl, hc⟩ := h (by omega)
  exact ⟨ad, e, hl, (hc r hr).1, by rw [← add_pos _ _ (by omega), add_add]; exact (hc r hr).2.1, by rw [← add_pos _ _ (by omega), add_add]; exact (hc r hr).2.2⟩
end
section
variable {w : World} {d : Dk} {A B C : Option Addr} {c k ln lc : Nat} {LV LI : Nat → Int} {LX : Nat → ByteArray}
theorem lasts_start (h : DOk w A c B k d) (v i : Int) (x : ByteArray) (keep tear : Int) : Vr (((w.alloc (.cells #[.slice A d.n c, .slice B d.m k, .int .i64 d.fuse, .bool d.off, .int .i64 v, .int .i64 i, .string x, .slice C ln lc, .int .i64 keep, .int .i64 tear] 62)).alloc (.cells #[.slice A d.n c, .slice B d.m k, .int .i64 d.fuse, .bool d.off] 39)).alloc (.cells #[.int .i64 v, .int .i64 i, .string x] 23)) (w.heap.size + 1) d A c B k ∧ Sx (((w.alloc (.cells #[.slice A d.n c, .slice B d.m k, .int .i64 d.fuse, .bool d.off, .int .i64 v, .int .i64 i, .string x, .slice C ln lc, .int .i64 keep, .int .i64 tear] 62)).alloc (.cells #[.slice A d.n c, .slice B d.m k, .int .i64 d.fuse, .bool d.off] 39)).alloc (.cells #[.int .i64 v, .int .i64 i, .string x] 23)) (w.heap.size + 1 + 1) v i x ∧ Below w.heap.size w (((w.alloc (.cells #[.slice A d.n c, .slice B d.m k, .int .i64 d.fuse, .bool d.off, .int .i64 v, .int .i64 i, .string x, .slice C ln lc, .int .i64 keep, .int .i64 tear] 62)).alloc (.cells #[.slice A d.n c, .slice B d.m k, .int .i64 d.fuse, .bool d.off] 39)).alloc (.cells #[.int .i64 v, .int .i64 i, .string x] 23)) := by
  obtain ⟨h1, h2⟩ := law_start h (.cells #[.slice A d.n c, .slice B d.m k, .int .i64 d.fuse, .bool d.off, .int .i64 v, .int .i64 i, .string x, .slice C ln lc, .int .i64 keep, .int .i64 tear] 62)
  have hs := sx_new ((w.alloc (.cells #[.slice A d.n c, .slice B d.m k, .int .i64 d.fuse, .bool d.off, .int .i64 v, .int .i64 i, .string x, .slice C ln lc, .int .i64 keep, .int .i64 tear] 62)).alloc (.cells #[.slice A d.n c, .slice B d.m k, .int .i64 d.fuse, .bool d.off] 39)) v i x
  rw [size_alloc, size_alloc] at hs
  exact ⟨h1.alloc _, hs, h2.alloc h2.size _⟩
theorem m_lasts {a b : Nat} (h : b * 32 ≤ 140737488351232) (hq : a ≤ b) : (a + 1) * 24 ≤ 140737488355328 := by omega

set_option maxRecDepth 100000 in
set_option maxHeartbeats 6400000 in
theorem lawShLasts (P : ShelfOk) (h : DOk w A c B k d) (hm : (d.m + 1) * 24 ≤ 140737488355328) (v i : Int) (x : ByteArray) (hx : x.size ≤ 140737488351232) (hL : Lr w w.heap.size C ln LV LI LX) (hl : ln * 32 ≤ 140737488351232) (hz : ∀ r, r < ln → (LX r).size ≤ 140737488351232) (keep tear : Int) :
    Calls Try.prog 6 #[.agg #[.slice A d.n c, .slice B d.m k, .int .i64 d.fuse, .bool d.off, .int .i64 v, .int .i64 i, .string x, .slice C ln lc, .int .i64 keep, .int .i64 tear]] w (BoolRet w true) := by
  have c1 := fun W A c B k (h : DOk W A c B k d) => P.put W A c B k d h hm v i x hx
  have CS := Lib.hid (shelfShown_any P)
  have CP := Lib.hid P
  have HL := Lib.hid hL
  have HZ := Lib.hid hz
  have HLL := Lib.hid hl
  have hl63 : ln ≤ 9223372036854775807 := by omega
  obtain ⟨hV, hS, hB⟩ := lasts_start (C := C) (ln := ln) (lc := lc) h v i x keep tear
  have Hd := Lib.hid hV
  have Hs := Lib.hid hS
  have HB0 := Lib.hid hB
  clear hV hS hB h hm hx hL hz hl
  by_cases hP : spE d v i x = 0
  rotate_left
  · have g1 : (spE d v i x != 0) = true := bne_iff_ne.2 hP
    generalize spE d v i x = E1 at *
    generalize spD d v i x = D1 at *
    clear hP
    have C1 := Lib.hid c1
    clear c1
    go_enter Try.func6, Try.ntmps6
    go_upto_region 6 with fail
    generalize ((w.alloc (.cells #[.slice A d.n c, .slice B d.m k, .int .i64 d.fuse, .bool d.off, .int .i64 v, .int .i64 i, .string x, .slice C ln lc, .int .i64 keep, .int .i64 tear] 62)).alloc (.cells #[.slice A d.n c, .slice B d.m k, .int .i64 d.fuse, .bool d.off] 39)).alloc (.cells #[.int .i64 v, .int .i64 i, .string x] 23) = w0 at *
    go_wp2_with fail
    refine (CS.out _).mono ?_; rintro e w1 ⟨rfl, hb1⟩
    have hb2 := hb1.alloc hb1.size (.cells #[.int .i64 v, .int .i64 i] 41)
    have Hd1 := Lib.hid (Hd.out.up hb2)
    have Hs1 := Lib.hid (Hs.out.up hb2)
    have Hk1 := Lib.hid (kx_new w1 v i)
    have HG : Hid (w.heap.size + 1 + 1 < w1.heap.size) := Lib.hid (by have := Hs.out.lt_; have := hb1.size; omega)
    have HB1 := Lib.hid (up_trans HB0.out hb2)
    obtain ⟨y0, y1, y2⟩ := (Hs.out.up hb1).cells
    clear hb1 hb2 Hd Hs HB0
    go_upto_region 8 with fail
    generalize w1.alloc (.cells #[.int .i64 v, .int .i64 i] 41) = W1 at *
    generalize w1.heap.size = gkey at *
    clear y0 y1 y2
    obtain ⟨x0, x1, x2, x3⟩ := Hd1.out.cells
    obtain ⟨y0, y1, y2⟩ := Hs1.out.cells
    go_wp2_with fail
    refine (C1.out _ _ _ _ _ Hd1.out.ok).mono ?_; rintro e w2 ⟨A2, c2, B2, k2, rfl, ok2, hb2⟩
    clear x0 x1 x2 x3 y0 y1 y2
    have h2 := Hd1.out.up hb2
    obtain ⟨x0, x1, x2, x3⟩ := h2.cells
    obtain ⟨f0, f1, f2, f3⟩ := h2.bx.free
    have Hd2 := Lib.hid (h2.put ok2)
    have Hs2 := Lib.hid ((Hs1.out.up hb2).put4 (g := w.heap.size + 1) (by omega) (.slice A2 D1.n c2) (.slice B2 D1.m k2) (.int .i64 D1.fuse) (.bool D1.off))
    have Hk2 := Lib.hid ((Hk1.out.up hb2).put4 (g := w.heap.size + 1) (by have := HG.out; omega) (.slice A2 D1.n c2) (.slice B2 D1.m k2) (.int .i64 D1.fuse) (.bool D1.off))
    have HB2 := Lib.hid (put4_below (up_trans HB1.out hb2) (show w.heap.size ≤ w.heap.size + 1 by omega) (.slice A2 D1.n c2) (.slice B2 D1.m k2) (.int .i64 D1.fuse) (.bool D1.off))
    clear h2 ok2 hb2 Hd1 Hs1 Hk1 HB1
    go_upto_region 9 with fail
    change Code.wp _ _ _ _ (put4 w2 (w.heap.size + 1) (.slice A2 D1.n c2) (.slice B2 D1.m k2) (.int .i64 D1.fuse) (.bool D1.off))
    generalize put4 w2 (w.heap.size + 1) (.slice A2 D1.n c2) (.slice B2 D1.m k2) (.int .i64 D1.fuse) (.bool D1.off) = W2 at *
    clear x0 x1 x2 x3 f0 f1 f2 f3
    go_wp2
    go_ret
    exact ⟨ret_bool (by first | rfl | simp), HB2.out⟩
  obtain ⟨p1, p2⟩ := put_found hP
  have hst := kept_start hP
  rw [hP] at c1
  have c2 := fun W A c B k (h : DOk W A c B k (spD d v i x)) => CP.out.find W A c B k _ h v i
  have c3 := fun W A c B k (h : DOk W A c B k (spD d v i x)) => refFlush_any h
  rw [p1, p2] at c2
  have C2 := Lib.hid c2
  have C3 := Lib.hid c3
  have HST := Lib.hid hst
  clear p1 p2 hst hP c2 c3
  generalize spD d v i x = D1 at *
  have g0 := (str_yes (s := x) rfl).2
  by_cases hF : flushE D1 = 0
  rotate_left
  · have g1 : (flushE D1 != 0) = true := bne_iff_ne.2 hF
    generalize flushE D1 = E2 at *
    clear hF HST
    generalize flushD D1 = D0 at *
    have C1 := Lib.hid c1
    clear c1
    go_enter Try.func6, Try.ntmps6
    go_upto_region 6 with fail
    generalize ((w.alloc (.cells #[.slice A d.n c, .slice B d.m k, .int .i64 d.fuse, .bool d.off, .int .i64 v, .int .i64 i, .string x, .slice C ln lc, .int .i64 keep, .int .i64 tear] 62)).alloc (.cells #[.slice A d.n c, .slice B d.m k, .int .i64 d.fuse, .bool d.off] 39)).alloc (.cells #[.int .i64 v, .int .i64 i, .string x] 23) = w0 at *
    go_wp2_with fail
    refine (CS.out _).mono ?_; rintro e w1 ⟨rfl, hb1⟩
    have hb2 := hb1.alloc hb1.size (.cells #[.int .i64 v, .int .i64 i] 41)
    have Hd1 := Lib.hid (Hd.out.up hb2)
    have Hs1 := Lib.hid (Hs.out.up hb2)
    have Hk1 := Lib.hid (kx_new w1 v i)
    have HG : Hid (w.heap.size + 1 + 1 < w1.heap.size) := Lib.hid (by have := Hs.out.lt_; have := hb1.size; omega)
    have HB1 := Lib.hid (up_trans HB0.out hb2)
    obtain ⟨y0, y1, y2⟩ := (Hs.out.up hb1).cells
    clear hb1 hb2 Hd Hs HB0
    go_upto_region 8 with fail
    generalize w1.alloc (.cells #[.int .i64 v, .int .i64 i] 41) = W1 at *
    generalize w1.heap.size = gkey at *
    clear y0 y1 y2
    obtain ⟨x0, x1, x2, x3⟩ := Hd1.out.cells
    obtain ⟨y0, y1, y2⟩ := Hs1.out.cells
    go_wp2_with fail
    refine (C1.out _ _ _ _ _ Hd1.out.ok).mono ?_; rintro e w2 ⟨A2, c2, B2, k2, rfl, ok2, hb2⟩
    clear x0 x1 x2 x3 y0 y1 y2
    have h2 := Hd1.out.up hb2
    obtain ⟨x0, x1, x2, x3⟩ := h2.cells
    obtain ⟨f0, f1, f2, f3⟩ := h2.bx.free
    have Hd2 := Lib.hid (h2.put ok2)
    have Hs2 := Lib.hid ((Hs1.out.up hb2).put4 (g := w.heap.size + 1) (by omega) (.slice A2 D1.n c2) (.slice B2 D1.m k2) (.int .i64 D1.fuse) (.bool D1.off))
    have Hk2 := Lib.hid ((Hk1.out.up hb2).put4 (g := w.heap.size + 1) (by have := HG.out; omega) (.slice A2 D1.n c2) (.slice B2 D1.m k2) (.int .i64 D1.fuse) (.bool D1.off))
    have HB2 := Lib.hid (put4_below (up_trans HB1.out hb2) (show w.heap.size ≤ w.heap.size + 1 by omega) (.slice A2 D1.n c2) (.slice B2 D1.m k2) (.int .i64 D1.fuse) (.bool D1.off))
    clear h2 ok2 hb2 Hd1 Hs1 Hk1 HB1
    go_upto_region 9 with fail
    change Code.wp _ _ _ _ (put4 w2 (w.heap.size + 1) (.slice A2 D1.n c2) (.slice B2 D1.m k2) (.int .i64 D1.fuse) (.bool D1.off))
    generalize put4 w2 (w.heap.size + 1) (.slice A2 D1.n c2) (.slice B2 D1.m k2) (.int .i64 D1.fuse) (.bool D1.off) = W2 at *
    clear x0 x1 x2 x3 f0 f1 f2 f3
    obtain ⟨x0, x1, x2, x3⟩ := Hd2.out.cells
    obtain ⟨k0, k1⟩ := Hk2.out.cells
    go_wp2_with fail
    refine (C2.out _ _ _ _ _ Hd2.out.ok).mono ?_; rintro e w3 ⟨rfl, hb3⟩
    have Hd3 := Lib.hid (Hd2.out.up hb3)
    have Hs3 := Lib.hid (Hs2.out.up hb3)
    have Hk3 := Lib.hid (Hk2.out.up hb3)
    have HB3 := Lib.hid (up_trans HB2.out hb3)
    clear hb3 Hd2 Hs2 Hk2 HB2 x0 x1 x2 x3 k0 k1
    obtain ⟨x0, x1, x2, x3⟩ := Hd3.out.cells
    go_wp2_with fail
    refine (C3.out _ _ _ _ _ Hd3.out.ok).mono ?_; rintro e w4 ⟨A4, c4, B4, k4, rfl, ok4, hb4⟩
    clear x0 x1 x2 x3
    have h4 := Hd3.out.up hb4
    obtain ⟨x0, x1, x2, x3⟩ := h4.cells
    obtain ⟨f0, f1, f2, f3⟩ := h4.bx.free
    have Hd4 := Lib.hid (h4.put ok4)
    have Hs4 := Lib.hid ((Hs3.out.up hb4).put4 (g := w.heap.size + 1) (by omega) (.slice A4 D0.n c4) (.slice B4 D0.m k4) (.int .i64 D0.fuse) (.bool D0.off))
    have Hk4 := Lib.hid ((Hk3.out.up hb4).put4 (g := w.heap.size + 1) (by have := HG.out; omega) (.slice A4 D0.n c4) (.slice B4 D0.m k4) (.int .i64 D0.fuse) (.bool D0.off))
    have HB4 := Lib.hid (put4_below (up_trans HB3.out hb4) (show w.heap.size ≤ w.heap.size + 1 by omega) (.slice A4 D0.n c4) (.slice B4 D0.m k4) (.int .i64 D0.fuse) (.bool D0.off))
    clear h4 ok4 hb4 Hd3 Hs3 Hk3 HB3
    go_upto_region 13 with fail
    change Code.wp _ _ _ _ (put4 w4 (w.heap.size + 1) (.slice A4 D0.n c4) (.slice B4 D0.m k4) (.int .i64 D0.fuse) (.bool D0.off))
    generalize put4 w4 (w.heap.size + 1) (.slice A4 D0.n c4) (.slice B4 D0.m k4) (.int .i64 D0.fuse) (.bool D0.off) = W4 at *
    clear x0 x1 x2 x3 f0 f1 f2 f3
    obtain ⟨y0, y1, y2⟩ := Hs4.out.cells
    go_wp2
    go_ret
    exact ⟨ret_bool (by first | rfl | simp), HB4.out⟩
  obtain ⟨j0, hj0, hk0, hb0, hx0, hs0, hm0⟩ := HST.out hF
  have C3' := C3
  have g1 : (flushE D1 != 0) = false := by rw [hF]; rfl
  have HJ := Lib.hid hj0
  have HK0 := Lib.hid hk0
  have HBF := Lib.hid hb0
  have HX0 := Lib.hid hx0
  have HS0 := Lib.hid hs0
  have HM0 := Lib.hid hm0
  clear hj0 hk0 hb0 hx0 hs0 hm0 hF HST C3'
  generalize flushE D1 = E2 at *
  generalize flushD D1 = D0 at *
  have C1 := Lib.hid c1
  clear c1
  go_enter Try.func6, Try.ntmps6
  go_upto_region 6 with fail
  generalize ((w.alloc (.cells #[.slice A d.n c, .slice B d.m k, .int .i64 d.fuse, .bool d.off, .int .i64 v, .int .i64 i, .string x, .slice C ln lc, .int .i64 keep, .int .i64 tear] 62)).alloc (.cells #[.slice A d.n c, .slice B d.m k, .int .i64 d.fuse, .bool d.off] 39)).alloc (.cells #[.int .i64 v, .int .i64 i, .string x] 23) = w0 at *
  go_wp2_with fail
  refine (CS.out _).mono ?_; rintro e w1 ⟨rfl, hb1⟩
  have hb2 := hb1.alloc hb1.size (.cells #[.int .i64 v, .int .i64 i] 41)
  have Hd1 := Lib.hid (Hd.out.up hb2)
  have Hs1 := Lib.hid (Hs.out.up hb2)
  have Hk1 := Lib.hid (kx_new w1 v i)
  have HG : Hid (w.heap.size + 1 + 1 < w1.heap.size) := Lib.hid (by have := Hs.out.lt_; have := hb1.size; omega)
  have HB1 := Lib.hid (up_trans HB0.out hb2)
  obtain ⟨y0, y1, y2⟩ := (Hs.out.up hb1).cells
  clear hb1 hb2 Hd Hs HB0
  go_upto_region 8 with fail
  generalize w1.alloc (.cells #[.int .i64 v, .int .i64 i] 41) = W1 at *
  generalize w1.heap.size = gkey at *
  clear y0 y1 y2
  obtain ⟨x0, x1, x2, x3⟩ := Hd1.out.cells
  obtain ⟨y0, y1, y2⟩ := Hs1.out.cells
  go_wp2_with fail
  refine (C1.out _ _ _ _ _ Hd1.out.ok).mono ?_; rintro e w2 ⟨A2, c2, B2, k2, rfl, ok2, hb2⟩
  clear x0 x1 x2 x3 y0 y1 y2
  have h2 := Hd1.out.up hb2
  obtain ⟨x0, x1, x2, x3⟩ := h2.cells
  obtain ⟨f0, f1, f2, f3⟩ := h2.bx.free
  have Hd2 := Lib.hid (h2.put ok2)
  have Hs2 := Lib.hid ((Hs1.out.up hb2).put4 (g := w.heap.size + 1) (by omega) (.slice A2 D1.n c2) (.slice B2 D1.m k2) (.int .i64 D1.fuse) (.bool D1.off))
  have Hk2 := Lib.hid ((Hk1.out.up hb2).put4 (g := w.heap.size + 1) (by have := HG.out; omega) (.slice A2 D1.n c2) (.slice B2 D1.m k2) (.int .i64 D1.fuse) (.bool D1.off))
  have HB2 := Lib.hid (put4_below (up_trans HB1.out hb2) (show w.heap.size ≤ w.heap.size + 1 by omega) (.slice A2 D1.n c2) (.slice B2 D1.m k2) (.int .i64 D1.fuse) (.bool D1.off))
  clear h2 ok2 hb2 Hd1 Hs1 Hk1 HB1
  go_upto_region 9 with fail
  change Code.wp _ _ _ _ (put4 w2 (w.heap.size + 1) (.slice A2 D1.n c2) (.slice B2 D1.m k2) (.int .i64 D1.fuse) (.bool D1.off))
  generalize put4 w2 (w.heap.size + 1) (.slice A2 D1.n c2) (.slice B2 D1.m k2) (.int .i64 D1.fuse) (.bool D1.off) = W2 at *
  clear x0 x1 x2 x3 f0 f1 f2 f3
  obtain ⟨x0, x1, x2, x3⟩ := Hd2.out.cells
  obtain ⟨k0, k1⟩ := Hk2.out.cells
  go_wp2_with fail
  refine (C2.out _ _ _ _ _ Hd2.out.ok).mono ?_; rintro e w3 ⟨rfl, hb3⟩
  have Hd3 := Lib.hid (Hd2.out.up hb3)
  have Hs3 := Lib.hid (Hs2.out.up hb3)
  have Hk3 := Lib.hid (Hk2.out.up hb3)
  have HB3 := Lib.hid (up_trans HB2.out hb3)
  clear hb3 Hd2 Hs2 Hk2 HB2 x0 x1 x2 x3 k0 k1
  obtain ⟨x0, x1, x2, x3⟩ := Hd3.out.cells
  go_wp2_with fail
  refine (C3.out _ _ _ _ _ Hd3.out.ok).mono ?_; rintro e w4 ⟨A4, c4, B4, k4, rfl, ok4, hb4⟩
  clear x0 x1 x2 x3
  have h4 := Hd3.out.up hb4
  obtain ⟨x0, x1, x2, x3⟩ := h4.cells
  obtain ⟨f0, f1, f2, f3⟩ := h4.bx.free
  have Hd4 := Lib.hid (h4.put ok4)
  have Hs4 := Lib.hid ((Hs3.out.up hb4).put4 (g := w.heap.size + 1) (by omega) (.slice A4 D0.n c4) (.slice B4 D0.m k4) (.int .i64 D0.fuse) (.bool D0.off))
  have Hk4 := Lib.hid ((Hk3.out.up hb4).put4 (g := w.heap.size + 1) (by have := HG.out; omega) (.slice A4 D0.n c4) (.slice B4 D0.m k4) (.int .i64 D0.fuse) (.bool D0.off))
  have HB4 := Lib.hid (put4_below (up_trans HB3.out hb4) (show w.heap.size ≤ w.heap.size + 1 by omega) (.slice A4 D0.n c4) (.slice B4 D0.m k4) (.int .i64 D0.fuse) (.bool D0.off))
  clear h4 ok4 hb4 Hd3 Hs3 Hk3 HB3
  go_upto_region 13 with fail
  change Code.wp _ _ _ _ (put4 w4 (w.heap.size + 1) (.slice A4 D0.n c4) (.slice B4 D0.m k4) (.int .i64 D0.fuse) (.bool D0.off))
  generalize put4 w4 (w.heap.size + 1) (.slice A4 D0.n c4) (.slice B4 D0.m k4) (.int .i64 D0.fuse) (.bool D0.off) = W4 at *
  clear x0 x1 x2 x3 f0 f1 f2 f3
  obtain ⟨y0, y1, y2⟩ := Hs4.out.cells
  go_wp2
  clear y0 y1 y2 g0 g1
  go_loopg [14] ln (fun gh u wr => ∃ (q : Nat) (D : Dk) (A' : Option Addr) (c' : Nat) (B' : Option Addr) (k' : Nat), q ≤ ln ∧ gh = ln - q ∧ u = .int .i64 (q : Nat) ∧ Stays D0 D v i j0 ∧ D.m ≤ q ∧ Vr wr (w.heap.size + 1) D A' c' B' k' ∧ Sx wr (w.heap.size + 1 + 1) v i x ∧ Kx wr gkey v i ∧ Below w.heap.size w wr)
  case atStart => exact ⟨0, D0, _, _, _, _, Nat.zero_le _, rfl, rfl, HS0.out, by have := HM0.out; omega, Hd4.out, Hs4.out, Hk4.out, HB4.out⟩
  case round =>
    obtain ⟨q, D, A1, c1, B1, k1, hq, hgh, rfl, hS, hmq, hV, hSx, hKx, hB⟩ := hrel
    have HST := Lib.hid hS
    have HMQ := Lib.hid hmq
    have HV := Lib.hid hV
    have HSX := Lib.hid hSx
    have HKX := Lib.hid hKx
    have HB := Lib.hid hB
    obtain ⟨x0, x1, x2, x3⟩ := hV.cells
    clear hS hmq hV hSx hKx hB
    by_cases hlt : q < ln
    · have hqz : (q : Int) < (ln : Int) := by omega
      obtain ⟨ad, rfl, _, l0, l1, l2⟩ := (HL.out.below HB.out HB.out.size).at_ hlt
      have hput := fun W A c B k (h : DOk W A c B k D) => CP.out.put W A c B k D h (m_lasts HLL.out (by have := HMQ.out; omega)) (LV q) (LI q) (LX q) (HZ.out q hlt)
      obtain ⟨s1, s2⟩ := HST.out.put HJ.out HK0.out (LV q) (LI q) (LX q)
      generalize spD D (LV q) (LI q) (LX q) = D6 at *
      generalize spE D (LV q) (LI q) (LX q) = E6 at *
      have HPUT := Lib.hid hput
      have HS6 := Lib.hid s1
      have HM6 : Hid (D6.m ≤ q + 1) := Lib.hid (by have := HMQ.out; omega)
      clear hput s1 s2
      go_upto_region 20 with fail
      go_region_with
        ((go_at_call 28; (with_reducible refine Calls.mono (HPUT.out _ _ _ _ _ HV.out.ok.drew) ?_); rintro e w5 ⟨A5, c5, B5, k5, rfl, ok5, hb5⟩; have h5 := HV.out.drew.up hb5; obtain ⟨y0, y1, y2, y3⟩ := h5.cells; obtain ⟨f0, f1, f2, f3⟩ := h5.bx.free; have HV5 := Lib.hid (h5.put ok5); have HSX5 := Lib.hid ((HSX.out.up (below_of_drew hb5)).put4 (g := w.heap.size + 1) (by omega) (.slice A5 D6.n c5) (.slice B5 D6.m k5) (.int .i64 D6.fuse) (.bool D6.off)); have HKX5 := Lib.hid ((HKX.out.up (below_of_drew hb5)).put4 (g := w.heap.size + 1) (by have := HG.out; omega) (.slice A5 D6.n c5) (.slice B5 D6.m k5) (.int .i64 D6.fuse) (.bool D6.off)); have HB5 : Hid (Below w.heap.size w (put4 w5 (w.heap.size + 1) (.slice A5 D6.n c5) (.slice B5 D6.m k5) (.int .i64 D6.fuse) (.bool D6.off))) := Lib.hid (put4_below (up_trans HB.out.drew hb5) (show w.heap.size ≤ w.heap.size + 1 by omega) _ _ _ _); clear h5 ok5 hb5))
      all_goals
        go_wp2
        go_roundg (ln - (q + 1))
        case measure => go_light; omega
        case rel => go_light; first | exact ⟨q + 1, D6, _, _, _, _, by omega, rfl, by simp, HS6.out, HM6.out, HV5.out, HSX5.out, HKX5.out, HB5.out⟩ | exact ⟨q + 1, D6, _, _, _, _, by omega, rfl, by simp, HS6.out, HM6.out, HV5.out.drew, HSX5.out, HKX5.out, HB5.out.drew⟩
    · have hqz : ¬ (q : Int) < (ln : Int) := by omega
      obtain ⟨e1, e2⟩ := HST.out.crash HJ.out HK0.out HBF.out keep tear
      rw [HX0.out] at e2
      have hc1 := fun W A c B k (h : DOk W A c B k D) => refCrash_any h keep tear
      have hc2 := fun W A c B k (h : DOk W A c B k (crashD D keep tear)) => CP.out.find W A c B k _ h v i
      rw [e1, e2] at hc2
      generalize crashD D keep tear = D7 at *
      have HC1 := Lib.hid hc1
      have HC2 := Lib.hid hc2
      obtain ⟨k0, k1'⟩ := HKX.out.cells
      have K : Hid (∀ W, Below wr.heap.size wr W → (W.cell? ⟨w.heap.size + 1, 0, none⟩ = some (.slice A1 D.n c1) ∧ W.cell? ⟨w.heap.size + 1, 1, none⟩ = some (.slice B1 D.m k1) ∧ W.cell? ⟨w.heap.size + 1, 2, none⟩ = some (.int .i64 D.fuse) ∧ W.cell? ⟨w.heap.size + 1, 3, none⟩ = some (.bool D.off)) ∧ W.cell? ⟨gkey, 0, none⟩ = some (.int .i64 v) ∧ W.cell? ⟨gkey, 1, none⟩ = some (.int .i64 i)) := Lib.hid (fun W hb => ⟨(HV.out.up hb).cells, (HKX.out.up hb).cells⟩)
      clear hc1 hc2 e1 e2
      go_upto_region 21 with fail
      go_region_held3 (fun W => (W.cell? ⟨w.heap.size + 1, 0, none⟩ = some (.slice A1 D.n c1) ∧ W.cell? ⟨w.heap.size + 1, 1, none⟩ = some (.slice B1 D.m k1) ∧ W.cell? ⟨w.heap.size + 1, 2, none⟩ = some (.int .i64 D.fuse) ∧ W.cell? ⟨w.heap.size + 1, 3, none⟩ = some (.bool D.off)) ∧ W.cell? ⟨gkey, 0, none⟩ = some (.int .i64 v) ∧ W.cell? ⟨gkey, 1, none⟩ = some (.int .i64 i))
        (first | exact ⟨⟨x0, x1, x2, x3⟩, k0, k1'⟩ | exact K.out _ b5.out | exact K.out _ b6.out | go_keep)
        (first
          | (go_at_call 34; (with_reducible refine Calls.mono (HC1.out _ _ _ _ _ HV.out.ok.drew) ?_); rintro e w5 ⟨A5, c5, B5, k5, rfl, ok5, hb5⟩; have b5 : Hid (Below wr.heap.size wr w5) := Lib.hid (below_of_drew hb5); have OK5 := Lib.hid ok5; clear ok5 hb5)
          | (go_at_call 24; (with_reducible refine Calls.mono (HC2.out _ _ _ _ _ OK5.out) ?_); rintro e w6 ⟨rfl, hb6⟩; have b6 : Hid (Below wr.heap.size wr w6) := Lib.hid (up_trans b5.out hb6); clear hb6))
      clear x0 x1 x2 x3 k0 k1'
      obtain ⟨y0, y1, y2⟩ := (HSX.out.up b6.out).cells
      have g0 := (str_yes (s := x) rfl).1
      go_wp2
      go_ret
      exact ⟨ret_bool (by first | rfl | simp), up_trans HB.out b6.out⟩
end
end Go.Proofs.Ytofafmjkjgiccaa.Mat
