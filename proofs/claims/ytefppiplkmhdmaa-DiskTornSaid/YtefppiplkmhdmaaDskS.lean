/- The law DiskActs: walked. -/
import Derived.Test.YtefppiplkmhdmaaDskR
namespace Go.Proofs.Ytefppiplkmhdmaa.Mat
open Go.RowKit Fld

section
variable {w : World} {d : Dk} {A B : Option Addr} {c k : Nat}
theorem law_start (h : DOk w A c B k d) (X : Obj) : Vr ((w.alloc X).alloc (.cells #[.slice A d.n c, .slice B d.m k, .int .i64 d.fuse, .bool d.off] 25)) (w.heap.size + 1) d A c B k ∧ Below w.heap.size w ((w.alloc X).alloc (.cells #[.slice A d.n c, .slice B d.m k, .int .i64 d.fuse, .bool d.off] 25)) := by
  have h1 := Vr.new (h.up ((Below.refl _ _).alloc (Nat.le_refl _) X))
  rw [size_alloc] at h1
  exact ⟨h1, ((Below.refl _ _).alloc (Nat.le_refl _) X).alloc (by rw [size_alloc]; omega) _⟩
set_option maxRecDepth 100000 in
set_option maxHeartbeats 3200000 in
theorem lawActs (h : DOk w A c B k d) (hm : (d.m + 1) * 24 ≤ 140737488355328) (slot : Int) (s : ByteArray) (hs : s.size ≤ 140737488351232) (N : Int) :
    Calls Try.prog 3 #[.agg #[.slice A d.n c, .slice B d.m k, .int .i64 d.fuse, .bool d.off, .int .i64 slot, .string s, .int .i64 N]] w (BoolRet w true) := by
  have c1 := fun W A c B k (h : DOk W A c B k d) => put_any h hm slot s hs
  have c2 := fun W A c B k (h : DOk W A c B k d) => refPut_any h hm slot s hs
  have c3 := fun W A c B k (h : DOk W A c B k d) => get_any h slot
  have c4 := fun W A c B k (h : DOk W A c B k d) => refGet_any h slot
  have c5 := fun W A c B k (h : DOk W A c B k d) => flush_any h
  have c6 := fun W A c B k (h : DOk W A c B k d) => refFlush_any h
  have c7 := fun W => new_any N W
  have c8 := fun W => refNew_any N W
  generalize putD d slot s = D1 at *
  generalize putE d slot s = E1 at *
  generalize getS d slot = T1 at *
  generalize getE d slot = E2 at *
  generalize flushD d = D2 at *
  generalize flushE d = E3 at *
  generalize newD N = D3 at *
  generalize newE N = E4 at *
  have C1 := Lib.hid c1
  have C2 := Lib.hid c2
  have C3 := Lib.hid c3
  have C4 := Lib.hid c4
  have C5 := Lib.hid c5
  have C6 := Lib.hid c6
  have C7 := Lib.hid c7
  have C8 := Lib.hid c8
  obtain ⟨hV, hB⟩ := law_start h (.cells #[.slice A d.n c, .slice B d.m k, .int .i64 d.fuse, .bool d.off, .int .i64 slot, .string s, .int .i64 N] 27)
  have Hd := Lib.hid hV
  have HB0 := Lib.hid hB
  clear c1 c2 c3 c4 c5 c6 c7 c8 h hm hs hV hB
  go_enter Try.func3, Try.ntmps3
  go_upto_region 5 with fail
  generalize (w.alloc (.cells #[.slice A d.n c, .slice B d.m k, .int .i64 d.fuse, .bool d.off, .int .i64 slot, .string s, .int .i64 N] 27)).alloc (.cells #[.slice A d.n c, .slice B d.m k, .int .i64 d.fuse, .bool d.off] 25) = w0 at *
  go_wp2_with fail
  refine (shown_any _).mono ?_; rintro e w1 ⟨rfl, hb1⟩
  have Nd := Lib.hid (Hd.out.up hb1)
  clear Hd
  have Hd := Nd
  clear Nd
  have HB1 := Lib.hid (up_trans HB0.out hb1)
  clear hb1 HB0
  obtain ⟨da, db, dc, dd⟩ := Hd.out.cells
  go_wp2_with fail
  clear da db dc dd
  refine (C1.out _ _ _ _ _ Hd.out.ok).mono ?_; rintro e w2 ⟨A2, c2, B2, k2, rfl, ok2, hb2⟩
  have Nd := Lib.hid ((Hd.out.up hb2).alloc (.cells #[.slice A2 D1.n c2, .slice B2 D1.m k2, .int .i64 D1.fuse, .bool D1.off] 25))
  clear Hd
  have Hd := Nd
  clear Nd
  have Ha := Lib.hid (Vr.new ok2)
  have hbb := up_trans HB1.out hb2
  have HB2 := Lib.hid (hbb.alloc hbb.size (.cells #[.slice A2 D1.n c2, .slice B2 D1.m k2, .int .i64 D1.fuse, .bool D1.off] 25))
  clear hbb ok2 hb2 HB1
  go_upto_region 7 with fail
  generalize w2.alloc (.cells #[.slice A2 D1.n c2, .slice B2 D1.m k2, .int .i64 D1.fuse, .bool D1.off] 25) = W2 at *
  generalize w2.heap.size = g2 at *
  obtain ⟨da, db, dc, dd⟩ := Hd.out.cells
  go_wp2_with fail
  clear da db dc dd
  refine (C2.out _ _ _ _ _ Hd.out.ok).mono ?_; rintro e w3 ⟨A3, c3, B3, k3, rfl, ok3, hb3⟩
  have Nd := Lib.hid ((Hd.out.up hb3).alloc (.cells #[.slice A3 D1.n c3, .slice B3 D1.m k3, .int .i64 D1.fuse, .bool D1.off] 25))
  have Na := Lib.hid ((Ha.out.up hb3).alloc (.cells #[.slice A3 D1.n c3, .slice B3 D1.m k3, .int .i64 D1.fuse, .bool D1.off] 25))
  clear Hd Ha
  have Hd := Nd
  have Ha := Na
  clear Nd Na
  have Hb := Lib.hid (Vr.new ok3)
  have hbb := up_trans HB2.out hb3
  have HB3 := Lib.hid (hbb.alloc hbb.size (.cells #[.slice A3 D1.n c3, .slice B3 D1.m k3, .int .i64 D1.fuse, .bool D1.off] 25))
  clear hbb ok3 hb3 HB2
  go_upto_region 8 with fail
  generalize w3.alloc (.cells #[.slice A3 D1.n c3, .slice B3 D1.m k3, .int .i64 D1.fuse, .bool D1.off] 25) = W3 at *
  generalize w3.heap.size = g3 at *
  obtain ⟨da, db, dc, dd⟩ := Hd.out.cells
  go_wp2_with fail
  clear da db dc dd
  refine (C3.out _ _ _ _ _ Hd.out.ok).mono ?_; rintro e w4 ⟨rfl, hb4⟩
  have Nd := Lib.hid (Hd.out.up hb4)
  have Na := Lib.hid (Ha.out.up hb4)
  have Nb := Lib.hid (Hb.out.up hb4)
  clear Hd Ha Hb
  have Hd := Nd
  have Ha := Na
  have Hb := Nb
  clear Nd Na Nb
  have HB4 := Lib.hid (up_trans HB3.out hb4)
  clear hb4 HB3
  obtain ⟨da, db, dc, dd⟩ := Hd.out.cells
  go_wp2_with fail
  clear da db dc dd
  refine (C4.out _ _ _ _ _ Hd.out.ok).mono ?_; rintro e w5 ⟨rfl, hb5⟩
  have Nd := Lib.hid (Hd.out.up hb5)
  have Na := Lib.hid (Ha.out.up hb5)
  have Nb := Lib.hid (Hb.out.up hb5)
  clear Hd Ha Hb
  have Hd := Nd
  have Ha := Na
  have Hb := Nb
  clear Nd Na Nb
  have HB5 := Lib.hid (up_trans HB4.out hb5)
  clear hb5 HB4
  obtain ⟨da, db, dc, dd⟩ := Hd.out.cells
  go_wp2_with fail
  clear da db dc dd
  refine (C5.out _ _ _ _ _ Hd.out.ok).mono ?_; rintro e w6 ⟨A6, c6, B6, k6, rfl, ok6, hb6⟩
  have Nd := Lib.hid ((Hd.out.up hb6).alloc (.cells #[.slice A6 D2.n c6, .slice B6 D2.m k6, .int .i64 D2.fuse, .bool D2.off] 25))
  have Na := Lib.hid ((Ha.out.up hb6).alloc (.cells #[.slice A6 D2.n c6, .slice B6 D2.m k6, .int .i64 D2.fuse, .bool D2.off] 25))
  have Nb := Lib.hid ((Hb.out.up hb6).alloc (.cells #[.slice A6 D2.n c6, .slice B6 D2.m k6, .int .i64 D2.fuse, .bool D2.off] 25))
  clear Hd Ha Hb
  have Hd := Nd
  have Ha := Na
  have Hb := Nb
  clear Nd Na Nb
  have Hp := Lib.hid (Vr.new ok6)
  have hbb := up_trans HB5.out hb6
  have HB6 := Lib.hid (hbb.alloc hbb.size (.cells #[.slice A6 D2.n c6, .slice B6 D2.m k6, .int .i64 D2.fuse, .bool D2.off] 25))
  clear hbb ok6 hb6 HB5
  go_upto_region 11 with fail
  generalize w6.alloc (.cells #[.slice A6 D2.n c6, .slice B6 D2.m k6, .int .i64 D2.fuse, .bool D2.off] 25) = W6 at *
  generalize w6.heap.size = g6 at *
  obtain ⟨da, db, dc, dd⟩ := Hd.out.cells
  go_wp2_with fail
  clear da db dc dd
  refine (C6.out _ _ _ _ _ Hd.out.ok).mono ?_; rintro e w7 ⟨A7, c7, B7, k7, rfl, ok7, hb7⟩
  have Nd := Lib.hid ((Hd.out.up hb7).alloc (.cells #[.slice A7 D2.n c7, .slice B7 D2.m k7, .int .i64 D2.fuse, .bool D2.off] 25))
  have Na := Lib.hid ((Ha.out.up hb7).alloc (.cells #[.slice A7 D2.n c7, .slice B7 D2.m k7, .int .i64 D2.fuse, .bool D2.off] 25))
  have Nb := Lib.hid ((Hb.out.up hb7).alloc (.cells #[.slice A7 D2.n c7, .slice B7 D2.m k7, .int .i64 D2.fuse, .bool D2.off] 25))
  have Np := Lib.hid ((Hp.out.up hb7).alloc (.cells #[.slice A7 D2.n c7, .slice B7 D2.m k7, .int .i64 D2.fuse, .bool D2.off] 25))
  clear Hd Ha Hb Hp
  have Hd := Nd
  have Ha := Na
  have Hb := Nb
  have Hp := Np
  clear Nd Na Nb Np
  have Hq := Lib.hid (Vr.new ok7)
  have hbb := up_trans HB6.out hb7
  have HB7 := Lib.hid (hbb.alloc hbb.size (.cells #[.slice A7 D2.n c7, .slice B7 D2.m k7, .int .i64 D2.fuse, .bool D2.off] 25))
  clear hbb ok7 hb7 HB6
  go_upto_region 12 with fail
  generalize w7.alloc (.cells #[.slice A7 D2.n c7, .slice B7 D2.m k7, .int .i64 D2.fuse, .bool D2.off] 25) = W7 at *
  generalize w7.heap.size = g7 at *
  go_wp2_with fail
  refine (C7.out _).mono ?_; rintro e w8 ⟨A8, c8, B8, k8, rfl, ok8, hb8⟩
  have Nd := Lib.hid ((Hd.out.up hb8).alloc (.cells #[.slice A8 D3.n c8, .slice B8 D3.m k8, .int .i64 D3.fuse, .bool D3.off] 25))
  have Na := Lib.hid ((Ha.out.up hb8).alloc (.cells #[.slice A8 D3.n c8, .slice B8 D3.m k8, .int .i64 D3.fuse, .bool D3.off] 25))
  have Nb := Lib.hid ((Hb.out.up hb8).alloc (.cells #[.slice A8 D3.n c8, .slice B8 D3.m k8, .int .i64 D3.fuse, .bool D3.off] 25))
  have Np := Lib.hid ((Hp.out.up hb8).alloc (.cells #[.slice A8 D3.n c8, .slice B8 D3.m k8, .int .i64 D3.fuse, .bool D3.off] 25))
  have Nq := Lib.hid ((Hq.out.up hb8).alloc (.cells #[.slice A8 D3.n c8, .slice B8 D3.m k8, .int .i64 D3.fuse, .bool D3.off] 25))
  clear Hd Ha Hb Hp Hq
  have Hd := Nd
  have Ha := Na
  have Hb := Nb
  have Hp := Np
  have Hq := Nq
  clear Nd Na Nb Np Nq
  have Hv := Lib.hid (Vr.new ok8)
  have hbb := up_trans HB7.out hb8
  have HB8 := Lib.hid (hbb.alloc hbb.size (.cells #[.slice A8 D3.n c8, .slice B8 D3.m k8, .int .i64 D3.fuse, .bool D3.off] 25))
  clear hbb ok8 hb8 HB7
  go_upto_region 13 with fail
  generalize w8.alloc (.cells #[.slice A8 D3.n c8, .slice B8 D3.m k8, .int .i64 D3.fuse, .bool D3.off] 25) = W8 at *
  generalize w8.heap.size = g8 at *
  go_wp2_with fail
  refine (C8.out _).mono ?_; rintro e w9 ⟨A9, c9, B9, k9, rfl, ok9, hb9⟩
  have Nd := Lib.hid ((Hd.out.up hb9).alloc (.cells #[.slice A9 D3.n c9, .slice B9 D3.m k9, .int .i64 D3.fuse, .bool D3.off] 25))
  have Na := Lib.hid ((Ha.out.up hb9).alloc (.cells #[.slice A9 D3.n c9, .slice B9 D3.m k9, .int .i64 D3.fuse, .bool D3.off] 25))
  have Nb := Lib.hid ((Hb.out.up hb9).alloc (.cells #[.slice A9 D3.n c9, .slice B9 D3.m k9, .int .i64 D3.fuse, .bool D3.off] 25))
  have Np := Lib.hid ((Hp.out.up hb9).alloc (.cells #[.slice A9 D3.n c9, .slice B9 D3.m k9, .int .i64 D3.fuse, .bool D3.off] 25))
  have Nq := Lib.hid ((Hq.out.up hb9).alloc (.cells #[.slice A9 D3.n c9, .slice B9 D3.m k9, .int .i64 D3.fuse, .bool D3.off] 25))
  have Nv := Lib.hid ((Hv.out.up hb9).alloc (.cells #[.slice A9 D3.n c9, .slice B9 D3.m k9, .int .i64 D3.fuse, .bool D3.off] 25))
  clear Hd Ha Hb Hp Hq Hv
  have Hd := Nd
  have Ha := Na
  have Hb := Nb
  have Hp := Np
  have Hq := Nq
  have Hv := Nv
  clear Nd Na Nb Np Nq Nv
  have Hw := Lib.hid (Vr.new ok9)
  have hbb := up_trans HB8.out hb9
  have HB9 := Lib.hid (hbb.alloc hbb.size (.cells #[.slice A9 D3.n c9, .slice B9 D3.m k9, .int .i64 D3.fuse, .bool D3.off] 25))
  clear hbb ok9 hb9 HB8
  go_upto_region 14 with fail
  generalize w9.alloc (.cells #[.slice A9 D3.n c9, .slice B9 D3.m k9, .int .i64 D3.fuse, .bool D3.off] 25) = W9 at *
  generalize w9.heap.size = g9 at *
  obtain ⟨aa, ab, ac, ad⟩ := Ha.out.cells
  obtain ⟨ba, bb, bc, bd⟩ := Hb.out.cells
  go_wp2_with fail
  clear aa ab ac ad ba bb bc bd
  refine (refSame_any Ha.out.ok Hb.out.ok).mono ?_; rintro e w10 ⟨rfl, hb10⟩
  rw [same_self]
  have Nd := Lib.hid (Hd.out.up hb10)
  have Na := Lib.hid (Ha.out.up hb10)
  have Nb := Lib.hid (Hb.out.up hb10)
  have Np := Lib.hid (Hp.out.up hb10)
  have Nq := Lib.hid (Hq.out.up hb10)
  have Nv := Lib.hid (Hv.out.up hb10)
  have Nw := Lib.hid (Hw.out.up hb10)
  clear Hd Ha Hb Hp Hq Hv Hw
  have Hd := Nd
  have Ha := Na
  have Hb := Nb
  have Hp := Np
  have Hq := Nq
  have Hv := Nv
  have Hw := Nw
  clear Nd Na Nb Np Nq Nv Nw
  have HB10 := Lib.hid (up_trans HB9.out hb10)
  clear hb10 HB9
  obtain ⟨pa, pb, pc, pd⟩ := Hp.out.cells
  obtain ⟨qa, qb, qc, qd⟩ := Hq.out.cells
  go_wp2_with fail
  clear pa pb pc pd qa qb qc qd
  refine (refSame_any Hp.out.ok Hq.out.ok).mono ?_; rintro e w11 ⟨rfl, hb11⟩
  rw [same_self]
  have Nd := Lib.hid (Hd.out.up hb11)
  have Na := Lib.hid (Ha.out.up hb11)
  have Nb := Lib.hid (Hb.out.up hb11)
  have Np := Lib.hid (Hp.out.up hb11)
  have Nq := Lib.hid (Hq.out.up hb11)
  have Nv := Lib.hid (Hv.out.up hb11)
  have Nw := Lib.hid (Hw.out.up hb11)
  clear Hd Ha Hb Hp Hq Hv Hw
  have Hd := Nd
  have Ha := Na
  have Hb := Nb
  have Hp := Np
  have Hq := Nq
  have Hv := Nv
  have Hw := Nw
  clear Nd Na Nb Np Nq Nv Nw
  have HB11 := Lib.hid (up_trans HB10.out hb11)
  clear hb11 HB10
  obtain ⟨va, vb, vc, vd⟩ := Hv.out.cells
  obtain ⟨wa, wb, wc, wd⟩ := Hw.out.cells
  go_wp2_with fail
  clear va vb vc vd wa wb wc wd
  refine (refSame_any Hv.out.ok Hw.out.ok).mono ?_; rintro e w12 ⟨rfl, hb12⟩
  rw [same_self]
  have Nd := Lib.hid (Hd.out.up hb12)
  have Na := Lib.hid (Ha.out.up hb12)
  have Nb := Lib.hid (Hb.out.up hb12)
  have Np := Lib.hid (Hp.out.up hb12)
  have Nq := Lib.hid (Hq.out.up hb12)
  have Nv := Lib.hid (Hv.out.up hb12)
  have Nw := Lib.hid (Hw.out.up hb12)
  clear Hd Ha Hb Hp Hq Hv Hw
  have Hd := Nd
  have Ha := Na
  have Hb := Nb
  have Hp := Np
  have Hq := Nq
  have Hv := Nv
  have Hw := Nw
  clear Nd Na Nb Np Nq Nv Nw
  have HB12 := Lib.hid (up_trans HB11.out hb12)
  clear hb12 HB11
  go_wp2
  go_ret
  exact ⟨ret_bool (by first | rfl | simp), HB12.out⟩
end
end Go.Proofs.Ytefppiplkmhdmaa.Mat
