/- The laws ShelfPuts, ShelfGoes, ShelfTorn: walked from what they ask of the program. -/
import Derived.Test.YtofafmjkjgiccaaSheOk
namespace Go.Proofs.Ytofafmjkjgiccaa.Mat
open Go.RowKit Fld

section
variable {w : World} {d : Dk} {A B : Option Addr} {c k : Nat}
theorem Sx.put4 {W : World} {b g : Nat} {v i : Int} {x : ByteArray} (h : Sx W b v i x) (hne : b ≠ g) (p q r s : Value) : Sx (put4 W g p q r s) b v i x :=
  Has.setOther (Has.setOther (Has.setOther (Has.setOther h (a := ⟨g, 0, none⟩) hne p) (a := ⟨g, 1, none⟩) hne q) (a := ⟨g, 2, none⟩) hne r) (a := ⟨g, 3, none⟩) hne s
theorem puts_start (h : DOk w A c B k d) (v i : Int) (x : ByteArray) (v' i' : Int) : ∃ W, W = ((w.alloc (.cells #[.slice A d.n c, .slice B d.m k, .int .i64 d.fuse, .bool d.off] 39)).alloc (.cells #[.int .i64 v, .int .i64 i, .string x] 23)).alloc (.cells #[.int .i64 v', .int .i64 i'] 41) ∧
    Vr W w.heap.size d A c B k ∧ Sx W (w.heap.size + 1) v i x ∧ Kx W (w.heap.size + 1 + 1) v' i' ∧ Below w.heap.size w W := by
  have h1 := Vr.new h
  have hs := sx_new (w.alloc (.cells #[.slice A d.n c, .slice B d.m k, .int .i64 d.fuse, .bool d.off] 39)) v i x
  rw [size_alloc] at hs
  have hz := kx_new ((w.alloc (.cells #[.slice A d.n c, .slice B d.m k, .int .i64 d.fuse, .bool d.off] 39)).alloc (.cells #[.int .i64 v, .int .i64 i, .string x] 23)) v' i'
  rw [size_alloc, size_alloc] at hz
  have b1 := (Below.refl w.heap.size w).alloc (Nat.le_refl _) (.cells #[.slice A d.n c, .slice B d.m k, .int .i64 d.fuse, .bool d.off] 39)
  have b2 := b1.alloc b1.size (.cells #[.int .i64 v, .int .i64 i, .string x] 23)
  exact ⟨_, rfl, (h1.alloc _).alloc _, hs.alloc _, hz, b2.alloc b2.size _⟩
theorem goes_start (h : DOk w A c B k d) (v i v' i' : Int) : ∃ W, W = ((w.alloc (.cells #[.slice A d.n c, .slice B d.m k, .int .i64 d.fuse, .bool d.off] 39)).alloc (.cells #[.int .i64 v, .int .i64 i] 41)).alloc (.cells #[.int .i64 v', .int .i64 i'] 41) ∧
    Vr W w.heap.size d A c B k ∧ Kx W (w.heap.size + 1) v i ∧ Kx W (w.heap.size + 1 + 1) v' i' ∧ Below w.heap.size w W := by
  have h1 := Vr.new h
  have hs := kx_new (w.alloc (.cells #[.slice A d.n c, .slice B d.m k, .int .i64 d.fuse, .bool d.off] 39)) v i
  rw [size_alloc] at hs
  have hz := kx_new ((w.alloc (.cells #[.slice A d.n c, .slice B d.m k, .int .i64 d.fuse, .bool d.off] 39)).alloc (.cells #[.int .i64 v, .int .i64 i] 41)) v' i'
  rw [size_alloc, size_alloc] at hz
  have b1 := (Below.refl w.heap.size w).alloc (Nat.le_refl _) (.cells #[.slice A d.n c, .slice B d.m k, .int .i64 d.fuse, .bool d.off] 39)
  have b2 := b1.alloc b1.size (.cells #[.int .i64 v, .int .i64 i] 41)
  exact ⟨_, rfl, (h1.alloc _).alloc _, hs.alloc _, hz, b2.alloc b2.size _⟩
theorem room_start (h : DOk w A c B k d) (v i : Int) (x : ByteArray) : ∃ W, W = (w.alloc (.cells #[.slice A d.n c, .slice B d.m k, .int .i64 d.fuse, .bool d.off] 39)).alloc (.cells #[.int .i64 v, .int .i64 i, .string x] 23) ∧
    Vr W w.heap.size d A c B k ∧ Sx W (w.heap.size + 1) v i x ∧ Below w.heap.size w W ∧ w.heap.size + 1 < W.heap.size := by
  have h1 := Vr.new h
  have hs := sx_new (w.alloc (.cells #[.slice A d.n c, .slice B d.m k, .int .i64 d.fuse, .bool d.off] 39)) v i x
  rw [size_alloc] at hs
  have b1 := (Below.refl w.heap.size w).alloc (Nat.le_refl _) (.cells #[.slice A d.n c, .slice B d.m k, .int .i64 d.fuse, .bool d.off] 39)
  exact ⟨_, rfl, h1.alloc _, hs, b1.alloc b1.size _, Has.lt hs⟩

set_option maxRecDepth 100000 in
set_option maxHeartbeats 3200000 in
theorem lawPuts (C : ShelfOk) (h : DOk w A c B k d) (hm : (d.m + d.n + 1) * 24 ≤ 140737488355328) (v i : Int) (x : ByteArray) (hx : x.size ≤ 140737488351232) (v' i' : Int) :
    Calls Try.prog 5 #[.agg #[.slice A d.n c, .slice B d.m k, .int .i64 d.fuse, .bool d.off], .agg #[.int .i64 v, .int .i64 i, .string x], .agg #[.int .i64 v', .int .i64 i']] w (BoolRet w true) := by
  have hm1 : (d.m + 1) * 24 ≤ 140737488355328 := Nat.le_trans (Nat.mul_le_mul_right 24 (by omega)) hm
  have c1 := fun W A c B k (h : DOk W A c B k d) => C.put W A c B k d h hm1 v i x hx
  have c2 := fun W A c B k (h : DOk W A c B k d) => refShPut_any h hm1 v i x hx
  have c3 := fun W A c B k (h : DOk W A c B k d) => C.drop W A c B k d h hm v' i'
  have c4 := fun W A c B k (h : DOk W A c B k d) => refShDrop_any h hm v' i'
  have CS := Lib.hid (shelfShown_any C)
  obtain ⟨W, hW, hV, hS, hK, hB⟩ := puts_start h v i x v' i'
  generalize spD d v i x = D1 at *
  generalize spE d v i x = E1 at *
  generalize sdD d v' i' = D2 at *
  generalize sdE d v' i' = E2 at *
  have C1 := Lib.hid c1
  have C2 := Lib.hid c2
  have C3 := Lib.hid c3
  have C4 := Lib.hid c4
  have Hd := Lib.hid hV
  have Hs := Lib.hid hS
  have Hk := Lib.hid hK
  have HB0 := Lib.hid hB
  clear c1 c2 c3 c4 hV hS hK hB h hm hm1 hx C
  go_enter Try.func5, Try.ntmps5
  go_upto_region 1 with fail
  rw [← hW]
  clear hW
  go_wp2_with fail
  refine (CS.out _).mono ?_; rintro e w1 ⟨rfl, hb1⟩
  have Nd := Lib.hid (Hd.out.up hb1)
  have Ns := Lib.hid (Hs.out.up hb1)
  have Nk := Lib.hid (Hk.out.up hb1)
  clear Hd Hs Hk
  have Hd := Nd
  have Hs := Ns
  have Hk := Nk
  clear Nd Ns Nk
  have HB1 := Lib.hid (up_trans HB0.out hb1)
  clear hb1 HB0
  obtain ⟨da, db, dc, dd⟩ := Hd.out.cells
  obtain ⟨sa, sb, sc⟩ := Hs.out.cells
  go_wp2_with fail
  clear da db dc dd sa sb sc
  refine (C1.out _ _ _ _ _ Hd.out.ok).mono ?_; rintro e w2 ⟨A2, c2, B2, k2, rfl, ok2, hb2⟩
  have Nd := Lib.hid ((Hd.out.up hb2).alloc (.cells #[.slice A2 D1.n c2, .slice B2 D1.m k2, .int .i64 D1.fuse, .bool D1.off] 39))
  have Ns := Lib.hid ((Hs.out.up hb2).alloc (.cells #[.slice A2 D1.n c2, .slice B2 D1.m k2, .int .i64 D1.fuse, .bool D1.off] 39))
  have Nk := Lib.hid ((Hk.out.up hb2).alloc (.cells #[.slice A2 D1.n c2, .slice B2 D1.m k2, .int .i64 D1.fuse, .bool D1.off] 39))
  clear Hd Hs Hk
  have Hd := Nd
  have Hs := Ns
  have Hk := Nk
  clear Nd Ns Nk
  have Hp := Lib.hid (Vr.new ok2)
  have hbb := up_trans HB1.out hb2
  have HB2 := Lib.hid (hbb.alloc hbb.size (.cells #[.slice A2 D1.n c2, .slice B2 D1.m k2, .int .i64 D1.fuse, .bool D1.off] 39))
  clear hbb ok2 hb2 HB1
  go_upto_region 3 with fail
  generalize w2.alloc (.cells #[.slice A2 D1.n c2, .slice B2 D1.m k2, .int .i64 D1.fuse, .bool D1.off] 39) = W2 at *
  generalize w2.heap.size = g2 at *
  obtain ⟨da, db, dc, dd⟩ := Hd.out.cells
  obtain ⟨sa, sb, sc⟩ := Hs.out.cells
  go_wp2_with fail
  clear da db dc dd sa sb sc
  refine (C2.out _ _ _ _ _ Hd.out.ok).mono ?_; rintro e w3 ⟨A3, c3, B3, k3, rfl, ok3, hb3⟩
  have Nd := Lib.hid ((Hd.out.up hb3).alloc (.cells #[.slice A3 D1.n c3, .slice B3 D1.m k3, .int .i64 D1.fuse, .bool D1.off] 39))
  have Ns := Lib.hid ((Hs.out.up hb3).alloc (.cells #[.slice A3 D1.n c3, .slice B3 D1.m k3, .int .i64 D1.fuse, .bool D1.off] 39))
  have Nk := Lib.hid ((Hk.out.up hb3).alloc (.cells #[.slice A3 D1.n c3, .slice B3 D1.m k3, .int .i64 D1.fuse, .bool D1.off] 39))
  have Np := Lib.hid ((Hp.out.up hb3).alloc (.cells #[.slice A3 D1.n c3, .slice B3 D1.m k3, .int .i64 D1.fuse, .bool D1.off] 39))
  clear Hd Hs Hk Hp
  have Hd := Nd
  have Hs := Ns
  have Hk := Nk
  have Hp := Np
  clear Nd Ns Nk Np
  have Hq := Lib.hid (Vr.new ok3)
  have hbb := up_trans HB2.out hb3
  have HB3 := Lib.hid (hbb.alloc hbb.size (.cells #[.slice A3 D1.n c3, .slice B3 D1.m k3, .int .i64 D1.fuse, .bool D1.off] 39))
  clear hbb ok3 hb3 HB2
  go_upto_region 4 with fail
  generalize w3.alloc (.cells #[.slice A3 D1.n c3, .slice B3 D1.m k3, .int .i64 D1.fuse, .bool D1.off] 39) = W3 at *
  generalize w3.heap.size = g3 at *
  obtain ⟨da, db, dc, dd⟩ := Hd.out.cells
  obtain ⟨ka, kb⟩ := Hk.out.cells
  go_wp2_with fail
  clear da db dc dd ka kb
  refine (C3.out _ _ _ _ _ Hd.out.ok).mono ?_; rintro e w4 ⟨A4, c4, B4, k4, rfl, ok4, hb4⟩
  have Nd := Lib.hid ((Hd.out.up hb4).alloc (.cells #[.slice A4 D2.n c4, .slice B4 D2.m k4, .int .i64 D2.fuse, .bool D2.off] 39))
  have Ns := Lib.hid ((Hs.out.up hb4).alloc (.cells #[.slice A4 D2.n c4, .slice B4 D2.m k4, .int .i64 D2.fuse, .bool D2.off] 39))
  have Nk := Lib.hid ((Hk.out.up hb4).alloc (.cells #[.slice A4 D2.n c4, .slice B4 D2.m k4, .int .i64 D2.fuse, .bool D2.off] 39))
  have Np := Lib.hid ((Hp.out.up hb4).alloc (.cells #[.slice A4 D2.n c4, .slice B4 D2.m k4, .int .i64 D2.fuse, .bool D2.off] 39))
  have Nq := Lib.hid ((Hq.out.up hb4).alloc (.cells #[.slice A4 D2.n c4, .slice B4 D2.m k4, .int .i64 D2.fuse, .bool D2.off] 39))
  clear Hd Hs Hk Hp Hq
  have Hd := Nd
  have Hs := Ns
  have Hk := Nk
  have Hp := Np
  have Hq := Nq
  clear Nd Ns Nk Np Nq
  have Hr := Lib.hid (Vr.new ok4)
  have hbb := up_trans HB3.out hb4
  have HB4 := Lib.hid (hbb.alloc hbb.size (.cells #[.slice A4 D2.n c4, .slice B4 D2.m k4, .int .i64 D2.fuse, .bool D2.off] 39))
  clear hbb ok4 hb4 HB3
  go_upto_region 5 with fail
  generalize w4.alloc (.cells #[.slice A4 D2.n c4, .slice B4 D2.m k4, .int .i64 D2.fuse, .bool D2.off] 39) = W4 at *
  generalize w4.heap.size = g4 at *
  obtain ⟨da, db, dc, dd⟩ := Hd.out.cells
  obtain ⟨ka, kb⟩ := Hk.out.cells
  go_wp2_with fail
  clear da db dc dd ka kb
  refine (C4.out _ _ _ _ _ Hd.out.ok).mono ?_; rintro e w5 ⟨A5, c5, B5, k5, rfl, ok5, hb5⟩
  have Nd := Lib.hid ((Hd.out.up hb5).alloc (.cells #[.slice A5 D2.n c5, .slice B5 D2.m k5, .int .i64 D2.fuse, .bool D2.off] 39))
  have Ns := Lib.hid ((Hs.out.up hb5).alloc (.cells #[.slice A5 D2.n c5, .slice B5 D2.m k5, .int .i64 D2.fuse, .bool D2.off] 39))
  have Nk := Lib.hid ((Hk.out.up hb5).alloc (.cells #[.slice A5 D2.n c5, .slice B5 D2.m k5, .int .i64 D2.fuse, .bool D2.off] 39))
  have Np := Lib.hid ((Hp.out.up hb5).alloc (.cells #[.slice A5 D2.n c5, .slice B5 D2.m k5, .int .i64 D2.fuse, .bool D2.off] 39))
  have Nq := Lib.hid ((Hq.out.up hb5).alloc (.cells #[.slice A5 D2.n c5, .slice B5 D2.m k5, .int .i64 D2.fuse, .bool D2.off] 39))
  have Nr := Lib.hid ((Hr.out.up hb5).alloc (.cells #[.slice A5 D2.n c5, .slice B5 D2.m k5, .int .i64 D2.fuse, .bool D2.off] 39))
  clear Hd Hs Hk Hp Hq Hr
  have Hd := Nd
  have Hs := Ns
  have Hk := Nk
  have Hp := Np
  have Hq := Nq
  have Hr := Nr
  clear Nd Ns Nk Np Nq Nr
  have Ht := Lib.hid (Vr.new ok5)
  have hbb := up_trans HB4.out hb5
  have HB5 := Lib.hid (hbb.alloc hbb.size (.cells #[.slice A5 D2.n c5, .slice B5 D2.m k5, .int .i64 D2.fuse, .bool D2.off] 39))
  clear hbb ok5 hb5 HB4
  go_upto_region 6 with fail
  generalize w5.alloc (.cells #[.slice A5 D2.n c5, .slice B5 D2.m k5, .int .i64 D2.fuse, .bool D2.off] 39) = W5 at *
  generalize w5.heap.size = g5 at *
  obtain ⟨pa, pb, pc, pd⟩ := Hp.out.cells
  obtain ⟨qa, qb, qc, qd⟩ := Hq.out.cells
  go_wp2_with fail
  clear pa pb pc pd qa qb qc qd
  refine (refSame_any Hp.out.ok Hq.out.ok).mono ?_; rintro e w6 ⟨rfl, hb6⟩
  rw [same_self]
  have Nd := Lib.hid (Hd.out.up hb6)
  have Ns := Lib.hid (Hs.out.up hb6)
  have Nk := Lib.hid (Hk.out.up hb6)
  have Np := Lib.hid (Hp.out.up hb6)
  have Nq := Lib.hid (Hq.out.up hb6)
  have Nr := Lib.hid (Hr.out.up hb6)
  have Nt := Lib.hid (Ht.out.up hb6)
  clear Hd Hs Hk Hp Hq Hr Ht
  have Hd := Nd
  have Hs := Ns
  have Hk := Nk
  have Hp := Np
  have Hq := Nq
  have Hr := Nr
  have Ht := Nt
  clear Nd Ns Nk Np Nq Nr Nt
  have HB6 := Lib.hid (up_trans HB5.out hb6)
  clear hb6 HB5
  obtain ⟨ra, rb, rc, rd⟩ := Hr.out.cells
  obtain ⟨ta, tb, tc, td⟩ := Ht.out.cells
  go_wp2_with fail
  clear ra rb rc rd ta tb tc td
  refine (refSame_any Hr.out.ok Ht.out.ok).mono ?_; rintro e w7 ⟨rfl, hb7⟩
  rw [same_self]
  have Nd := Lib.hid (Hd.out.up hb7)
  have Ns := Lib.hid (Hs.out.up hb7)
  have Nk := Lib.hid (Hk.out.up hb7)
  have Np := Lib.hid (Hp.out.up hb7)
  have Nq := Lib.hid (Hq.out.up hb7)
  have Nr := Lib.hid (Hr.out.up hb7)
  have Nt := Lib.hid (Ht.out.up hb7)
  clear Hd Hs Hk Hp Hq Hr Ht
  have Hd := Nd
  have Hs := Ns
  have Hk := Nk
  have Hp := Np
  have Hq := Nq
  have Hr := Nr
  have Ht := Nt
  clear Nd Ns Nk Np Nq Nr Nt
  have HB7 := Lib.hid (up_trans HB6.out hb7)
  clear hb7 HB6
  go_wp2
  go_ret
  exact ⟨ret_bool (by first | rfl | simp), HB7.out⟩

set_option maxRecDepth 100000 in
set_option maxHeartbeats 3200000 in
theorem lawGoes (C : ShelfOk) (h : DOk w A c B k d) (hm : (d.m + d.n + 1) * 24 ≤ 140737488355328) (v i v' i' : Int) :
    Calls Try.prog 7 #[.agg #[.slice A d.n c, .slice B d.m k, .int .i64 d.fuse, .bool d.off], .agg #[.int .i64 v, .int .i64 i], .agg #[.int .i64 v', .int .i64 i']] w (BoolRet w true) := by
  have c1 := fun W A c B k (h : DOk W A c B k d) => C.find W A c B k d h v' i'
  have c2 := fun W A c B k (h : DOk W A c B k d) => C.drop W A c B k d h hm v i
  have CS := Lib.hid (shelfShown_any C)
  obtain ⟨W, hW, hV, hS, hK, hB⟩ := goes_start h v i v' i'
  by_cases hE : sdE d v i = 0
  rotate_left
  · have g1 : (sdE d v i != 0) = true := bne_iff_ne.2 hE
    generalize sdD d v i = D1 at *
    generalize sdE d v i = E1 at *
    generalize fdE d v' i' = E2 at *
    generalize fdX d v' i' = X2 at *
    clear hE
    have C1 := Lib.hid c1
    have C2 := Lib.hid c2
    have Hd := Lib.hid hV
    have Hk := Lib.hid hS
    have Ho := Lib.hid hK
    have HB0 := Lib.hid hB
    clear c1 c2 hV hS hK hB h hm C
    go_enter Try.func7, Try.ntmps7
    go_upto_region 1 with fail
    rw [← hW]
    clear hW
    go_wp2_with fail
    refine (CS.out _).mono ?_; rintro e w1 ⟨rfl, hb1⟩
    have Nd := Lib.hid (Hd.out.up hb1)
    have Nk := Lib.hid (Hk.out.up hb1)
    have No := Lib.hid (Ho.out.up hb1)
    clear Hd Hk Ho
    have Hd := Nd
    have Hk := Nk
    have Ho := No
    clear Nd Nk No
    have HB1 := Lib.hid (up_trans HB0.out hb1)
    clear hb1 HB0
    obtain ⟨da, db, dc, dd⟩ := Hd.out.cells
    obtain ⟨oa, ob⟩ := Ho.out.cells
    go_wp2_with fail
    clear da db dc dd oa ob
    refine (C1.out _ _ _ _ _ Hd.out.ok).mono ?_; rintro e w2 ⟨rfl, hb2⟩
    have Nd := Lib.hid (Hd.out.up hb2)
    have Nk := Lib.hid (Hk.out.up hb2)
    have No := Lib.hid (Ho.out.up hb2)
    clear Hd Hk Ho
    have Hd := Nd
    have Hk := Nk
    have Ho := No
    clear Nd Nk No
    have HB2 := Lib.hid (up_trans HB1.out hb2)
    clear hb2 HB1
    obtain ⟨da, db, dc, dd⟩ := Hd.out.cells
    obtain ⟨ka, kb⟩ := Hk.out.cells
    go_wp2_with fail
    clear da db dc dd ka kb
    refine (C2.out _ _ _ _ _ Hd.out.ok).mono ?_; rintro e w3 ⟨A3, c3, B3, k3, rfl, ok3, hb3⟩
    have Nd := Lib.hid ((Hd.out.up hb3).alloc (.cells #[.slice A3 D1.n c3, .slice B3 D1.m k3, .int .i64 D1.fuse, .bool D1.off] 39))
    have Nk := Lib.hid ((Hk.out.up hb3).alloc (.cells #[.slice A3 D1.n c3, .slice B3 D1.m k3, .int .i64 D1.fuse, .bool D1.off] 39))
    have No := Lib.hid ((Ho.out.up hb3).alloc (.cells #[.slice A3 D1.n c3, .slice B3 D1.m k3, .int .i64 D1.fuse, .bool D1.off] 39))
    clear Hd Hk Ho
    have Hd := Nd
    have Hk := Nk
    have Ho := No
    clear Nd Nk No
    have Ha := Lib.hid (Vr.new ok3)
    have hbb := up_trans HB2.out hb3
    have HB3 := Lib.hid (hbb.alloc hbb.size (.cells #[.slice A3 D1.n c3, .slice B3 D1.m k3, .int .i64 D1.fuse, .bool D1.off] 39))
    clear hbb ok3 hb3 HB2
    go_upto_region 4 with fail
    generalize w3.alloc (.cells #[.slice A3 D1.n c3, .slice B3 D1.m k3, .int .i64 D1.fuse, .bool D1.off] 39) = W3 at *
    generalize w3.heap.size = g3 at *
    go_wp2
    go_ret
    exact ⟨ret_bool (by first | rfl | simp), HB3.out⟩
  have hgone := drop_gone hE
  have hoth := fun (hne : ¬ (v' = v ∧ i' = i)) => drop_other hE hne
  have c3 := fun W A c B k (h : DOk W A c B k (sdD d v i)) => C.find W A c B k (sdD d v i) h v i
  have c4 := fun W A c B k (h : DOk W A c B k (sdD d v i)) => C.find W A c B k (sdD d v i) h v' i'
  have hq := fun W => eqlK v' i' v i W
  rw [hE] at c2
  rw [hgone] at c3
  by_cases hk : v' = v ∧ i' = i
  · have t1 : (v' == v && i' == i) = true := by rw [hk.1, hk.2]; simp
    rw [t1] at hq
    generalize fdX (sdD d v i) v i = X3 at *
    generalize fdX (sdD d v i) v' i' = X4 at *
    generalize fdE (sdD d v i) v' i' = E4 at *
    generalize sdD d v i = D1 at *
    generalize fdE d v' i' = E2 at *
    generalize fdX d v' i' = X2 at *
    have C3 := Lib.hid c3
    have C4 := Lib.hid c4
    clear hE hgone hoth hk t1 c3 c4
    have C1 := Lib.hid c1
    have C2 := Lib.hid c2
    have Hd := Lib.hid hV
    have Hk := Lib.hid hS
    have Ho := Lib.hid hK
    have HB0 := Lib.hid hB
    clear c1 c2 hV hS hK hB h hm C
    go_enter Try.func7, Try.ntmps7
    go_upto_region 1 with fail
    rw [← hW]
    clear hW
    go_wp2_with fail
    refine (CS.out _).mono ?_; rintro e w1 ⟨rfl, hb1⟩
    have Nd := Lib.hid (Hd.out.up hb1)
    have Nk := Lib.hid (Hk.out.up hb1)
    have No := Lib.hid (Ho.out.up hb1)
    clear Hd Hk Ho
    have Hd := Nd
    have Hk := Nk
    have Ho := No
    clear Nd Nk No
    have HB1 := Lib.hid (up_trans HB0.out hb1)
    clear hb1 HB0
    obtain ⟨da, db, dc, dd⟩ := Hd.out.cells
    obtain ⟨oa, ob⟩ := Ho.out.cells
    go_wp2_with fail
    clear da db dc dd oa ob
    refine (C1.out _ _ _ _ _ Hd.out.ok).mono ?_; rintro e w2 ⟨rfl, hb2⟩
    have Nd := Lib.hid (Hd.out.up hb2)
    have Nk := Lib.hid (Hk.out.up hb2)
    have No := Lib.hid (Ho.out.up hb2)
    clear Hd Hk Ho
    have Hd := Nd
    have Hk := Nk
    have Ho := No
    clear Nd Nk No
    have HB2 := Lib.hid (up_trans HB1.out hb2)
    clear hb2 HB1
    obtain ⟨da, db, dc, dd⟩ := Hd.out.cells
    obtain ⟨ka, kb⟩ := Hk.out.cells
    go_wp2_with fail
    clear da db dc dd ka kb
    refine (C2.out _ _ _ _ _ Hd.out.ok).mono ?_; rintro e w3 ⟨A3, c3, B3, k3, rfl, ok3, hb3⟩
    have Nd := Lib.hid ((Hd.out.up hb3).alloc (.cells #[.slice A3 D1.n c3, .slice B3 D1.m k3, .int .i64 D1.fuse, .bool D1.off] 39))
    have Nk := Lib.hid ((Hk.out.up hb3).alloc (.cells #[.slice A3 D1.n c3, .slice B3 D1.m k3, .int .i64 D1.fuse, .bool D1.off] 39))
    have No := Lib.hid ((Ho.out.up hb3).alloc (.cells #[.slice A3 D1.n c3, .slice B3 D1.m k3, .int .i64 D1.fuse, .bool D1.off] 39))
    clear Hd Hk Ho
    have Hd := Nd
    have Hk := Nk
    have Ho := No
    clear Nd Nk No
    have Ha := Lib.hid (Vr.new ok3)
    have hbb := up_trans HB2.out hb3
    have HB3 := Lib.hid (hbb.alloc hbb.size (.cells #[.slice A3 D1.n c3, .slice B3 D1.m k3, .int .i64 D1.fuse, .bool D1.off] 39))
    clear hbb ok3 hb3 HB2
    go_upto_region 4 with fail
    generalize w3.alloc (.cells #[.slice A3 D1.n c3, .slice B3 D1.m k3, .int .i64 D1.fuse, .bool D1.off] 39) = W3 at *
    generalize w3.heap.size = g3 at *
    obtain ⟨aa, ab, ac, ad⟩ := Ha.out.cells
    obtain ⟨ka, kb⟩ := Hk.out.cells
    go_wp2_with fail
    clear aa ab ac ad ka kb
    refine (C3.out _ _ _ _ _ Ha.out.ok).mono ?_; rintro e w4 ⟨rfl, hb4⟩
    have Nd := Lib.hid (Hd.out.up hb4)
    have Nk := Lib.hid (Hk.out.up hb4)
    have No := Lib.hid (Ho.out.up hb4)
    have Na := Lib.hid (Ha.out.up hb4)
    clear Hd Hk Ho Ha
    have Hd := Nd
    have Hk := Nk
    have Ho := No
    have Ha := Na
    clear Nd Nk No Na
    have HB4 := Lib.hid (up_trans HB3.out hb4)
    clear hb4 HB3
    obtain ⟨aa, ab, ac, ad⟩ := Ha.out.cells
    obtain ⟨oa, ob⟩ := Ho.out.cells
    go_wp2_with fail
    clear aa ab ac ad oa ob
    refine (C4.out _ _ _ _ _ Ha.out.ok).mono ?_; rintro e w5 ⟨rfl, hb5⟩
    have Nd := Lib.hid (Hd.out.up hb5)
    have Nk := Lib.hid (Hk.out.up hb5)
    have No := Lib.hid (Ho.out.up hb5)
    have Na := Lib.hid (Ha.out.up hb5)
    clear Hd Hk Ho Ha
    have Hd := Nd
    have Hk := Nk
    have Ho := No
    have Ha := Na
    clear Nd Nk No Na
    have HB5 := Lib.hid (up_trans HB4.out hb5)
    clear hb5 HB4
    obtain ⟨oa, ob⟩ := Ho.out.cells
    obtain ⟨ka, kb⟩ := Hk.out.cells
    go_wp2
    go_ret
    exact ⟨ret_bool (by first | rfl | simp), HB5.out⟩
  · have t1 : (v' == v && i' == i) = false := by
      rw [Bool.and_eq_false_iff, beq_eq_false_iff_ne, beq_eq_false_iff_ne]
      omega
    rw [t1] at hq
    obtain ⟨o1, o2⟩ := hoth hk
    rw [o1, o2] at c4
    generalize fdX (sdD d v i) v i = X3 at *
    generalize sdD d v i = D1 at *
    generalize fdE d v' i' = E2 at *
    generalize fdX d v' i' = X2 at *
    have C3 := Lib.hid c3
    have C4 := Lib.hid c4
    clear hE hgone hoth hk t1 o1 o2 c3 c4
    have C1 := Lib.hid c1
    have C2 := Lib.hid c2
    have Hd := Lib.hid hV
    have Hk := Lib.hid hS
    have Ho := Lib.hid hK
    have HB0 := Lib.hid hB
    clear c1 c2 hV hS hK hB h hm C
    go_enter Try.func7, Try.ntmps7
    go_upto_region 1 with fail
    rw [← hW]
    clear hW
    go_wp2_with fail
    refine (CS.out _).mono ?_; rintro e w1 ⟨rfl, hb1⟩
    have Nd := Lib.hid (Hd.out.up hb1)
    have Nk := Lib.hid (Hk.out.up hb1)
    have No := Lib.hid (Ho.out.up hb1)
    clear Hd Hk Ho
    have Hd := Nd
    have Hk := Nk
    have Ho := No
    clear Nd Nk No
    have HB1 := Lib.hid (up_trans HB0.out hb1)
    clear hb1 HB0
    obtain ⟨da, db, dc, dd⟩ := Hd.out.cells
    obtain ⟨oa, ob⟩ := Ho.out.cells
    go_wp2_with fail
    clear da db dc dd oa ob
    refine (C1.out _ _ _ _ _ Hd.out.ok).mono ?_; rintro e w2 ⟨rfl, hb2⟩
    have Nd := Lib.hid (Hd.out.up hb2)
    have Nk := Lib.hid (Hk.out.up hb2)
    have No := Lib.hid (Ho.out.up hb2)
    clear Hd Hk Ho
    have Hd := Nd
    have Hk := Nk
    have Ho := No
    clear Nd Nk No
    have HB2 := Lib.hid (up_trans HB1.out hb2)
    clear hb2 HB1
    obtain ⟨da, db, dc, dd⟩ := Hd.out.cells
    obtain ⟨ka, kb⟩ := Hk.out.cells
    go_wp2_with fail
    clear da db dc dd ka kb
    refine (C2.out _ _ _ _ _ Hd.out.ok).mono ?_; rintro e w3 ⟨A3, c3, B3, k3, rfl, ok3, hb3⟩
    have Nd := Lib.hid ((Hd.out.up hb3).alloc (.cells #[.slice A3 D1.n c3, .slice B3 D1.m k3, .int .i64 D1.fuse, .bool D1.off] 39))
    have Nk := Lib.hid ((Hk.out.up hb3).alloc (.cells #[.slice A3 D1.n c3, .slice B3 D1.m k3, .int .i64 D1.fuse, .bool D1.off] 39))
    have No := Lib.hid ((Ho.out.up hb3).alloc (.cells #[.slice A3 D1.n c3, .slice B3 D1.m k3, .int .i64 D1.fuse, .bool D1.off] 39))
    clear Hd Hk Ho
    have Hd := Nd
    have Hk := Nk
    have Ho := No
    clear Nd Nk No
    have Ha := Lib.hid (Vr.new ok3)
    have hbb := up_trans HB2.out hb3
    have HB3 := Lib.hid (hbb.alloc hbb.size (.cells #[.slice A3 D1.n c3, .slice B3 D1.m k3, .int .i64 D1.fuse, .bool D1.off] 39))
    clear hbb ok3 hb3 HB2
    go_upto_region 4 with fail
    generalize w3.alloc (.cells #[.slice A3 D1.n c3, .slice B3 D1.m k3, .int .i64 D1.fuse, .bool D1.off] 39) = W3 at *
    generalize w3.heap.size = g3 at *
    obtain ⟨aa, ab, ac, ad⟩ := Ha.out.cells
    obtain ⟨ka, kb⟩ := Hk.out.cells
    go_wp2_with fail
    clear aa ab ac ad ka kb
    refine (C3.out _ _ _ _ _ Ha.out.ok).mono ?_; rintro e w4 ⟨rfl, hb4⟩
    have Nd := Lib.hid (Hd.out.up hb4)
    have Nk := Lib.hid (Hk.out.up hb4)
    have No := Lib.hid (Ho.out.up hb4)
    have Na := Lib.hid (Ha.out.up hb4)
    clear Hd Hk Ho Ha
    have Hd := Nd
    have Hk := Nk
    have Ho := No
    have Ha := Na
    clear Nd Nk No Na
    have HB4 := Lib.hid (up_trans HB3.out hb4)
    clear hb4 HB3
    obtain ⟨aa, ab, ac, ad⟩ := Ha.out.cells
    obtain ⟨oa, ob⟩ := Ho.out.cells
    go_wp2_with fail
    clear aa ab ac ad oa ob
    refine (C4.out _ _ _ _ _ Ha.out.ok).mono ?_; rintro e w5 ⟨rfl, hb5⟩
    have Nd := Lib.hid (Hd.out.up hb5)
    have Nk := Lib.hid (Hk.out.up hb5)
    have No := Lib.hid (Ho.out.up hb5)
    have Na := Lib.hid (Ha.out.up hb5)
    clear Hd Hk Ho Ha
    have Hd := Nd
    have Hk := Nk
    have Ho := No
    have Ha := Na
    clear Nd Nk No Na
    have HB5 := Lib.hid (up_trans HB4.out hb5)
    clear hb5 HB4
    obtain ⟨oa, ob⟩ := Ho.out.cells
    obtain ⟨ka, kb⟩ := Hk.out.cells
    go_wp2
    go_ret
    exact ⟨ret_bool (by first | rfl | simp), HB5.out⟩
end
end Go.Proofs.Ytofafmjkjgiccaa.Mat
