/- The law ShelfRoom: walked from what it asks of the program. -/
import Derived.Test.YtofafmjkjgiccaaSheLawB
namespace Go.Proofs.Ytofafmjkjgiccaa.Mat
open Go.RowKit Fld

section
variable {w : World} {d : Dk} {A B : Option Addr} {c k : Nat}
set_option maxRecDepth 100000 in
set_option maxHeartbeats 6400000 in
theorem lawRoom (C : ShelfOk) (h : DOk w A c B k d) (v i : Int) (x : ByteArray) (hx : x.size ≤ 140737488351232) (hm : (d.m + 1) * 24 ≤ 140737488355328) :
    Calls Try.prog 10 #[.agg #[.slice A d.n c, .slice B d.m k, .int .i64 d.fuse, .bool d.off], .agg #[.int .i64 v, .int .i64 i, .string x]] w (BoolRet w true) := by
  have hbn := h.sz.bn
  have c2 := fun W A c B k (h : DOk W A c B k d) => C.find W A c B k d h v i
  have c3 := fun W A c B k (h : DOk W A c B k d) => C.put W A c B k d h hm v i x hx
  have CS := Lib.hid (shelfShown_any C)
  obtain ⟨W, hW, hV, hS, hB, hsz⟩ := room_start h v i x
  have Hd := Lib.hid hV
  have Hs := Lib.hid hS
  have HB0 := Lib.hid hB
  clear hV hS hB hsz h hm hx
  by_cases hP : spE d v i x = 0
  rotate_left
  · have g1 : (spE d v i x != 0) = true := bne_iff_ne.2 hP
    generalize spD d v i x = D1 at *
    generalize spE d v i x = E1 at *
    generalize fdE d v i = E2 at *
    generalize fdX d v i = X2 at *
    clear hP C hbn
    have C2 := Lib.hid c2
    have C3 := Lib.hid c3
    clear c2 c3
    go_enter Try.func10, Try.ntmps10
    go_upto_region 1 with fail
    rw [← hW]
    clear hW
    go_wp2_with fail
    refine (CS.out _).mono ?_; rintro e w1 ⟨rfl, hb1⟩
    have Nd := Lib.hid (Hd.out.up hb1)
    have Ns := Lib.hid (Hs.out.up hb1)
    clear Hd Hs
    have Hd := Nd
    have Hs := Ns
    clear Nd Ns
    have HB1 := Lib.hid (up_trans HB0.out hb1)
    clear hb1 HB0
    obtain ⟨da, db, dc, dd⟩ := Hd.out.cells
    obtain ⟨sa, sb, sc⟩ := Hs.out.cells
    go_wp2_with fail
    clear da db dc dd sa sb sc
    refine (C2.out _ _ _ _ _ Hd.out.ok).mono ?_; rintro e w2 ⟨rfl, hb2⟩
    have Nd := Lib.hid (Hd.out.up hb2)
    have Ns := Lib.hid (Hs.out.up hb2)
    clear Hd Hs
    have Hd := Nd
    have Hs := Ns
    clear Nd Ns
    have HB2 := Lib.hid (up_trans HB1.out hb2)
    clear hb2 HB1
    obtain ⟨da, db, dc, dd⟩ := Hd.out.cells
    obtain ⟨sa, sb, sc⟩ := Hs.out.cells
    go_wp2_with fail
    clear da db dc dd sa sb sc
    refine (C3.out _ _ _ _ _ Hd.out.ok).mono ?_; rintro e w3 ⟨A3, c3, B3, k3, rfl, ok3, hb3⟩
    have Nd := Lib.hid ((Hd.out.up hb3).alloc (.cells #[.slice A3 D1.n c3, .slice B3 D1.m k3, .int .i64 D1.fuse, .bool D1.off] 39))
    have Ns := Lib.hid ((Hs.out.up hb3).alloc (.cells #[.slice A3 D1.n c3, .slice B3 D1.m k3, .int .i64 D1.fuse, .bool D1.off] 39))
    clear Hd Hs
    have Hd := Nd
    have Hs := Ns
    clear Nd Ns
    have Ha := Lib.hid (Vr.new ok3)
    have hbb := up_trans HB2.out hb3
    have HB3 := Lib.hid (hbb.alloc hbb.size (.cells #[.slice A3 D1.n c3, .slice B3 D1.m k3, .int .i64 D1.fuse, .bool D1.off] 39))
    clear hbb ok3 hb3 HB2
    go_upto_region 4 with fail
    generalize w3.alloc (.cells #[.slice A3 D1.n c3, .slice B3 D1.m k3, .int .i64 D1.fuse, .bool D1.off] 39) = W3 at *
    generalize w3.heap.size = g3 at *
    go_wp2
    go_ret
    exact ⟨ret_bool (by first | rfl | simp), HB3.out⟩
  by_cases hE : fdE d v i = 0
  · have g1 : (spE d v i x != 0) = false := by rw [hP]; rfl
    have g2 : (fdE d v i == 0) = true := beq_iff_eq.2 hE
    generalize spD d v i x = D1 at *
    generalize spE d v i x = E1 at *
    generalize fdE d v i = E2 at *
    generalize fdX d v i = X2 at *
    clear hP hE C hbn
    have C2 := Lib.hid c2
    have C3 := Lib.hid c3
    clear c2 c3
    go_enter Try.func10, Try.ntmps10
    go_upto_region 1 with fail
    rw [← hW]
    clear hW
    go_wp2_with fail
    refine (CS.out _).mono ?_; rintro e w1 ⟨rfl, hb1⟩
    have Nd := Lib.hid (Hd.out.up hb1)
    have Ns := Lib.hid (Hs.out.up hb1)
    clear Hd Hs
    have Hd := Nd
    have Hs := Ns
    clear Nd Ns
    have HB1 := Lib.hid (up_trans HB0.out hb1)
    clear hb1 HB0
    obtain ⟨da, db, dc, dd⟩ := Hd.out.cells
    obtain ⟨sa, sb, sc⟩ := Hs.out.cells
    go_wp2_with fail
    clear da db dc dd sa sb sc
    refine (C2.out _ _ _ _ _ Hd.out.ok).mono ?_; rintro e w2 ⟨rfl, hb2⟩
    have Nd := Lib.hid (Hd.out.up hb2)
    have Ns := Lib.hid (Hs.out.up hb2)
    clear Hd Hs
    have Hd := Nd
    have Hs := Ns
    clear Nd Ns
    have HB2 := Lib.hid (up_trans HB1.out hb2)
    clear hb2 HB1
    obtain ⟨da, db, dc, dd⟩ := Hd.out.cells
    obtain ⟨sa, sb, sc⟩ := Hs.out.cells
    go_wp2_with fail
    clear da db dc dd sa sb sc
    refine (C3.out _ _ _ _ _ Hd.out.ok).mono ?_; rintro e w3 ⟨A3, c3, B3, k3, rfl, ok3, hb3⟩
    have Nd := Lib.hid ((Hd.out.up hb3).alloc (.cells #[.slice A3 D1.n c3, .slice B3 D1.m k3, .int .i64 D1.fuse, .bool D1.off] 39))
    have Ns := Lib.hid ((Hs.out.up hb3).alloc (.cells #[.slice A3 D1.n c3, .slice B3 D1.m k3, .int .i64 D1.fuse, .bool D1.off] 39))
    clear Hd Hs
    have Hd := Nd
    have Hs := Ns
    clear Nd Ns
    have Ha := Lib.hid (Vr.new ok3)
    have hbb := up_trans HB2.out hb3
    have HB3 := Lib.hid (hbb.alloc hbb.size (.cells #[.slice A3 D1.n c3, .slice B3 D1.m k3, .int .i64 D1.fuse, .bool D1.off] 39))
    clear hbb ok3 hb3 HB2
    go_upto_region 4 with fail
    generalize w3.alloc (.cells #[.slice A3 D1.n c3, .slice B3 D1.m k3, .int .i64 D1.fuse, .bool D1.off] 39) = W3 at *
    generalize w3.heap.size = g3 at *
    go_wp2
    go_ret
    exact ⟨ret_bool (by first | rfl | simp), HB3.out⟩
  obtain ⟨r1, r2, r3, r4⟩ := room_told hE hP
  have g2 : (fdE d v i == 0) = false := beq_eq_false_iff_ne.2 hE
  have c4 := fun W A c B k (h : DOk W A c B k d) => C.list W A c B k d h
  have c5 := fun W A c B k (h : DOk W A c B k (spD d v i x)) => C.list W A c B k _ h
  have c6 := fun W A c B k (h : DOk W A c B k (spD d v i x)) => C.free W A c B k _ h
  have c7 := fun W A c B k (h : DOk W A c B k (spD d v i x)) => C.bad W A c B k _ h
  have c8 := fun W A c B k (h : DOk W A c B k d) => C.free W A c B k d h
  have c9 := fun W A c B k (h : DOk W A c B k d) => C.bad W A c B k d h
  have k5 : ks (gs (spD d v i x)) (spD d v i x).n = ks (gs (spD d v i x)) d.n := by rw [r3]
  have k6 : em (gs (spD d v i x)) (spD d v i x).n = em (gs (spD d v i x)) d.n := by rw [r3]
  have k7 : bd (gs (spD d v i x)) (spD d v i x).n = bd (gs (spD d v i x)) d.n := by rw [r3]
  rw [k5] at c5
  rw [k6] at c6
  rw [k7] at c7
  have b1 := ks_len (gs (spD d v i x)) d.n
  have b2 := ks_len (gs d) d.n
  have b3 := em_le (gs (spD d v i x)) d.n
  have b4 := em_le (gs d) d.n
  have b5 := bd_len (gs (spD d v i x)) d.n
  have b6 := bd_len (gs d) d.n
  rw [hP] at c3
  generalize fdE d v i = E2 at *
  generalize fdX d v i = X2 at *
  generalize ks (gs (spD d v i x)) d.n = now at *
  generalize ks (gs d) d.n = was at *
  generalize bd (gs (spD d v i x)) d.n = bk at *
  generalize bd (gs d) d.n = bb at *
  generalize em (gs (spD d v i x)) d.n = ek at *
  generalize em (gs d) d.n = ee at *
  generalize spD d v i x = D1 at *
  have hnow : now.length ≤ 140737488351232 := by omega
  have hwas : was.length ≤ 140737488351232 := by omega
  have h3 : ((now.length : Int) != (was.length : Int) + 1) = false := by rw [r1]; simp
  have hek : ek ≤ 140737488351232 := by omega
  have hee : ee ≤ 140737488351232 := by omega
  have hbk : bk.length ≤ 140737488351232 := by omega
  have hbb : bb.length ≤ 140737488351232 := by omega
  have h4 : ((ek : Int) + (bk.length : Int) != (ee : Int) + (bb.length : Int) - 1) = false := by
    rw [show (ek : Int) + (bk.length : Int) = (ee : Int) + (bb.length : Int) - 1 by omega]; simp
  have q1 : IntKind.i64.wrap ((was.length : Int) + 1) = (was.length : Int) + 1 := IntWalk.i64_in _ (by omega)
  have q2 : IntKind.i64.wrap ((ek : Int) + (bk.length : Int)) = (ek : Int) + (bk.length : Int) := IntWalk.i64_in _ (by omega)
  have q3 : IntKind.i64.wrap ((ee : Int) + (bb.length : Int)) = (ee : Int) + (bb.length : Int) := IntWalk.i64_in _ (by omega)
  have q4 : IntKind.i64.wrap ((ee : Int) + (bb.length : Int) - 1) = (ee : Int) + (bb.length : Int) - 1 := IntWalk.i64_in _ (by omega)
  have HR4 := Lib.hid r4
  have C4 := Lib.hid c4
  have C5 := Lib.hid c5
  have C6 := Lib.hid c6
  have C7 := Lib.hid c7
  have C8 := Lib.hid c8
  have C9 := Lib.hid c9
  clear k5 k6 k7 c4 c5 c6 c7 c8 c9 hP hE r1 r2 r3 r4 b1 b2 b3 b4 b5 b6 C hbn
  have C2 := Lib.hid c2
  have C3 := Lib.hid c3
  clear c2 c3
  go_enter Try.func10, Try.ntmps10
  go_upto_region 1 with fail
  rw [← hW]
  clear hW
  go_wp2_with fail
  refine (CS.out _).mono ?_; rintro e w1 ⟨rfl, hb1⟩
  have Nd := Lib.hid (Hd.out.up hb1)
  have Ns := Lib.hid (Hs.out.up hb1)
  clear Hd Hs
  have Hd := Nd
  have Hs := Ns
  clear Nd Ns
  have HB1 := Lib.hid (up_trans HB0.out hb1)
  clear hb1 HB0
  obtain ⟨da, db, dc, dd⟩ := Hd.out.cells
  obtain ⟨sa, sb, sc⟩ := Hs.out.cells
  go_wp2_with fail
  clear da db dc dd sa sb sc
  refine (C2.out _ _ _ _ _ Hd.out.ok).mono ?_; rintro e w2 ⟨rfl, hb2⟩
  have Nd := Lib.hid (Hd.out.up hb2)
  have Ns := Lib.hid (Hs.out.up hb2)
  clear Hd Hs
  have Hd := Nd
  have Hs := Ns
  clear Nd Ns
  have HB2 := Lib.hid (up_trans HB1.out hb2)
  clear hb2 HB1
  obtain ⟨da, db, dc, dd⟩ := Hd.out.cells
  obtain ⟨sa, sb, sc⟩ := Hs.out.cells
  go_wp2_with fail
  clear da db dc dd sa sb sc
  refine (C3.out _ _ _ _ _ Hd.out.ok).mono ?_; rintro e w3 ⟨A3, c3, B3, k3, rfl, ok3, hb3⟩
  have Nd := Lib.hid ((Hd.out.up hb3).alloc (.cells #[.slice A3 D1.n c3, .slice B3 D1.m k3, .int .i64 D1.fuse, .bool D1.off] 39))
  have Ns := Lib.hid ((Hs.out.up hb3).alloc (.cells #[.slice A3 D1.n c3, .slice B3 D1.m k3, .int .i64 D1.fuse, .bool D1.off] 39))
  clear Hd Hs
  have Hd := Nd
  have Hs := Ns
  clear Nd Ns
  have Ha := Lib.hid (Vr.new ok3)
  have hbb := up_trans HB2.out hb3
  have HB3 := Lib.hid (hbb.alloc hbb.size (.cells #[.slice A3 D1.n c3, .slice B3 D1.m k3, .int .i64 D1.fuse, .bool D1.off] 39))
  clear hbb ok3 hb3 HB2
  go_upto_region 4 with fail
  generalize w3.alloc (.cells #[.slice A3 D1.n c3, .slice B3 D1.m k3, .int .i64 D1.fuse, .bool D1.off] 39) = W3 at *
  generalize w3.heap.size = g3 at *
  obtain ⟨da, db, dc, dd⟩ := Hd.out.cells
  go_wp2_with fail
  clear da db dc dd
  refine (C4.out _ _ _ _ _ Hd.out.ok).mono ?_; rintro e w4 ⟨A4, c4, rfl, hk4, hb4⟩
  have Nd := Lib.hid (Hd.out.up hb4)
  have Ns := Lib.hid (Hs.out.up hb4)
  have Na := Lib.hid (Ha.out.up hb4)
  clear Hd Hs Ha
  have Hd := Nd
  have Hs := Ns
  have Ha := Na
  clear Nd Ns Na
  have HB4 := Lib.hid (up_trans HB3.out hb4)
  have HK4 := Lib.hid hk4
  clear hb4 hk4 HB3
  obtain ⟨aa, ab, ac, ad⟩ := Ha.out.cells
  go_wp2_with fail
  clear aa ab ac ad
  refine (C5.out _ _ _ _ _ Ha.out.ok).mono ?_; rintro e w5 ⟨A5, c5, rfl, hk5, hb5⟩
  have Nd := Lib.hid (Hd.out.up hb5)
  have Ns := Lib.hid (Hs.out.up hb5)
  have Na := Lib.hid (Ha.out.up hb5)
  clear Hd Hs Ha
  have Hd := Nd
  have Hs := Ns
  have Ha := Na
  clear Nd Ns Na
  have HB5 := Lib.hid (up_trans HB4.out hb5)
  have HK5 := Lib.hid hk5
  have HK4b := Lib.hid (HK4.out.up hb5)
  clear hb5 hk5 HB4 HK4
  obtain ⟨aa, ab, ac, ad⟩ := Ha.out.cells
  obtain ⟨da, db, dc, dd⟩ := Hd.out.cells
  have K : Hid (∀ W, Below w5.heap.size w5 W → (W.cell? ⟨g3, 0, none⟩ = some (.slice A3 D1.n c3) ∧ W.cell? ⟨g3, 1, none⟩ = some (.slice B3 D1.m k3) ∧ W.cell? ⟨g3, 2, none⟩ = some (.int .i64 D1.fuse) ∧ W.cell? ⟨g3, 3, none⟩ = some (.bool D1.off)) ∧ W.cell? ⟨w.heap.size, 0, none⟩ = some (.slice A d.n c) ∧ W.cell? ⟨w.heap.size, 1, none⟩ = some (.slice B d.m k) ∧ W.cell? ⟨w.heap.size, 2, none⟩ = some (.int .i64 d.fuse) ∧ W.cell? ⟨w.heap.size, 3, none⟩ = some (.bool d.off)) := Lib.hid (fun W hb => ⟨(Ha.out.up hb).cells, (Hd.out.up hb).cells⟩)
  go_upto_region 8 with fail
  go_region_held3 (fun W => (W.cell? ⟨g3, 0, none⟩ = some (.slice A3 D1.n c3) ∧ W.cell? ⟨g3, 1, none⟩ = some (.slice B3 D1.m k3) ∧ W.cell? ⟨g3, 2, none⟩ = some (.int .i64 D1.fuse) ∧ W.cell? ⟨g3, 3, none⟩ = some (.bool D1.off)) ∧ W.cell? ⟨w.heap.size, 0, none⟩ = some (.slice A d.n c) ∧ W.cell? ⟨w.heap.size, 1, none⟩ = some (.slice B d.m k) ∧ W.cell? ⟨w.heap.size, 2, none⟩ = some (.int .i64 d.fuse) ∧ W.cell? ⟨w.heap.size, 3, none⟩ = some (.bool d.off))
    (first | exact ⟨⟨aa, ab, ac, ad⟩, da, db, dc, dd⟩ | exact K.out _ b6.out | exact K.out _ b7.out | exact K.out _ b8.out | exact K.out _ b9.out | go_keep)
    (first
      | (go_at_call 26; (with_reducible refine Calls.mono (C6.out _ _ _ _ _ Ha.out.ok.drew) ?_); rintro e w6 ⟨rfl, hb6⟩; have b6 : Hid (Below w5.heap.size w5 w6) := Lib.hid (below_of_drew hb6); clear hb6)
      | (go_at_call 22; (with_reducible refine Calls.mono (C7.out _ _ _ _ _ (Ha.out.ok.up b6.out)) ?_); rintro e w7 ⟨A7, c7, rfl, _, hb7⟩; have b7 : Hid (Below w5.heap.size w5 w7) := Lib.hid (up_trans b6.out hb7); clear hb7)
      | (go_at_call 26; (with_reducible refine Calls.mono (C8.out _ _ _ _ _ (Hd.out.ok.up b7.out)) ?_); rintro e w8 ⟨rfl, hb8⟩; have b8 : Hid (Below w5.heap.size w5 w8) := Lib.hid (up_trans b7.out hb8); clear hb8)
      | (go_at_call 22; (with_reducible refine Calls.mono (C9.out _ _ _ _ _ (Hd.out.ok.up b8.out)) ?_); rintro e w9 ⟨A9, c9, rfl, _, hb9⟩; have b9 : Hid (Below w5.heap.size w5 w9) := Lib.hid (up_trans b8.out hb9); clear hb9))
  clear aa ab ac ad da db dc dd
  have HW := Lib.hid (HK4b.out.up b9.out)
  have HN := Lib.hid (HK5.out.up b9.out)
  have HB9 := Lib.hid (up_trans HB5.out b9.out)
  clear HK4b HK5 HB5 K b9 b8 b7 b6
  go_wp2
  clear h3 h4 q1 q2 q3 q4
  go_loopg [12, 13] now.length (fun gh u y wr => ∃ q n : Nat, q ≤ now.length ∧ gh = now.length - q ∧ u = .int .i64 (gm was now q : Nat) ∧ y = .int .i64 (q : Nat) ∧ wr = w9.drewN n)
  case atStart => exact ⟨0, 0, Nat.zero_le _, rfl, rfl, rfl, rfl⟩
  case round =>
    obtain ⟨q, n, hq, hgh, rfl, rfl, rfl⟩ := hrel
    by_cases hlt : q < now.length
    rotate_left
    · have hqz : ¬ (q : Int) < (now.length : Int) := by omega
      obtain rfl : q = now.length := by omega
      rw [HR4.out]
      go_wp2
      go_ret
      exact ⟨ret_bool (by first | rfl | simp), below_drewN HB9.out _⟩
    have hqz : (q : Int) < (now.length : Int) := by omega
    obtain ⟨a1, rfl, _, k0, k1⟩ := HN.out.at_ hlt
    have hgl := (gm_le was now q).2
    have hyes := gm_yes (was := was) (now := now) (i := q)
    have hno := gm_no (was := was) (now := now) (i := q)
    generalize hg : gm was now q = t at *
    clear hg
    by_cases hat : t < was.length
    · have htz : (t : Int) < (was.length : Int) := by omega
      have gd : decide ((t : Int) < (was.length : Int)) = true := decide_eq_true htz
      obtain ⟨a2, rfl, _, k2, k3⟩ := HW.out.at_ hat
      have hnq := fun W => eqlK ((now[q].1 : Nat) : Int) ((now[q].2 : Nat) : Int) ((was[t].1 : Nat) : Int) ((was[t].2 : Nat) : Int) W
      have e1 := List.getElem?_eq_getElem hlt
      have e2 := List.getElem?_eq_getElem hat
      generalize now[q] = p at *
      generalize was[t] = r at *
      obtain ⟨p1, p2⟩ := p
      obtain ⟨r1, r2⟩ := r
      dsimp only at k0 k1 k2 k3 hnq
      by_cases he : p1 = r1 ∧ p2 = r2
      · obtain ⟨rfl, rfl⟩ := he
        have t1 : ((p1 : Int) == (p1 : Int) && (p2 : Int) == (p2 : Int)) = true := by simp
        rw [t1] at hnq
        have HT := Lib.hid (hyes hat (by rw [e1, e2]))
        clear hyes hno e1 e2 t1
        go_wp2_with fail
        go_quiet (fail)
        go_wp2
        go_roundg (now.length - (q + 1))
        case measure => go_light; omega
        case rel => go_light; exact ⟨q + 1, _, by omega, rfl, by rw [HT.out]; simp, by simp, rfl⟩
      · have t1 : ((p1 : Int) == (r1 : Int) && (p2 : Int) == (r2 : Int)) = false := by
          rw [Bool.and_eq_false_iff, beq_eq_false_iff_ne, beq_eq_false_iff_ne]
          omega
        rw [t1] at hnq
        have HT := Lib.hid (hno (fun z => he (by
          have z2 := z.2
          rw [e1, e2] at z2
          injection z2 with z3
          injection z3 with z4 z5
          exact ⟨z4, z5⟩)))
        clear hyes hno e1 e2 t1 he
        go_wp2_with fail
        go_quiet (fail)
        go_wp2
        go_roundg (now.length - (q + 1))
        case measure => go_light; omega
        case rel => go_light; exact ⟨q + 1, _, by omega, rfl, by rw [HT.out], by simp, rfl⟩
    · have htz : ¬ (t : Int) < (was.length : Int) := by omega
      have gd : decide ((t : Int) < (was.length : Int)) = false := decide_eq_false htz
      have HT := Lib.hid (hno (fun z => hat z.1))
      clear hyes hno
      go_wp2_with fail
      go_quiet (fail)
      go_wp2
      go_roundg (now.length - (q + 1))
      case measure => go_light; omega
      case rel => go_light; exact ⟨q + 1, _, by omega, rfl, by rw [HT.out], by simp, rfl⟩
end
end Go.Proofs.Ytofafmjkjgiccaa.Mat
