/- The law DiskReads: walked. -/
import Derived.Test.YtefppiplkmhdmaaDskS
namespace Go.Proofs.Ytefppiplkmhdmaa.Mat
open Go.RowKit Fld

theorem put_ok {d : Dk} {slot : Int} {s : ByteArray} (h : putE d slot s = 0) : ∃ f, putD d slot s = addD d slot s f false ∧ d.off = false ∧ hasB d.n slot = true ∧ s.size ≤ 1024 := by
  cases ho : d.off
  · cases hh : hasB d.n slot
    · rw [(putD_arg slot s ho hh).2] at h; cases h
    · by_cases hb : 1024 < s.size
      · rw [(putD_big slot s ho hh hb).2] at h; cases h
      · by_cases h0 : d.fuse = 0
        · rw [(putD_zero slot s ho hh hb h0).2] at h; cases h
        · by_cases h1 : 0 < d.fuse
          · exact ⟨_, (putD_pos slot s ho hh hb h1).1, rfl, rfl, by omega⟩
          · exact ⟨_, (putD_neg slot s ho hh hb (by omega)).1, rfl, rfl, by omega⟩
  · rw [(putD_off slot s ho).2] at h; cases h
theorem last_add {d : Dk} {slot other : Int} {s : ByteArray} {f : Int} {o : Bool} (b : ByteArray) : lastT (addD d slot s f o).I (addD d slot s f o).T other b (d.m + 1) = if slot = other then s else lastT d.I d.T other b d.m := by
  have hr : ∀ r, r ≤ d.m → lastT (addD d slot s f o).I (addD d slot s f o).T other b r = lastT d.I d.T other b r := by
    intro r
    induction r with
    | zero => intro _; rfl
    | succ r ih =>
      intro hr
      show (if (if r = d.m then slot else d.I r) = other then (if r = d.m then s else d.T r) else lastT (addD d slot s f o).I (addD d slot s f o).T other b r) = (if d.I r = other then d.T r else lastT d.I d.T other b r)
      have hne : ¬ r = d.m := by omega
      rw [if_neg hne, if_neg hne, ih (by omega)]
  show (if (if d.m = d.m then slot else d.I d.m) = other then (if d.m = d.m then s else d.T d.m) else lastT (addD d slot s f o).I (addD d slot s f o).T other b d.m) = _
  rw [if_pos rfl, if_pos rfl, hr d.m (Nat.le_refl _)]
theorem get_add {d : Dk} {slot other : Int} {s : ByteArray} {f : Int} {o : Bool} (hne : other ≠ slot) : getS (addD d slot s f o) other = getS d other := by
  unfold getS
  show (if hasB d.n other = true then lastT (addD d slot s f o).I (addD d slot s f o).T other (d.S other.toNat) (d.m + 1) else ByteArray.empty) = _
  rw [last_add, if_neg (show ¬ slot = other from fun e => hne e.symm)]
theorem get_added {d : Dk} {slot : Int} {s : ByteArray} {f : Int} {o : Bool} (h : hasB d.n slot = true) : getS (addD d slot s f o) slot = s ∧ getE (addD d slot s f o) slot = 0 := by
  obtain ⟨e1, e2⟩ := get_in (d := addD d slot s f o) (slot := slot) h
  refine ⟨?_, e1⟩
  rw [e2]
  show lastT (addD d slot s f o).I (addD d slot s f o).T slot (d.S slot.toNat) (d.m + 1) = s
  rw [last_add, if_pos rfl]
theorem get_flushed {d : Dk} {slot : Int} {f : Int} {o : Bool} (h : hasB d.n slot = true) : getS (doneD d (doS d.I d.T d.S d.m) f o) slot = getS d slot := by
  obtain ⟨s0, s1⟩ := hasB_iff.1 h
  obtain ⟨j, rfl⟩ : ∃ j : Nat, slot = j := ⟨slot.toNat, by omega⟩
  rw [(get_in h).2, (get_in (d := doneD d (doS d.I d.T d.S d.m) f o) (slot := (j : Int)) h).2]
  show doS d.I d.T d.S d.m ((j : Int).toNat) = _
  rw [Int.toNat_natCast, doS_last]
theorem reads_nums {d : Dk} {slot other : Int} {s : ByteArray} (h : putE d slot s = 0) : getE (putD d slot s) slot = 0 ∧ getS (putD d slot s) slot = s ∧ (other ≠ slot → getS (putD d slot s) other = getS d other) ∧ flushE (putD d slot s) = 0 ∧ getS (flushD (putD d slot s)) slot = s := by
  obtain ⟨f, e, _, hh, _⟩ := put_ok h
  rw [e]
  obtain ⟨g1, g2⟩ := get_added (d := d) (slot := slot) (s := s) (f := f) (o := false) hh
  obtain ⟨f1, f2⟩ := flush_on (d := addD d slot s f false) rfl
  refine ⟨g2, g1, fun hne => get_add hne, f2, ?_⟩
  rw [f1, get_flushed (d := addD d slot s f false) hh, g1]

section
variable {w : World} {d : Dk} {A B : Option Addr} {c k : Nat}
set_option maxRecDepth 100000 in
set_option maxHeartbeats 3200000 in
theorem lawReads (h : DOk w A c B k d) (hm : (d.m + 1) * 24 ≤ 140737488355328) (slot : Int) (s : ByteArray) (hs : s.size ≤ 140737488351232) (other : Int) :
    Calls Try.prog 6 #[.agg #[.slice A d.n c, .slice B d.m k, .int .i64 d.fuse, .bool d.off, .int .i64 slot, .string s, .int .i64 other]] w (BoolRet w true) := by
  have c1 := fun W A c B k (h : DOk W A c B k d) => get_any h other
  have c2 := fun W A c B k (h : DOk W A c B k d) => put_any h hm slot s hs
  by_cases hE : putE d slot s = 0
  rotate_left
  · generalize putD d slot s = D1 at *
    generalize putE d slot s = E1 at *
    generalize getS d other = T1 at *
    generalize getE d other = E2 at *
    have g1 : (E1 != 0) = true := by rw [bne_iff_ne]; exact hE
    have C1 := Lib.hid c1
    have C2 := Lib.hid c2
    obtain ⟨hV, hB⟩ := law_start h (.cells #[.slice A d.n c, .slice B d.m k, .int .i64 d.fuse, .bool d.off, .int .i64 slot, .string s, .int .i64 other] 58)
    have Hd := Lib.hid hV
    have HB0 := Lib.hid hB
    clear c1 c2 hm hs hE h hV hB
    go_enter Try.func6, Try.ntmps6
    go_upto_region 5 with fail
    generalize (w.alloc (.cells #[.slice A d.n c, .slice B d.m k, .int .i64 d.fuse, .bool d.off, .int .i64 slot, .string s, .int .i64 other] 58)).alloc (.cells #[.slice A d.n c, .slice B d.m k, .int .i64 d.fuse, .bool d.off] 25) = w0 at *
    go_wp2_with fail
    refine (shown_any _).mono ?_; rintro e w1 ⟨rfl, hb1⟩
    have Nd := Lib.hid (Hd.out.up hb1)
    clear Hd
    have Hd := Nd
    clear Nd
    have HB1 := Lib.hid (up_trans HB0.out hb1)
    clear hb1 HB0
    obtain ⟨da, db, dc, dd⟩ := Hd.out.cells
    go_wp2_with fail
    clear da db dc dd
    refine (C1.out _ _ _ _ _ Hd.out.ok).mono ?_; rintro e w2 ⟨rfl, hb2⟩
    have Nd := Lib.hid (Hd.out.up hb2)
    clear Hd
    have Hd := Nd
    clear Nd
    have HB2 := Lib.hid (up_trans HB1.out hb2)
    clear hb2 HB1
    obtain ⟨da, db, dc, dd⟩ := Hd.out.cells
    go_wp2_with fail
    clear da db dc dd
    refine (C2.out _ _ _ _ _ Hd.out.ok).mono ?_; rintro e w3 ⟨A3, c3, B3, k3, rfl, ok3, hb3⟩
    have Nd := Lib.hid ((Hd.out.up hb3).alloc (.cells #[.slice A3 D1.n c3, .slice B3 D1.m k3, .int .i64 D1.fuse, .bool D1.off] 25))
    clear Hd
    have Hd := Nd
    clear Nd
    have Hk := Lib.hid (Vr.new ok3)
    have hbb := up_trans HB2.out hb3
    have HB3 := Lib.hid (hbb.alloc hbb.size (.cells #[.slice A3 D1.n c3, .slice B3 D1.m k3, .int .i64 D1.fuse, .bool D1.off] 25))
    clear hbb ok3 hb3 HB2
    go_upto_region 8 with fail
    generalize w3.alloc (.cells #[.slice A3 D1.n c3, .slice B3 D1.m k3, .int .i64 D1.fuse, .bool D1.off] 25) = W3 at *
    generalize w3.heap.size = g3 at *
    go_wp2
    go_ret
    exact ⟨rfl, HB3.out⟩
  · obtain ⟨e1, e2, e3, e4, e5⟩ := reads_nums (other := other) hE
    have c3 := fun W A c B k (h : DOk W A c B k (putD d slot s)) => get_any h slot
    have c4 := fun W A c B k (h : DOk W A c B k (putD d slot s)) => get_any h other
    have c5 := fun W A c B k (h : DOk W A c B k (putD d slot s)) => flush_any h
    have c6 := fun W A c B k (h : DOk W A c B k (flushD (putD d slot s))) => get_any h slot
    rw [hE] at c2
    rw [e1, e2] at c3
    rw [e4] at c5
    rw [e5] at c6
    generalize getE (flushD (putD d slot s)) slot = E6 at *
    generalize flushD (putD d slot s) = D2 at *
    generalize getE (putD d slot s) other = E4 at *
    generalize getS (putD d slot s) other = T2 at *
    generalize putD d slot s = D1 at *
    generalize getS d other = T1 at *
    generalize getE d other = E2 at *
    have HEQ := Lib.hid e3
    have C1 := Lib.hid c1
    have C2 := Lib.hid c2
    have C3 := Lib.hid c3
    have C4 := Lib.hid c4
    have C5 := Lib.hid c5
    have C6 := Lib.hid c6
    obtain ⟨hV, hB⟩ := law_start h (.cells #[.slice A d.n c, .slice B d.m k, .int .i64 d.fuse, .bool d.off, .int .i64 slot, .string s, .int .i64 other] 58)
    have Hd := Lib.hid hV
    have HB0 := Lib.hid hB
    clear c1 c2 c3 c4 c5 c6 hm hs hE e1 e2 e3 e4 e5 h hV hB
    go_enter Try.func6, Try.ntmps6
    go_upto_region 5 with fail
    generalize (w.alloc (.cells #[.slice A d.n c, .slice B d.m k, .int .i64 d.fuse, .bool d.off, .int .i64 slot, .string s, .int .i64 other] 58)).alloc (.cells #[.slice A d.n c, .slice B d.m k, .int .i64 d.fuse, .bool d.off] 25) = w0 at *
    go_wp2_with fail
    refine (shown_any _).mono ?_; rintro e w1 ⟨rfl, hb1⟩
    have Nd := Lib.hid (Hd.out.up hb1)
    clear Hd
    have Hd := Nd
    clear Nd
    have HB1 := Lib.hid (up_trans HB0.out hb1)
    clear hb1 HB0
    obtain ⟨da, db, dc, dd⟩ := Hd.out.cells
    go_wp2_with fail
    clear da db dc dd
    refine (C1.out _ _ _ _ _ Hd.out.ok).mono ?_; rintro e w2 ⟨rfl, hb2⟩
    have Nd := Lib.hid (Hd.out.up hb2)
    clear Hd
    have Hd := Nd
    clear Nd
    have HB2 := Lib.hid (up_trans HB1.out hb2)
    clear hb2 HB1
    obtain ⟨da, db, dc, dd⟩ := Hd.out.cells
    go_wp2_with fail
    clear da db dc dd
    refine (C2.out _ _ _ _ _ Hd.out.ok).mono ?_; rintro e w3 ⟨A3, c3, B3, k3, rfl, ok3, hb3⟩
    have Nd := Lib.hid ((Hd.out.up hb3).alloc (.cells #[.slice A3 D1.n c3, .slice B3 D1.m k3, .int .i64 D1.fuse, .bool D1.off] 25))
    clear Hd
    have Hd := Nd
    clear Nd
    have Hk := Lib.hid (Vr.new ok3)
    have hbb := up_trans HB2.out hb3
    have HB3 := Lib.hid (hbb.alloc hbb.size (.cells #[.slice A3 D1.n c3, .slice B3 D1.m k3, .int .i64 D1.fuse, .bool D1.off] 25))
    clear hbb ok3 hb3 HB2
    go_upto_region 8 with fail
    generalize w3.alloc (.cells #[.slice A3 D1.n c3, .slice B3 D1.m k3, .int .i64 D1.fuse, .bool D1.off] 25) = W3 at *
    generalize w3.heap.size = g3 at *
    obtain ⟨ka, kb, kc, kd⟩ := Hk.out.cells
    go_wp2_with fail
    clear ka kb kc kd
    refine (C3.out _ _ _ _ _ Hk.out.ok).mono ?_; rintro e w4 ⟨rfl, hb4⟩
    have Nd := Lib.hid (Hd.out.up hb4)
    have Nk := Lib.hid (Hk.out.up hb4)
    clear Hd Hk
    have Hd := Nd
    have Hk := Nk
    clear Nd Nk
    have HB4 := Lib.hid (up_trans HB3.out hb4)
    clear hb4 HB3
    obtain ⟨ka, kb, kc, kd⟩ := Hk.out.cells
    go_wp2_with fail
    clear ka kb kc kd
    refine (C4.out _ _ _ _ _ Hk.out.ok).mono ?_; rintro e w5 ⟨rfl, hb5⟩
    have Nd := Lib.hid (Hd.out.up hb5)
    have Nk := Lib.hid (Hk.out.up hb5)
    clear Hd Hk
    have Hd := Nd
    have Hk := Nk
    clear Nd Nk
    have HB5 := Lib.hid (up_trans HB4.out hb5)
    clear hb5 HB4
    obtain ⟨ka, kb, kc, kd⟩ := Hk.out.cells
    go_wp2_with fail
    clear ka kb kc kd
    refine (C5.out _ _ _ _ _ Hk.out.ok).mono ?_; rintro e w6 ⟨A6, c6, B6, k6, rfl, ok6, hb6⟩
    have Nd := Lib.hid ((Hd.out.up hb6).alloc (.cells #[.slice A6 D2.n c6, .slice B6 D2.m k6, .int .i64 D2.fuse, .bool D2.off] 25))
    have Nk := Lib.hid ((Hk.out.up hb6).alloc (.cells #[.slice A6 D2.n c6, .slice B6 D2.m k6, .int .i64 D2.fuse, .bool D2.off] 25))
    clear Hd Hk
    have Hd := Nd
    have Hk := Nk
    clear Nd Nk
    have Hz := Lib.hid (Vr.new ok6)
    have hbb := up_trans HB5.out hb6
    have HB6 := Lib.hid (hbb.alloc hbb.size (.cells #[.slice A6 D2.n c6, .slice B6 D2.m k6, .int .i64 D2.fuse, .bool D2.off] 25))
    clear hbb ok6 hb6 HB5
    go_upto_region 13 with fail
    generalize w6.alloc (.cells #[.slice A6 D2.n c6, .slice B6 D2.m k6, .int .i64 D2.fuse, .bool D2.off] 25) = W6 at *
    generalize w6.heap.size = g6 at *
    obtain ⟨za, zb, zc, zd⟩ := Hz.out.cells
    go_wp2_with fail
    clear za zb zc zd
    refine (C6.out _ _ _ _ _ Hz.out.ok).mono ?_; rintro e w7 ⟨rfl, hb7⟩
    have Nd := Lib.hid (Hd.out.up hb7)
    have Nk := Lib.hid (Hk.out.up hb7)
    have Nz := Lib.hid (Hz.out.up hb7)
    clear Hd Hk Hz
    have Hd := Nd
    have Hk := Nk
    have Hz := Nz
    clear Nd Nk Nz
    have HB7 := Lib.hid (up_trans HB6.out hb7)
    clear hb7 HB6
    by_cases ho : other = slot
    · have g1 : (other == slot) = true := beq_iff_eq.2 ho
      clear ho
      go_wp2
      go_ret
      exact ⟨ret_bool (by first | rfl | simp), HB7.out⟩
    · have g1 : (other == slot) = false := beq_eq_false_iff_ne.2 ho
      have g2 : (T2.toList == T1.toList) = true := by rw [HEQ.out ho]; simp
      clear ho
      go_wp2
      go_ret
      exact ⟨ret_bool (by first | rfl | simp), HB7.out⟩
end
end Go.Proofs.Ytefppiplkmhdmaa.Mat
