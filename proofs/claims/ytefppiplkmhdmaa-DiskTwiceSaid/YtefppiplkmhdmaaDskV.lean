/- The law DiskTorn: walked. -/
import Derived.Test.YtefppiplkmhdmaaDskU
namespace Go.Proofs.Ytefppiplkmhdmaa.Mat
open Go.RowKit Fld

theorem flush_ok {d : Dk} (h : flushE d = 0) : d.off = false ∧ flushD d = doneD d (doS d.I d.T d.S d.m) d.fuse false := by
  cases ho : d.off
  · exact ⟨rfl, (flush_on ho).1⟩
  · rw [(flush_off ho).2] at h; cases h
theorem flush_m {d : Dk} (h : (d.m + 1) * 24 ≤ 140737488355328) : ((flushD d).m + 1) * 24 ≤ 140737488355328 := by
  cases ho : d.off
  · rw [(flush_on ho).1]; show (0 + 1) * 24 ≤ _; omega
  · rw [(flush_off ho).1]; exact h
theorem head_facts (s : ByteArray) (x : Nat) : (headS s (x : Int)).size ≤ s.size ∧ s.extract 0 (headS s (x : Int)).size = headS s (x : Int) ∧ ((headS s (x : Int)).size < s.size → (headS s (x : Int)).size = x) := by
  rcases Nat.lt_or_ge x s.size with h | h
  · have e := headS_some (s := s) (x := x) (by omega)
    have hz : (s.extract 0 x).size = x := by rw [ByteArray.size_extract]; omega
    rw [e, hz]
    exact ⟨by omega, rfl, fun _ => rfl⟩
  · rw [headS_all h]
    exact ⟨Nat.le_refl _, by simp, fun hh => absurd hh (Nat.lt_irrefl _)⟩
theorem torn_nums {d : Dk} {slot tear : Int} {s : ByteArray} (h1 : flushE d = 0) (h2 : putE (flushD d) slot s = 0) (h3 : 0 ≤ tear) :
    getE (crashD (putD (flushD d) slot s) 0 tear) slot = 0 ∧ getS (crashD (putD (flushD d) slot s) 0 tear) slot = headS s tear ∧ (crashD (putD (flushD d) slot s) 0 tear).n = (flushD d).n ∧
      ∀ i : Nat, (i : Int) ≠ slot → (crashD (putD (flushD d) slot s) 0 tear).S i = (flushD d).S i := by
  obtain ⟨_, e1⟩ := flush_ok h1
  obtain ⟨f, e2, _, hh, _⟩ := put_ok h2
  rw [e2]
  rw [e1] at hh ⊢
  have hm0 : (doneD d (doS d.I d.T d.S d.m) d.fuse false).m = 0 := rfl
  generalize doneD d (doS d.I d.T d.S d.m) d.fuse false = D at *
  have hk : keepN (addD D slot s f false).m 0 = 0 := by unfold keepN; simp
  have hS : crashS (addD D slot s f false) 0 tear = setS D.S slot (headS s tear) := by
    rw [crash_yes ⟨Nat.succ_pos _, h3⟩]
    show setS D.S (if 0 = D.m then slot else D.I 0) (headS (if 0 = D.m then s else D.T 0) tear) = _
    rw [if_pos hm0.symm, if_pos hm0.symm]
  have hC : crashD (addD D slot s f false) 0 tear = doneD (addD D slot s f false) (setS D.S slot (headS s tear)) (-1) false := by
    unfold crashD
    rw [hk, hS]
  rw [hC]
  obtain ⟨g1, g2⟩ := get_in (d := doneD (addD D slot s f false) (setS D.S slot (headS s tear)) (-1) false) (slot := slot) hh
  refine ⟨g1, ?_, rfl, fun i hi => setS_ne hi⟩
  rw [g2]
  show setS D.S slot (headS s tear) slot.toNat = _
  obtain ⟨s0, s1⟩ := hasB_iff.1 hh
  unfold setS
  rw [if_pos (by omega)]
section
variable {w : World} {d : Dk} {A B : Option Addr} {c k : Nat}
set_option maxRecDepth 100000 in
set_option maxHeartbeats 3200000 in
theorem lawTorn (h : DOk w A c B k d) (hm : (d.m + 1) * 24 ≤ 140737488355328) (slot : Int) (s : ByteArray) (hs : s.size ≤ 140737488351232) (tear : Int) :
    Calls Try.prog 7 #[.agg #[.slice A d.n c, .slice B d.m k, .int .i64 d.fuse, .bool d.off, .int .i64 slot, .string s, .int .i64 tear]] w (BoolRet w true) := by
  have c1 := fun W A c B k (h : DOk W A c B k d) => flush_any h
  have c2 := fun W A c B k (h : DOk W A c B k (flushD d)) => put_any h (flush_m hm) slot s hs
  have c3 := fun W A c B k (h : DOk W A c B k (putD (flushD d) slot s)) => crash_any h 0 tear
  have c4 := fun W A c B k (h : DOk W A c B k (crashD (putD (flushD d) slot s) 0 tear)) => get_any h slot
  have hN := fun h1 h2 h3 => torn_nums (d := d) (slot := slot) (tear := tear) (s := s) h1 h2 h3
  generalize hT : getS (crashD (putD (flushD d) slot s) 0 tear) slot = T at *
  generalize getE (crashD (putD (flushD d) slot s) 0 tear) slot = E4 at *
  generalize crashD (putD (flushD d) slot s) 0 tear = D3 at *
  generalize putE (flushD d) slot s = E2 at *
  generalize putD (flushD d) slot s = D2 at *
  generalize flushE d = E1 at *
  generalize flushD d = D1 at *
  have C1 := Lib.hid c1
  have C2 := Lib.hid c2
  have C3 := Lib.hid c3
  have C4 := Lib.hid c4
  have HN := Lib.hid hN
  have HS := Lib.hid hs
  obtain ⟨hV, hB⟩ := law_start h (.cells #[.slice A d.n c, .slice B d.m k, .int .i64 d.fuse, .bool d.off, .int .i64 slot, .string s, .int .i64 tear] 61)
  have Hd := Lib.hid hV
  have HB0 := Lib.hid hB
  clear c1 c2 c3 c4 hN hT h hm hs hV hB
  go_enter Try.func7, Try.ntmps7
  go_upto_region 5 with fail
  generalize (w.alloc (.cells #[.slice A d.n c, .slice B d.m k, .int .i64 d.fuse, .bool d.off, .int .i64 slot, .string s, .int .i64 tear] 61)).alloc (.cells #[.slice A d.n c, .slice B d.m k, .int .i64 d.fuse, .bool d.off] 25) = w0 at *
  go_wp2_with fail
  refine (shown_any _).mono ?_; rintro e w1 ⟨rfl, hb1⟩
  have Nd := Lib.hid (Hd.out.up hb1)
  clear Hd
  have Hd := Nd
  clear Nd
  have HB1 := Lib.hid (up_trans HB0.out hb1)
  clear hb1 HB0
  obtain ⟨da, db, dc, dd⟩ := Hd.out.cells
  go_wp2_with fail
  clear da db dc dd
  refine (C1.out _ _ _ _ _ Hd.out.ok).mono ?_; rintro e w2 ⟨A2, c2, B2, k2, rfl, ok2, hb2⟩
  have h2 := Hd.out.up hb2
  obtain ⟨y0, y1, y2, y3⟩ := h2.cells
  obtain ⟨f0, f1, f2, f3⟩ := h2.bx.free
  have Nd := Lib.hid (h2.put ok2)
  clear Hd
  have Hd := Nd
  clear Nd
  have HB2 := Lib.hid (put4_below (up_trans HB1.out hb2) (show w.heap.size ≤ w.heap.size + 1 by omega) (.slice A2 D1.n c2) (.slice B2 D1.m k2) (.int .i64 D1.fuse) (.bool D1.off))
  clear h2 ok2 hb2 HB1
  go_wp2_with fail
  clear y0 y1 y2 y3 f0 f1 f2 f3
  refine (C2.out _ _ _ _ _ Hd.out.ok).mono ?_; rintro e w3 ⟨A3, c3, B3, k3, rfl, ok3, hb3⟩
  have Nd := Lib.hid ((Hd.out.up hb3).alloc (.cells #[.slice A3 D2.n c3, .slice B3 D2.m k3, .int .i64 D2.fuse, .bool D2.off] 25))
  clear Hd
  have Hd := Nd
  clear Nd
  have Hk := Lib.hid (Vr.new ok3)
  have hbb := up_trans HB2.out hb3
  have HB3 := Lib.hid (hbb.alloc hbb.size (.cells #[.slice A3 D2.n c3, .slice B3 D2.m k3, .int .i64 D2.fuse, .bool D2.off] 25))
  clear hbb ok3 hb3 HB2
  go_upto_region 8 with fail
  generalize w3.alloc (.cells #[.slice A3 D2.n c3, .slice B3 D2.m k3, .int .i64 D2.fuse, .bool D2.off] 25) = W3 at *
  generalize w3.heap.size = g3 at *
  by_cases hE1 : E1 = 0
  rotate_left
  · have g1 : (E1 != 0) = true := by rw [bne_iff_ne]; exact hE1
    clear hE1
    go_wp2
    go_ret
    exact ⟨rfl, HB3.out⟩
  by_cases hE2 : E2 = 0
  rotate_left
  · have g1 : (E1 != 0) = false := by rw [bne_eq_false_iff_eq]; exact hE1
    have g2 : (E2 != 0) = true := by rw [bne_iff_ne]; exact hE2
    clear hE2 hE1
    go_wp2
    go_ret
    exact ⟨rfl, HB3.out⟩
  by_cases ht : tear < 0
  · have g1 : (E1 != 0) = false := by rw [bne_eq_false_iff_eq]; exact hE1
    have g2 : (E2 != 0) = false := by rw [bne_eq_false_iff_eq]; exact hE2
    have g3 : decide (tear < 0) = true := decide_eq_true ht
    clear hE2 hE1 ht
    go_wp2
    go_ret
    exact ⟨rfl, HB3.out⟩
  · have g1 : (E1 != 0) = false := by rw [bne_eq_false_iff_eq]; exact hE1
    have g2 : (E2 != 0) = false := by rw [bne_eq_false_iff_eq]; exact hE2
    have g3 : decide (tear < 0) = false := decide_eq_false ht
    obtain ⟨n1, n2, n3, n4⟩ := HN.out hE1 hE2 (by omega)
    obtain ⟨x, rfl⟩ : ∃ x : Nat, tear = x := ⟨tear.toNat, by omega⟩
    obtain ⟨h1, h2, h3⟩ := head_facts s x
    rw [← n2] at h1 h2 h3
    have HE4 := Lib.hid n1
    have HN3 := Lib.hid n3
    have HN4 := Lib.hid n4
    have HH := Lib.hid (And.intro h1 (And.intro h2 h3))
    clear hE1 hE2 ht n1 n2 n3 n4 h1 h2 h3 HN
    obtain ⟨ka, kb, kc, kd⟩ := Hk.out.cells
    go_wp2_with fail
    clear ka kb kc kd
    refine (C3.out _ _ _ _ _ Hk.out.ok).mono ?_; rintro e w4 ⟨A4, c4, B4, k4, rfl, ok4, hb4⟩
    have Nd := Lib.hid ((Hd.out.up hb4).alloc (.cells #[.slice A4 D3.n c4, .slice B4 D3.m k4, .int .i64 D3.fuse, .bool D3.off] 25))
    have Nk := Lib.hid ((Hk.out.up hb4).alloc (.cells #[.slice A4 D3.n c4, .slice B4 D3.m k4, .int .i64 D3.fuse, .bool D3.off] 25))
    clear Hd Hk
    have Hd := Nd
    have Hk := Nk
    clear Nd Nk
    have Hc := Lib.hid (Vr.new ok4)
    have hbb := up_trans HB3.out hb4
    have HB4 := Lib.hid (hbb.alloc hbb.size (.cells #[.slice A4 D3.n c4, .slice B4 D3.m k4, .int .i64 D3.fuse, .bool D3.off] 25))
    clear hbb ok4 hb4 HB3
    go_upto_region 11 with fail
    generalize w4.alloc (.cells #[.slice A4 D3.n c4, .slice B4 D3.m k4, .int .i64 D3.fuse, .bool D3.off] 25) = W4 at *
    generalize w4.heap.size = g4 at *
    obtain ⟨ca, cb, cc, cd⟩ := Hc.out.cells
    go_wp2_with fail
    clear ca cb cc cd
    refine (C4.out _ _ _ _ _ Hc.out.ok).mono ?_; rintro e w5 ⟨rfl, hb5⟩
    have Nd := Lib.hid (Hd.out.up hb5)
    have Nk := Lib.hid (Hk.out.up hb5)
    have Nc := Lib.hid (Hc.out.up hb5)
    clear Hd Hk Hc
    have Hd := Nd
    have Hk := Nk
    have Hc := Nc
    clear Nd Nk Nc
    have HB5 := Lib.hid (up_trans HB4.out hb5)
    clear hb5 HB4
    obtain ⟨ca, cb, cc, cd⟩ := Hc.out.cells
    obtain ⟨da, db, dc, dd⟩ := Hd.out.cells
    have g4 : (E4 != 0) = false := by rw [HE4.out]; rfl
    have g5 : ((D3.n : Int) != (D1.n : Int)) = false := by rw [HN3.out, bne_eq_false_iff_eq]
    have g6 : decide ((T.size : Int) > (s.size : Int)) = false := decide_eq_false (by have := HH.out.1; omega)
    have g7 : (s.extract 0 T.size).toList = T.toList := by rw [HH.out.2.1]
    have g11 : ¬ s.size < T.size := by have := HH.out.1; omega
    have g8 : T.size ≤ s.size := HH.out.1
    have g9 : (T.size < s.size ∧ ((T.size : Int) != (x : Int)) = false) ∨ ¬ T.size < s.size := by
      rcases Nat.lt_or_ge T.size s.size with h | h
      · exact .inl ⟨h, by rw [HH.out.2.2 h, bne_eq_false_iff_eq]⟩
      · exact .inr (by omega)
    have HZ := Lib.hid HS.out
    have hn63 : D1.n ≤ 9223372036854775807 := by have := Hd.out.ok.sz.bn; omega
    have hn3 : D3.n = D1.n := HN3.out
    have HCS := Lib.hid Hc.out.ok.st
    rw [hn3] at ca HCS g5
    have HDS := Lib.hid Hd.out.ok.st
    clear hn3
    rcases g9 with ⟨g9, g10⟩ | g9
    all_goals
      go_wp2
      go_loopg [14] D1.n (fun gh v wr => ∃ i q : Nat, i ≤ D1.n ∧ gh = D1.n - i ∧ v = .int .i64 (i : Nat) ∧ wr = w5.drewN q)
      case atStart => exact ⟨0, 0, Nat.zero_le _, rfl, rfl, rfl⟩
      case round =>
        obtain ⟨i, q, hi, rfl, rfl, rfl⟩ := hrel
        by_cases hin : i < D1.n
        · have hiz : (i : Int) < (D1.n : Int) := by omega
          by_cases he : (i : Int) = slot
          · have t1 : ((i : Int) != slot) = false := by rw [bne_eq_false_iff_eq]; exact he
            clear he
            go_wp2_with fail
            go_quiet (fail)
            go_wp2
            go_roundg (D1.n - (i + 1))
            case measure => go_light; omega
            case rel => go_light; exact ⟨i + 1, _, by omega, rfl, by simp, rfl⟩
          · have t1 : ((i : Int) != slot) = true := by rw [bne_iff_ne]; exact he
            obtain ⟨ad1, rfl, _, k1⟩ := HCS.out.at_ hin
            obtain ⟨ad2, rfl, _, k2⟩ := HDS.out.at_ hin
            rw [HN4.out i he] at k1
            have t2 : ((D1.S i).toList != (D1.S i).toList) = false := by rw [bne_eq_false_iff_eq]
            clear he
            go_wp2_with fail
            go_quiet (fail)
            go_wp2
            go_roundg (D1.n - (i + 1))
            case measure => go_light; omega
            case rel => go_light; exact ⟨i + 1, _, by omega, rfl, by simp, rfl⟩
        · have hiz : ¬ (i : Int) < (D1.n : Int) := by omega
          go_wp2
          go_ret
          exact ⟨rfl, below_drewN HB5.out _⟩
end
end Go.Proofs.Ytefppiplkmhdmaa.Mat
