/- The law DiskLasts: walked. -/
import Derived.Test.YtefppiplkmhdmaaDskW
namespace Go.Proofs.Ytefppiplkmhdmaa.Mat
open Go.RowKit Fld

/-- what was flushed, and writes of other slots since -/
structure Since (D0 D : Dk) (slot : Int) (i : Nat) : Prop where
  n : D.n = D0.n
  S : D.S = D0.S
  m : D.m ≤ i
  ne : ∀ r, r < D.m → D.I r ≠ slot
theorem Since.more {D0 D : Dk} {slot : Int} {i : Nat} (h : Since D0 D slot i) : Since D0 D slot (i + 1) := ⟨h.n, h.S, by have := h.m; omega, h.ne⟩
theorem Since.add {D0 D : Dk} {slot : Int} {i : Nat} (h : Since D0 D slot i) {sl : Int} (hne : sl ≠ slot) (s : ByteArray) (f : Int) (o : Bool) : Since D0 (addD D sl s f o) slot (i + 1) :=
  ⟨h.n, h.S, by show D.m + 1 ≤ _; have := h.m; omega, fun r hr => by
    show (if r = D.m then sl else D.I r) ≠ slot
    by_cases e : r = D.m
    · rw [if_pos e]; exact hne
    · rw [if_neg e]; exact h.ne r (by have : r < D.m + 1 := hr; omega)⟩
theorem Since.put {D0 D : Dk} {slot : Int} {i : Nat} (h : Since D0 D slot i) {sl : Int} (hne : sl ≠ slot) (s : ByteArray) : Since D0 (putD D sl s) slot (i + 1) := by
  unfold putD
  split
  · exact h.more
  split
  · exact h.more
  split
  · exact h.more
  split
  · exact h.add hne s _ _
  · exact h.add hne s _ _
theorem get_E {d : Dk} {slot : Int} (h : getE d slot = 0) : hasB d.n slot = true := by
  cases hh : hasB d.n slot
  · rw [(get_out hh).1] at h; cases h
  · rfl
theorem Since.last {D0 D : Dk} {slot : Int} {i : Nat} (h : Since D0 D slot i) (h0 : D0.m = 0) (hE : getE D0 slot = 0) (keep tear : Int) : getE (crashD D keep tear) slot = 0 ∧ getS (crashD D keep tear) slot = getS D0 slot := by
  have hh := get_E hE
  obtain ⟨s0, s1⟩ := hasB_iff.1 hh
  obtain ⟨j, rfl⟩ : ∃ j : Nat, slot = j := ⟨slot.toNat, by omega⟩
  have hh2 : hasB (crashD D keep tear).n (j : Int) = true := by show hasB D.n (j : Int) = true; rw [h.n]; exact hh
  obtain ⟨g1, g2⟩ := get_in hh2
  obtain ⟨_, g3⟩ := get_in hh
  refine ⟨g1, ?_⟩
  rw [g2, g3, h0]
  show crashS D (keepN D.m keep) tear ((j : Int).toNat) = D0.S ((j : Int).toNat)
  rw [Int.toNat_natCast, crash_other (keepN_le _ _) h.ne, h.S]
theorem since_start {d : Dk} {slot : Int} (h : flushE d = 0) : Since (flushD d) (flushD d) slot 0 ∧ (flushD d).m = 0 := by
  obtain ⟨_, e⟩ := flush_ok h
  rw [e]
  exact ⟨⟨rfl, rfl, Nat.le_refl _, fun r hr => absurd hr (Nat.not_lt_zero _)⟩, rfl⟩
def Vrs (w : World) (D : Dk) (wx : World) : Prop := ∃ A c B k, Vr wx (w.heap.size + 1) D A c B k ∧ Below w.heap.size w wx
section
variable {w : World} {d : Dk} {A B C : Option Addr} {c k ln lc : Nat} {I : Nat → Int} {T : Nat → ByteArray}
set_option maxRecDepth 100000 in
set_option maxHeartbeats 3200000 in
theorem lawLasts (h : DOk w A c B k d) (hL : Pc w w.heap.size C ln I T) (hl : ln * 24 ≤ 140737488355328) (hz : ∀ i, i < ln → (T i).size ≤ 140737488351232) (slot keep tear : Int) :
    Calls Try.prog 5 #[.agg #[.slice A d.n c, .slice B d.m k, .int .i64 d.fuse, .bool d.off, .slice C ln lc, .int .i64 slot, .int .i64 keep, .int .i64 tear]] w (BoolRet w true) := by
  have c1 := fun W A c B k (h : DOk W A c B k d) => flush_any h
  have c2 := fun W A c B k (h : DOk W A c B k (flushD d)) => get_any h slot
  have hst := fun (h : flushE d = 0) => since_start (slot := slot) h
  generalize flushE d = E1 at *
  generalize flushD d = D0 at *
  have hlast := fun D i (h : Since D0 D slot i) h0 hE => h.last h0 hE keep tear
  generalize hE2 : getE D0 slot = E2 at *
  generalize getS D0 slot = T0 at *
  have C1 := Lib.hid c1
  have C2 := Lib.hid c2
  have HST := Lib.hid hst
  have HLAST := Lib.hid hlast
  have HL := Lib.hid hL
  have HZ := Lib.hid hz
  have HLL := Lib.hid hl
  obtain ⟨hV, hB⟩ := law_start h (.cells #[.slice A d.n c, .slice B d.m k, .int .i64 d.fuse, .bool d.off, .slice C ln lc, .int .i64 slot, .int .i64 keep, .int .i64 tear] 53)
  have Hd := Lib.hid hV
  have HB0 := Lib.hid hB
  clear c1 c2 hst hlast hL hz hl hE2 h hV hB
  go_enter Try.func5, Try.ntmps5
  go_upto_region 6 with fail
  generalize (w.alloc (.cells #[.slice A d.n c, .slice B d.m k, .int .i64 d.fuse, .bool d.off, .slice C ln lc, .int .i64 slot, .int .i64 keep, .int .i64 tear] 53)).alloc (.cells #[.slice A d.n c, .slice B d.m k, .int .i64 d.fuse, .bool d.off] 25) = w0 at *
  go_wp2_with fail
  refine (shown_any _).mono ?_; rintro e w1 ⟨rfl, hb1⟩
  have Nd := Lib.hid (Hd.out.up hb1)
  clear Hd
  have Hd := Nd
  clear Nd
  have HB1 := Lib.hid (up_trans HB0.out hb1)
  clear hb1 HB0
  obtain ⟨da, db, dc, dd⟩ := Hd.out.cells
  go_wp2_with fail
  clear da db dc dd
  refine (C1.out _ _ _ _ _ Hd.out.ok).mono ?_; rintro e w2 ⟨A2, c2, B2, k2, rfl, ok2, hb2⟩
  have h2 := Hd.out.up hb2
  obtain ⟨y0, y1, y2, y3⟩ := h2.cells
  obtain ⟨f0, f1, f2, f3⟩ := h2.bx.free
  have Nd := Lib.hid (h2.put ok2)
  clear Hd
  have Hd := Nd
  clear Nd
  have HB2 := Lib.hid (put4_below (up_trans HB1.out hb2) (show w.heap.size ≤ w.heap.size + 1 by omega) (.slice A2 D0.n c2) (.slice B2 D0.m k2) (.int .i64 D0.fuse) (.bool D0.off))
  clear h2 ok2 hb2 HB1
  go_wp2_with fail
  clear y0 y1 y2 y3 f0 f1 f2 f3
  refine (C2.out _ _ _ _ _ Hd.out.ok).mono ?_; rintro e w3 ⟨rfl, hb3⟩
  have Nd := Lib.hid (Hd.out.up hb3)
  clear Hd
  have Hd := Nd
  clear Nd
  have HB3 := Lib.hid (up_trans HB2.out hb3)
  clear hb3 HB2
  by_cases hE1 : E1 = 0
  rotate_left
  · have g1 : (E1 != 0) = true := by rw [bne_iff_ne]; exact hE1
    clear hE1
    go_wp2
    go_ret
    exact ⟨rfl, HB3.out⟩
  by_cases hE2 : E2 = 0
  rotate_left
  · have g1 : (E1 != 0) = false := by rw [bne_eq_false_iff_eq]; exact hE1
    have g2 : (E2 != 0) = true := by rw [bne_iff_ne]; exact hE2
    clear hE2 hE1
    go_wp2
    go_ret
    exact ⟨rfl, HB3.out⟩
  · have g1 : (E1 != 0) = false := by rw [bne_eq_false_iff_eq]; exact hE1
    have g2 : (E2 != 0) = false := by rw [bne_eq_false_iff_eq]; exact hE2
    obtain ⟨hs0, hm0⟩ := HST.out hE1
    have HS0 := Lib.hid hs0
    have HM0 := Lib.hid hm0
    have HE2 := Lib.hid hE2
    clear hE1 hE2 hs0 hm0
    go_wp2
    clear g1 g2
    go_loopg [12] ln (fun gh v wr => ∃ (i : Nat) (D : Dk) (A' : Option Addr) (c' : Nat) (B' : Option Addr) (k' : Nat), i ≤ ln ∧ gh = ln - i ∧ v = .int .i64 (i : Nat) ∧ Since D0 D slot i ∧ Vr wr (w.heap.size + 1) D A' c' B' k' ∧ Below w.heap.size w wr)
    case atStart => exact ⟨0, D0, _, _, _, _, Nat.zero_le _, rfl, rfl, HS0.out, Hd.out, HB3.out⟩
    case round =>
      obtain ⟨i, D, A1, c1, B1, k1, hi, rfl, rfl, hS, hV, hB⟩ := hrel
      have HS := Lib.hid hS
      have HV := Lib.hid hV
      have HB := Lib.hid hB
      have hl63 : ln ≤ 9223372036854775807 := by have := HLL.out; omega
      clear hS
      by_cases hil : i < ln
      · have hiz : (i : Int) < (ln : Int) := by omega
        obtain ⟨ad, rfl, _, k0, k1'⟩ := (HL.out.below hB hB.size).at_ hil
        obtain ⟨x0, x1, x2, x3⟩ := hV.cells
        clear hV hB
        by_cases he : I i = slot
        · have t1 : (I i != slot) = false := by rw [bne_eq_false_iff_eq]; exact he
          clear he
          go_wp2
          go_roundg (ln - (i + 1))
          case measure => go_light; omega
          case rel => go_light; exact ⟨i + 1, D, _, _, _, _, by omega, rfl, by simp, HS.out.more, HV.out, HB.out⟩
        · have t1 : (I i != slot) = true := by rw [bne_iff_ne]; exact he
          have hput := fun W A c B k (h : DOk W A c B k D) => put_any h (by have := HS.out.m; have := HLL.out; omega) (I i) (T i) (HZ.out i hil)
          have HS2 := Lib.hid (HS.out.put he (T i))
          generalize putD D (I i) (T i) = D1 at *
          generalize putE D (I i) (T i) = E5 at *
          have HPUT := Lib.hid hput
          clear hput he
          go_upto_region 15 with fail
          go_region_with
            ((go_at_call 11; (with_reducible refine Calls.mono (HPUT.out _ _ _ _ _ HV.out.ok.drew) ?_); rintro e w5 ⟨A5, c5, B5, k5, rfl, ok5, hb5⟩; have h5 := HV.out.drew.up hb5; obtain ⟨y0, y1, y2, y3⟩ := h5.cells; obtain ⟨f0, f1, f2, f3⟩ := h5.bx.free; have HV5 := Lib.hid (h5.put ok5); have HB5 : Hid (Below w.heap.size w (put4 w5 (w.heap.size + 1) (.slice A5 D1.n c5) (.slice B5 D1.m k5) (.int .i64 D1.fuse) (.bool D1.off))) := Lib.hid (put4_below (up_trans HB.out.drew hb5) (show w.heap.size ≤ w.heap.size + 1 by omega) _ _ _ _); clear h5 ok5 hb5))
          all_goals
            go_wp2
            go_roundg (ln - (i + 1))
            case measure => go_light; omega
            case rel => go_light; first | exact ⟨i + 1, D1, _, _, _, _, by omega, rfl, by simp, HS2.out, HV5.out, HB5.out⟩ | exact ⟨i + 1, D1, _, _, _, _, by omega, rfl, by simp, HS2.out, HV5.out.drew, HB5.out.drew⟩
      · have hiz : ¬ (i : Int) < (ln : Int) := by omega
        obtain ⟨e1, e2⟩ := HLAST.out D i HS.out HM0.out HE2.out
        have hc1 := fun W A c B k (h : DOk W A c B k D) => crash_any h keep tear
        have hc2 := fun W A c B k (h : DOk W A c B k (crashD D keep tear)) => get_any h slot
        rw [e1, e2] at hc2
        generalize crashD D keep tear = D2 at *
        have HC1 := Lib.hid hc1
        have HC2 := Lib.hid hc2
        obtain ⟨x0, x1, x2, x3⟩ := hV.cells
        clear hV hB hc1 hc2 e1 e2
        go_wp2_with fail
        clear x0 x1 x2 x3
        refine (HC1.out _ _ _ _ _ HV.out.ok).mono ?_; rintro e w5 ⟨A5, c5, B5, k5, rfl, ok5, hb5⟩
        have HB5 := Lib.hid (up_trans HB.out hb5)
        have HK5 := Lib.hid ok5
        clear ok5 hb5
        go_wp2_with fail
        refine (HC2.out _ _ _ _ _ HK5.out).mono ?_; rintro e w6 ⟨rfl, hb6⟩
        have HB6 := Lib.hid (up_trans HB5.out hb6)
        clear hb6
        go_wp2
        go_ret
        exact ⟨ret_bool (by first | rfl | simp), HB6.out⟩
end
end Go.Proofs.Ytefppiplkmhdmaa.Mat
