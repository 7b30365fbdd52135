/- The law CellTurns: walked. -/
import Derived.Test.YtnpognhgncnnpaaCelLawA
namespace Go.Proofs.Ytnpognhgncnnpaa.Mat
open Go.RowKit Fld

/-- behind a write: what is laid into a new box -/
def StepG (w : World) (g0 : Nat) (D D1 : Dk) (E : Int) (A : Option Addr) (c : Nat) (B : Option Addr) (k : Nat) (s9 s10 : Value) (wx : World) : Prop :=
  ∃ g A' c' B' k', s9 = .pointer (some ⟨g, 0, none⟩) ∧ s10 = .int .i64 E ∧ g ≠ g0 ∧ w.heap.size ≤ g ∧ Vr wx g D1 A' c' B' k' ∧ Vr wx g0 D A c B k ∧ Below w.heap.size w wx
section
variable {w wr w5 : World} {g0 : Nat} {D D1 : Dk} {A B A5 B5 : Option Addr} {c k c5 k5 : Nat} {E : Int}
theorem stepG_after (hV : Vr wr g0 D A c B k) (hB : Below w.heap.size w wr) (hb : Below wr.heap.size wr w5) (ok : DOk w5 A5 c5 B5 k5 D1) :
    StepG w g0 D D1 E A c B k (.pointer (some ⟨w5.heap.size, 0, none⟩)) (.int .i64 E) (w5.alloc (.cells #[.slice A5 D1.n c5, .slice B5 D1.m k5, .int .i64 D1.fuse, .bool D1.off] 37)) := by
  have h5 := hV.up hb
  have hl := h5.bx.lt_
  have hs0 := hB.size
  have hs1 := hb.size
  have hbb := up_trans hB hb
  exact ⟨_, A5, c5, B5, k5, rfl, rfl, by omega, by omega, Vr.new ok, h5.alloc _, hbb.alloc hbb.size _⟩
theorem stepG_before (hV : Vr wr g0 D A c B k) (hB : Below w.heap.size w wr)
    (hb : Below (wr.alloc (.cells #[.slice none 0 0, .slice none 0 0, .int .i64 0, .bool false] 37)).heap.size (wr.alloc (.cells #[.slice none 0 0, .slice none 0 0, .int .i64 0, .bool false] 37)) w5) (ok : DOk w5 A5 c5 B5 k5 D1) :
    Vr w5 wr.heap.size voidD none 0 none 0 ∧ StepG w g0 D D1 E A c B k (.pointer (some ⟨wr.heap.size, 0, none⟩)) (.int .i64 E) (put4 w5 wr.heap.size (.slice A5 D1.n c5) (.slice B5 D1.m k5) (.int .i64 D1.fuse) (.bool D1.off)) := by
  have hz := (void_new wr).up hb
  have h5 := (hV.alloc (.cells #[.slice none 0 0, .slice none 0 0, .int .i64 0, .bool false] 37)).up hb
  have hl := hV.bx.lt_
  have hs0 := hB.size
  have hbb := up_trans (hB.alloc hB.size (.cells #[.slice none 0 0, .slice none 0 0, .int .i64 0, .bool false] 37)) hb
  exact ⟨hz, _, A5, c5, B5, k5, rfl, rfl, by omega, by omega, hz.put ok, h5.other hz (by omega) _ _ _ _, put4_below hbb (by omega) _ _ _ _⟩
theorem StepG.drew {s9 s10 : Value} {wx : World} (h : StepG w g0 D D1 E A c B k s9 s10 wx) : StepG w g0 D D1 E A c B k s9 s10 wx.drew := by
  obtain ⟨g, A', c', B', k', h1, h2, h3, h4, h5, h6, h7⟩ := h
  exact ⟨g, A', c', B', k', h1, h2, h3, h4, h5.drew, h6.drew, h7.drew⟩
end

/-- a disk to whose cell i values were written, each flushed -/
structure Tn (D : Dk) (N : Nat) (base : Int) (i : Nat) : Prop where
  n : D.n = N
  m : D.m = 0
  off : D.off = false
  fuse : D.fuse = -1
  t : rdT D base = i
theorem tcB_empty : tcB ByteArray.empty = false := by decide +kernel
theorem tn_start {N : Nat} {base : Int} (hb : bothB N base = true) : Tn (freshD N) N base 0 := by
  obtain ⟨h0, h1⟩ := both_has hb
  have e0 : s0 (freshD N) base = ByteArray.empty := (get_in (d := freshD N) h0).2
  have e1 : s1 (freshD N) base = ByteArray.empty := (get_in (d := freshD N) h1).2
  refine ⟨rfl, rfl, rfl, rfl, ?_⟩
  rw [(rd_in (d := freshD N) hb).2.2.1, e0, e1]
  exact (cuAt_none tcB_empty tcB_empty).2.1
theorem Tn.step {D : Dk} {N : Nat} {base : Int} {i : Nat} (h : Tn D N base i) (hb : bothB N base = true) {x : ByteArray} (hx : ¬ 1000 < x.size) (hi : i < 50) : wrE D base x = 0 ∧ Tn (flushD (wrD D base x)) N base (i + 1) := by
  have hb' : bothB D.n base = true := by rw [h.n]; exact hb
  have ht := h.t
  obtain ⟨e1, e2⟩ := wr_put (x := x) hb' hx (by rw [ht]; omega)
  obtain ⟨h0, h1⟩ := both_has hb'
  have hh : hasB D.n (base + 1 - (rdA D base : Int)) = true := by
    rcases rdA_in D base with e | e <;> rw [e]
    · rw [show base + 1 - ((0 : Nat) : Int) = base + 1 by omega]; exact h1
    · rw [show base + 1 - ((1 : Nat) : Int) = base by omega]; exact h0
  have hfit := recS_fits (t := rdT D base + 1) (x := x) (by rw [ht]; omega) (by omega)
  obtain ⟨p1, p2⟩ := putD_neg (d := D) (base + 1 - (rdA D base : Int)) (recS (rdT D base + 1) x) h.off hh (by omega) (by rw [h.fuse]; omega)
  have hE : wrE D base x = 0 := by rw [e1, p2]
  refine ⟨hE, ?_⟩
  have hr := (reads_all hE).2.2.2.2.2.2
  rw [ht] at hr
  refine ⟨?_, ?_, ?_, ?_, hr⟩
  · rw [e2, p1]; exact h.n
  · rw [e2, p1]; rfl
  · rw [e2, p1]; rfl
  · rw [e2, p1]; exact h.fuse
section
variable {w : World} {C : Option Addr} {ln lc : Nat} {T : Nat → ByteArray}
set_option maxRecDepth 100000 in
set_option maxHeartbeats 3200000 in
theorem lawTurns (n base : Int) (n0 : -9223372036854775808 ≤ n) (n1 : n ≤ 9223372036854775807) (hL : St w w.heap.size C ln T) (hl : ln * 16 ≤ 140737488351232) :
    Calls Try.prog 9 #[.int .i64 n, .int .i64 base, .slice C ln lc] w (BoolRet w true) := by
  have HL := Lib.hid hL
  clear hL
  by_cases hn : 1 ≤ n ∧ n ≤ 256
  rotate_left
  · obtain ⟨e1, e2⟩ := new_out hn
    have c0 := fun W => refNew_any n W
    rw [e2] at c0
    generalize newD n = D0 at *
    have C0 := Lib.hid c0
    clear c0 e1 e2 hn n0 n1 hl
    go_enter Try.func9, Try.ntmps9
    go_wp2_with fail
    refine (shown_any _).mono ?_; rintro e w1 ⟨rfl, hb1⟩
    go_wp2_with fail
    refine (C0.out _).mono ?_; rintro e w2 ⟨A2, c2, B2, k2, rfl, ok2, hb2⟩
    have hbb := (up_trans hb1 hb2).alloc (up_trans hb1 hb2).size (.cells #[.slice A2 D0.n c2, .slice B2 D0.m k2, .int .i64 D0.fuse, .bool D0.off] 37)
    go_wp2
    go_ret
    exact ⟨rfl, hbb⟩
  obtain ⟨N, rfl⟩ : ∃ N : Nat, n = N := ⟨n.toNat, by omega⟩
  have hN : 1 ≤ N ∧ N ≤ 256 := by omega
  obtain ⟨e1, e2⟩ := new_in hN
  have c0 := fun W => refNew_any (N : Int) W
  rw [e1, e2] at c0
  have hwn : wrap64 ((N : Int) - 2) = (N : Int) - 2 := IntWalk.wrap64_in _ (by omega)
  by_cases hb0 : base < 0
  · have g1 : decide (base < 0) = true := decide_eq_true hb0
    generalize freshD N = D0 at *
    have C0 := Lib.hid c0
    clear c0 e1 e2 hn n0 n1 hN hb0 hl
    go_enter Try.func9, Try.ntmps9
    go_wp2_with fail
    refine (shown_any _).mono ?_; rintro e w1 ⟨rfl, hb1⟩
    go_wp2_with fail
    refine (C0.out _).mono ?_; rintro e w2 ⟨A2, c2, B2, k2, rfl, ok2, hb2⟩
    have hbb := (up_trans hb1 hb2).alloc (up_trans hb1 hb2).size (.cells #[.slice A2 D0.n c2, .slice B2 D0.m k2, .int .i64 D0.fuse, .bool D0.off] 37)
    go_wp2
    go_ret
    exact ⟨rfl, hbb⟩
  have g1 : decide (base < 0) = false := decide_eq_false hb0
  by_cases hb2 : base + 1 < N
  rotate_left
  · have g2 : decide (base > (N : Int) - 2) = true := decide_eq_true (by omega)
    have hwi : IntKind.i64.wrap ((N : Int) - 2) = (N : Int) - 2 := IntWalk.i64_in _ (by omega)
    generalize freshD N = D0 at *
    have C0 := Lib.hid c0
    clear c0 e1 e2 hn n0 n1 hN hb0 hb2 hl
    go_enter Try.func9, Try.ntmps9
    go_wp2_with fail
    refine (shown_any _).mono ?_; rintro e w1 ⟨rfl, hb1⟩
    go_wp2_with fail
    refine (C0.out _).mono ?_; rintro e w2 ⟨A2, c2, B2, k2, rfl, ok2, hb2⟩
    have hbb := (up_trans hb1 hb2).alloc (up_trans hb1 hb2).size (.cells #[.slice A2 D0.n c2, .slice B2 D0.m k2, .int .i64 D0.fuse, .bool D0.off] 37)
    go_wp2
    go_ret
    exact ⟨rfl, hbb⟩
  have hbt : bothB N base = true := both_iff.2 ⟨by omega, hb2⟩
  have g2 : decide (base > (N : Int) - 2) = false := decide_eq_false (by omega)
  have hwi : IntKind.i64.wrap ((N : Int) - 2) = (N : Int) - 2 := IntWalk.i64_in _ (by omega)
  have HT0 := Lib.hid (tn_start hbt)
  have HBT := Lib.hid hbt
  have HBZ : Hid (-9223372036854775808 ≤ base ∧ base ≤ 9223372036854775807) := Lib.hid (by omega)
  generalize freshD N = D0 at *
  have C0 := Lib.hid c0
  have hl63 : ln ≤ 9223372036854775807 := by omega
  clear c0 e1 e2 hn n0 n1 hN hb0 hb2 hl hbt
  go_enter Try.func9, Try.ntmps9
  go_wp2_with fail
  refine (shown_any _).mono ?_; rintro e w1 ⟨rfl, hb1⟩
  go_wp2_with fail
  refine (C0.out _).mono ?_; rintro e w2 ⟨A2, c2, B2, k2, rfl, ok2, hb2⟩
  have HV0 := Lib.hid (Vr.new ok2)
  have hbb := up_trans hb1 hb2
  have HG : Hid (w.heap.size ≤ w2.heap.size) := Lib.hid hbb.size
  have HB2 := Lib.hid (hbb.alloc hbb.size (.cells #[.slice A2 D0.n c2, .slice B2 D0.m k2, .int .i64 D0.fuse, .bool D0.off] 37))
  clear hbb ok2 hb1 hb2
  go_upto_region 3 with fail
  generalize w2.alloc (.cells #[.slice A2 D0.n c2, .slice B2 D0.m k2, .int .i64 D0.fuse, .bool D0.off] 37) = W2 at *
  generalize w2.heap.size = g8 at *
  go_wp2
  clear g1 g2 hwn hwi
  go_loopg [10] 50 (fun gh v wr => ∃ (i : Nat) (D : Dk) (A' : Option Addr) (c' : Nat) (B' : Option Addr) (k' : Nat), i ≤ 50 ∧ i ≤ ln ∧ gh = 50 - i ∧ v = .int .i64 (i : Nat) ∧ Tn D N base i ∧ Vr wr g8 D A' c' B' k' ∧ Below w.heap.size w wr)
  case atStart => exact ⟨0, D0, _, _, _, _, Nat.zero_le _, Nat.zero_le _, rfl, rfl, HT0.out, HV0.out, HB2.out⟩
  case round =>
    obtain ⟨i, D, A1, c1, B1, k1, hi5, hil, rfl, rfl, hA, hV, hB⟩ := hrel
    have HA := Lib.hid hA
    have HV := Lib.hid hV
    have HB := Lib.hid hB
    obtain ⟨x0, x1, x2, x3⟩ := hV.cells
    clear hA hV hB
    by_cases hlt : i < ln
    rotate_left
    · have hiz : ¬ (i : Int) < (ln : Int) := by omega
      go_wp2
      go_ret
      exact ⟨rfl, HB.out⟩
    have hiz : (i : Int) < (ln : Int) := by omega
    by_cases h50 : i < 50
    rotate_left
    · have hi50 : ¬ (i : Int) < 50 := by omega
      go_wp2
      go_ret
      exact ⟨rfl, HB.out⟩
    have hi50 : (i : Int) < 50 := by omega
    obtain ⟨ad, rfl, _, k0⟩ := (HL.out.below HB.out HB.out.size).at_ hlt
    by_cases hbig : 1000 < (T i).size
    · have g3 : decide (((T i).size : Int) > 1000) = true := by simp; omega
      go_wp2
      go_ret
      exact ⟨rfl, HB.out⟩
    have g3 : decide (((T i).size : Int) > 1000) = false := by simp; omega
    obtain ⟨hE, hA2⟩ := HA.out.step HBT.out hbig h50
    obtain ⟨f1, f2, f3, f4, f5, f6, f7⟩ := reads_all hE
    have hput := fun W A c B k (h : DOk W A c B k D) => write_any h (by rw [HA.out.m]; omega) base HBZ.out.1 HBZ.out.2 (T i) (by omega)
    have hfl := fun W A c B k (h : DOk W A c B k (wrD D base (T i))) => refFlush_any h
    have hrd := fun W A c B k (h : DOk W A c B k (flushD (wrD D base (T i)))) => read_any h base HBZ.out.1 HBZ.out.2
    rw [hE] at hput
    rw [f4] at hfl
    rw [f5, f6, f7, HA.out.t] at hrd
    generalize flushD (wrD D base (T i)) = D2 at *
    generalize wrD D base (T i) = D1 at *
    have HPUT := Lib.hid hput
    have HFL := Lib.hid hfl
    have HRD := Lib.hid hrd
    have HA2 := Lib.hid hA2
    clear hput hfl hrd hA2 f1 f2 f3 f4 f5 f6 f7 hE hbig
    have KS : Hid (∀ W, Below wr.heap.size wr W → (W.cell? ⟨g8, 0, none⟩ = some (.slice A1 D.n c1) ∧ W.cell? ⟨g8, 1, none⟩ = some (.slice B1 D.m k1) ∧ W.cell? ⟨g8, 2, none⟩ = some (.int .i64 D.fuse) ∧ W.cell? ⟨g8, 3, none⟩ = some (.bool D.off)) ∧ W.cell? (ad.add i) = some (.string (T i))) := Lib.hid (fun W hb => by
      obtain ⟨ad', e, _, q⟩ := ((HL.out.below HB.out HB.out.size).below hb hb.size).at_ hlt
      injection e with e
      subst e
      exact ⟨(HV.out.up hb).cells, q⟩)
    have HV2 := Lib.hid (HV.out.alloc (.cells #[.slice none 0 0, .slice none 0 0, .int .i64 0, .bool false] 37))
    go_upto_region 10 with fail
    go_cut [11, 12] from 54 to 63 (fun s9 s10 wx => StepG w g8 D D1 0 A1 c1 B1 k1 s9 s10 wx)
    case first =>
      go_region_held3 (fun W => (W.cell? ⟨g8, 0, none⟩ = some (.slice A1 D.n c1) ∧ W.cell? ⟨g8, 1, none⟩ = some (.slice B1 D.m k1) ∧ W.cell? ⟨g8, 2, none⟩ = some (.int .i64 D.fuse) ∧ W.cell? ⟨g8, 3, none⟩ = some (.bool D.off)) ∧ W.cell? (ad.add i) = some (.string (T i)))
        (first | exact ⟨⟨x0, x1, x2, x3⟩, k0⟩ | exact KS.out _ b5.out | exact KS.out _ ((below_dr _ _).alloc (Nat.le_refl _) _) | exact KS.out _ (b5.out.alloc b5.out.size _) | exact KS.out _ (put4_below b5.out (Nat.le_refl _) _ _ _ _) | exact KS.out _ (put4_below b5.out b5.out.size _ _ _ _) | go_keep)
        (first
          | (go_at_call 17; (with_reducible refine Calls.mono (HPUT.out _ _ _ _ _ HV.out.ok.drew) ?_); rintro e w5 ⟨A5, c5, B5, k5, rfl, ok5, hb5⟩; have b5 : Hid (Below wr.heap.size wr w5) := Lib.hid ⟨hb5.os, hb5.tape, hb5.output, hb5.size, hb5.block⟩; have QP := Lib.hid (stepG_after (E := 0) HV.out HB.out b5.out ok5); clear hb5)
          | (go_at_call 17; (with_reducible first | refine Calls.mono (HPUT.out _ _ _ _ _ HV2.out.ok.drew) ?_ | refine Calls.mono (HPUT.out _ _ _ _ _ (HV.out.drew.alloc _).ok) ?_); rintro e w5 ⟨A5, c5, B5, k5, rfl, ok5, hb5⟩; have b5 : Hid (Below wr.heap.size wr w5) := Lib.hid (box_tr ⟨hb5.os, hb5.tape, hb5.output, hb5.size, hb5.block⟩); have q5 := stepG_before (E := 0) HV.out HB.out ⟨hb5.os, hb5.tape, hb5.output, hb5.size, hb5.block⟩ ok5; obtain ⟨hz5, hq5⟩ := q5; have QP := Lib.hid hq5; obtain ⟨y0, y1, y2, y3⟩ := hz5.cells; obtain ⟨u0, u1, u2, u3⟩ := hz5.bx.free; clear hq5 hz5 hb5))
      all_goals
        go_wp2_with fail
        go_meet
        case rel => go_light; first | exact QP.out | exact QP.out.drew
    case rest =>
      obtain ⟨g, A6, c6, B6, k6, rfl, rfl, hg, hgl, hV6, hV7, hB6⟩ := hcut
      clear x0 x1 x2 x3 k0
      obtain ⟨x0, x1, x2, x3⟩ := hV6.cells
      have HV6 := Lib.hid hV6
      have HV7 := Lib.hid hV7
      have HB6 := Lib.hid hB6
      clear hV6 hV7 hB6 hg hgl HV HV2 HB
      go_wp2_with fail
      clear x0 x1 x2 x3
      refine (HFL.out _ _ _ _ _ HV6.out.ok).mono ?_; rintro e w7 ⟨A7, c7, B7, k7, rfl, ok7, hb7⟩
      have HZ := Lib.hid (Vr.new ok7)
      have HV8 := Lib.hid ((HV7.out.up hb7).alloc (.cells #[.slice A7 D2.n c7, .slice B7 D2.m k7, .int .i64 D2.fuse, .bool D2.off] 37))
      have hbb := up_trans HB6.out hb7
      have HB7 := Lib.hid (hbb.alloc hbb.size (.cells #[.slice A7 D2.n c7, .slice B7 D2.m k7, .int .i64 D2.fuse, .bool D2.off] 37))
      clear hbb ok7 hb7 HV6 HV7 HB6
      go_upto_region 12 with fail
      generalize w7.alloc (.cells #[.slice A7 D2.n c7, .slice B7 D2.m k7, .int .i64 D2.fuse, .bool D2.off] 37) = W7 at *
      generalize w7.heap.size = g7 at *
      obtain ⟨x0, x1, x2, x3⟩ := HZ.out.cells
      obtain ⟨y0, y1, y2, y3⟩ := HV8.out.cells
      obtain ⟨u0, u1, u2, u3⟩ := HV8.out.bx.free
      have HV9 := Lib.hid (HV8.out.put HZ.out.ok)
      have HB9 := Lib.hid (put4_below HB7.out HG.out (.slice A7 D2.n c7) (.slice B7 D2.m k7) (.int .i64 D2.fuse) (.bool D2.off))
      go_upto_region 13 with fail
      change Code.wp _ _ _ _ (put4 W7 g8 (.slice A7 D2.n c7) (.slice B7 D2.m k7) (.int .i64 D2.fuse) (.bool D2.off))
      generalize put4 W7 g8 (.slice A7 D2.n c7) (.slice B7 D2.m k7) (.int .i64 D2.fuse) (.bool D2.off) = W9 at *
      clear x0 x1 x2 x3 y0 y1 y2 y3 u0 u1 u2 u3
      obtain ⟨x0, x1, x2, x3⟩ := HV9.out.cells
      go_wp2_with fail
      clear x0 x1 x2 x3
      refine (HRD.out _ _ _ _ _ HV9.out.ok).mono ?_; rintro e w8 ⟨rfl, hb8⟩
      have HV10 := Lib.hid (HV9.out.up hb8)
      have HB10 := Lib.hid (up_trans HB9.out hb8)
      have k9 : w8.cell? (ad.add i) = some (.string (T i)) := by
        obtain ⟨ad', e, _, q⟩ := (HL.out.below HB10.out HB10.out.size).at_ hlt
        injection e with e
        subst e
        exact q
      have hwu : IntKind.u64.wrap (i : Int) = (i : Int) := wrapN i (by omega)
      have hwu2 : IntKind.u64.wrap ((i : Int) + 1) = ((i + 1 : Nat) : Int) := by rw [IntKind.wrap_u64]; omega
      clear hb8
      go_wp2
      go_roundg (50 - (i + 1))
      case measure => go_light; omega
      case rel => go_light; exact ⟨i + 1, D2, _, _, _, _, by omega, by omega, rfl, by simp, HA2.out, HV10.out, HB10.out⟩
end
end Go.Proofs.Ytnpognhgncnnpaa.Mat
