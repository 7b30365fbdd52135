/- The law DiskArms: walked. -/
import Derived.Test.YtefppiplkmhdmaaDskX
namespace Go.Proofs.Ytefppiplkmhdmaa.Mat
open Go.RowKit Fld

/-- a disk that was armed, behind i writes -/
structure Armed (d D : Dk) (fuse : Int) (i : Nat) : Prop where
  n : D.n = d.n
  m : D.m ≤ d.m + i
  on : (i : Int) ≤ fuse → D.off = false ∧ D.fuse = fuse - i
  off : fuse < (i : Int) → D.off = true
theorem armed_start {d : Dk} {fuse : Int} (h0 : d.off = false) (h1 : 0 ≤ fuse) : Armed d (armD d fuse) fuse 0 :=
  ⟨rfl, by show d.m ≤ _; omega, fun _ => ⟨h0, by show (if fuse < 0 then -1 else fuse) = _; rw [if_neg (by omega)]; omega⟩, fun h => by omega⟩
/-- a write: it is taken, or not -/
theorem Armed.put {d D : Dk} {fuse : Int} {i : Nat} (h : Armed d D fuse i) (hn : 0 < d.n) {s : ByteArray} (hs : ¬ 1024 < s.size) :
    Armed d (putD D (((i % D.n : Nat) : Int)) s) fuse (i + 1) ∧ ((i : Int) < fuse → putE D (((i % D.n : Nat) : Int)) s = 0) ∧ (fuse ≤ (i : Int) → putE D (((i % D.n : Nat) : Int)) s = 6 ∧ (putD D (((i % D.n : Nat) : Int)) s).off = true) := by
  have hh : hasB D.n (((i % D.n : Nat) : Int)) = true := hasB_yes ⟨by omega, by have := Nat.mod_lt i (show 0 < D.n by rw [h.n]; exact hn); omega⟩
  have hm := h.m
  rcases Int.lt_trichotomy (i : Int) fuse with hl | hl | hl
  · obtain ⟨o1, o2⟩ := h.on (by omega)
    obtain ⟨e1, e2⟩ := putD_pos (d := D) _ s o1 hh hs (by omega)
    rw [e1, e2]
    refine ⟨⟨h.n, by show D.m + 1 ≤ _; omega, fun _ => ⟨rfl, by show D.fuse - 1 = _; omega⟩, fun hf => by omega⟩, fun _ => rfl, fun hf => by omega⟩
  · obtain ⟨o1, o2⟩ := h.on (by omega)
    obtain ⟨e1, e2⟩ := putD_zero (d := D) _ s o1 hh hs (by omega)
    rw [e1, e2]
    refine ⟨⟨h.n, by show D.m + 1 ≤ _; omega, fun hf => by omega, fun _ => rfl⟩, fun hf => by omega, fun _ => ⟨rfl, rfl⟩⟩
  · have o1 := h.off (by omega)
    obtain ⟨e1, e2⟩ := putD_off (d := D) (((i % D.n : Nat) : Int)) s o1
    rw [e1, e2]
    refine ⟨⟨h.n, by omega, fun hf => by omega, fun _ => o1⟩, fun hf => by omega, fun _ => ⟨rfl, o1⟩⟩
theorem Armed.bound {d D : Dk} {fuse : Int} {i ln : Nat} (h : Armed d D fuse i) (hi : i < ln) (hm : (d.m + ln + 1) * 24 ≤ 140737488355328) : (D.m + 1) * 24 ≤ 140737488355328 := by
  have h1 := h.m
  have h2 : D.m + 1 ≤ d.m + ln + 1 := by clear hm; omega
  exact Nat.le_trans (Nat.mul_le_mul_right 24 h2) hm
theorem mod_bound {i n ln : Nat} (hi : i < ln) (hl : ln ≤ 9223372036854775807) : i % n ≤ 9223372036854775807 := Nat.le_trans (Nat.mod_le i n) (by omega)
theorem void_ok (W : World) : DOk W none 0 none 0 voidD := ⟨fun hn => absurd hn (Nat.lt_irrefl 0), fun hn => absurd hn (Nat.lt_irrefl 0), ⟨Nat.le_refl _, fun _ => rfl⟩, ⟨Nat.le_refl _, fun _ => rfl⟩, sz_void⟩
theorem void_new (W : World) : Vr (W.alloc (.cells #[.slice none 0 0, .slice none 0 0, .int .i64 0, .bool false] 25)) W.heap.size voidD none 0 none 0 := Vr.new (void_ok W)
theorem below_dr (w : World) (k : Nat) : Below w.heap.size w (w.drewN k) := ⟨rfl, rfl, rfl, Nat.le_refl _, fun _ _ => rfl⟩
theorem box_tr {w w' : World} {o : Obj} (h : Below (w.alloc o).heap.size (w.alloc o) w') : Below w.heap.size w w' := up_trans ((Below.refl _ _).alloc (Nat.le_refl _) o) h
/-- behind a write: what is laid into a new box -/
def Step (w : World) (D D1 : Dk) (E : Int) (A : Option Addr) (c : Nat) (B : Option Addr) (k : Nat) (s9 s10 : Value) (wx : World) : Prop :=
  ∃ g A' c' B' k', s9 = .pointer (some ⟨g, 0, none⟩) ∧ s10 = .int .i64 E ∧ g ≠ w.heap.size ∧ w.heap.size ≤ g ∧ Vr wx g D1 A' c' B' k' ∧ Vr wx w.heap.size D A c B k ∧ Below w.heap.size w wx
section
variable {w wr w5 : World} {D D1 : Dk} {A B A5 B5 : Option Addr} {c k c5 k5 : Nat} {E : Int}
theorem step_after (hV : Vr wr w.heap.size D A c B k) (hB : Below w.heap.size w wr) (hb : Below wr.heap.size wr w5) (ok : DOk w5 A5 c5 B5 k5 D1) :
    Step w D D1 E A c B k (.pointer (some ⟨w5.heap.size, 0, none⟩)) (.int .i64 E) (w5.alloc (.cells #[.slice A5 D1.n c5, .slice B5 D1.m k5, .int .i64 D1.fuse, .bool D1.off] 25)) := by
  have h5 := hV.up hb
  have hl := h5.bx.lt_
  have hbb := up_trans hB hb
  exact ⟨_, A5, c5, B5, k5, rfl, rfl, by omega, by omega, Vr.new ok, h5.alloc _, hbb.alloc hbb.size _⟩
theorem step_before (hV : Vr wr w.heap.size D A c B k) (hB : Below w.heap.size w wr)
    (hb : Below (wr.alloc (.cells #[.slice none 0 0, .slice none 0 0, .int .i64 0, .bool false] 25)).heap.size (wr.alloc (.cells #[.slice none 0 0, .slice none 0 0, .int .i64 0, .bool false] 25)) w5) (ok : DOk w5 A5 c5 B5 k5 D1) :
    Vr w5 wr.heap.size voidD none 0 none 0 ∧ Step w D D1 E A c B k (.pointer (some ⟨wr.heap.size, 0, none⟩)) (.int .i64 E) (put4 w5 wr.heap.size (.slice A5 D1.n c5) (.slice B5 D1.m k5) (.int .i64 D1.fuse) (.bool D1.off)) := by
  have hz := (void_new wr).up hb
  have h5 := (hV.alloc (.cells #[.slice none 0 0, .slice none 0 0, .int .i64 0, .bool false] 25)).up hb
  have hl := hV.bx.lt_
  have hbb := up_trans (hB.alloc hB.size (.cells #[.slice none 0 0, .slice none 0 0, .int .i64 0, .bool false] 25)) hb
  exact ⟨hz, _, A5, c5, B5, k5, rfl, rfl, by omega, by omega, hz.put ok, h5.other hz (by omega) _ _ _ _, put4_below hbb (by omega) _ _ _ _⟩
theorem Step.drew {s9 s10 : Value} {wx : World} (h : Step w D D1 E A c B k s9 s10 wx) : Step w D D1 E A c B k s9 s10 wx.drew := by
  obtain ⟨g, A', c', B', k', h1, h2, h3, h4, h5, h6, h7⟩ := h
  exact ⟨g, A', c', B', k', h1, h2, h3, h4, h5.drew, h6.drew, h7.drew⟩
end
section
variable {w : World} {d : Dk} {A B C : Option Addr} {c k ln lc : Nat} {T : Nat → ByteArray}
set_option maxRecDepth 100000 in
set_option maxHeartbeats 3200000 in
theorem lawArms (h : DOk w A c B k d) (hL : St w w.heap.size C ln T) (hm : (d.m + ln + 1) * 24 ≤ 140737488355328) (hz : ∀ i, i < ln → (T i).size ≤ 140737488351232) (fuse : Int) (f0 : -9223372036854775808 ≤ fuse) (f1 : fuse ≤ 9223372036854775807) :
    Calls Try.prog 9 #[.agg #[.slice A d.n c, .slice B d.m k, .int .i64 d.fuse, .bool d.off], .int .i64 fuse, .slice C ln lc] w (BoolRet w true) := by
  have c1 := fun W A c B k (h : DOk W A c B k d) => arm_any h fuse f0 f1
  have hst := fun h0 h1 => armed_start (d := d) (fuse := fuse) h0 h1
  generalize armD d fuse = D0 at *
  have C1 := Lib.hid c1
  have HST := Lib.hid hst
  have HL := Lib.hid hL
  have HZ := Lib.hid hz
  have HM := Lib.hid hm
  have Hd := Lib.hid (Vr.new h)
  have HB0 := Lib.hid ((Below.refl w.heap.size w).alloc (Nat.le_refl _) (.cells #[.slice A d.n c, .slice B d.m k, .int .i64 d.fuse, .bool d.off] 25))
  have HSZ := Lib.hid h.sz
  clear c1 hst hL hz hm h
  go_enter Try.func9, Try.ntmps9
  go_upto_region 1 with fail
  generalize w.alloc (.cells #[.slice A d.n c, .slice B d.m k, .int .i64 d.fuse, .bool d.off] 25) = w0 at *
  go_wp2_with fail
  refine (shown_any _).mono ?_; rintro e w1 ⟨rfl, hb1⟩
  have Nd := Lib.hid (Hd.out.up hb1)
  have HB1 := Lib.hid (up_trans HB0.out hb1)
  clear Hd HB0 hb1
  have Hd := Nd
  clear Nd
  obtain ⟨x0, x1, x2, x3⟩ := Hd.out.cells
  cases hoff : d.off
  rotate_left
  · rw [hoff] at x3
    go_wp2
    go_ret
    exact ⟨rfl, HB1.out⟩
  by_cases hn : d.n = 0
  · have g1 : ((d.n : Int) == 0) = true := by rw [hn]; rfl
    rw [hoff] at x3
    go_wp2
    go_ret
    exact ⟨rfl, HB1.out⟩
  by_cases hf : fuse < 0
  · have g1 : ((d.n : Int) == 0) = false := by rw [beq_eq_false_iff_ne]; omega
    have g2 : decide (fuse < 0) = true := decide_eq_true hf
    rw [hoff] at x3
    go_wp2
    go_ret
    exact ⟨rfl, HB1.out⟩
  · have g1 : ((d.n : Int) == 0) = false := by rw [beq_eq_false_iff_ne]; omega
    have g2 : decide (fuse < 0) = false := decide_eq_false hf
    have HA0 := Lib.hid (HST.out hoff (by omega))
    have HOFF := Lib.hid hoff
    rw [hoff] at x3
    have hn0 : 0 < d.n := by omega
    have HN0 := Lib.hid hn0
    have hC : Hid (∀ W A c B k, DOk W A c B k d → Calls Try.prog 22 #[.agg #[.slice A d.n c, .slice B d.m k, .int .i64 d.fuse, .bool false], .int .i64 fuse] W (DRet W D0)) := Lib.hid (fun W A c B k h => by have := C1.out W A c B k h; rwa [hoff] at this)
    clear hn hf hoff HST C1 hn0
    go_wp2_with fail
    clear x0 x1 x2 x3
    refine (hC.out _ _ _ _ _ Hd.out.ok).mono ?_; rintro e w2 ⟨A2, c2, B2, k2, rfl, ok2, hb2⟩
    have h2 := Hd.out.up hb2
    obtain ⟨y0, y1, y2, y3⟩ := h2.cells
    obtain ⟨u0, u1, u2, u3⟩ := h2.bx.free
    rw [HOFF.out] at y3
    have HV0 := Lib.hid (h2.put ok2)
    have HB2 := Lib.hid (put4_below (up_trans HB1.out hb2) (Nat.le_refl w.heap.size) (.slice A2 D0.n c2) (.slice B2 D0.m k2) (.int .i64 D0.fuse) (.bool D0.off))
    clear h2 ok2 hb2 Hd HB1 hC
    go_wp2
    clear y0 y1 y2 y3 u0 u1 u2 u3 g1 g2
    have hl63 : ln ≤ 9223372036854775807 := by have := HM.out; omega
    go_loopg [8] ln (fun gh v wr => ∃ (i : Nat) (D : Dk) (A' : Option Addr) (c' : Nat) (B' : Option Addr) (k' : Nat), i ≤ ln ∧ gh = ln - i ∧ v = .int .i64 (i : Nat) ∧ Armed d D fuse i ∧ Vr wr w.heap.size D A' c' B' k' ∧ Below w.heap.size w wr)
    case atStart => exact ⟨0, D0, _, _, _, _, Nat.zero_le _, rfl, rfl, HA0.out, HV0.out, HB2.out⟩
    case round =>
      obtain ⟨i, D, A1, c1, B1, k1, hi, rfl, rfl, hA, hV, hB⟩ := hrel
      have HA := Lib.hid hA
      have HV := Lib.hid hV
      have HB := Lib.hid hB
      by_cases hil : i < ln
      · have hiz : (i : Int) < (ln : Int) := by omega
        obtain ⟨ad, rfl, _, k0⟩ := (HL.out.below hB hB.size).at_ hil
        obtain ⟨x0, x1, x2, x3⟩ := hV.cells
        clear hA hV hB
        by_cases hbig : 1024 < (T i).size
        · have g3 : decide (((T i).size : Int) > 1024) = true := by simp; omega
          clear hbig
          go_wp2
          go_ret
          exact ⟨rfl, HB.out⟩
        · have g3 : decide (((T i).size : Int) > 1024) = false := by simp; omega
          have hDn : 0 < D.n := by have := HA.out.n; have := HN0.out; omega
          have g4 : ((D.n : Int) == 0) = false := by rw [beq_eq_false_iff_ne]; omega
          have g5 : ¬ (D.n : Int) = 0 := by omega
          have g6 : ¬ D.n = 0 := by omega
          have HSL : Hid (i % D.n ≤ 9223372036854775807) := Lib.hid (mod_bound hil hl63)
          have HMOD : Hid ((i : Int) % (D.n : Int) = ((i % D.n : Nat) : Int)) := Lib.hid (Int.natCast_emod _ _).symm
          have hbnd : (D.m + 1) * 24 ≤ 140737488355328 := HA.out.bound hil HM.out
          obtain ⟨hA2, hE1, hE2⟩ := HA.out.put HN0.out hbig
          have hput := fun W A c B k (h : DOk W A c B k D) => put_any h hbnd ((i % D.n : Nat) : Int) (T i) (HZ.out i hil)
          generalize putD D ((i % D.n : Nat) : Int) (T i) = D1 at *
          generalize putE D ((i % D.n : Nat) : Int) (T i) = E5 at *
          generalize i % D.n = sl at *
          have HPUT := Lib.hid hput
          have HA2 := Lib.hid hA2
          have HE1 := Lib.hid hE1
          have HE2 := Lib.hid hE2
          clear hA2 hE1 hE2
          have q3 : IntKind.i64.wrap (sl : Int) = (sl : Int) := IntWalk.i64_in _ (by have := HSL.out; omega)
          have q1 : (i : Int).tmod (D.n : Int) = (sl : Int) := by rw [Int.tmod_eq_emod_of_nonneg (by omega)]; exact HMOD.out
          have q2 : (i : Int) % (D.n : Int) = (sl : Int) := HMOD.out
          clear hput hbig hbnd
          have hslz : (sl : Int) ≤ 9223372036854775807 := by have := HSL.out; omega
          have hV2 := HV.out.alloc (.cells #[.slice none 0 0, .slice none 0 0, .int .i64 0, .bool false] 25)
          obtain ⟨v0, v1, v2, v3⟩ := hV2.cells
          have HV2 := Lib.hid hV2
          have k0' : (wr.alloc (.cells #[.slice none 0 0, .slice none 0 0, .int .i64 0, .bool false] 25)).cell? (ad.add i) = some (.string (T i)) := by
            have hst := HL.out.below HB.out HB.out.size
            obtain ⟨ad', e, _, q⟩ := (hst.below ((Below.refl _ _).alloc (Nat.le_refl _) (.cells #[.slice none 0 0, .slice none 0 0, .int .i64 0, .bool false] 25)) (Nat.le_refl _)).at_ hil
            injection e with e
            subst e
            exact q
          clear hV2
          have KS : Hid (∀ W, Below wr.heap.size wr W → (W.cell? ⟨w.heap.size, 0, none⟩ = some (.slice A1 D.n c1) ∧ W.cell? ⟨w.heap.size, 1, none⟩ = some (.slice B1 D.m k1) ∧ W.cell? ⟨w.heap.size, 2, none⟩ = some (.int .i64 D.fuse) ∧ W.cell? ⟨w.heap.size, 3, none⟩ = some (.bool D.off)) ∧ W.cell? (ad.add i) = some (.string (T i))) := Lib.hid (fun W hb => by
            obtain ⟨ad', e, _, q⟩ := ((HL.out.below HB.out HB.out.size).below hb hb.size).at_ hil
            injection e with e
            subst e
            exact ⟨(HV.out.up hb).cells, q⟩)
          clear v0 v1 v2 v3 k0'
          go_upto_region 12 with fail
          go_cut [9, 10] from 45 to 58 (fun s9 s10 wx => Step w D D1 E5 A1 c1 B1 k1 s9 s10 wx)
          case first =>
            go_region_held3 (fun W => (W.cell? ⟨w.heap.size, 0, none⟩ = some (.slice A1 D.n c1) ∧ W.cell? ⟨w.heap.size, 1, none⟩ = some (.slice B1 D.m k1) ∧ W.cell? ⟨w.heap.size, 2, none⟩ = some (.int .i64 D.fuse) ∧ W.cell? ⟨w.heap.size, 3, none⟩ = some (.bool D.off)) ∧ W.cell? (ad.add i) = some (.string (T i)))
              (first | exact ⟨⟨x0, x1, x2, x3⟩, k0⟩ | exact KS.out _ b5.out | exact KS.out _ ((below_dr _ _).alloc (Nat.le_refl _) _) | exact KS.out _ (b5.out.alloc b5.out.size _) | exact KS.out _ (put4_below b5.out (Nat.le_refl _) _ _ _ _) | exact KS.out _ (put4_below b5.out b5.out.size _ _ _ _) | go_keep)
              (first
                | (go_at_call 11; (with_reducible refine Calls.mono (HPUT.out _ _ _ _ _ HV.out.ok.drew) ?_); rintro e w5 ⟨A5, c5, B5, k5, rfl, ok5, hb5⟩; have b5 : Hid (Below wr.heap.size wr w5) := Lib.hid ⟨hb5.os, hb5.tape, hb5.output, hb5.size, hb5.block⟩; have QP := Lib.hid (step_after (E := E5) HV.out HB.out b5.out ok5); clear hb5)
                | (go_at_call 11; (with_reducible first | refine Calls.mono (HPUT.out _ _ _ _ _ HV2.out.ok.drew) ?_ | refine Calls.mono (HPUT.out _ _ _ _ _ (HV.out.drew.alloc _).ok) ?_); rintro e w5 ⟨A5, c5, B5, k5, rfl, ok5, hb5⟩; have b5 : Hid (Below wr.heap.size wr w5) := Lib.hid (box_tr ⟨hb5.os, hb5.tape, hb5.output, hb5.size, hb5.block⟩); have q5 := step_before (E := E5) HV.out HB.out ⟨hb5.os, hb5.tape, hb5.output, hb5.size, hb5.block⟩ ok5; obtain ⟨hz5, hq5⟩ := q5; have QP := Lib.hid hq5; obtain ⟨y0, y1, y2, y3⟩ := hz5.cells; obtain ⟨u0, u1, u2, u3⟩ := hz5.bx.free; clear hq5 hz5 hb5))
            all_goals
              go_wp2_with fail
              go_meet
              case rel => go_light; first | exact QP.out | exact QP.out.drew
          case rest =>
            obtain ⟨g, A6, c6, B6, k6, rfl, rfl, hg, hgl, hV6, hV7, hB6⟩ := hcut
            clear x0 x1 x2 x3 k0 q1 q2 q3
            obtain ⟨x0, x1, x2, x3⟩ := hV6.cells
            obtain ⟨y0, y1, y2, y3⟩ := hV7.cells
            obtain ⟨u0, u1, u2, u3⟩ := hV7.bx.free
            have HV8 := Lib.hid (hV7.put hV6.ok)
            have HB8 := Lib.hid (put4_below hB6 (Nat.le_refl w.heap.size) (.slice A6 D1.n c6) (.slice B6 D1.m k6) (.int .i64 D1.fuse) (.bool D1.off))
            have hgg : g ≠ w.heap.size := hg
            clear hV6 hV7 hB6 hg hgl
            by_cases hif : (i : Int) < fuse
            · have t1 : (E5 == 0) = true := by rw [HE1.out hif]; rfl
              have t2 : decide ((i : Int) < fuse) = true := decide_eq_true hif
              have t3 : decide ((i : Int) ≥ fuse) = false := decide_eq_false (by omega)
              clear hif
              go_wp2
              go_roundg (ln - (i + 1))
              case measure => go_light; omega
              case rel => go_light; exact ⟨i + 1, D1, _, _, _, _, by omega, rfl, by simp, HA2.out, HV8.out, HB8.out⟩
            · obtain ⟨t5, t6⟩ := HE2.out (by omega)
              have t1 : (E5 == 0) = false := by rw [t5]; rfl
              have t2 : decide ((i : Int) < fuse) = false := decide_eq_false hif
              have t3 : decide ((i : Int) ≥ fuse) = true := decide_eq_true (by omega)
              have t4 : (E5 != 6) = false := by rw [t5]; rfl
              rw [t6] at x3
              have HT6 := Lib.hid t6
              clear hif t5 t6
              go_wp2
              go_roundg (ln - (i + 1))
              case measure => go_light; omega
              case rel => go_light; exact ⟨i + 1, D1, _, _, _, _, by omega, rfl, by simp, HA2.out, by rw [← HT6.out]; exact HV8.out, by rw [← HT6.out]; exact HB8.out⟩
      · have hiz : ¬ (i : Int) < (ln : Int) := by omega
        clear hA hV hB
        go_wp2
        go_ret
        exact ⟨rfl, HB.out⟩
end
end Go.Proofs.Ytefppiplkmhdmaa.Mat
