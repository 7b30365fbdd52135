/- Get, of both sides: walked. -/
import Derived.Test.YtefppiplkmhdmaaDskF
import Derived.ScopeJumps
namespace Go.Proofs.Ytefppiplkmhdmaa.Mat
open Go.RowKit Fld

theorem lastT_skip {I : Nat → Int} {T : Nat → ByteArray} {slot : Int} {s : ByteArray} {i : Nat} : ∀ (m : Nat), i ≤ m → (∀ r, i ≤ r → r < m → I r ≠ slot) → lastT I T slot s m = lastT I T slot s i
  | 0, h, _ => by rw [show i = 0 by omega]
  | m + 1, h, hh => by
    by_cases e : i = m + 1
    · rw [e]
    · show (if I m = slot then T m else lastT I T slot s m) = _
      rw [if_neg (hh m (by omega) (by omega)), lastT_skip m (by omega) (fun r h1 h2 => hh r h1 (by omega))]
theorem lastT_hit {I : Nat → Int} {T : Nat → ByteArray} {slot : Int} {s : ByteArray} {i m : Nat} (h : i + 1 ≤ m) (hh : ∀ r, i + 1 ≤ r → r < m → I r ≠ slot) (e : I i = slot) : lastT I T slot s m = T i := by
  rw [lastT_skip m h hh]
  exact if_pos e
theorem get_in {d : Dk} {slot : Int} (h : hasB d.n slot = true) : getE d slot = 0 ∧ getS d slot = lastT d.I d.T slot (d.S slot.toNat) d.m := by unfold getE getS; rw [if_pos h, if_pos h]; exact ⟨rfl, rfl⟩
theorem get_out {d : Dk} {slot : Int} (h : hasB d.n slot = false) : getE d slot = 1 ∧ getS d slot = ByteArray.empty := by unfold getE getS; rw [h]; exact ⟨rfl, rfl⟩
section
variable {A B : Option Addr} {c k : Nat} {d : Dk} {w : World}
set_option maxRecDepth 100000 in
set_option maxHeartbeats 1600000 in
theorem refGet_any (h : DOk w A c B k d) (slot : Int) :
    Calls Try.prog 14 #[.agg #[.slice A d.n c, .slice B d.m k, .int .i64 d.fuse, .bool d.off], .int .i64 slot] w (TxtRet w (getE d slot) (getS d slot)) := by
  have hx := bx_new w (.slice A d.n c) (.slice B d.m k) (.int .i64 d.fuse) (.bool d.off)
  have hb := (Below.refl w.heap.size w).alloc (Nat.le_refl _) (.cells #[.slice A d.n c, .slice B d.m k, .int .i64 d.fuse, .bool d.off] 25)
  have HD := Lib.hid (h.up hb)
  have HB := Lib.hid hb
  have HX := Lib.hid hx
  have hmm : d.m ≤ 9223372036854775807 := by have := h.sz.bm; omega
  clear h hx hb
  go_enter Try.func14, Try.ntmps14
  go_upto_region 1 with fail
  generalize w.alloc (.cells #[.slice A d.n c, .slice B d.m k, .int .i64 d.fuse, .bool d.off] 25) = wb at *
  obtain ⟨x0, x1, x2, x3⟩ := HX.out.cells
  by_cases hh : 0 ≤ slot ∧ slot < d.n
  rotate_left
  · have HE := Lib.hid (get_out (hasB_no hh))
    by_cases h1 : slot < 0
    · have g1 : decide (slot < 0) = true := decide_eq_true h1
      clear hh h1
      go_wp2
      go_ret2
      exact ⟨by rw [HE.out.1, HE.out.2]; rfl, HB.out⟩
    · have g1 : decide (slot < 0) = false := decide_eq_false h1
      have g2 : decide (slot ≥ (d.n : Int)) = true := decide_eq_true (by omega)
      clear hh h1
      go_wp2
      go_ret2
      exact ⟨by rw [HE.out.1, HE.out.2]; rfl, HB.out⟩
  · obtain ⟨j, rfl⟩ : ∃ j : Nat, slot = j := ⟨slot.toNat, by omega⟩
    have HE := Lib.hid (get_in (hasB_yes hh))
    have g1 : decide ((j : Int) < 0) = false := decide_eq_false (by omega)
    have g2 : decide ((j : Int) ≥ (d.n : Int)) = false := decide_eq_false (by omega)
    have hjn : j < d.n := by omega
    have hjz : (j : Int) < (d.n : Int) := by omega
    obtain ⟨ad, rfl, _, hc⟩ := HD.out.st.at_ hjn
    clear hh
    go_wp2
    clear g1 g2
    go_loopg [6, 7] d.m (fun gh v i wr => ∃ r, r ≤ d.m ∧ gh = d.m - r ∧ i = .int .i64 (r : Nat) ∧ v = .string (lastT d.I d.T j (d.S j) r) ∧ wr = wb)
    case atStart => exact ⟨0, Nat.zero_le _, rfl, rfl, rfl, rfl⟩
    case round =>
      obtain ⟨r, hr, rfl, rfl, rfl, rfl⟩ := hrel
      by_cases hrm : r < d.m
      · have hrz : (r : Int) < (d.m : Int) := by omega
        obtain ⟨bd, rfl, _, k0, k1⟩ := HD.out.pc.at_ hrm
        by_cases he : d.I r = (j : Int)
        · have g3 : (d.I r == (j : Int)) = true := beq_iff_eq.2 he
          have hT : lastT d.I d.T j (d.S j) (r + 1) = d.T r := if_pos he
          have HT := Lib.hid hT
          clear hT he
          go_wp2
          go_roundg (d.m - (r + 1))
          case measure => go_light; omega
          case rel => go_light; exact ⟨r + 1, by omega, rfl, by simp, by rw [HT.out], rfl⟩
        · have g3 : (d.I r == (j : Int)) = false := beq_eq_false_iff_ne.2 he
          have hT : lastT d.I d.T j (d.S j) (r + 1) = lastT d.I d.T j (d.S j) r := if_neg he
          have HT := Lib.hid hT
          clear hT he
          go_wp2
          go_roundg (d.m - (r + 1))
          case measure => go_light; omega
          case rel => go_light; exact ⟨r + 1, by omega, rfl, by simp, by rw [HT.out], rfl⟩
      · have hrz : ¬ (r : Int) < (d.m : Int) := by omega
        obtain rfl : r = d.m := by omega
        go_wp2
        go_ret2
        exact ⟨by rw [HE.out.1, HE.out.2, Int.toNat_natCast]; rfl, HB.out⟩

/-- the frame at the label: no write behind the place i waits for the slot -/
def JG (w wb : World) (A : Option Addr) (c : Nat) (B : Option Addr) (k : Nat) (d : Dk) (j : Nat) (a' : Act) (w' : World) : Prop :=
  w' = wb ∧ ∃ i : Nat, i ≤ d.m ∧ (∀ r, i ≤ r → r < d.m → d.I r ≠ (j : Int)) ∧ ∃ u7 u8 u9 u10 u11 u12 u13 u14 u15 u16 u17 u18 u19 u20 u21 u22 u23 u24 u25 u26 u27 u28 u29 u30 u31 u32 u33 u34 u35 u36 u37 : Value,
    a' = { tmps := #[.agg #[.slice A d.n c, .slice B d.m k, .int .i64 d.fuse, .bool d.off], .int .i64 (j : Nat), .pointer (some ⟨w.heap.size, 0, none⟩), undef, .string ⟨#[]⟩, .int .i64 0, .int .i64 (i : Nat), u7, u8, u9, u10, u11, u12, u13, u14, u15, u16, u17, u18, u19, u20, u21, u22, u23, u24, u25, u26, u27, u28, u29, u30, u31, u32, u33, u34, u35, u36, u37], defers := [] }
set_option maxRecDepth 100000 in
set_option maxHeartbeats 1600000 in
theorem get_any (h : DOk w A c B k d) (slot : Int) :
    Calls Try.prog 13 #[.agg #[.slice A d.n c, .slice B d.m k, .int .i64 d.fuse, .bool d.off], .int .i64 slot] w (TxtRet w (getE d slot) (getS d slot)) := by
  have hx := bx_new w (.slice A d.n c) (.slice B d.m k) (.int .i64 d.fuse) (.bool d.off)
  have hb := (Below.refl w.heap.size w).alloc (Nat.le_refl _) (.cells #[.slice A d.n c, .slice B d.m k, .int .i64 d.fuse, .bool d.off] 25)
  have HD := Lib.hid (h.up hb)
  have HB := Lib.hid hb
  have HX := Lib.hid hx
  have hmm : d.m ≤ 9223372036854775807 := by have := h.sz.bm; omega
  clear h hx hb
  cases hh : hasB d.n slot
  · have HE := Lib.hid (get_out hh)
    have HH := Lib.hid hh
    clear hh
    go_enter Try.func13, Try.ntmps13
    go_wp2_with fail
    generalize w.alloc (.cells #[.slice A d.n c, .slice B d.m k, .int .i64 d.fuse, .bool d.off] 25) = wb at *
    obtain ⟨x0, x1, x2, x3⟩ := HX.out.cells
    refine wp_scope_jumps 0 (fun _ _ => False) (fun _ _ => 0) rfl ?_ (fun _ _ h => h.elim)
    go_wp2_with fail
    refine (has_any _ _ _ _ _).mono ?_; rintro e w1 ⟨rfl, rfl⟩
    rw [HH.out]
    go_wp2_with fail
    simp only [Exit.jump]
    go_ret2
    exact ⟨by rw [HE.out.1, HE.out.2]; rfl, HB.out⟩
  · have HE := Lib.hid (get_in hh)
    have HH := Lib.hid hh
    obtain ⟨s0, s1⟩ := hasB_iff.1 hh
    obtain ⟨j, rfl⟩ : ∃ j : Nat, slot = j := ⟨slot.toNat, by omega⟩
    have hjn : j < d.n := by omega
    have hjz : (j : Int) < (d.n : Int) := by omega
    clear hh s0 s1
    go_enter Try.func13, Try.ntmps13
    go_wp2_with fail
    generalize w.alloc (.cells #[.slice A d.n c, .slice B d.m k, .int .i64 d.fuse, .bool d.off] 25) = wb at *
    obtain ⟨ad, rfl, _, hc⟩ := HD.out.st.at_ hjn
    obtain ⟨x0, x1, x2, x3⟩ := HX.out.cells
    refine wp_scope_jumps 0 (JG w wb (some ad) c B k d j) (fun a' _ => (intOf (a'.tmps.getD 6 undef)).toNat) rfl ?_ ?_
    · go_wp2_with fail
      refine (has_any _ _ _ _ _).mono ?_; rintro e w1 ⟨rfl, rfl⟩
      rw [HH.out]
      rcases Nat.eq_zero_or_pos d.m with hm0 | hm0
      · have g1 : ((d.m : Int) == 0) = true := by rw [hm0]; rfl
        have HT : Hid (lastT d.I d.T j (d.S j) d.m = d.S j) := Lib.hid (by rw [hm0]; rfl)
        go_wp2_with fail
        go_step3
        go_wp2_with fail
        simp only [Exit.jump]
        go_ret2
        exact ⟨by rw [HE.out.1, HE.out.2, Int.toNat_natCast, HT.out]; rfl, HB.out⟩
      · have g1 : ((d.m : Int) == 0) = false := by rw [beq_eq_false_iff_ne]; omega
        have hrm : d.m - 1 < d.m := by omega
        obtain ⟨bd, rfl, _, k0, k1⟩ := HD.out.pc.at_ hrm
        have g2 : IntKind.i64.wrap ((d.m : Int) - 1) = ((d.m - 1 : Nat) : Int) := by rw [IntWalk.i64_in _ (by omega)]; omega
        have hrz : ((d.m - 1 : Nat) : Int) < (d.m : Int) := by omega
        by_cases he : d.I (d.m - 1) = (j : Int)
        · have g3 : (d.I (d.m - 1) != (j : Int)) = false := by simpa using he
          have HT : Hid (lastT d.I d.T j (d.S j) d.m = d.T (d.m - 1)) := Lib.hid (lastT_hit (by omega) (fun r h1 h2 => by omega) he)
          generalize d.m - 1 = i at *
          go_wp2_with fail
          go_step3
          go_wp2_with fail
          simp only [Exit.jump]
          go_ret2
          exact ⟨by rw [HE.out.1, HE.out.2, Int.toNat_natCast, HT.out]; rfl, HB.out⟩
        · have g3 : (d.I (d.m - 1) != (j : Int)) = true := by simpa using he
          have HN : Hid (d.m - 1 ≤ d.m ∧ ∀ r, d.m - 1 ≤ r → r < d.m → d.I r ≠ (j : Int)) := Lib.hid ⟨by omega, fun r h1 h2 => by rw [show r = d.m - 1 by omega]; exact he⟩
          generalize d.m - 1 = i at *
          go_wp2_with fail
          go_step3
          go_wp2_with fail
          go_step3
          exact ⟨rfl, ⟨rfl, i, HN.out.1, HN.out.2, _, _, _, _, _, _, _, _, _, _, _, _, _, _, _, _, _, _, _, _, _, _, _, _, _, _, _, _, _, _, _, rfl⟩⟩
    · rintro a' w' ⟨rfl, i, hi, hn, u7, u8, u9, u10, u11, u12, u13, u14, u15, u16, u17, u18, u19, u20, u21, u22, u23, u24, u25, u26, u27, u28, u29, u30, u31, u32, u33, u34, u35, u36, u37, rfl⟩
      rcases Nat.eq_zero_or_pos i with hm0 | hm0
      · subst hm0
        have HT : Hid (lastT d.I d.T j (d.S j) d.m = d.S j) := Lib.hid (lastT_skip d.m hi hn)
        clear hi hn
        go_wp2_with fail
        simp only [Exit.jump]
        go_ret2
        exact ⟨by rw [HE.out.1, HE.out.2, Int.toNat_natCast, HT.out]; rfl, HB.out⟩
      · have g1 : ((i : Int) == 0) = false := by rw [beq_eq_false_iff_ne]; omega
        have hrm : i - 1 < d.m := by omega
        obtain ⟨bd, rfl, _, k0, k1⟩ := HD.out.pc.at_ hrm
        have g2 : IntKind.i64.wrap ((i : Int) - 1) = ((i - 1 : Nat) : Int) := by rw [IntWalk.i64_in _ (by omega)]; omega
        have hrz : ((i - 1 : Nat) : Int) < (d.m : Int) := by omega
        by_cases he : d.I (i - 1) = (j : Int)
        · have g3 : (d.I (i - 1) != (j : Int)) = false := by simpa using he
          have HT : Hid (lastT d.I d.T j (d.S j) d.m = d.T (i - 1)) := Lib.hid (lastT_hit (by omega) (fun r h1 h2 => hn r (by omega) h2) he)
          clear hn
          generalize i - 1 = x at *
          go_wp2_with fail
          simp only [Exit.jump]
          go_ret2
          exact ⟨by rw [HE.out.1, HE.out.2, Int.toNat_natCast, HT.out]; rfl, HB.out⟩
        · have g3 : (d.I (i - 1) != (j : Int)) = true := by simpa using he
          have HN : Hid (i - 1 ≤ d.m ∧ i - 1 < i ∧ ∀ r, i - 1 ≤ r → r < d.m → d.I r ≠ (j : Int)) := Lib.hid ⟨by omega, by omega, fun r h1 h2 => by
            by_cases e : r = i - 1
            · rw [e]; exact he
            · exact hn r (by omega) h2⟩
          clear hn
          generalize i - 1 = x at *
          go_wp2_with fail
          go_step3
          refine ⟨rfl, ⟨rfl, x, HN.out.1, HN.out.2.2, _, _, _, _, _, _, _, _, _, _, _, _, _, _, _, _, _, _, _, _, _, _, _, _, _, _, _, _, _, _, _, rfl⟩, ?_⟩
          have := HN.out.2.1
          simp [intOf]; omega
end
end Go.Proofs.Ytefppiplkmhdmaa.Mat
