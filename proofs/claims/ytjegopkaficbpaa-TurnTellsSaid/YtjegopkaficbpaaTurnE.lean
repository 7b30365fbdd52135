/- Powers and prints, of both sides: walked. -/
import Derived.Test.YtjegopkaficbpaaTurnD
namespace Go.Proofs.Ytjegopkaficbpaa.Mat
open Go.RowKit Fld Flt Trn

/-- the frame of a call with one turn's cells -/
structure F1 (w wr : World) (e f : Int) : Prop where
  below : Below w.heap.size w wr
  z : Has wr w.heap.size 23 2 (two e f)
section
variable {w wr w2 : World} {a b c d e f : Int}
theorem F1.start (w : World) (e f : Int) : F1 w (w.alloc (.cells #[.int .i64 e, .int .i64 f] 23)) e f := ⟨(Below.refl _ _).alloc (Nat.le_refl _) _, has_two w e f _⟩
theorem F1.up (h : F1 w wr e f) (hb : Below wr.heap.size wr w2) : F1 w w2 e f := ⟨up_trans h.below hb, h.z.below hb h.z.lt⟩
theorem F1.put (h : F1 w wr e f) (g k : Int) : F1 w (put2 wr w.heap.size g k) g k := ⟨put2_below h.below (by omega), put2_two h.z⟩
theorem F1.cz (h : F1 w wr e f) : wr.cell? ⟨w.heap.size, 0, none⟩ = some (.int .i64 e) ∧ wr.cell? ⟨w.heap.size, 1, none⟩ = some (.int .i64 f) ∧ wr.frozen? ⟨w.heap.size, 0, none⟩ = false ∧ wr.frozen? ⟨w.heap.size, 1, none⟩ = false :=
  ⟨h.z.cell (by omega), h.z.cell (by omega), h.z.frozen (by omega), h.z.frozen (by omega)⟩
end
/-- .. of two -/
structure F2 (w wr : World) (a b e f : Int) : Prop where
  below : Below w.heap.size w wr
  x : Has wr w.heap.size 23 2 (two a b)
  z : Has wr (w.heap.size + 1) 23 2 (two e f)
section
variable {w wr w2 : World} {a b c d e f : Int}
theorem F2.start (w : World) (a b e f : Int) : F2 w ((w.alloc (.cells #[.int .i64 a, .int .i64 b] 23)).alloc (.cells #[.int .i64 e, .int .i64 f] 23)) a b e f where
  below := ((Below.refl _ _).alloc (Nat.le_refl _) _).alloc (by rw [size_alloc]; omega) _
  x := (has_two w a b _).alloc _
  z := by
    have := has_two (w.alloc (.cells #[.int .i64 a, .int .i64 b] 23)) e f 23
    rwa [size_alloc] at this
theorem F2.up (h : F2 w wr a b e f) (hb : Below wr.heap.size wr w2) : F2 w w2 a b e f := ⟨up_trans h.below hb, h.x.below hb h.x.lt, h.z.below hb h.z.lt⟩
theorem F2.drew (h : F2 w wr a b e f) : F2 w wr.drew a b e f := ⟨h.below.drew, h.x.drew, h.z.drew⟩
theorem F2.putx (h : F2 w wr a b e f) (g k : Int) : F2 w (put2 wr w.heap.size g k) g k e f := ⟨put2_below h.below (by omega), put2_two h.x, put2_other h.z (by omega)⟩
theorem F2.putz (h : F2 w wr a b e f) (g k : Int) : F2 w (put2 wr (w.heap.size + 1) g k) a b g k := ⟨put2_below h.below (by omega), put2_other h.x (by omega), put2_two h.z⟩
theorem F2.cx (h : F2 w wr a b e f) : wr.cell? ⟨w.heap.size, 0, none⟩ = some (.int .i64 a) ∧ wr.cell? ⟨w.heap.size, 1, none⟩ = some (.int .i64 b) ∧ wr.frozen? ⟨w.heap.size, 0, none⟩ = false ∧ wr.frozen? ⟨w.heap.size, 1, none⟩ = false :=
  ⟨h.x.cell (by omega), h.x.cell (by omega), h.x.frozen (by omega), h.x.frozen (by omega)⟩
theorem F2.cz (h : F2 w wr a b e f) : wr.cell? ⟨w.heap.size + 1, 0, none⟩ = some (.int .i64 e) ∧ wr.cell? ⟨w.heap.size + 1, 1, none⟩ = some (.int .i64 f) ∧ wr.frozen? ⟨w.heap.size + 1, 0, none⟩ = false ∧ wr.frozen? ⟨w.heap.size + 1, 1, none⟩ = false :=
  ⟨h.z.cell (by omega), h.z.cell (by omega), h.z.frozen (by omega), h.z.frozen (by omega)⟩
end
section
variable {w wr w2 : World} {a b c d e f : Int}
theorem F3.puty (h : F3 w wr a b c d e f) (g k : Int) : F3 w (put2 wr (w.heap.size + 1) g k) a b g k e f :=
  ⟨put2_below h.below (by omega), put2_other h.x (by omega), put2_two h.y, put2_other h.z (by omega)⟩
theorem F3.putx (h : F3 w wr a b c d e f) (g k : Int) : F3 w (put2 wr w.heap.size g k) g k c d e f :=
  ⟨put2_below h.below (by omega), put2_two h.x, put2_other h.y (by omega), put2_other h.z (by omega)⟩
theorem F3.fy (h : F3 w wr a b c d e f) : wr.frozen? ⟨w.heap.size + 1, 0, none⟩ = false ∧ wr.frozen? ⟨w.heap.size + 1, 1, none⟩ = false := ⟨h.y.frozen (by omega), h.y.frozen (by omega)⟩
theorem F3.fx (h : F3 w wr a b c d e f) : wr.frozen? ⟨w.heap.size, 0, none⟩ = false ∧ wr.frozen? ⟨w.heap.size, 1, none⟩ = false := ⟨h.x.frozen (by omega), h.x.frozen (by omega)⟩
end

set_option maxRecDepth 100000 in
set_option maxHeartbeats 800000 in
theorem powerT_any (n : Nat) (hn : n < 18446744073709551616) (w : World) : Calls Try.prog 15 #[.int .u64 (n : Nat)] w (TurnRet w (md (px st n))) := by
  have HN := Lib.hid hn
  clear hn
  go_enter Try.func15, Try.ntmps15
  go_wp2_with fail
  have h0 := Lib.hid (F1.start w 0 0)
  refine (power_any n HN.out _).mono ?_; rintro e w1 ⟨rfl, rfl⟩
  go_wp2_with fail
  refine (told_any _ _ md_small.1 md_small.2 _).mono ?_; rintro e w1 ⟨rfl, hb1⟩
  have h1 := h0.out.up hb1
  obtain ⟨z0, z1, z2, z3⟩ := h1.cz
  have H1 := Lib.hid h1
  clear h0 h1 hb1
  go_wp2
  have hp := H1.out.put (md (px st n)).1 (md (px st n)).2
  refine bodyPost_ret (results_turn rfl _ _ w.heap.size rfl hp.z.pair) rfl ⟨rfl, hp.below⟩

theorem nx_parts (a b c : Int) : (nx (a, b) c).1 = ((md (mu (a, b) st)).1 + c + 1) % 8191 ∧ (nx (a, b) c).2 = (md (mu (a, b) st)).2 := by
  unfold nx md ad
  simp only
  omega
set_option maxRecDepth 100000 in
set_option maxHeartbeats 800000 in
theorem refPut_any {a b c : Int} (h : may (a, b)) (h0 : 0 ≤ c) (h1 : c < 256) (w : World) : Calls Try.prog 29 #[tv a b, .int .u8 c] w (TurnRet w (nx (a, b) c)) := by
  have HM := Lib.hid h
  obtain ⟨e1, e2⟩ := nx_parts a b c
  have HE := Lib.hid (And.intro e1 e2)
  have hm := may_md (mu (a, b) st)
  clear h e1 e2
  go_enter Try.func29, Try.ntmps29
  go_wp2_with fail
  have f0 := Lib.hid (F2.start w a b 0 0)
  refine (refMul_yes (a := a) (b := b) (c := 5) (d := 3) HM.out (by decide) _).mono ?_; rintro e w1 ⟨rfl, hb1⟩
  have f1 := f0.out.up hb1
  obtain ⟨x0, x1, x2, x3⟩ := f1.cx
  obtain ⟨z0, z1, z2, z3⟩ := f1.cz
  have H1 := Lib.hid f1
  obtain ⟨m0, m1, m2, m3⟩ := hm
  have HE' := HE
  change Hid (_ = ((md (mu (a, b) (5, 3))).1 + c + 1) % 8191 ∧ _ = (md (mu (a, b) (5, 3))).2) at HE
  change 0 ≤ (md (mu (a, b) (5, 3))).1 at m0
  change (md (mu (a, b) (5, 3))).1 < 8191 at m1
  clear f0 f1 hb1 m2 m3 HE'
  generalize (md (mu (a, b) (5, 3))).1 = g at *
  generalize (md (mu (a, b) (5, 3))).2 = k at *
  go_wp2
  have hp := (H1.out.putx g k).putz ((g + c + 1) % 8191) k
  refine bodyPost_ret (results_turn rfl _ _ (w.heap.size + 1) rfl hp.z.pair) rfl ⟨by rw [HE.out.1, HE.out.2], hp.below⟩

theorem rem_eq {k : Nat} (h : k % 2 = 1) : ((k : Int) % 2 == 1) = true := by rw [beq_iff_eq]; omega
theorem rem_ne {k : Nat} (h : k % 2 = 0) : ((k : Int) % 2 == 1) = false := by rw [beq_eq_false_iff_ne]; omega
set_option maxRecDepth 100000 in
set_option maxHeartbeats 1600000 in
theorem refPower_any (n : Nat) (hn : n < 18446744073709551616) (w : World) : Calls Try.prog 16 #[.int .u64 (n : Nat)] w (TurnRet w (md (px st n))) := by
  have HN := Lib.hid hn
  clear hn
  go_enter Try.func16, Try.ntmps16
  go_wp2
  have f0 := Lib.hid (F3.start w 0 0 1 0 5 3)
  go_loopg [0] n (fun gh v wr => ∃ (o x : Tn), gh ≤ n ∧ v = .int .u64 (gh : Nat) ∧ Pinv n gh o x ∧ F3 w wr 0 0 o.1 o.2 x.1 x.2)
  case atStart => exact ⟨one, st, Nat.le_refl _, rfl, Pinv.start n, f0.out⟩
  case round =>
    obtain ⟨o, x, hk, rfl, hP, hF⟩ := hrel
    have HP := Lib.hid hP
    have HF := Lib.hid hF
    have HK := Lib.hid hk
    obtain ⟨y0, y1⟩ := hF.cy
    obtain ⟨y2, y3⟩ := hF.fy
    obtain ⟨z0, z1, z2, z3⟩ := hF.cz
    obtain ⟨x0, x1⟩ := hF.cx
    obtain ⟨x2, x3⟩ := hF.fx
    clear hP hF hk
    by_cases h0 : 0 < gk
    · have g9 : gk ≤ 18446744073709551615 := by have := HN.out; have := HK.out; omega
      by_cases hk1 : gk % 2 = 1
      · have b1 := rem_eq hk1
        go_wp2_with fail
        refine (refMul_yes HP.out.mo HP.out.mx _).mono ?_; rintro e w1 ⟨rfl, hb1⟩
        have h1 := HF.out.up hb1
        clear y0 y1 y2 y3 z0 z1 z2 z3 x0 x1 x2 x3
        obtain ⟨y0, y1⟩ := h1.cy
        obtain ⟨y2, y3⟩ := h1.fy
        have H2 := Lib.hid (h1.puty (md (mu o x)).1 (md (mu o x)).2)
        clear hb1 h1 HF
        go_upto_region 6 with fail
        change Hid (F3 w ((w1.setCell ⟨w.heap.size + 1, 0, none⟩ (.int .i64 (md (mu o x)).1)).setCell ⟨w.heap.size + 1, 1, none⟩ (.int .i64 (md (mu o x)).2)) _ _ _ _ _ _) at H2
        generalize (w1.setCell ⟨w.heap.size + 1, 0, none⟩ (.int .i64 (md (mu o x)).1)).setCell ⟨w.heap.size + 1, 1, none⟩ (.int .i64 (md (mu o x)).2) = w2 at *
        clear y0 y1 y2 y3
        obtain ⟨z0, z1, z2, z3⟩ := H2.out.cz
        go_wp2_with fail
        refine (refMul_yes HP.out.mx HP.out.mx _).mono ?_; rintro e w3 ⟨rfl, hb3⟩
        have h3 := H2.out.up hb3
        clear z0 z1 z2 z3
        obtain ⟨z0, z1, z2, z3⟩ := h3.cz
        have H4 := Lib.hid (h3.put (md (mu x x)).1 (md (mu x x)).2)
        clear hb3 h3 H2
        go_wp2
        go_roundg (gk / 2)
        case measure => go_light; omega
        case rel => go_light; exact ⟨md (mu o x), md (mu x x), by have := HK.out; omega, by simp, HP.out.odd hk1, H4.out⟩
      · have hk1 : gk % 2 = 0 := by omega
        have b1 := rem_ne hk1
        go_wp2_with fail
        refine (refMul_yes HP.out.mx HP.out.mx _).mono ?_; rintro e w3 ⟨rfl, hb3⟩
        have h3 := HF.out.up hb3
        clear y0 y1 y2 y3 z0 z1 z2 z3 x0 x1 x2 x3
        obtain ⟨z0, z1, z2, z3⟩ := h3.cz
        have H4 := Lib.hid (h3.put (md (mu x x)).1 (md (mu x x)).2)
        clear hb3 h3 HF
        go_wp2
        go_roundg (gk / 2)
        case measure => go_light; omega
        case rel => go_light; exact ⟨o, md (mu x x), by have := HK.out; omega, by simp, HP.out.even hk1, H4.out⟩
    · go_wp2
      have hp := HF.out.putx o.1 o.2
      refine bodyPost_ret (results_turn rfl _ _ w.heap.size rfl hp.x.pair) rfl ⟨by rw [HP.out.done (by omega)], hp.below⟩
end Go.Proofs.Ytjegopkaficbpaa.Mat
