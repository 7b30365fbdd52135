/- Products: walked. -/
import Derived.Test.YtjegopkaficbpaaTurnC
namespace Go.Proofs.Ytjegopkaficbpaa.Mat
open Go.RowKit Fld Flt Trn

theorem mayB_yes {a b : Int} (h : may (a, b)) : mayB a b = true := mayB_iff.2 h
theorem mayB_no {a b : Int} (h : ¬ may (a, b)) : mayB a b = false := by rw [Bool.eq_false_iff]; exact fun e => h (mayB_iff.1 e)
theorem md_small {z : Tn} : Sm 40 (md z).1 ∧ Sm 40 (md z).2 := by
  obtain ⟨a, b, c, d⟩ := may_md z
  exact ⟨by unfold Sm; omega, by unfold Sm; omega⟩
/-- two cells -/
def two (a b : Int) (i : Nat) : Value := if i = 0 then .int .i64 a else .int .i64 b
theorem has_two (w : World) (a b : Int) (t : TypeId) : Has (w.alloc (.cells #[.int .i64 a, .int .i64 b] t)) w.heap.size t 2 (two a b) :=
  has_new w _ t (fun i hi => by
    rcases (show i = 0 ∨ i = 1 by omega) with rfl | rfl <;> rfl)

theorem two_0 (a b : Int) : two a b 0 = .int .i64 a := rfl
theorem two_1 (a b : Int) : two a b 1 = .int .i64 b := rfl
theorem below_of_drew {w w' : World} {k : Nat} (h : Below (w.drewN k).heap.size (w.drewN k) w') : Below w.heap.size w w' := ⟨h.os, h.tape, h.output, h.size, h.block⟩
theorem results_turn {fn : Func} {p : Tmp} (h : fn.results = #[.cell p 23]) (tmps : Array Value) (w : World) (g : Nat) {x y : Int} (hp : tmps.getD p undef = .pointer (some ⟨g, 0, none⟩))
    (hc : w.cell? ⟨g, 0, none⟩ = some (.int .i64 x) ∧ w.cell? ⟨g, 1, none⟩ = some (.int .i64 y)) : (results fn tmps).run Try.prog w = .ok (tv x y) w := by
  have hp' : tmps[p]?.getD undef = .pointer (some ⟨g, 0, none⟩) := by simpa using hp
  obtain ⟨c0, c1⟩ := hc
  simp [results, h, hp', asAddr, go_sem, c0, c1]
theorem results_turn_err {fn : Func} {p q : Tmp} (h : fn.results = #[.cell p 23, .tmp q]) (tmps : Array Value) (w : World) (g : Nat) {x y : Int} (hp : tmps.getD p undef = .pointer (some ⟨g, 0, none⟩))
    (hc : w.cell? ⟨g, 0, none⟩ = some (.int .i64 x) ∧ w.cell? ⟨g, 1, none⟩ = some (.int .i64 y)) : (results fn tmps).run Try.prog w = .ok (.tuple #[tv x y, tmps.getD q undef]) w := by
  have hp' : tmps[p]?.getD undef = .pointer (some ⟨g, 0, none⟩) := by simpa using hp
  obtain ⟨c0, c1⟩ := hc
  simp [results, h, hp', asAddr, go_sem, c0, c1]
/-- two cells written -/
def put2 (w : World) (b : Nat) (g k : Int) : World := (w.setCell ⟨b, 0, none⟩ (.int .i64 g)).setCell ⟨b, 1, none⟩ (.int .i64 k)
theorem put2_two {w : World} {b : Nat} {t : TypeId} {e f g k : Int} (h : Has w b t 2 (two e f)) : Has (put2 w b g k) b t 2 (two g k) :=
  ((h.set_ 0 _).set_ 1 _).congr (fun i hi => by
    rcases (show i = 0 ∨ i = 1 by omega) with rfl | rfl <;> rfl)
theorem Has.pair {w : World} {b : Nat} {t : TypeId} {g k : Int} (h : Has w b t 2 (two g k)) : w.cell? ⟨b, 0, none⟩ = some (.int .i64 g) ∧ w.cell? ⟨b, 1, none⟩ = some (.int .i64 k) := ⟨h.cell (by omega), h.cell (by omega)⟩
theorem put2_other {w : World} {b b' n : Nat} {t : TypeId} {F : Nat → Value} {g k : Int} (h : Has w b' t n F) (hne : b' ≠ b) : Has (put2 w b g k) b' t n F := (h.setOther hne _).setOther hne _
theorem put2_below {w0 w : World} {B b : Nat} {g k : Int} (h : Below B w0 w) (hb : B ≤ b) : Below B w0 (put2 w b g k) := (h.setCell (p := ⟨b, 0, none⟩) hb _).setCell (p := ⟨b, 1, none⟩) hb _
/-- the frame of a call with two turns and its result: what was boxed, what is answered -/
structure F3 (w wr : World) (a b c d e f : Int) : Prop where
  below : Below w.heap.size w wr
  x : Has wr w.heap.size 23 2 (two a b)
  y : Has wr (w.heap.size + 1) 23 2 (two c d)
  z : Has wr (w.heap.size + 1 + 1) 23 2 (two e f)
section
variable {w wr w2 : World} {a b c d e f : Int}
theorem F3.start (w : World) (a b c d e f : Int) : F3 w (((w.alloc (.cells #[.int .i64 a, .int .i64 b] 23)).alloc (.cells #[.int .i64 c, .int .i64 d] 23)).alloc (.cells #[.int .i64 e, .int .i64 f] 23)) a b c d e f where
  below := (((Below.refl _ _).alloc (Nat.le_refl _) _).alloc (by rw [size_alloc]; omega) _).alloc (by rw [size_alloc, size_alloc]; omega) _
  x := ((has_two w a b _).alloc _).alloc _
  y := by
    have := (has_two (w.alloc (.cells #[.int .i64 a, .int .i64 b] 23)) c d 23).alloc (.cells #[.int .i64 e, .int .i64 f] 23)
    rwa [size_alloc] at this
  z := by
    have := has_two ((w.alloc (.cells #[.int .i64 a, .int .i64 b] 23)).alloc (.cells #[.int .i64 c, .int .i64 d] 23)) e f 23
    rwa [size_alloc, size_alloc] at this
theorem F3.up (h : F3 w wr a b c d e f) (hb : Below wr.heap.size wr w2) : F3 w w2 a b c d e f where
  below := up_trans h.below hb
  x := h.x.below hb h.x.lt
  y := h.y.below hb h.y.lt
  z := h.z.below hb h.z.lt
theorem F3.drew (h : F3 w wr a b c d e f) : F3 w wr.drew a b c d e f := ⟨h.below.drew, h.x.drew, h.y.drew, h.z.drew⟩
theorem F3.cx (h : F3 w wr a b c d e f) : wr.cell? ⟨w.heap.size, 0, none⟩ = some (.int .i64 a) ∧ wr.cell? ⟨w.heap.size, 1, none⟩ = some (.int .i64 b) := ⟨h.x.cell (by omega), h.x.cell (by omega)⟩
theorem F3.cy (h : F3 w wr a b c d e f) : wr.cell? ⟨w.heap.size + 1, 0, none⟩ = some (.int .i64 c) ∧ wr.cell? ⟨w.heap.size + 1, 1, none⟩ = some (.int .i64 d) := ⟨h.y.cell (by omega), h.y.cell (by omega)⟩
theorem F3.cz (h : F3 w wr a b c d e f) : wr.cell? ⟨w.heap.size + 1 + 1, 0, none⟩ = some (.int .i64 e) ∧ wr.cell? ⟨w.heap.size + 1 + 1, 1, none⟩ = some (.int .i64 f) ∧ wr.frozen? ⟨w.heap.size + 1 + 1, 0, none⟩ = false ∧ wr.frozen? ⟨w.heap.size + 1 + 1, 1, none⟩ = false :=
  ⟨h.z.cell (by omega), h.z.cell (by omega), h.z.frozen (by omega), h.z.frozen (by omega)⟩
theorem F3.put (h : F3 w wr a b c d e f) (g k : Int) : F3 w (put2 wr (w.heap.size + 1 + 1) g k) a b c d g k :=
  ⟨put2_below h.below (by omega), put2_other h.x (by omega), put2_other h.y (by omega), put2_two h.z⟩
end

set_option maxRecDepth 100000 in
set_option maxHeartbeats 800000 in
theorem mul_no1 {a b c d : Int} (h : ¬ may (a, b)) (w : World) : Calls Try.prog 13 #[tv a b, tv c d] w (TurnRet w (0, 0)) := by
  have HF := Lib.hid (mayB_no h)
  clear h
  go_enter Try.func13, Try.ntmps13
  go_wp2_with fail
  have h0 := F3.start w a b c d 0 0
  refine (may_any a b _).mono ?_; rintro e w1 ⟨rfl, hb1⟩
  rw [HF.out]
  have h1 := h0.up hb1
  obtain ⟨z0, z1, z2, z3⟩ := h1.cz
  have H1 := Lib.hid h1
  clear h0 h1 hb1
  go_wp2
  have hp := H1.out.put 0 0
  refine bodyPost_ret (results_turn rfl _ _ (w.heap.size + 1 + 1) rfl hp.z.pair) rfl ⟨rfl, hp.below⟩
set_option maxRecDepth 100000 in
set_option maxHeartbeats 800000 in
theorem mul_no2 {a b c d : Int} (h : may (a, b)) (h' : ¬ may (c, d)) (w : World) : Calls Try.prog 13 #[tv a b, tv c d] w (TurnRet w (0, 0)) := by
  have HF := Lib.hid (mayB_yes h)
  have HG := Lib.hid (mayB_no h')
  clear h h'
  go_enter Try.func13, Try.ntmps13
  go_wp2_with fail
  have h0 := F3.start w a b c d 0 0
  refine (may_any a b _).mono ?_; rintro e w1 ⟨rfl, hb1⟩
  rw [HF.out]
  have h1 := h0.up hb1
  obtain ⟨y0, y1⟩ := h1.cy
  have H1 := Lib.hid h1
  clear h0 h1 hb1
  go_wp2_with fail
  refine (may_any c d _).mono ?_; rintro e w2 ⟨rfl, hb2⟩
  rw [HG.out]
  have h2 := H1.out.up hb2
  obtain ⟨z0, z1, z2, z3⟩ := h2.cz
  have H2 := Lib.hid h2
  clear h2 hb2 H1 y0 y1
  go_wp2
  have hp := H2.out.put 0 0
  refine bodyPost_ret (results_turn rfl _ _ (w.heap.size + 1 + 1) rfl hp.z.pair) rfl ⟨rfl, hp.below⟩
set_option maxRecDepth 100000 in
set_option maxHeartbeats 800000 in
theorem mul_yes {a b c d : Int} (h : may (a, b)) (h' : may (c, d)) (w : World) : Calls Try.prog 13 #[tv a b, tv c d] w (TurnRet w (md (mu (a, b) (c, d)))) := by
  have HF := Lib.hid (mayB_yes h)
  have HG := Lib.hid (mayB_yes h')
  have HM := Lib.hid h
  have HM' := Lib.hid h'
  have m1 := mulc_run (mulc_may h h')
  have m2 := @md_small (mu (a, b) (c, d))
  have MS := Lib.hid m2
  clear h h' m2
  go_enter Try.func13, Try.ntmps13
  go_wp2_with fail
  have h0 := F3.start w a b c d 0 0
  refine (may_any a b _).mono ?_; rintro e w1 ⟨rfl, hb1⟩
  rw [HF.out]
  have h1 := h0.up hb1
  obtain ⟨y0, y1⟩ := h1.cy
  have H1 := Lib.hid h1
  clear h0 h1 hb1
  go_wp2_with fail
  refine (may_any c d _).mono ?_; rintro e w2 ⟨rfl, hb2⟩
  rw [HG.out]
  have h2 := H1.out.up hb2
  obtain ⟨x0, x1⟩ := h2.cx
  obtain ⟨y0, y1⟩ := h2.cy
  have H2 := Lib.hid h2
  clear h2 hb2 H1
  have K : Hid (∀ W, Below w2.heap.size w2 W → W.cell? ⟨w.heap.size, 0, none⟩ = some (.int .i64 a) ∧ W.cell? ⟨w.heap.size, 1, none⟩ = some (.int .i64 b) ∧ W.cell? ⟨w.heap.size + 1, 0, none⟩ = some (.int .i64 c) ∧ W.cell? ⟨w.heap.size + 1, 1, none⟩ = some (.int .i64 d)) :=
    Lib.hid (fun W hb => ⟨(H2.out.up hb).cx.1, (H2.out.up hb).cx.2, (H2.out.up hb).cy.1, (H2.out.up hb).cy.2⟩)
  go_upto_region 3 with fail
  go_region_held3 (fun W => W.cell? ⟨w.heap.size, 0, none⟩ = some (.int .i64 a) ∧ W.cell? ⟨w.heap.size, 1, none⟩ = some (.int .i64 b) ∧ W.cell? ⟨w.heap.size + 1, 0, none⟩ = some (.int .i64 c) ∧ W.cell? ⟨w.heap.size + 1, 1, none⟩ = some (.int .i64 d))
    (first | exact ⟨x0, x1, y0, y1⟩ | exact K.out _ b3.out | exact K.out _ b4.out | exact K.out _ b5.out | exact ⟨hp.out.x.pair.1, hp.out.x.pair.2, hp.out.y.pair.1, hp.out.y.pair.2⟩ | go_keep)
    (first
      | (go_at_call 26; (with_reducible refine Calls.mono (number_any a b HM.out _) ?_); rintro e w3 ⟨rfl, hb3⟩; have b3 := Lib.hid (below_of_drew hb3))
      | (go_at_call 26; (with_reducible refine Calls.mono (number_any c d HM'.out _) ?_); rintro e w4 ⟨rfl, hb4⟩; have b4 := Lib.hid (up_trans b3.out hb4))
      | (go_at_call 25; (with_reducible refine Calls.mono (rest_mu HM.out HM'.out _) ?_); rintro e w5 ⟨rfl, rfl⟩)
      | (go_at_call 24; (with_reducible refine Calls.mono (told_any _ _ MS.out.1 MS.out.2 _) ?_); rintro e w5 ⟨rfl, hb5⟩; have b5 := Lib.hid (up_trans b4.out hb5); obtain ⟨z0, z1, z2, z3⟩ := (H2.out.up b5.out).cz; have hp := Lib.hid ((H2.out.up b5.out).put (md (mu (a, b) (c, d))).1 (md (mu (a, b) (c, d))).2)))
  go_wp2
  refine bodyPost_ret (results_turn rfl _ _ (w.heap.size + 1 + 1) rfl hp.out.z.pair) rfl ⟨rfl, hp.out.below⟩

/-- products of what may be, as the document reckons them -/
theorem mul_bd {a b : Int} (h1 : 0 ≤ a) (h2 : a < 8191) (h3 : 0 ≤ b) (h4 : b < 8191) : ∃ p : Nat, a * b = p ∧ p ≤ 67076100 := by
  obtain ⟨p, hp⟩ : ∃ p : Nat, a * b = p := ⟨(a * b).toNat, (Int.toNat_of_nonneg (Int.mul_nonneg h1 h3)).symm⟩
  have : a * b ≤ 8190 * 8190 := Int.mul_le_mul (by omega) (by omega) h3 (by omega)
  exact ⟨p, hp, by omega⟩
set_option maxRecDepth 100000 in
set_option maxHeartbeats 800000 in
theorem refMul_no1 {a b c d : Int} (h : ¬ may (a, b)) (w : World) : Calls Try.prog 14 #[tv a b, tv c d] w (TurnRet w (0, 0)) := by
  have HF := Lib.hid (mayB_no h)
  clear h
  go_enter Try.func14, Try.ntmps14
  go_wp2_with fail
  have h0 := F3.start w a b c d 0 0
  refine (refMay_any a b _).mono ?_; rintro e w1 ⟨rfl, hb1⟩
  rw [HF.out]
  have h1 := h0.up hb1
  obtain ⟨y0, y1⟩ := h1.cy
  have H1 := Lib.hid h1
  clear h0 h1 hb1
  go_wp2_with fail
  refine (refMay_any c d _).mono ?_; rintro e w2 ⟨rfl, hb2⟩
  have h2 := H1.out.up hb2
  obtain ⟨z0, z1, z2, z3⟩ := h2.cz
  have H2 := Lib.hid h2
  clear h2 hb2 H1 y0 y1
  go_wp2
  have hp := H2.out.put 0 0
  refine bodyPost_ret (results_turn rfl _ _ (w.heap.size + 1 + 1) rfl hp.z.pair) rfl ⟨rfl, hp.below⟩
set_option maxRecDepth 100000 in
set_option maxHeartbeats 800000 in
theorem refMul_no2 {a b c d : Int} (h : may (a, b)) (h' : ¬ may (c, d)) (w : World) : Calls Try.prog 14 #[tv a b, tv c d] w (TurnRet w (0, 0)) := by
  have HF := Lib.hid (mayB_yes h)
  have HG := Lib.hid (mayB_no h')
  clear h h'
  go_enter Try.func14, Try.ntmps14
  go_wp2_with fail
  have h0 := F3.start w a b c d 0 0
  refine (refMay_any a b _).mono ?_; rintro e w1 ⟨rfl, hb1⟩
  rw [HF.out]
  have h1 := h0.up hb1
  obtain ⟨y0, y1⟩ := h1.cy
  have H1 := Lib.hid h1
  clear h0 h1 hb1
  go_wp2_with fail
  refine (refMay_any c d _).mono ?_; rintro e w2 ⟨rfl, hb2⟩
  rw [HG.out]
  have h2 := H1.out.up hb2
  obtain ⟨z0, z1, z2, z3⟩ := h2.cz
  have H2 := Lib.hid h2
  clear h2 hb2 H1 y0 y1
  go_wp2
  have hp := H2.out.put 0 0
  refine bodyPost_ret (results_turn rfl _ _ (w.heap.size + 1 + 1) rfl hp.z.pair) rfl ⟨rfl, hp.below⟩
set_option maxRecDepth 100000 in
set_option maxHeartbeats 1600000 in
theorem refMul_yes {a b c d : Int} (h : may (a, b)) (h' : may (c, d)) (w : World) : Calls Try.prog 14 #[tv a b, tv c d] w (TurnRet w (md (mu (a, b) (c, d)))) := by
  have HF := Lib.hid (mayB_yes h)
  have HG := Lib.hid (mayB_yes h')
  obtain ⟨a0, a1, b0, b1⟩ := h
  obtain ⟨c0, c1, d0, d1⟩ := h'
  simp only at a0 a1 b0 b1 c0 c1 d0 d1
  obtain ⟨p, hp, p1⟩ := mul_bd a0 a1 c0 c1
  obtain ⟨q, hq, q1⟩ := mul_bd b0 b1 d0 d1
  obtain ⟨r, hr, r1⟩ := mul_bd a0 a1 d0 d1
  obtain ⟨s, hs, s1⟩ := mul_bd b0 b1 c0 c1
  have e1 : (md (mu (a, b) (c, d))).1 = ((p : Int) + 67092481 - q) % 8191 := by
    show (a * c - b * d) % 8191 = _
    rw [hp, hq]; omega
  have e2 : (md (mu (a, b) (c, d))).2 = ((r : Int) + s) % 8191 := by
    show (a * d + b * c) % 8191 = _
    rw [hr, hs]
  have HE := Lib.hid (And.intro e1 e2)
  clear a0 a1 b0 b1 c0 c1 d0 d1 e1 e2
  go_enter Try.func14, Try.ntmps14
  go_wp2_with fail
  have h0 := F3.start w a b c d 0 0
  refine (refMay_any a b _).mono ?_; rintro e w1 ⟨rfl, hb1⟩
  rw [HF.out]
  have h1 := h0.up hb1
  obtain ⟨y0, y1⟩ := h1.cy
  have H1 := Lib.hid h1
  clear h0 h1 hb1
  go_wp2_with fail
  refine (refMay_any c d _).mono ?_; rintro e w2 ⟨rfl, hb2⟩
  rw [HG.out]
  have h2 := H1.out.up hb2
  obtain ⟨z0, z1, z2, z3⟩ := h2.cz
  obtain ⟨y0, y1⟩ := h2.cy
  obtain ⟨x0, x1⟩ := h2.cx
  have H2 := Lib.hid h2
  clear h2 hb2 H1
  go_wp2
  have hp := H2.out.put (((p : Int) + 67092481 - q) % 8191) (((r : Int) + s) % 8191)
  refine bodyPost_ret (results_turn rfl _ _ (w.heap.size + 1 + 1) rfl hp.z.pair) rfl ⟨by rw [HE.out.1, HE.out.2], hp.below⟩
end Go.Proofs.Ytjegopkaficbpaa.Mat
