/- The document's Next: walked. -/
import Derived.Test.YthalaihpgjniiaaSitB
namespace Go.Proofs.Ythalaihpgjniiaa.Mat
open Go.RowKit Fld

/-- a place's box -/
def pv (r n : Int) (j : Nat) : Value := if j = 0 then .int .i64 r else .int .i64 n
def Px (w : World) (b : Nat) (r n : Int) : Prop := Has w b 44 2 (pv r n)
section
variable {w w' : World} {b : Nat} {r n : Int}
theorem Px.cells (h : Px w b r n) : w.cell? ⟨b, 0, none⟩ = some (.int .i64 r) ∧ w.cell? ⟨b, 1, none⟩ = some (.int .i64 n) := ⟨Has.cell h (show 0 < 2 by omega), Has.cell h (show 1 < 2 by omega)⟩
theorem Px.free (h : Px w b r n) : w.frozen? ⟨b, 0, none⟩ = false ∧ w.frozen? ⟨b, 1, none⟩ = false := ⟨Has.frozen h (show 0 < 2 by omega), Has.frozen h (show 1 < 2 by omega)⟩
theorem Px.up (h : Px w b r n) (hb : Below w.heap.size w w') : Px w' b r n := Has.below h hb (Has.lt h)
theorem px_new (w : World) (r n : Int) : Px (w.alloc (.cells #[.int .i64 r, .int .i64 n] 44)) w.heap.size r n :=
  has_new w _ _ (fun j hj => by
    have : j = 0 ∨ j = 1 := by omega
    rcases this with rfl | rfl <;> rfl)
def put2 (w : World) (b : Nat) (r n : Int) : World := (w.setCell ⟨b, 0, none⟩ (.int .i64 r)).setCell ⟨b, 1, none⟩ (.int .i64 n)
theorem Px.put (h : Px w b r n) (r' n' : Int) : Px (put2 w b r' n') b r' n' :=
  Has.congr ((Has.set_ h 0 (.int .i64 r')).set_ 1 (.int .i64 n')) (fun j hj => by
    have : j = 0 ∨ j = 1 := by omega
    rcases this with rfl | rfl <;> rfl)
theorem put2_below {B : Nat} {w0 : World} (h : Below B w0 w) (hb : B ≤ b) (r n : Int) : Below B w0 (put2 w b r n) := (h.setCell (p := ⟨b, 0, none⟩) hb _).setCell (p := ⟨b, 1, none⟩) hb _
theorem results_place_err {fn : Func} {t u : Tmp} (h : fn.results = #[.cell t 44, .tmp u]) (tmps : Array Value) (hp : tmps.getD t undef = .pointer (some ⟨b, 0, none⟩)) (hc : Px w b r n) :
    (results fn tmps).run Try.prog w = .ok (.tuple #[.agg #[.int .i64 r, .int .i64 n], tmps.getD u undef]) w := by
  have hp' : tmps[t]?.getD undef = .pointer (some ⟨b, 0, none⟩) := by simpa using hp
  obtain ⟨c0, c1⟩ := hc.cells
  simp [results, h, hp', asAddr, go_sem, c0, c1]
end
theorem below_of_drewN {w w' : World} (q : Nat) (h : Below (w.drewN q).heap.size (w.drewN q) w') : Below w.heap.size w w' := ⟨h.os, h.tape, h.output, h.size, h.block⟩
theorem Bl.drewN {w : World} {B N : Nat} {A : Option Addr} {f : Nat → Bool} (h : Bl w B A N f) (k : Nat) : Bl (w.drewN k) B A N f := h
section
variable {w : World} {A A2 : Option Addr} {c c2 : Nat}
set_option maxRecDepth 100000 in
set_option maxHeartbeats 6400000 in
theorem refNext_any (l : List (Int × Int)) (hl : l.length ≤ 140737488351232) (nodes : Int) (N : Nat) (f : Nat → Bool) (h : Pl w w.heap.size A l) (h2 : Bl w w.heap.size A2 N f) :
    Calls Try.prog 19 #[.slice A l.length c, .int .i64 nodes, .slice A2 N c2] w (PlErr w (nxE (lv f N) l nodes) (nxR (lv f N) l nodes) (nxN (lv f N) l nodes)) := by
  have hX := px_new w 0 0
  have hB := (Below.refl w.heap.size w).alloc (Nat.le_refl _) (.cells #[.int .i64 0, .int .i64 0] 44)
  have H := Lib.hid (h.up hB)
  have H2 := Lib.hid (h2.up hB)
  have bad : nxOk l nodes = false → nxE (lv f N) l nodes = 1 ∧ nxR (lv f N) l nodes = 0 ∧ nxN (lv f N) l nodes = 0 := fun q => nx_bad q
  have BAD := Lib.hid bad
  have HX := Lib.hid hX
  have HB := Lib.hid hB
  clear h h2 bad hX hB
  have fin : ∀ (W : World), Px W w.heap.size 0 0 → Below w.heap.size w W → Px (put2 W w.heap.size 0 0) w.heap.size 0 0 ∧ Below w.heap.size w (put2 W w.heap.size 0 0) := fun _ h1 h2 => ⟨h1.put 0 0, put2_below h2 (Nat.le_refl _) 0 0⟩
  have FIN := Lib.hid fin
  clear fin
  by_cases b0 : l.length = 0
  · obtain ⟨e1, e2, e3⟩ := BAD.out (nxOk_niff.2 (fun q => by omega))
    rw [e1, e2, e3]
    clear BAD e1 e2 e3
    go_enter Try.func19, Try.ntmps19
    go_wp2
    exact bodyPost_ret (results_place_err rfl _ rfl HX.out) rfl ⟨rfl, HB.out⟩
  obtain ⟨k, hk⟩ : ∃ k, l.length = k + 1 := ⟨l.length - 1, by omega⟩
  by_cases b1 : nodes < 1
  · obtain ⟨e1, e2, e3⟩ := BAD.out (nxOk_niff.2 (fun q => by omega))
    rw [e1, e2, e3, hk]
    clear BAD e1 e2 e3
    go_enter Try.func19, Try.ntmps19
    go_wp2
    exact bodyPost_ret (results_place_err rfl _ rfl HX.out) rfl ⟨rfl, HB.out⟩
  by_cases b2 : 64 < nodes
  · obtain ⟨e1, e2, e3⟩ := BAD.out (nxOk_niff.2 (fun q => by omega))
    rw [e1, e2, e3, hk]
    clear BAD e1 e2 e3
    go_enter Try.func19, Try.ntmps19
    go_wp2
    exact bodyPost_ret (results_place_err rfl _ rfl HX.out) rfl ⟨rfl, HB.out⟩
  obtain ⟨n, rfl⟩ := Int.eq_ofNat_of_zero_le (show 0 ≤ nodes by omega)
  have hn1 : 1 ≤ n := by omega
  have hn2 : n ≤ 64 := by omega
  have hnz : ¬ n = 0 := by omega
  have hl0 : 0 < l.length := by omega
  obtain ⟨ad0, e, hlb, z0, z1⟩ := H.out.at_ hl0
  subst e
  rw [Nat.zero_mul, add_zero] at z0
  have Z0 := Lib.hid z0
  rw [hk]
  clear z0 z1
  go_enter Try.func19, Try.ntmps19
  go_upto_region 1 with fail
  generalize hW : w.alloc (.cells #[.int .i64 0, .int .i64 0] 44) = W at *
  clear hW
  go_wp2
  go_loopg [8] (k + 1) (fun gh x wr => ∃ j q : Nat, j ≤ k + 1 ∧ gh = k + 1 - j ∧ x = .int .i64 (j : Nat) ∧ wr = W.drewN q ∧ on1 l j = true)
  case atStart => exact ⟨0, 0, Nat.zero_le _, rfl, rfl, rfl, rfl⟩
  case round =>
    obtain ⟨j, q, hj, hgh, rfl, rfl, hon⟩ := hrel
    have HON := Lib.hid hon
    clear hon
    by_cases hlt : j < k + 1
    · have hjz : (j : Int) < (k : Int) + 1 := by omega
      obtain ⟨ad, e, _, k0, k1⟩ := H.out.at_ (show j < l.length by omega)
      injection e with e
      subst e
      have z0 := Z0.out
      have hst : on1 l (j + 1) = (on1 l j && decide ((pq l j).1 = (pq l 0).1)) := rfl
      by_cases he : (pq l j).1 = (pq l 0).1
      · rw [decide_eq_true he, HON.out] at hst
        have HT := Lib.hid hst
        have g1 : ((pq l j).1 != (pq l 0).1) = false := by rw [he]; simp
        clear hst
        generalize (pq l j).1 = rj at *
        generalize (pq l j).2 = nj at *
        generalize (pq l 0).1 = r0 at *
        go_wp2_with fail
        go_quiet (fail)
        go_wp2
        go_roundg (k + 1 - (j + 1))
        case measure => go_light; omega
        case rel => go_light; exact ⟨j + 1, _, by omega, rfl, by simp, rfl, HT.out⟩
      · obtain ⟨e1, e2, e3⟩ := BAD.out (nxOk_niff.2 (fun r => he (on1_iff.1 r.2 j (by omega))))
        have E := Lib.hid (And.intro e1 (And.intro e2 e3))
        have g1 : ((pq l j).1 != (pq l 0).1) = true := bne_iff_ne.2 he
        have HFQ : Hid (∀ q, Px (put2 (W.drewN q) w.heap.size 0 0) w.heap.size 0 0 ∧ Below w.heap.size w (put2 (W.drewN q) w.heap.size 0 0)) := Lib.hid (fun q => FIN.out (W.drewN q) HX.out (below_drewN HB.out q))
        obtain ⟨x0, x1⟩ := HX.out.cells
        obtain ⟨f0, f1⟩ := HX.out.free
        clear hst e1 e2 e3
        generalize (pq l j).1 = rj at *
        generalize (pq l j).2 = nj at *
        generalize (pq l 0).1 = r0 at *
        go_wp2_with fail
        go_quiet (fail)
        go_wp2
        exact bodyPost_ret (results_place_err rfl _ rfl (HFQ.out _).1) rfl ⟨by rw [E.out.1, E.out.2.1, E.out.2.2]; rfl, (HFQ.out _).2⟩
    · obtain rfl : j = k + 1 := by omega
      have hjz : ¬ ((k : Int) + 1) < (k : Int) + 1 := by omega
      have hok : nxOk l (n : Int) = true := nxOk_iff.2 ⟨⟨hl0, by omega, by omega⟩, by rw [hk]; exact HON.out⟩
      have hv : nxV l (n : Int) = if (pq l k).2.tmod (n : Int) < 0 then 0 else (pq l k).2.tmod (n : Int) := by
        unfold nxV
        rw [hk, Nat.add_sub_cancel]
      have c1 := fun W' (hb : Below W.heap.size W W') => refRing_any (w := W') (c := c2) (nxV l (n : Int)) (n : Int) N f (H2.out.up hb)
      have few := nx_few (p := lv f N) hok
      have at_ := fun i => nx_at (p := lv f N) (i := i) hok
      have hRl := rgL_len (lv f N) (nxV l (n : Int)) (n : Int)
      rw [hk] at few at_
      generalize nxE (lv f N) l (n : Int) = E at *
      generalize nxR (lv f N) l (n : Int) = RR at *
      generalize nxN (lv f N) l (n : Int) = NN at *
      generalize rgL (lv f N) (nxV l (n : Int)) (n : Int) = R at *
      have FEW := Lib.hid few
      have AT := Lib.hid at_
      obtain ⟨ad, e, _, k0, k1⟩ := H.out.at_ (show k < l.length by omega)
      injection e with e
      subst e
      clear few at_ hok BAD
      by_cases hneg : (pq l k).2.tmod (n : Int) < 0
      · rw [if_pos hneg] at hv
        rw [hv] at c1
        have C1 := Lib.hid c1
        clear c1 hv
        generalize (pq l k).1 = p1 at *
        generalize (pq l k).2 = p2 at *
        go_wp2_with fail
        refine (C1.out _ (below_drewN (Below.refl _ _) _)).mono ?_; rintro e w1 ⟨A1, c1, rfl, hN, hb1⟩
        have HN := Lib.hid hN
        have HD := Lib.hid (H.out.up (below_of_drewN q hb1))
        have hx1 : Px w1 w.heap.size 0 0 := HX.out.up (below_of_drewN q hb1)
        have HX1 := Lib.hid hx1
        have HB1 := Lib.hid (up_trans HB.out (below_of_drewN q hb1))
        have HFQ : Hid (∀ q, Px (put2 (w1.drewN q) w.heap.size 0 0) w.heap.size 0 0 ∧ Below w.heap.size w (put2 (w1.drewN q) w.heap.size 0 0)) := Lib.hid (fun q => FIN.out (w1.drewN q) HX1.out (below_drewN HB1.out q))
        clear hN hb1 hx1
        obtain ⟨ad0', e, _, z0, _⟩ := HD.out.at_ hl0
        injection e with e
        subst e
        rw [Nat.zero_mul, add_zero] at z0
        have Z1 := Lib.hid z0
        clear z0
        go_wp2
        go_loopg [11] R.length (fun gh x wr => ∃ i q : Nat, i ≤ R.length ∧ gh = R.length - i ∧ x = .int .i64 (i : Nat) ∧ wr = w1.drewN q ∧ Hid (∀ r, r < i → tk l ((R[r]?.getD 0 : Nat) : Int) (k + 1) = true))
        case atStart => exact ⟨0, 0, Nat.zero_le _, rfl, rfl, rfl, Lib.hid (fun r hr => absurd hr (Nat.not_lt_zero _))⟩
        case round =>
          obtain ⟨i, q, hi, hgh, rfl, rfl, hall⟩ := hrel
          by_cases hlt : i < R.length
          rotate_left
          · obtain rfl : i = R.length := by omega
            have hiz : ¬ (R.length : Int) < (R.length : Int) := by omega
            obtain ⟨e1, e2, e3⟩ := FEW.out hall.out
            have E := Lib.hid (And.intro e1 (And.intro e2 e3))
            obtain ⟨x0, x1⟩ := HX1.out.cells
            obtain ⟨f0, f1⟩ := HX1.out.free
            clear e1 e2 e3
            go_wp2
            exact bodyPost_ret (results_place_err rfl _ rfl (HFQ.out _).1) rfl ⟨by rw [E.out.1, E.out.2.1, E.out.2.2]; rfl, (HFQ.out _).2⟩
          have hiz : (i : Int) < (R.length : Int) := by omega
          obtain ⟨ar, e, _, r0⟩ := HN.out.at_ hlt
          subst e
          have hat := AT.out i hlt
          have hall2 : tk l (((R[i]'hlt : Nat)) : Int) (k + 1) = true → ∀ r, r < i + 1 → tk l ((R[r]?.getD 0 : Nat) : Int) (k + 1) = true := fun h r hr => by
            rcases Nat.lt_or_ge r i with q | q
            · exact hall.out r q
            · rw [show r = i by omega, List.getElem?_eq_getElem hlt]; exact h
          rw [List.getElem?_eq_getElem hlt, Option.getD_some] at hat
          generalize hrv : R[i]'hlt = rv at *
          have HAT := Lib.hid hat
          have HALL2 := Lib.hid hall2
          clear hat hall2 hrv
          go_wp2
          go_loopg [12, 13] (k + 1) (fun gh u x wz => ∃ p n' : Nat, p ≤ k + 1 ∧ gh = k + 1 - p ∧ u = .bool (tk l (rv : Int) p) ∧ x = .int .i64 (p : Nat) ∧ wz = w1.drewN n')
          case atStart => exact ⟨0, q, Nat.zero_le _, rfl, rfl, rfl, rfl⟩
          case round =>
            obtain ⟨p, n', hp, hgh2, rfl, rfl, rfl⟩ := hrel
            by_cases hpl : p < k + 1
            · have hpz : (p : Int) < (k : Int) + 1 := by omega
              obtain ⟨ad, e, _, k0, k1⟩ := HD.out.at_ (show p < l.length by omega)
              injection e with e
              subst e
              have hst : tk l (rv : Int) (p + 1) = (tk l (rv : Int) p || decide ((pq l p).2 = (rv : Int))) := rfl
              generalize (pq l p).1 = p1 at *
              generalize (pq l p).2 = p2 at *
              cases hb : tk l (rv : Int) p
              · by_cases he : p2 = (rv : Int)
                · rw [hb, decide_eq_true he] at hst
                  have HT := Lib.hid hst
                  have g1 : (p2 == (rv : Int)) = true := beq_iff_eq.2 he
                  clear hst he hb
                  go_wp2_with fail
                  go_quiet (fail)
                  go_wp2
                  go_roundg (k + 1 - (p + 1))
                  case measure => go_light; omega
                  case rel => go_light; exact ⟨p + 1, _, by omega, rfl, by rw [HT.out]; rfl, by simp, rfl⟩
                · rw [hb, decide_eq_false he] at hst
                  have HT := Lib.hid hst
                  have g1 : (p2 == (rv : Int)) = false := beq_eq_false_iff_ne.2 he
                  clear hst he hb
                  go_wp2_with fail
                  go_quiet (fail)
                  go_wp2
                  go_roundg (k + 1 - (p + 1))
                  case measure => go_light; omega
                  case rel => go_light; exact ⟨p + 1, _, by omega, rfl, by rw [HT.out]; rfl, by simp, rfl⟩
              · rw [hb] at hst
                have HT := Lib.hid hst
                clear hst hb
                go_wp2_with fail
                go_quiet (fail)
                go_wp2
                go_roundg (k + 1 - (p + 1))
                case measure => go_light; omega
                case rel => go_light; exact ⟨p + 1, _, by omega, rfl, by rw [HT.out]; rfl, by simp, rfl⟩
            · obtain rfl : p = k + 1 := by omega
              have hpz : ¬ ((k : Int) + 1) < (k : Int) + 1 := by omega
              cases hb : tk l (rv : Int) (k + 1)
              · obtain ⟨e1, e2, e3⟩ := HAT.out hb hall.out
                have E := Lib.hid (And.intro e1 (And.intro e2 e3))
                have z0 := Z1.out
                obtain ⟨x0, x1⟩ := HX1.out.cells
                obtain ⟨f0, f1⟩ := HX1.out.free
                have HP : Hid (∀ q, Px (put2 (w1.drewN q) w.heap.size (pq l 0).1 (rv : Int)) w.heap.size (pq l 0).1 (rv : Int) ∧ Below w.heap.size w (put2 (w1.drewN q) w.heap.size (pq l 0).1 (rv : Int))) := Lib.hid (fun q => ⟨Px.put (w := w1.drewN q) HX1.out _ _, put2_below (below_drewN HB1.out q) (Nat.le_refl _) _ _⟩)
                generalize (pq l 0).1 = r00 at *
                clear e1 e2 e3 hb
                go_wp2_with fail
                go_region
                all_goals
                  go_wp2_with fail
                  exact bodyPost_ret (results_place_err rfl _ rfl (HP.out (_ + 1)).1) rfl ⟨by rw [E.out.1, E.out.2.1, E.out.2.2]; rfl, (HP.out (_ + 1)).2⟩
              · have HT := Lib.hid (HALL2.out hb)
                clear hb
                go_wp2
                go_roundg (R.length - (i + 1))
                case measure => go_light; omega
                case rel => go_light; exact ⟨i + 1, _, by omega, rfl, by simp, rfl, HT⟩
      · rw [if_neg hneg] at hv
        rw [hv] at c1
        have C1 := Lib.hid c1
        clear c1 hv
        generalize (pq l k).1 = p1 at *
        generalize (pq l k).2 = p2 at *
        go_wp2_with fail
        refine (C1.out _ (below_drewN (Below.refl _ _) _)).mono ?_; rintro e w1 ⟨A1, c1, rfl, hN, hb1⟩
        have HN := Lib.hid hN
        have HD := Lib.hid (H.out.up (below_of_drewN q hb1))
        have hx1 : Px w1 w.heap.size 0 0 := HX.out.up (below_of_drewN q hb1)
        have HX1 := Lib.hid hx1
        have HB1 := Lib.hid (up_trans HB.out (below_of_drewN q hb1))
        have HFQ : Hid (∀ q, Px (put2 (w1.drewN q) w.heap.size 0 0) w.heap.size 0 0 ∧ Below w.heap.size w (put2 (w1.drewN q) w.heap.size 0 0)) := Lib.hid (fun q => FIN.out (w1.drewN q) HX1.out (below_drewN HB1.out q))
        clear hN hb1 hx1
        obtain ⟨ad0', e, _, z0, _⟩ := HD.out.at_ hl0
        injection e with e
        subst e
        rw [Nat.zero_mul, add_zero] at z0
        have Z1 := Lib.hid z0
        clear z0
        go_wp2
        go_loopg [11] R.length (fun gh x wr => ∃ i q : Nat, i ≤ R.length ∧ gh = R.length - i ∧ x = .int .i64 (i : Nat) ∧ wr = w1.drewN q ∧ Hid (∀ r, r < i → tk l ((R[r]?.getD 0 : Nat) : Int) (k + 1) = true))
        case atStart => exact ⟨0, 0, Nat.zero_le _, rfl, rfl, rfl, Lib.hid (fun r hr => absurd hr (Nat.not_lt_zero _))⟩
        case round =>
          obtain ⟨i, q, hi, hgh, rfl, rfl, hall⟩ := hrel
          by_cases hlt : i < R.length
          rotate_left
          · obtain rfl : i = R.length := by omega
            have hiz : ¬ (R.length : Int) < (R.length : Int) := by omega
            obtain ⟨e1, e2, e3⟩ := FEW.out hall.out
            have E := Lib.hid (And.intro e1 (And.intro e2 e3))
            obtain ⟨x0, x1⟩ := HX1.out.cells
            obtain ⟨f0, f1⟩ := HX1.out.free
            clear e1 e2 e3
            go_wp2
            exact bodyPost_ret (results_place_err rfl _ rfl (HFQ.out _).1) rfl ⟨by rw [E.out.1, E.out.2.1, E.out.2.2]; rfl, (HFQ.out _).2⟩
          have hiz : (i : Int) < (R.length : Int) := by omega
          obtain ⟨ar, e, _, r0⟩ := HN.out.at_ hlt
          subst e
          have hat := AT.out i hlt
          have hall2 : tk l (((R[i]'hlt : Nat)) : Int) (k + 1) = true → ∀ r, r < i + 1 → tk l ((R[r]?.getD 0 : Nat) : Int) (k + 1) = true := fun h r hr => by
            rcases Nat.lt_or_ge r i with q | q
            · exact hall.out r q
            · rw [show r = i by omega, List.getElem?_eq_getElem hlt]; exact h
          rw [List.getElem?_eq_getElem hlt, Option.getD_some] at hat
          generalize hrv : R[i]'hlt = rv at *
          have HAT := Lib.hid hat
          have HALL2 := Lib.hid hall2
          clear hat hall2 hrv
          go_wp2
          go_loopg [12, 13] (k + 1) (fun gh u x wz => ∃ p n' : Nat, p ≤ k + 1 ∧ gh = k + 1 - p ∧ u = .bool (tk l (rv : Int) p) ∧ x = .int .i64 (p : Nat) ∧ wz = w1.drewN n')
          case atStart => exact ⟨0, q, Nat.zero_le _, rfl, rfl, rfl, rfl⟩
          case round =>
            obtain ⟨p, n', hp, hgh2, rfl, rfl, rfl⟩ := hrel
            by_cases hpl : p < k + 1
            · have hpz : (p : Int) < (k : Int) + 1 := by omega
              obtain ⟨ad, e, _, k0, k1⟩ := HD.out.at_ (show p < l.length by omega)
              injection e with e
              subst e
              have hst : tk l (rv : Int) (p + 1) = (tk l (rv : Int) p || decide ((pq l p).2 = (rv : Int))) := rfl
              generalize (pq l p).1 = p1 at *
              generalize (pq l p).2 = p2 at *
              cases hb : tk l (rv : Int) p
              · by_cases he : p2 = (rv : Int)
                · rw [hb, decide_eq_true he] at hst
                  have HT := Lib.hid hst
                  have g1 : (p2 == (rv : Int)) = true := beq_iff_eq.2 he
                  clear hst he hb
                  go_wp2_with fail
                  go_quiet (fail)
                  go_wp2
                  go_roundg (k + 1 - (p + 1))
                  case measure => go_light; omega
                  case rel => go_light; exact ⟨p + 1, _, by omega, rfl, by rw [HT.out]; rfl, by simp, rfl⟩
                · rw [hb, decide_eq_false he] at hst
                  have HT := Lib.hid hst
                  have g1 : (p2 == (rv : Int)) = false := beq_eq_false_iff_ne.2 he
                  clear hst he hb
                  go_wp2_with fail
                  go_quiet (fail)
                  go_wp2
                  go_roundg (k + 1 - (p + 1))
                  case measure => go_light; omega
                  case rel => go_light; exact ⟨p + 1, _, by omega, rfl, by rw [HT.out]; rfl, by simp, rfl⟩
              · rw [hb] at hst
                have HT := Lib.hid hst
                clear hst hb
                go_wp2_with fail
                go_quiet (fail)
                go_wp2
                go_roundg (k + 1 - (p + 1))
                case measure => go_light; omega
                case rel => go_light; exact ⟨p + 1, _, by omega, rfl, by rw [HT.out]; rfl, by simp, rfl⟩
            · obtain rfl : p = k + 1 := by omega
              have hpz : ¬ ((k : Int) + 1) < (k : Int) + 1 := by omega
              cases hb : tk l (rv : Int) (k + 1)
              · obtain ⟨e1, e2, e3⟩ := HAT.out hb hall.out
                have E := Lib.hid (And.intro e1 (And.intro e2 e3))
                have z0 := Z1.out
                obtain ⟨x0, x1⟩ := HX1.out.cells
                obtain ⟨f0, f1⟩ := HX1.out.free
                have HP : Hid (∀ q, Px (put2 (w1.drewN q) w.heap.size (pq l 0).1 (rv : Int)) w.heap.size (pq l 0).1 (rv : Int) ∧ Below w.heap.size w (put2 (w1.drewN q) w.heap.size (pq l 0).1 (rv : Int))) := Lib.hid (fun q => ⟨Px.put (w := w1.drewN q) HX1.out _ _, put2_below (below_drewN HB1.out q) (Nat.le_refl _) _ _⟩)
                generalize (pq l 0).1 = r00 at *
                clear e1 e2 e3 hb
                go_wp2_with fail
                go_region
                all_goals
                  go_wp2_with fail
                  exact bodyPost_ret (results_place_err rfl _ rfl (HP.out (_ + 1)).1) rfl ⟨by rw [E.out.1, E.out.2.1, E.out.2.2]; rfl, (HP.out (_ + 1)).2⟩
              · have HT := Lib.hid (HALL2.out hb)
                clear hb
                go_wp2
                go_roundg (R.length - (i + 1))
                case measure => go_light; omega
                case rel => go_light; exact ⟨i + 1, _, by omega, rfl, by simp, rfl, HT⟩
end
end Go.Proofs.Ythalaihpgjniiaa.Mat
