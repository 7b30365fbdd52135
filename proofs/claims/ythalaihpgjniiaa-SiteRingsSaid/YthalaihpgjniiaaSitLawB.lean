/- The laws SiteApart and SiteBesides: walked from what they ask of the program. -/
import Derived.Test.YthalaihpgjniiaaSitLawA
namespace Go.Proofs.Ythalaihpgjniiaa.Mat
open Go.RowKit Fld

/-- what is spread -/
theorem st_facts {p : Nat → Bool} {vol region many nodes : Int} (h : stE p vol region many nodes = 0) : ∃ (m : Nat) (nd : Nat → Nat), many = (m : Int) ∧ m ≤ 64 ∧ (stL p vol region many nodes).length = m ∧
    ∀ j, j < m → pq (stL p vol region many nodes) j = (region, (nd j : Int)) ∧ (nd j : Int) < nodes ∧ p (nd j) = true ∧ ∀ k, k < j → nd k ≠ nd j := by
  rcases st_or p vol region many nodes with ⟨e, _⟩ | ⟨_, _, h2, h3, h4⟩
  · exact absurd h e
  · have hl := rgL_len p vol nodes
    refine ⟨many.toNat, fun j => (rgL p vol nodes)[j]?.getD 0, h3.symm, by omega, by rw [h4, List.length_take, List.length_map]; omega, fun j hj => ?_⟩
    have hjl : j < (rgL p vol nodes).length := by omega
    have hm := rgL_lt (List.getElem_mem hjl)
    have e : (rgL p vol nodes)[j]?.getD 0 = (rgL p vol nodes)[j] := by rw [List.getElem?_eq_getElem hjl]; rfl
    dsimp only
    rw [e]
    refine ⟨?_, hm.1, hm.2.2, fun k hk => ?_⟩
    · unfold pq
      rw [h4, List.getElem?_take_of_lt hj, List.getElem?_map, List.getElem?_eq_getElem hjl]; rfl
    · rw [List.getElem?_eq_getElem (show k < (rgL p vol nodes).length by omega), Option.getD_some]
      intro q
      have := (List.getElem_inj (rgL_nodup p vol nodes)).1 q
      omega
section
variable {w : World} {A B : Option Addr} {c k N : Nat} {f : Nat → Bool}
set_option maxRecDepth 100000 in
set_option maxHeartbeats 3200000 in
theorem lawApart (C : SiteOk) (vol region many nodes : Int) (h1 : I64 vol) (h2 : I64 region) (h3 : I64 many) (h4 : I64 nodes) (hN : N ≤ 140737488355328) (hF : Fit A N c) (h : Bl w w.heap.size A N f) :
    Calls Try.prog 5 #[.agg #[.int .i64 vol, .int .i64 region, .int .i64 many, .int .i64 nodes, .slice A N c]] w (BoolRet w true) := by
  have CS := Lib.hid (siteShown_any C)
  have hB := (Below.refl w.heap.size w).alloc (Nat.le_refl _) (.cells #[.int .i64 vol, .int .i64 region, .int .i64 many, .int .i64 nodes, .slice A N c] 50)
  have hh := h.up hB
  obtain ⟨bx0, bx1, bx2, bx3, bx4⟩ := box5 w (.int .i64 vol) (.int .i64 region) (.int .i64 many) (.int .i64 nodes) (.slice A N c) 50
  generalize hW : w.alloc (.cells #[.int .i64 vol, .int .i64 region, .int .i64 many, .int .i64 nodes, .slice A N c] 50) = W at *
  have c3 := fun W' (hb : Below W.heap.size W W') => C.spread W' vol region many nodes A N c f h1 h2 h3 h4 hN hF (hh.up hb)
  have c5 := fun (n : Nat) W' (hb : Below W.heap.size W W') => lives_any (w := W') (c := c) (n : Int) N f (hh.up hb)
  have facts := fun (q : stE (lv f N) vol region many nodes = 0) => st_facts q
  have or_ := st_or (lv f N) vol region many nodes
  generalize stL (lv f N) vol region many nodes = L at *
  generalize stE (lv f N) vol region many nodes = E at *
  have C3 := Lib.hid c3
  have C5 := Lib.hid c5
  have HB := Lib.hid hB
  have CSS := CS
  clear c3 c5 hB hh h h1 h2 h3 h4 hF C hN CS
  have CS := CSS
  clear CSS
  by_cases hE : E = 0
  rotate_left
  · have hL : L = [] := by
      rcases or_ with ⟨_, e⟩ | ⟨e, _⟩
      · exact e
      · exact absurd e hE
    subst hL
    have g1 : (E != 0) = true := bne_iff_ne.2 hE
    clear or_ facts hE
    go_enter Try.func5, Try.ntmps5
    go_upto_region 1 with fail
    clear hW
    go_wp2_with fail
    clear bx0 bx1 bx2 bx3 bx4
    refine (CS.out _).mono ?_; rintro e w1 ⟨rfl, hb1⟩
    have H1 := Lib.hid hb1
    clear hb1
    go_wp2_with fail
    refine (C3.out _ H1.out).mono ?_; rintro e w5 ⟨A5, c5, rfl, hn5, hb5⟩
    have H5 := Lib.hid (up_trans HB.out (up_trans H1.out hb5))
    clear hb5 hn5
    go_wp2
    go_ret
    exact ⟨ret_bool (by first | rfl | decide | simp), H5.out⟩
  obtain ⟨m, nd, rfl, hm64, hLm, hnd⟩ := facts hE
  have g1 : (E != 0) = false := by rw [hE]; rfl
  have HLM := Lib.hid hLm
  have HND := Lib.hid hnd
  clear or_ facts hE hLm hnd
  go_enter Try.func5, Try.ntmps5
  go_upto_region 1 with fail
  clear hW
  go_wp2_with fail
  clear bx0 bx1 bx2 bx3 bx4
  refine (CS.out _).mono ?_; rintro e w1 ⟨rfl, hb1⟩
  have H1 := Lib.hid hb1
  clear hb1
  go_wp2_with fail
  refine (C3.out _ H1.out).mono ?_; rintro e w5 ⟨A5, c5, rfl, hn5, hb5⟩
  have H5 := Lib.hid (up_trans H1.out hb5)
  have N5 := Lib.hid hn5
  rw [HLM.out]
  clear hb5 hn5
  go_wp2
  go_loopg [11] m (fun gh x wr => ∃ i : Nat, i ≤ m ∧ gh = m - i ∧ x = .int .i64 (i : Nat) ∧ Below w5.heap.size w5 wr)
  case atStart => exact ⟨0, Nat.zero_le _, rfl, rfl, Below.refl _ _⟩
  case round =>
    obtain ⟨i, hi, hgh, rfl, hb⟩ := hrel
    have HR := Lib.hid hb
    clear hb
    by_cases hlt : i < m
    rotate_left
    · have hiz : ¬ (i : Int) < (m : Int) := by omega
      go_wp2
      go_ret
      exact ⟨ret_bool (by first | rfl | decide | simp), up_trans HB.out (up_trans H5.out HR.out)⟩
    have hiz : (i : Int) < (m : Int) := by omega
    obtain ⟨q1, q2, q3, q4⟩ := HND.out i hlt
    obtain ⟨ad, e, _, k0, k1⟩ := (N5.out.up HR.out).at_ (show i < L.length by rw [HLM.out]; exact hlt)
    subst e
    rw [q1] at k0 k1
    dsimp only at k0 k1
    have hc := C5.out (nd i) wr (up_trans H5.out HR.out)
    rw [Int.toNat_natCast, q3, decide_eq_true (show (0 : Int) ≤ (nd i : Int) by omega)] at hc
    have HC := Lib.hid hc
    have H4 := Lib.hid q4
    have Q2 := Lib.hid q2
    clear q1 q3 q4 hc q2
    generalize hni : nd i = ni at *
    go_wp2_with fail
    refine HC.out.mono ?_; rintro e w6 ⟨rfl, hb6⟩
    have H6 := Lib.hid (up_trans HR.out hb6)
    clear hb6 k0 k1
    obtain ⟨ad', e, _, k0, k1⟩ := (N5.out.up H6.out).at_ (show i < L.length by rw [HLM.out]; exact hlt)
    injection e with e
    subst e
    obtain ⟨q1, _, _, _⟩ := HND.out i hlt
    rw [q1, hni] at k0 k1
    dsimp only at k0 k1
    have q2 := Q2.out
    have q5 : (region != region) = false := by simp
    clear q1 hni
    go_wp2
    go_loopg [13] i (fun gh x wz => ∃ j n : Nat, j ≤ i ∧ gh = i - j ∧ x = .int .i64 (j : Nat) ∧ wz = w6.drewN n)
    case atStart => exact ⟨0, 0, Nat.zero_le _, rfl, rfl, rfl⟩
    case round =>
      obtain ⟨j, n, hj, hgh2, rfl, rfl⟩ := hrel
      by_cases hjl : j < i
      · have hjz : (j : Int) < (i : Int) := by omega
        obtain ⟨ad2, e, _, r0, r1⟩ := (N5.out.up H6.out).at_ (show j < L.length by rw [HLM.out]; omega)
        injection e with e
        subst e
        obtain ⟨p1, _, _, _⟩ := HND.out j (by omega)
        have p4 := H4.out j hjl
        rw [p1] at r0 r1
        dsimp only at r0 r1
        have hq := fun W => eqlP region (nd j : Int) region (ni : Int) W
        rw [show (region == region && ((nd j : Nat) : Int) == (ni : Int)) = false by
          rw [Bool.and_eq_false_iff]; exact .inr (beq_eq_false_iff_ne.2 (by omega))] at hq
        clear p1 p4
        generalize nd j = nj at *
        go_wp2_with fail
        go_quiet (fail)
        go_wp2
        go_roundg (i - (j + 1))
        case measure => go_light; omega
        case rel => go_light; exact ⟨j + 1, _, by omega, rfl, by simp, rfl⟩
      · have hjz : ¬ (j : Int) < (i : Int) := by omega
        go_wp2
        go_roundg (m - (i + 1))
        case measure => go_light; omega
        case rel => go_light; exact ⟨i + 1, by omega, rfl, by simp, below_drewN H6.out n⟩

set_option maxRecDepth 100000 in
set_option maxHeartbeats 3200000 in
theorem lawBesides (C : SiteOk) (l : List (Int × Int)) (nodes : Int) (hl : l.length * 16 ≤ 140737488355328) (hl2 : ∀ r, r < l.length → I64 (pq l r).1 ∧ I64 (pq l r).2) (h4 : I64 nodes) (hN : N ≤ 140737488355328) (hF : Fit B l.length k) (hF2 : Fit A N c) (hP : Pl w w.heap.size B l) (h : Bl w w.heap.size A N f) :
    Calls Try.prog 6 #[.slice B l.length k, .int .i64 nodes, .slice A N c] w (BoolRet w true) := by
  have CS := Lib.hid (siteShown_any C)
  have c3 := fun W' (hb : Below w.heap.size w W') => C.next W' l nodes B A k N c f hl hl2 h4 hN hF hF2 (hP.up hb) (h.up hb)
  have c5 := fun (n : Nat) W' (hb : Below w.heap.size w W') => lives_any (w := W') (c := c) (n : Int) N f (h.up hb)
  have or_ := nx_or (p := lv f N) (l := l) (nodes := nodes)
  have HP := Lib.hid hP
  generalize hE : nxE (lv f N) l nodes = E at *
  generalize nxR (lv f N) l nodes = R at *
  generalize nxN (lv f N) l nodes = NN at *
  have C3 := Lib.hid c3
  have C5 := Lib.hid c5
  clear c3 c5 h hP hl2 h4 hF hF2 C hN hE
  rcases or_ with ⟨e0, rfl, rfl⟩ | ⟨rfl, hok, hR, n, rfl, hmem, htk⟩
  · have g1 : (E != 0) = true := bne_iff_ne.2 e0
    clear e0
    go_enter Try.func6, Try.ntmps6
    go_wp2_with fail
    refine (CS.out _).mono ?_; rintro e w1 ⟨rfl, hb1⟩
    have H1 := Lib.hid hb1
    clear hb1
    go_wp2_with fail
    refine (C3.out _ H1.out).mono ?_; rintro e w5 ⟨rfl, hb5⟩
    have H5 := Lib.hid ((up_trans H1.out hb5).alloc (up_trans H1.out hb5).size (.cells #[.int .i64 0, .int .i64 0] 44))
    clear hb5
    go_wp2
    go_ret
    exact ⟨rfl, H5.out⟩
  obtain ⟨m1, m2, m3⟩ := rgL_lt hmem
  obtain ⟨⟨hl0, hn1, hn2⟩, _⟩ := nxOk_iff.1 hok
  have hne : ∀ j, j < l.length → (pq l j).2 ≠ (n : Int) := fun j hj q => by
    have := tk_iff.2 ⟨j, hj, q⟩
    rw [htk] at this; cases this
  have HNE := Lib.hid hne
  have HR := Lib.hid hR
  have hc := fun W' hb => C5.out n W' hb
  simp only [Int.toNat_natCast, m3, decide_eq_true (show (0 : Int) ≤ (n : Int) by omega)] at hc
  have HC := Lib.hid hc
  have M1 := Lib.hid m1
  clear hok hmem htk hne hR hc m3 C5 m1
  go_enter Try.func6, Try.ntmps6
  go_wp2_with fail
  refine (CS.out _).mono ?_; rintro e w1 ⟨rfl, hb1⟩
  have H1 := Lib.hid hb1
  clear hb1
  go_wp2_with fail
  refine (C3.out _ H1.out).mono ?_; rintro e w5 ⟨rfl, hb5⟩
  have hb6 := (up_trans H1.out hb5).alloc (up_trans H1.out hb5).size (.cells #[.int .i64 R, .int .i64 (n : Int)] 44)
  have hx := px_new w5 R (n : Int)
  have HX := Lib.hid hx
  have H6 := Lib.hid hb6
  clear hb5 hb6 hx
  go_upto_region 5 with fail
  generalize w5.alloc (.cells #[.int .i64 R, .int .i64 (n : Int)] 44) = w6 at *
  generalize w5.heap.size = g at *
  go_wp2
  go_loopg [10] l.length (fun gh x wz => ∃ j q : Nat, j ≤ l.length ∧ gh = l.length - j ∧ x = .int .i64 (j : Nat) ∧ wz = w6.drewN q)
  case atStart => exact ⟨0, 0, Nat.zero_le _, rfl, rfl, rfl⟩
  case round =>
    obtain ⟨j, q, hj, hgh, rfl, rfl⟩ := hrel
    by_cases hjl : j < l.length
    · have hjz : (j : Int) < (l.length : Int) := by omega
      obtain ⟨ad, e, _, r0, r1⟩ := (HP.out.up H6.out).at_ hjl
      subst e
      have p4 := HNE.out j hjl
      obtain ⟨x0, x1⟩ := HX.out.cells
      have hq := fun W => eqlP (pq l j).1 (pq l j).2 R (n : Int) W
      rw [show ((pq l j).1 == R && (pq l j).2 == (n : Int)) = false by
        rw [Bool.and_eq_false_iff]; exact .inr (beq_eq_false_iff_ne.2 p4)] at hq
      clear p4
      generalize (pq l j).1 = p1 at *
      generalize (pq l j).2 = p2 at *
      go_wp2_with fail
      go_quiet (fail)
      go_wp2
      go_roundg (l.length - (j + 1))
      case measure => go_light; omega
      case rel => go_light; exact ⟨j + 1, _, by omega, rfl, by simp, rfl⟩
    · have hjz : ¬ (j : Int) < (l.length : Int) := by omega
      obtain ⟨x0, x1⟩ := HX.out.cells
      go_wp2_with fail
      refine (HC.out _ (below_drewN H6.out q)).mono ?_; rintro e w7 ⟨rfl, hb7⟩
      have H7 := Lib.hid (below_of_drewN q hb7)
      clear x0 x1 hb7
      obtain ⟨x0, x1⟩ := (HX.out.up H7.out).cells
      obtain ⟨ad, e, _, r0, r1⟩ := (HP.out.up (up_trans H6.out H7.out)).at_ hl0
      subst e
      rw [Nat.zero_mul, add_zero] at r0
      rw [← HR.out] at r0
      have m1 := M1.out
      have g2 : (R == R) = true := by simp
      clear r1
      go_wp2_with fail
      go_quiet (fail)
      go_wp2
      go_ret
      exact ⟨ret_bool (by first | rfl | decide | simp), below_drewN (up_trans H6.out H7.out) _⟩
end
end Go.Proofs.Ythalaihpgjniiaa.Mat
