/- The document's Bad, Keys and Ints: walked. -/
import Derived.Test.YtofafmjkjgiccaaSheRows
namespace Go.Proofs.Ytofafmjkjgiccaa.Mat
open Go.RowKit Fld

theorem nums_add (l : List Nat) (n : Nat) : nums (l ++ [n]) = nums l ++ [.int .i64 (n : Int)] := by unfold nums; simp
section
variable {w : World} {A B : Option Addr} {c k : Nat} {d : Dk}
set_option maxRecDepth 100000 in
set_option maxHeartbeats 3200000 in
theorem refBad_any (h : DOk w A c B k d) :
    Calls Try.prog 23 #[.agg #[.slice A d.n c, .slice B d.m k, .int .i64 d.fuse, .bool d.off]] w (NumsRet w (bd (gs d) d.n)) := by
  obtain ⟨i0, hi0, hz0, hz1, hz2⟩ := info_parts infoNum
  obtain ⟨W, hW, hX, hD, hB⟩ := box_start h
  have hbn := h.sz.bn
  have c1 := fun W' (hb : Below W.heap.size W W') (j : Nat) (hj : j < d.n) => refAt_any (hD.up hb) j hj
  have C1 := Lib.hid c1
  have HX := Lib.hid hX
  have HB := Lib.hid hB
  clear c1 hX hB hD h
  go_enter Try.func23, Try.ntmps23
  go_upto_region 1 with fail
  rw [← hW]
  clear hW
  go_wp2
  go_loopg [3, 4] d.n (fun gh y x wr => ∃ (j : Nat) (vv : Value), j ≤ d.n ∧ gh = d.n - j ∧ vv = y ∧ Chosen W wr 3 vv (nums (bd (gs d) j)) ∧ x = .int .i64 (j : Nat))
  case atStart => exact ⟨0, _, Nat.zero_le _, rfl, rfl, Chosen.start W _, rfl⟩
  case round =>
    obtain ⟨j, vv, hj, hgh, hvv, hch, rfl⟩ := hrel
    subst hvv
    have HCH := Lib.hid hch
    obtain ⟨x0, x1, x2, x3⟩ := (HX.out.up hch.below).cells
    clear hch
    by_cases hlt : j < d.n
    rotate_left
    · have hjz : ¬ (j : Int) < (d.n : Int) := by omega
      obtain rfl : j = d.n := by omega
      obtain ⟨A9, c9, rfl, hN⟩ := nr_chosen HCH.out
      have HN := Lib.hid hN
      clear hN
      go_wp2
      go_ret
      exact ⟨A9, c9, rfl, HN.out, up_trans HB.out HCH.out.below⟩
    have hjz : (j : Int) < (d.n : Int) := by omega
    have hc1 := fun w2 (hb : Below W.heap.size W w2) => C1.out w2 hb j hlt
    have q0 : getS d (j : Int) = gs d j := rfl
    rw [q0] at hc1
    have hle := bd_len (gs d) j
    have hnl : (nums (bd (gs d) j)).length = (bd (gs d) j).length := by unfold nums; simp
    have HLEN : Hid ((nums (bd (gs d) j)).length ≤ j) := Lib.hid (by omega)
    have hy := bd_yes (S := gs d) (k := j)
    have hn := bd_no (S := gs d) (k := j)
    generalize shX (gs d j) = sx at *
    generalize shV (gs d j) = sv at *
    generalize shI (gs d j) = si at *
    clear hle hnl q0
    cases hsb : shB (gs d j)
    rotate_left
    · have HT := Lib.hid (hn (fun q => by rw [hsb] at q; cases q.1))
      rw [hsb] at hc1
      generalize ((gs d j).size == 0) = e0 at *
      have HC := Lib.hid hc1
      clear hc1 hy hn hsb
      go_wp2_with fail
      refine (HC.out _ HCH.out.below).mono ?_; rintro e w2 ⟨rfl, hb2⟩
      have H2 := Lib.hid (HCH.out.under hb2)
      have H3 := Lib.hid (H2.out.under ((Below.refl _ _).alloc (Nat.le_refl _) (.cells #[.int .i64 (sv : Int), .int .i64 (si : Int), .string sx] 23)))
      clear hb2 x0 x1 x2 x3
      go_wp2
      go_roundg (d.n - (j + 1))
      case measure => go_light; omega
      case rel => go_light; exact ⟨j + 1, _, by omega, rfl, rfl, by rw [HT.out]; exact H3.out, by simp⟩
    by_cases hz : (gs d j).size = 0
    · have HT := Lib.hid (hn (fun q => q.2 hz))
      rw [hsb, beq_iff_eq.2 hz] at hc1
      have HC := Lib.hid hc1
      clear hc1 hy hn hsb hz
      go_wp2_with fail
      refine (HC.out _ HCH.out.below).mono ?_; rintro e w2 ⟨rfl, hb2⟩
      have H2 := Lib.hid (HCH.out.under hb2)
      have H3 := Lib.hid (H2.out.under ((Below.refl _ _).alloc (Nat.le_refl _) (.cells #[.int .i64 (sv : Int), .int .i64 (si : Int), .string sx] 23)))
      clear hb2 x0 x1 x2 x3
      go_wp2
      go_roundg (d.n - (j + 1))
      case measure => go_light; omega
      case rel => go_light; exact ⟨j + 1, _, by omega, rfl, rfl, by rw [HT.out]; exact H3.out, by simp⟩
    · have HT := Lib.hid (hy hsb hz)
      rw [hsb, beq_eq_false_iff_ne.2 hz] at hc1
      have HC := Lib.hid hc1
      clear hc1 hy hn hsb hz
      go_wp2_with fail
      refine (HC.out _ HCH.out.below).mono ?_; rintro e w2 ⟨rfl, hb2⟩
      have H2 := Lib.hid (HCH.out.under hb2)
      have H3 := Lib.hid (H2.out.under ((Below.refl _ _).alloc (Nat.le_refl _) (.cells #[.int .i64 (sv : Int), .int .i64 (si : Int), .string sx] 23)))
      clear hb2 x0 x1 x2 x3
      go_upto_region 7 with fail
      generalize w2.alloc (.cells #[.int .i64 (sv : Int), .int .i64 (si : Int), .string sx] 23) = w3 at *
      go_wp2_with (at_builtin; refine wpList_append_own _ rfl (.tmp 28) (.tmp 30) 46 rfl W.heap.size 3 i0 (.int .i64 0) 1 8 Try.underlying46 hi0 hz0 hz1 hz2 rfl (by decide) _ _ _ rfl (H3.out.own.alloc _) ⟨w3.heap.size, 0, none⟩ 1 1 [.int .i64 (j : Int)] rfl rfl (one_news _ _) (by simp [Value.oneCell']) (by have := HLEN.out; unfold maxLen; omega) (by have := HLEN.out; omega) (by rw [size_alloc]; have := H3.out.below.size; omega) ?_)
      intro v' w' hown hgrow _
      have HN := Lib.hid (H3.out.next (Below.refl _ _) hown hgrow)
      clear hown hgrow
      go_wp2
      go_roundg (d.n - (j + 1))
      case measure => go_light; omega
      case rel => go_light; exact ⟨j + 1, _, by omega, rfl, rfl, by rw [HT.out, nums_add]; exact HN.out, by simp⟩
end

section
variable {w : World} {A B : Option Addr} {c k : Nat}
set_option maxRecDepth 100000 in
set_option maxHeartbeats 1600000 in
theorem refInts_any (l m : List Nat) (hl : l.length ≤ 9223372036854775807) (hm : m.length ≤ 9223372036854775807) (h1 : Nr w w.heap.size A l) (h2 : Nr w w.heap.size B m) :
    Calls Try.prog 21 #[.slice A l.length c, .slice B m.length k] w (BoolRet w (decide (l = m))) := by
  have H1 := Lib.hid h1
  have H2 := Lib.hid h2
  clear h1 h2
  by_cases hlm : l.length = m.length
  rotate_left
  · have g1 : ((l.length : Int) != (m.length : Int)) = true := bne_iff_ne.2 (by omega)
    have E : Hid (decide (l = m) = false) := Lib.hid (decide_eq_false (fun q => hlm (by rw [q])))
    clear hlm
    go_enter Try.func21, Try.ntmps21
    go_wp2
    go_ret
    exact ⟨by rw [E.out]; rfl, Below.refl _ _⟩
  have g1 : ((l.length : Int) != (m.length : Int)) = false := by rw [hlm]; simp
  have HL := Lib.hid hlm
  clear hlm
  go_enter Try.func21, Try.ntmps21
  go_wp2
  clear g1
  go_loopg [5] l.length (fun gh x wr => ∃ j n : Nat, j ≤ l.length ∧ gh = l.length - j ∧ x = .int .i64 (j : Nat) ∧ wr = w.drewN n ∧ Hid (∀ r, r < j → l[r]? = m[r]?))
  case atStart => exact ⟨0, 0, Nat.zero_le _, rfl, rfl, rfl, Lib.hid (fun r hr => absurd hr (Nat.not_lt_zero _))⟩
  case round =>
    obtain ⟨j, n, hj, hgh, rfl, rfl, hall⟩ := hrel
    by_cases hlt : j < l.length
    · have hjz : (j : Int) < (l.length : Int) := by omega
      have hjz2 : (j : Int) < (m.length : Int) := by have := HL.out; omega
      obtain ⟨a1, rfl, _, k1⟩ := H1.out.at_ hlt
      obtain ⟨a2, rfl, _, k2⟩ := H2.out.at_ (show j < m.length by have := HL.out; omega)
      by_cases he : l[j] = m[j]'(by have := HL.out; omega)
      · have t1 : (((l[j] : Nat) : Int) != ((m[j]'(by have := HL.out; omega) : Nat) : Int)) = false := by rw [he]; simp
        have HE : Hid (l[j]? = m[j]?) := Lib.hid (by rw [List.getElem?_eq_getElem hlt, List.getElem?_eq_getElem (by have := HL.out; omega), he])
        clear he
        go_wp2_with fail
        go_quiet (fail)
        go_wp2
        go_roundg (l.length - (j + 1))
        case measure => go_light; omega
        case rel => go_light; exact ⟨j + 1, _, by omega, rfl, by simp, rfl, Lib.hid (fun r hr => by
          by_cases e : r = j
          · subst e; exact HE.out
          · exact hall.out r (by omega))⟩
      · have t1 : (((l[j] : Nat) : Int) != ((m[j]'(by have := HL.out; omega) : Nat) : Int)) = true := bne_iff_ne.2 (fun q => he (by omega))
        have E : Hid (decide (l = m) = false) := Lib.hid (decide_eq_false (fun q => he (by subst q; rfl)))
        clear he
        go_wp2_with fail
        go_quiet (fail)
        go_wp2
        go_ret
        exact ⟨by rw [E.out]; rfl, below_drewN (below_drewN (Below.refl _ _) _) _⟩
    · have hjz : ¬ (j : Int) < (l.length : Int) := by omega
      have E : Hid (decide (l = m) = true) := Lib.hid (decide_eq_true (List.ext_getElem? (fun r => by
        rcases Nat.lt_or_ge r j with q | q
        · exact hall.out r q
        · rw [List.getElem?_eq_none (by omega), List.getElem?_eq_none (by have := HL.out; omega)])))
      go_wp2
      go_ret
      exact ⟨by rw [E.out]; rfl, below_drewN (Below.refl _ _) _⟩
set_option maxRecDepth 100000 in
set_option maxHeartbeats 1600000 in
theorem refKeys_any (l m : List (Nat × Nat)) (hl : l.length ≤ 9223372036854775807) (hm : m.length ≤ 9223372036854775807) (h1 : Kr w w.heap.size A l) (h2 : Kr w w.heap.size B m) :
    Calls Try.prog 18 #[.slice A l.length c, .slice B m.length k] w (BoolRet w (decide (l = m))) := by
  have H1 := Lib.hid h1
  have H2 := Lib.hid h2
  clear h1 h2
  by_cases hlm : l.length = m.length
  rotate_left
  · have g1 : ((l.length : Int) != (m.length : Int)) = true := bne_iff_ne.2 (by omega)
    have E : Hid (decide (l = m) = false) := Lib.hid (decide_eq_false (fun q => hlm (by rw [q])))
    clear hlm
    go_enter Try.func18, Try.ntmps18
    go_wp2
    go_ret
    exact ⟨by rw [E.out]; rfl, Below.refl _ _⟩
  have g1 : ((l.length : Int) != (m.length : Int)) = false := by rw [hlm]; simp
  have HL := Lib.hid hlm
  clear hlm
  go_enter Try.func18, Try.ntmps18
  go_wp2
  clear g1
  go_loopg [5] l.length (fun gh x wr => ∃ j n : Nat, j ≤ l.length ∧ gh = l.length - j ∧ x = .int .i64 (j : Nat) ∧ wr = w.drewN n ∧ Hid (∀ r, r < j → l[r]? = m[r]?))
  case atStart => exact ⟨0, 0, Nat.zero_le _, rfl, rfl, rfl, Lib.hid (fun r hr => absurd hr (Nat.not_lt_zero _))⟩
  case round =>
    obtain ⟨j, n, hj, hgh, rfl, rfl, hall⟩ := hrel
    by_cases hlt : j < l.length
    · have hjz : (j : Int) < (l.length : Int) := by omega
      have hjz2 : (j : Int) < (m.length : Int) := by have := HL.out; omega
      obtain ⟨a1, rfl, _, k1, k1'⟩ := H1.out.at_ hlt
      obtain ⟨a2, rfl, _, k2, k2'⟩ := H2.out.at_ (show j < m.length by have := HL.out; omega)
      have hm2 : j < m.length := by have := HL.out; omega
      have hnq := fun W => neqK ((l[j].1 : Nat) : Int) ((l[j].2 : Nat) : Int) ((m[j].1 : Nat) : Int) ((m[j].2 : Nat) : Int) W
      have hle := List.getElem?_eq_getElem hlt
      have hme := List.getElem?_eq_getElem hm2
      have hne : l[j] ≠ m[j] → l ≠ m := fun q e => q (by subst e; rfl)
      generalize l[j] = p at *
      generalize m[j] = q at *
      obtain ⟨p1, p2⟩ := p
      obtain ⟨q1, q2⟩ := q
      dsimp only at k1 k1' k2 k2' hnq
      by_cases he : p1 = q1 ∧ p2 = q2
      · obtain ⟨rfl, rfl⟩ := he
        have t1 : ((p1 : Int) == (p1 : Int) && (p2 : Int) == (p2 : Int)) = true := by simp
        rw [t1] at hnq
        have HE : Hid (l[j]? = m[j]?) := Lib.hid (by rw [hle, hme])
        clear hle hme hne t1
        go_wp2_with fail
        go_quiet (fail)
        go_wp2
        go_roundg (l.length - (j + 1))
        case measure => go_light; omega
        case rel => go_light; exact ⟨j + 1, _, by omega, rfl, by simp, rfl, Lib.hid (fun r hr => by
          by_cases e : r = j
          · subst e; exact HE.out
          · exact hall.out r (by omega))⟩
      · have t1 : ((p1 : Int) == (q1 : Int) && (p2 : Int) == (q2 : Int)) = false := by
          rw [Bool.and_eq_false_iff, beq_eq_false_iff_ne, beq_eq_false_iff_ne]
          omega
        rw [t1] at hnq
        have E : Hid (decide (l = m) = false) := Lib.hid (decide_eq_false (hne (fun e => he (by injection e with e1 e2; exact ⟨e1, e2⟩))))
        clear hle hme hne t1 he
        go_wp2_with fail
        go_quiet (fail)
        go_wp2
        go_ret
        exact ⟨by rw [E.out]; rfl, below_drewN (below_drewN (Below.refl _ _) _) _⟩
    · have hjz : ¬ (j : Int) < (l.length : Int) := by omega
      have E : Hid (decide (l = m) = true) := Lib.hid (decide_eq_true (List.ext_getElem? (fun r => by
        rcases Nat.lt_or_ge r j with q | q
        · exact hall.out r q
        · rw [List.getElem?_eq_none (by omega), List.getElem?_eq_none (by have := HL.out; omega)])))
      go_wp2
      go_ret
      exact ⟨by rw [E.out]; rfl, below_drewN (Below.refl _ _) _⟩
end
end Go.Proofs.Ytofafmjkjgiccaa.Mat
