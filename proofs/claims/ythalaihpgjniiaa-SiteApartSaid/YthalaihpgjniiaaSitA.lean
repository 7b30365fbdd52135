/- The document's Places (two rows compared) and Ring: walked. -/
import Derived.Test.YthalaihpgjniiaaSitMem
namespace Go.Proofs.Ythalaihpgjniiaa.Mat
open Go.RowKit Fld

section
variable {w : World} {A B : Option Addr} {c k : Nat}
set_option maxRecDepth 100000 in
set_option maxHeartbeats 1600000 in
theorem refPlaces_any (l m : List (Int × Int)) (hl : l.length ≤ 9223372036854775807) (hm : m.length ≤ 9223372036854775807) (h1 : Pl w w.heap.size A l) (h2 : Pl w w.heap.size B m) :
    Calls Try.prog 15 #[.slice A l.length c, .slice B m.length k] w (BoolRet w (decide (l = m))) := by
  have H1 := Lib.hid h1
  have H2 := Lib.hid h2
  clear h1 h2
  by_cases hlm : l.length = m.length
  rotate_left
  · have g1 : ((l.length : Int) != (m.length : Int)) = true := bne_iff_ne.2 (by omega)
    have E : Hid (decide (l = m) = false) := Lib.hid (decide_eq_false (fun q => hlm (by rw [q])))
    clear hlm
    go_enter Try.func15, Try.ntmps15
    go_wp2
    go_ret
    exact ⟨by rw [E.out]; rfl, Below.refl _ _⟩
  have g1 : ((l.length : Int) != (m.length : Int)) = false := by rw [hlm]; simp
  have HL := Lib.hid hlm
  clear hlm
  go_enter Try.func15, Try.ntmps15
  go_wp2
  clear g1
  go_loopg [5] l.length (fun gh x wr => ∃ j n : Nat, j ≤ l.length ∧ gh = l.length - j ∧ x = .int .i64 (j : Nat) ∧ wr = w.drewN n ∧ Hid (∀ r, r < j → l[r]? = m[r]?))
  case atStart => exact ⟨0, 0, Nat.zero_le _, rfl, rfl, rfl, Lib.hid (fun r hr => absurd hr (Nat.not_lt_zero _))⟩
  case round =>
    obtain ⟨j, n, hj, hgh, rfl, rfl, hall⟩ := hrel
    by_cases hlt : j < l.length
    · have hjz : (j : Int) < (l.length : Int) := by omega
      have hjz2 : (j : Int) < (m.length : Int) := by have := HL.out; omega
      obtain ⟨a1, rfl, _, k1, k1'⟩ := H1.out.at_ hlt
      obtain ⟨a2, rfl, _, k2, k2'⟩ := H2.out.at_ (show j < m.length by have := HL.out; omega)
      have hm2 : j < m.length := by have := HL.out; omega
      have hle := List.getElem?_eq_getElem hlt
      have hme := List.getElem?_eq_getElem hm2
      have hne : l[j] ≠ m[j] → l ≠ m := fun q e => q (by subst e; rfl)
      have hpq : pq l j = l[j] := by unfold pq; rw [hle]; rfl
      have hpm : pq m j = m[j] := by unfold pq; rw [hme]; rfl
      rw [hpq] at k1 k1'
      rw [hpm] at k2 k2'
      clear hpq hpm
      generalize l[j] = p at *
      generalize m[j] = q at *
      obtain ⟨p1, p2⟩ := p
      obtain ⟨q1, q2⟩ := q
      have hnq := fun W => neqP p1 p2 q1 q2 W
      dsimp only at k1 k1' k2 k2'
      by_cases he : p1 = q1 ∧ p2 = q2
      · obtain ⟨rfl, rfl⟩ := he
        have t1 : (p1 == p1 && p2 == p2) = true := by simp
        rw [t1] at hnq
        have HE : Hid (l[j]? = m[j]?) := Lib.hid (by rw [hle, hme])
        clear hle hme hne t1
        go_wp2_with fail
        go_quiet (fail)
        go_wp2
        go_roundg (l.length - (j + 1))
        case measure => go_light; omega
        case rel => go_light; exact ⟨j + 1, _, by omega, rfl, by simp, rfl, Lib.hid (fun r hr => by
          by_cases e : r = j
          · subst e; exact HE.out
          · exact hall.out r (by omega))⟩
      · have t1 : (p1 == q1 && p2 == q2) = false := by
          rw [Bool.and_eq_false_iff, beq_eq_false_iff_ne, beq_eq_false_iff_ne]
          omega
        rw [t1] at hnq
        have E : Hid (decide (l = m) = false) := Lib.hid (decide_eq_false (hne (fun e => he (by injection e with e1 e2; exact ⟨e1, e2⟩))))
        clear hle hme hne t1 he
        go_wp2_with fail
        go_quiet (fail)
        go_wp2
        go_ret
        exact ⟨by rw [E.out]; rfl, below_drewN (below_drewN (Below.refl _ _) _) _⟩
    · have hjz : ¬ (j : Int) < (l.length : Int) := by omega
      have E : Hid (decide (l = m) = true) := Lib.hid (decide_eq_true (List.ext_getElem? (fun r => by
        rcases Nat.lt_or_ge r j with q | q
        · exact hall.out r q
        · rw [List.getElem?_eq_none (by omega), List.getElem?_eq_none (by have := HL.out; omega)])))
      go_wp2
      go_ret
      exact ⟨by rw [E.out]; rfl, below_drewN (Below.refl _ _) _⟩

theorem nums_len (l : List Nat) : (nums l).length = l.length := by unfold nums; simp
set_option maxRecDepth 100000 in
set_option maxHeartbeats 3200000 in
theorem refRing_any (vol nodes : Int) (N : Nat) (f : Nat → Bool) (h : Bl w w.heap.size A N f) :
    Calls Try.prog 12 #[.int .i64 vol, .int .i64 nodes, .slice A N c] w (NumsRet w (rgL (lv f N) vol nodes)) := by
  obtain ⟨i0, hi0, hz0, hz1, hz2⟩ := info_parts infoNum
  have none_ : vol < 0 ∨ nodes < 1 ∨ 64 < nodes → NumsRet w (rgL (lv f N) vol nodes) (.returned (.slice none 0 0)) w := fun q => by
    rw [rgL_no q]
    exact ⟨none, 0, rfl, fun hh => absurd hh (Nat.lt_irrefl _), Below.refl _ _⟩
  have NO := Lib.hid none_
  clear none_
  by_cases b1 : vol < 0
  · clear h
    go_enter Try.func12, Try.ntmps12
    go_wp2
    go_ret
    exact NO.out (.inl b1)
  by_cases b2 : nodes < 1
  · clear h
    go_enter Try.func12, Try.ntmps12
    go_wp2
    go_ret
    exact NO.out (.inr (.inl b2))
  by_cases b3 : 64 < nodes
  · clear h
    go_enter Try.func12, Try.ntmps12
    go_wp2
    go_ret
    exact NO.out (.inr (.inr b3))
  obtain ⟨v, rfl⟩ := Int.eq_ofNat_of_zero_le (show 0 ≤ vol by omega)
  obtain ⟨n, rfl⟩ := Int.eq_ofNat_of_zero_le (show 0 ≤ nodes by omega)
  have hn1 : 1 ≤ n := by omega
  have hn2 : n ≤ 64 := by omega
  have hmod := Nat.mod_lt v hn1
  have hR : rgL (lv f N) (v : Int) (n : Int) = rup (lv f N) (v % n) (n - v % n) ++ rup (lv f N) 0 (v % n) := rgL_yes hn1 hn2
  have H := Lib.hid h
  have hnz : ¬ n = 0 := by omega
  have hm : ((v : Int) % (n : Int)) = ((v % n : Nat) : Int) := rfl
  generalize v % n = a at *
  have HR := Lib.hid hR
  have hlen1 := fun j => rup_len (lv f N) a j
  have hlen2 := fun j => rup_len (lv f N) 0 j
  clear h b1 b2 b3 NO hR
  go_enter Try.func12, Try.ntmps12
  go_wp2_with fail
  rw [hm]
  go_loopg [7, 8] (n - a) (fun gh y x wr => ∃ (j : Nat) (vv : Value), j ≤ n - a ∧ gh = n - a - j ∧ vv = y ∧ Chosen w wr 3 vv (nums (rup (lv f N) a j)) ∧ x = .int .i64 ((a + j : Nat) : Int))
  case atStart => exact ⟨0, _, Nat.zero_le _, rfl, rfl, Chosen.start w _, rfl⟩
  case round =>
    obtain ⟨j, vv, hj, hgh, hvv, hch, rfl⟩ := hrel
    subst hvv
    have HCH := Lib.hid hch
    clear hch
    by_cases hlt : j < n - a
    rotate_left
    · obtain rfl : j = n - a := by omega
      have hjz : ¬ ((a + (n - a) : Nat) : Int) < (n : Int) := by omega
      have HC1 := HCH
      clear HCH hgh hlt hj
      go_wp2
      go_loopg [7, 9] (a) (fun gh y x wr => ∃ (j : Nat) (vv : Value), j ≤ a ∧ gh = a - j ∧ vv = y ∧ Chosen w wr 3 vv (nums (rup (lv f N) a (n - a) ++ rup (lv f N) 0 j)) ∧ x = .int .i64 ((j : Nat) : Int))
      case atStart => exact ⟨0, _, Nat.zero_le _, rfl, rfl, by simpa [rup] using HC1.out, rfl⟩
      case round =>
        obtain ⟨j, vv, hj, hgh, hvv, hch, rfl⟩ := hrel
        subst hvv
        have HCH := Lib.hid hch
        clear hch
        by_cases hlt : j < a
        rotate_left
        · obtain rfl : a = j := by omega
          have hjz : ¬ ((a : Nat) : Int) < (v : Int) % (n : Int) := by rw [hm]; omega
          obtain ⟨A9, c9, rfl, hN⟩ := nr_chosen HCH.out
          have HN := Lib.hid hN
          clear hN
          rw [← HR.out] at *
          go_wp2
          go_ret
          exact ⟨A9, c9, rfl, HN.out, HCH.out.below⟩
        have hjz : (j : Int) < (v : Int) % (n : Int) := by rw [hm]; omega
        have HLEN : Hid ((nums (rup (lv f N) a (n - a) ++ rup (lv f N) 0 j)).length ≤ 64) := Lib.hid (by
          rw [nums_len]
          have h1 := hlen1 (n - a)
          have h2 := hlen2 j
          rw [List.length_append]; omega)
        by_cases hrN : j < N
        rotate_left
        · have hT : Hid (rup (lv f N) 0 (j + 1) = rup (lv f N) 0 j) := Lib.hid (rup_no (by rw [Nat.zero_add]; exact lv_no hrN))
          have hrNz : ¬ (j : Int) < (N : Int) := by omega
          clear hrN
          go_wp2
          go_roundg (a - (j + 1))
          case measure => go_light; omega
          case rel => go_light; exact ⟨j + 1, _, by omega, rfl, rfl, by rw [hT.out]; exact HCH.out, by simp⟩
        have hrNz : (j : Int) < (N : Int) := by omega
        obtain ⟨ad, e, _, k0⟩ := (H.out.up HCH.out.below).at_ hrN
        subst e
        cases hf : f j
        · rw [hf] at k0
          have hT : Hid (rup (lv f N) 0 (j + 1) = rup (lv f N) 0 j) := Lib.hid (rup_no (by rw [Nat.zero_add, lv_yes hrN]; exact hf))
          clear hrN hf
          go_wp2
          go_roundg (a - (j + 1))
          case measure => go_light; omega
          case rel => go_light; exact ⟨j + 1, _, by omega, rfl, rfl, by rw [hT.out]; exact HCH.out, by simp⟩
        · rw [hf] at k0
          have hT : Hid (rup (lv f N) 0 (j + 1) = rup (lv f N) 0 j ++ [j]) := Lib.hid (by rw [rup_yes (by rw [Nat.zero_add, lv_yes hrN]; exact hf), Nat.zero_add])
          clear hrN hf
          go_wp2_with (at_builtin; refine wpList_append_own _ rfl (.tmp 59) (.tmp 61) 27 rfl w.heap.size 3 i0 (.int .i64 0) 1 8 Try.underlying27 hi0 hz0 hz1 hz2 rfl (by decide) _ _ _ rfl (HCH.out.own.alloc _) ⟨wr.heap.size, 0, none⟩ 1 1 [.int .i64 (j : Int)] rfl rfl (one_news _ _) (by simp [Value.oneCell']) (by have := HLEN.out; unfold maxLen; omega) (by have := HLEN.out; omega) (by rw [size_alloc]; have := HCH.out.below.size; omega) ?_)
          intro v' w' hown hgrow _
          have HN := Lib.hid (HCH.out.next (Below.refl _ _) hown hgrow)
          clear hown hgrow
          go_wp2
          go_roundg (a - (j + 1))
          case measure => go_light; omega
          case rel => go_light; exact ⟨j + 1, _, by omega, rfl, rfl, by rw [hT.out, ← List.append_assoc, nums_add]; exact HN.out, by simp⟩
    obtain ⟨r, hr⟩ : ∃ r, r = a + j := ⟨_, rfl⟩
    rw [← hr]
    have hjz : (r : Int) < (n : Int) := by omega
    have HRR := Lib.hid hr
    clear hr
    have HLEN : Hid ((nums (rup (lv f N) a j)).length ≤ 64) := Lib.hid (by
      rw [nums_len]
      have h1 := hlen1 j
      omega)
    by_cases hrN : r < N
    rotate_left
    · have hT : Hid (rup (lv f N) a (j + 1) = rup (lv f N) a j) := Lib.hid (rup_no (by rw [← HRR.out]; exact lv_no hrN))
      have hrNz : ¬ (r : Int) < (N : Int) := by omega
      clear hrN
      go_wp2
      go_roundg (n - a - (j + 1))
      case measure => go_light; omega
      case rel => go_light; exact ⟨j + 1, _, by omega, rfl, rfl, by rw [hT.out]; exact HCH.out, by rw [HRR.out]; simp; omega⟩
    have hrNz : (r : Int) < (N : Int) := by omega
    obtain ⟨ad, e, _, k0⟩ := (H.out.up HCH.out.below).at_ hrN
    subst e
    cases hf : f r
    · rw [hf] at k0
      have hT : Hid (rup (lv f N) a (j + 1) = rup (lv f N) a j) := Lib.hid (rup_no (by rw [← HRR.out, lv_yes hrN]; exact hf))
      clear hrN hf
      go_wp2
      go_roundg (n - a - (j + 1))
      case measure => go_light; omega
      case rel => go_light; exact ⟨j + 1, _, by omega, rfl, rfl, by rw [hT.out]; exact HCH.out, by rw [HRR.out]; simp; omega⟩
    · rw [hf] at k0
      have hT : Hid (rup (lv f N) a (j + 1) = rup (lv f N) a j ++ [r]) := Lib.hid (by rw [rup_yes (by rw [← HRR.out, lv_yes hrN]; exact hf), ← HRR.out])
      clear hrN hf
      go_wp2_with (at_builtin; refine wpList_append_own _ rfl (.tmp 38) (.tmp 40) 27 rfl w.heap.size 3 i0 (.int .i64 0) 1 8 Try.underlying27 hi0 hz0 hz1 hz2 rfl (by decide) _ _ _ rfl (HCH.out.own.alloc _) ⟨wr.heap.size, 0, none⟩ 1 1 [.int .i64 (r : Int)] rfl rfl (one_news _ _) (by simp [Value.oneCell']) (by have := HLEN.out; unfold maxLen; omega) (by have := HLEN.out; omega) (by rw [size_alloc]; have := HCH.out.below.size; omega) ?_)
      intro v' w' hown hgrow _
      have HN := Lib.hid (HCH.out.next (Below.refl _ _) hown hgrow)
      clear hown hgrow
      go_wp2
      go_roundg (n - a - (j + 1))
      case measure => go_light; omega
      case rel => go_light; exact ⟨j + 1, _, by omega, rfl, rfl, by rw [hT.out, nums_add]; exact HN.out, by rw [HRR.out]; simp; omega⟩
end
end Go.Proofs.Ythalaihpgjniiaa.Mat
