/- The document's own products: walked. -/
import Derived.Test.YtohbijjkkadbaaaMatR
namespace Go.Proofs.Ytohbijjkkadbaaa.Mat
open Go.RowKit Fld

/-- (a quiet region behind a quiet one: the kit's page of small lemmas has the like) -/
theorem quiet_more {P : Program} {f : FuncId} {args : Array Value} {w : World} {a n : Nat} {v : Value}
    (h : Calls P f args (w.drewN (a + n)) fun e w' => e = .returned v ∧ w.drewN (a + n) = w') : Calls P f args (w.drewN (a + n)) fun e w'' => e = .returned v ∧ ∃ m, w'' = w.drewN (a + m) :=
  h.mono fun _ _ ⟨he, hm⟩ => ⟨he, n, hm.symm⟩
section
variable {A A' : Option Addr} {n n' cap cap' B B' : Nat} {L RC L' RC' : Nat → Nat} {RA RA' : Nat → Option Addr} {F F' : Nat → Nat → BitVec 8} {w : World}
set_option maxRecDepth 100000 in
set_option maxHeartbeats 800000 in
theorem refMay_any (h : Mt w B A n L RA RC F) (hn : n ≤ 9223372036854775807) :
    Calls Try.prog 56 #[.slice A n cap] w fun e w' => e = .returned (.bool (okB n L)) ∧ ∃ q, w' = w.drewN q := by
  by_cases h1 : n < 1
  · have HF : Hid (okB n L = false) := Lib.hid (ok_no (fun h => by have := h.1; omega))
    have g1 : decide ((n : Int) < 1) = true := by simp; omega
    clear h h1
    go_enter Try.func56, Try.ntmps56
    go_wp2
    go_ret
    exact ⟨by rw [HF.out]; rfl, 0, rfl⟩
  · have g1 : decide ((n : Int) < 1) = false := by simp; omega
    by_cases h2 : 32 < n
    · have HF : Hid (okB n L = false) := Lib.hid (ok_no (fun h => by have := h.2.1; omega))
      have g2 : decide ((32 : Int) < (n : Int)) = true := by simp; omega
      clear h h1 h2
      go_enter Try.func56, Try.ntmps56
      go_wp2
      go_ret
      exact ⟨by rw [HF.out]; rfl, 0, rfl⟩
    · have g2 : decide ((32 : Int) < (n : Int)) = false := by simp; omega
      have n1 : 1 ≤ n := by omega
      have n2 : n ≤ 32 := by omega
      have p0 : 0 < n := n1
      obtain ⟨ad, rfl, hb, hc0, _, _⟩ := h.row (r := 0) n1
      rw [add_zero] at hc0
      have hrow : ∀ r, r < n → w.cell? (ad.add r) = some (.slice (RA r) (L r) (RC r)) := fun r hr => by
        obtain ⟨ad', e, _, hc, _⟩ := h.row hr
        injection e with e; subst e; exact hc
      have Hrow := Lib.hid hrow
      clear h h1 h2 hrow
      go_enter Try.func56, Try.ntmps56
      go_wp2
      clear g1 g2
      go_loopg [3] n (fun gh i wr => ∃ k q : Nat, k ≤ n ∧ gh = n - k ∧ i = .int .i64 k ∧ wr = w.drewN q ∧ Hid (∀ r, r < k → 1 ≤ L r ∧ L r ≤ 32 ∧ L r = L 0))
      case atStart => exact ⟨0, 0, by omega, rfl, rfl, rfl, Lib.hid (fun r hr => absurd hr (by omega))⟩
      case round =>
        obtain ⟨k, q, hk, rfl, rfl, rfl, hall⟩ := hrel
        by_cases hlt : k < n
        · have hkz : (k : Int) < (n : Int) := by omega
          have c1 := Hrow.out k hlt
          by_cases d1 : L k < 1
          · have t1 : decide ((L k : Int) < 1) = true := by simp; omega
            have HF : Hid (okB n L = false) := Lib.hid (ok_no (fun h => by have := h.2.2.2.2 k hlt; have := h.2.2.1; omega))
            clear d1
            go_wp2_with fail
            go_quiet (fail)
            go_wp2
            go_ret
            exact ⟨by rw [HF.out]; rfl, _, World.drewN_drewN _ _ _⟩
          · have t1 : decide ((L k : Int) < 1) = false := by simp; omega
            by_cases d2 : 32 < L k
            · have t2 : decide ((32 : Int) < (L k : Int)) = true := by simp; omega
              have HF : Hid (okB n L = false) := Lib.hid (ok_no (fun h => by have := h.2.2.2.2 k hlt; have := h.2.2.2.1; omega))
              clear d1 d2
              go_wp2_with fail
              go_quiet (fail)
              go_wp2
              go_ret
              exact ⟨by rw [HF.out]; rfl, _, World.drewN_drewN _ _ _⟩
            · have t2 : decide ((32 : Int) < (L k : Int)) = false := by simp; omega
              by_cases d3 : L k = L 0
              · have t3 := same_lens d3
                have HK : Hid (1 ≤ L k ∧ L k ≤ 32 ∧ L k = L 0) := Lib.hid ⟨by omega, by omega, d3⟩
                clear d1 d2 d3
                go_wp2_with fail
                go_quiet (fail)
                go_wp2
                go_roundg (n - (k + 1))
                case measure => go_light; omega
                case rel => go_light; exact ⟨k + 1, _, by omega, rfl, by simp, rfl, Lib.hid (fun r hr => by
                  by_cases e : r = k
                  · subst e; exact HK.out
                  · exact hall.out r (by omega))⟩
              · have t3 := not_lens d3
                have HF : Hid (okB n L = false) := Lib.hid (ok_no (fun h => d3 (h.2.2.2.2 k hlt)))
                clear d1 d2 d3
                go_wp2_with fail
                go_quiet (fail)
                go_wp2
                go_ret
                exact ⟨by rw [HF.out]; rfl, _, World.drewN_drewN _ _ _⟩
        · have hkz : ¬ (k : Int) < (n : Int) := by omega
          have HF : Hid (okB n L = true) := Lib.hid (ok_yes ⟨n1, n2, (hall.out 0 (by omega)).1, (hall.out 0 (by omega)).2.1, fun r hr => (hall.out r (by omega)).2.2⟩)
          go_wp2
          go_ret
          exact ⟨by rw [HF.out]; rfl, _, rfl⟩
theorem refMay_yes (h : Mt w B A n L RA RC F) (hok : Ok n L) :
    Calls Try.prog 56 #[.slice A n cap] w fun e w' => e = .returned (.bool true) ∧ ∃ q, w' = w.drewN q :=
  (refMay_any h (by have := hok.2.1; omega)).mono fun e w' ⟨h, h'⟩ => ⟨by rw [h, ok_yes hok], h'⟩
theorem refMay_no (h : Mt w B A n L RA RC F) (hn : n ≤ 9223372036854775807) (hok : ¬ Ok n L) :
    Calls Try.prog 56 #[.slice A n cap] w fun e w' => e = .returned (.bool false) ∧ ∃ q, w' = w.drewN q :=
  (refMay_any h hn).mono fun e w' ⟨h, h'⟩ => ⟨by rw [h, ok_no hok], h'⟩

set_option maxRecDepth 1000000 in
set_option maxHeartbeats 3200000 in
theorem refMul_yes (h : Mt w w.heap.size A n L RA RC F) (h' : Mt w w.heap.size A' n' L' RA' RC' F') (o : MulOk n L n' L') :
    Calls Try.prog 33 #[.slice A n cap, .slice A' n' cap'] w (BuiltRet w n (L' 0) (mm n' F F')) := by
  obtain ⟨i0, hi, hz0, hz1, hz2⟩ := info_parts infoRow
  obtain ⟨j0, ji, jz0, jz1, jz2⟩ := info_parts infoByte
  have H := Lib.hid h
  have H' := Lib.hid h'
  have O := Lib.hid o
  obtain ⟨ad, rfl, hb, hc0, _, _⟩ := h.row (r := 0) o.1.1
  obtain ⟨ad', rfl, hb', hc0', _, _⟩ := h'.row (r := 0) o.2.1.1
  rw [add_zero] at hc0 hc0'
  have n1 := o.1.1
  have n2 := o.2.1.1
  have n3 := o.1.2.1
  have n4 := o.2.1.2.1
  have m1 := o.2.1.2.2.1
  have m2 := o.2.1.2.2.2.1
  have p0 : 0 < n := n1
  have p1 : 0 < n' := n2
  have e1 : ((L 0 : Int) != (n' : Int)) = false := by rw [bne_eq_false_iff_eq]; have := o.2.2; omega
  clear h h' o
  go_enter Try.func33, Try.ntmps33
  go_wp2_with fail
  refine (refMay_yes H.out O.out.1).mono ?_; rintro e w1 ⟨rfl, q1, rfl⟩
  go_wp2_with fail
  refine (refMay_yes (H'.out.drewN _) O.out.2.1).mono ?_; rintro e w2 ⟨rfl, q2, rfl⟩
  go_wp2
  generalize q1 + q2 = q3
  go_loopg [8, 9] n (fun gh v i wr => ∃ r G C, r ≤ n ∧ gh = n - r ∧ i = .int .i64 (r : Nat) ∧ Built w wr v r (L' 0) G C (mm n' F F'))
  case atStart => exact ⟨0, _, _, Nat.zero_le _, rfl, rfl, Built.start_of (below_drewN (Below.refl _ _) _) (L' 0) (fun _ => 0) (fun _ => 0) _⟩
  case round =>
    obtain ⟨r, G, C, hr, rfl, rfl, hB⟩ := hrel
    by_cases hrn : r < n
    · have hrz : (r : Int) < (n : Int) := by omega
      have HB := Lib.hid hB
      have hs := hB.below.size
      clear hB
      go_wp2_with fail
      obtain ⟨wo, rfl⟩ : ∃ wo : World, wo = wr := ⟨_, rfl⟩
      go_loopg [10, 11] (L' 0) (fun gh v i wi => ∃ c : Nat, c ≤ L' 0 ∧ gh = L' 0 - c ∧ i = .int .i64 c ∧ Below wo.heap.size wo wi ∧ wi.ownsRow wo.heap.size 5 1 v c (vals c (mm n' F F' r)))
      case atStart => exact ⟨0, Nat.zero_le _, rfl, rfl, Below.refl _ _, World.ownsRow_nil _ _ _ _⟩
      case round =>
        obtain ⟨c, hc, rfl, rfl, hI, hO⟩ := hrel
        have HI := Lib.hid hI
        have HO := Lib.hid hO
        have hW : Below w.heap.size w wr := HB.out.below.trans (hI.mono hs)
        have HW := Lib.hid hW
        have z0 : wr.cell? ad' = some (.slice (RA' 0) (L' 0) (RC' 0)) := by rw [hW.cell hb']; exact hc0'
        clear hI hO hW
        by_cases hcm : c < L' 0
        · have hcz : (c : Int) < (L' 0 : Int) := by omega
          have HM := Lib.hid (H.out.below HW.out (Nat.le_refl _))
          have HM' := Lib.hid (H'.out.below HW.out (Nat.le_refl _))
          go_wp2_with fail
          obtain ⟨wi, rfl⟩ : ∃ wi : World, wi = wr := ⟨_, rfl⟩
          go_loopg [12, 13] n' (fun gh s i wk => ∃ k q : Nat, k ≤ n' ∧ gh = n' - k ∧ i = .int .i64 k ∧ s = .int .u8 (V (sm k (fun j => gm (F r j) (F' j c)))) ∧ wk = wi.drewN q)
          case atStart => exact ⟨0, 0, Nat.zero_le _, rfl, rfl, rfl, rfl⟩
          case round =>
            obtain ⟨k, q, hk, rfl, rfl, rfl, rfl⟩ := hrel
            by_cases hkn : k < n'
            · have hkz : (k : Int) < (n' : Int) := by omega
              obtain ⟨ad2, e2, _, c1, _, r1⟩ := HM.out.row hrn
              injection e2 with e2; subst e2
              have hLr : L r = n' := (O.out.1.row hrn).trans O.out.2.2
              rw [hLr] at c1 r1
              obtain ⟨ar, hAr, _, c2⟩ := r1.at_ hkn
              rw [hAr] at c1
              obtain ⟨ad3, e3, _, c3, _, r3⟩ := HM'.out.row hkn
              injection e3 with e3; subst e3
              rw [O.out.2.1.row hkn] at c3 r3
              obtain ⟨ak, hAk, _, c4⟩ := r3.at_ hcm
              rw [hAk] at c3
              clear hLr hAr hAk r1 r3
              go_wp2_with fail
              go_quiet ((go_at_call 59; exact quiet_more (refMul_any _ _ (V_lo _) (V_hi _) (V_lo _) (V_hi _) _)))
              go_wp2
              go_roundg (n' - (k + 1))
              case measure => go_light; omega
              case rel => go_light; exact ⟨k + 1, _, by omega, rfl, by simp, by rw [B_V, B_V, xor_V]; rfl, rfl⟩
            · have hkz : ¬ (k : Int) < (n' : Int) := by omega
              obtain rfl : k = n' := by omega
              have HO2 : Hid ((wi.drewN q).ownsRow wo.heap.size 5 1 u10 c (vals c (mm k F F' r))) := Lib.hid HO.out
              have HI2 : Hid (Below wo.heap.size wo (wi.drewN q)) := Lib.hid (below_drewN HI.out q)
              clear hkz hk hkn
              go_wp2_with (at_builtin; refine wpList_append_own _ rfl (.tmp 68) (.tmp 70) 55 rfl wo.heap.size 5 j0 (.int .u8 0) 1 1 Try.underlying55 ji jz0 jz1 jz2 rfl (by decide) _ _ _ rfl (HO2.out.alloc _) ⟨wi.heap.size, 0, none⟩ 1 1 [.int .u8 (V (mm k F F' r c))] rfl rfl (one_news (w := wi.drewN q) _ _) (by simp [Value.oneCell']) (by unfold maxLen; omega) (by omega) (by rw [size_alloc]; have := HI2.out.size; omega) ?_)
              intro v' w' hown hgrow _
              have HN := Lib.hid (row_next HI2.out HO2.out hown hgrow)
              clear hown hgrow
              go_wp2
              go_roundg (L' 0 - (c + 1))
              case measure => go_light; omega
              case rel => go_light; exact ⟨c + 1, by omega, rfl, by simp, HN.out.1, HN.out.2⟩
        · have hcz : ¬ (c : Int) < (L' 0 : Int) := by omega
          have HE : Hid (c = L' 0) := Lib.hid (by omega)
          obtain ⟨g, cap2, rfl, hg, hcp, hH⟩ := row_end (by have := HE.out; omega) HO.out
          have HB2 := Lib.hid (HB.out.under HI.out)
          have HH := Lib.hid hH
          clear hH
          go_wp2_with (at_builtin; refine wpList_append_own _ rfl (.tmp 72) (.tmp 74) 23 rfl w.heap.size 55 i0 (.slice none 0 0) 1 24 Try.underlying23 hi hz0 hz1 hz2 rfl (by decide) _ _ _ rfl (HB2.out.own.alloc _) ⟨wr.heap.size, 0, none⟩ 1 1 [.slice (some ⟨g, 0, none⟩) c cap2] rfl rfl (one_news _ _) (by simp [Value.oneCell']) (by unfold maxLen; omega) (by omega) (by rw [size_alloc]; have := HB2.out.below.size; omega) ?_)
          intro v' w' hown hgrow _
          have HN := Lib.hid (HB.out.next HI.out (by rw [← HE.out]; exact HH.out) hg (by rw [← HE.out]; exact hcp) (by rw [← HE.out] at hown ⊢; exact hown) hgrow)
          clear hown hgrow
          go_wp2
          go_roundg (n - (r + 1))
          case measure => go_light; omega
          case rel => go_light; exact ⟨r + 1, _, _, by omega, rfl, by simp, HN.out⟩
    · have hrz : ¬ (r : Int) < (n : Int) := by omega
      obtain rfl : r = n := by omega
      have HB := Lib.hid hB
      clear hB
      go_wp2
      go_ret2
      exact ⟨_, _, _, rfl, HB.out⟩

set_option maxRecDepth 100000 in
set_option maxHeartbeats 800000 in
theorem refMul_no (h : Mt w w.heap.size A n L RA RC F) (h' : Mt w w.heap.size A' n' L' RA' RC' F') (hn : n ≤ 9223372036854775807) (hn' : n' ≤ 9223372036854775807) (o : ¬ MulOk n L n' L') :
    Calls Try.prog 33 #[.slice A n cap, .slice A' n' cap'] w (FailRet w 1) := by
  have H := Lib.hid h
  have H' := Lib.hid h'
  by_cases o1 : Ok n L
  · by_cases o2 : Ok n' L'
    · have e : L 0 ≠ n' := fun e => o ⟨o1, o2, e⟩
      obtain ⟨ad, rfl, hb, hc0, _, _⟩ := h.row (r := 0) o1.1
      rw [add_zero] at hc0
      have p0 : 0 < n := o1.1
      have e1 : ((L 0 : Int) != (n' : Int)) = true := by rw [bne_iff_ne]; omega
      have O1 := Lib.hid o1
      have O2 := Lib.hid o2
      clear h h' o o1 o2 e
      go_enter Try.func33, Try.ntmps33
      go_wp2_with fail
      refine (refMay_yes H.out O1.out).mono ?_; rintro e w1 ⟨rfl, q1, rfl⟩
      go_wp2_with fail
      refine (refMay_yes (H'.out.drewN _) O2.out).mono ?_; rintro e w2 ⟨rfl, q2, rfl⟩
      go_wp2
      go_ret2
      exact ⟨rfl, below_drewN (Below.refl _ _) _⟩
    · have O1 := Lib.hid o1
      have O2 := Lib.hid o2
      clear h h' o o1 o2
      go_enter Try.func33, Try.ntmps33
      go_wp2_with fail
      refine (refMay_yes H.out O1.out).mono ?_; rintro e w1 ⟨rfl, q1, rfl⟩
      go_wp2_with fail
      refine (refMay_no (H'.out.drewN _) hn' O2.out).mono ?_; rintro e w2 ⟨rfl, q2, rfl⟩
      go_wp2
      go_ret2
      exact ⟨rfl, below_drewN (Below.refl _ _) _⟩
  · have O1 := Lib.hid o1
    clear h h' o o1
    go_enter Try.func33, Try.ntmps33
    go_wp2_with fail
    refine (refMay_no H.out hn O1.out).mono ?_; rintro e w1 ⟨rfl, q1, rfl⟩
    go_wp2_with fail
    refine (refMay_any (H'.out.drewN _) hn').mono ?_; rintro e w2 ⟨rfl, q2, rfl⟩
    go_wp2
    go_ret2
    exact ⟨rfl, below_drewN (Below.refl _ _) _⟩
theorem refMul_all (h : Mt w w.heap.size A n L RA RC F) (h' : Mt w w.heap.size A' n' L' RA' RC' F') (hn : n ≤ 9223372036854775807) (hn' : n' ≤ 9223372036854775807) :
    (MulOk n L n' L' ∧ Calls Try.prog 33 #[.slice A n cap, .slice A' n' cap'] w (MadeRet w n (L' 0) (mm n' F F'))) ∨
    (¬ MulOk n L n' L' ∧ Calls Try.prog 33 #[.slice A n cap, .slice A' n' cap'] w (FailRet w 1)) := by
  by_cases o : MulOk n L n' L'
  · exact .inl ⟨o, (refMul_yes h h' o).mono fun _ _ hh => hh.made o.1.1⟩
  · exact .inr ⟨o, refMul_no h h' hn hn' o⟩
end
end Go.Proofs.Ytohbijjkkadbaaa.Mat
