/- The document's own Rebuild: walked. -/
import Derived.Test.YtohbijjkkadbaaaCodQ
import Derived.Laws.AppendOwnNone
import Derived.Deep.CutBlock
import Derived.Deep.DeepCutAuto
namespace Go.Proofs.Ytohbijjkkadbaaa.Mat
open Go.RowKit Fld

section
variable {A : Option Addr} {len cap : Nat} {I : Nat → Int} {S : Nat → ByteArray} {w : World} {k m : Nat}
set_option maxRecDepth 100000 in
theorem refRebuild_no1 {k m : Int} (h : MayB k m = false) : Calls Try.prog 24 #[.int .i64 k, .int .i64 m, .slice A len cap] w (FailRet w 1) := by
  have HM := Lib.hid h; clear h
  go_enter Try.func24, Try.ntmps24
  go_wp2_with fail
  refine (refTable_no _ _ HM.out _).mono ?_; rintro e w1 ⟨rfl, hB⟩
  have HB := Lib.hid hB; clear hB
  go_wp2
  go_ret2
  exact ⟨rfl, HB.out⟩

set_option maxRecDepth 1000000 in
set_option maxHeartbeats 6400000 in
theorem refRebuild_yes (hP : Pc w w.heap.size A len I S) (hl : len ≤ 40) (h1 : 1 ≤ k) (h2 : k + m ≤ 32) (hz : ∀ i, i < len → (S i).size ≤ 140737488351232) :
    Calls Try.prog 24 #[.int .i64 (k : Int), .int .i64 (m : Int), .slice A len cap] w (RebRet w k m len I S) := by
  have ws : IntKind.i64.wrap ((k : Int) + (m : Int)) = (k : Int) + (m : Int) := IntWalk.i64_in _ (by omega)
  have HP := Lib.hid hP; clear hP
  have HZ := Lib.hid hz; clear hz
  go_enter Try.func24, Try.ntmps24
  go_wp2_with fail
  refine (refTable_yes k m h1 h2 _).mono ?_; rintro e w1 ⟨A1, c1, RA1, RC1, rfl, hM1, hB1⟩
  have HB1 := Lib.hid hB1
  have HP1 := Lib.hid (HP.out.up hB1)
  have HM1 := Lib.hid hM1
  clear hM1 hB1 HP
  go_wp2
  go_loopg [10] len (fun gh v wr => ∃ i q, i ≤ len ∧ gh = len - i ∧ v = .int .i64 (i : Nat) ∧ wr = w1.drewN q ∧ Good I (k + m) i)
  case atStart => exact ⟨0, 0, Nat.zero_le _, rfl, rfl, rfl, fun j hj => absurd hj (by omega)⟩
  case round =>
    obtain ⟨i, q, hi, rfl, rfl, rfl, hG⟩ := hrel
    have HG := Lib.hid hG; clear hG
    by_cases hil : i < len
    · have hiz : (i : Int) < (len : Int) := by omega
      obtain ⟨ad, rfl, hb, k0, _⟩ := HP1.out.at_ hil
      by_cases a1 : I i < 0
      · have g1 : decide (I i < 0) = true := decide_eq_true a1
        have HN : Hid (¬ Good I (k + m) len) := Lib.hid (fun h => by have := (h i hil).1; omega)
        clear a1
        go_wp2
        go_ret2
        exact .inl ⟨HN.out, rfl, below_drewN HB1.out _⟩
      · have g1 : decide (I i < 0) = false := decide_eq_false a1
        by_cases a2 : (k : Int) + (m : Int) ≤ I i
        · have g2 : decide ((k : Int) + (m : Int) ≤ I i) = true := decide_eq_true a2
          have HN : Hid (¬ Good I (k + m) len) := Lib.hid (fun h => by have := (h i hil).1; omega)
          clear a1 a2
          go_wp2
          go_ret2
          exact .inl ⟨HN.out, rfl, below_drewN HB1.out _⟩
        · have g2 : decide ((k : Int) + (m : Int) ≤ I i) = false := decide_eq_false a2
          have HI : Hid (0 ≤ I i ∧ I i < ((k + m : Nat) : Int)) := Lib.hid (by omega)
          clear a1 a2
          go_wp2
          clear g1 g2
          go_loopg [11] i (fun gh v wi => ∃ j q, j ≤ i ∧ gh = i - j ∧ v = .int .i64 (j : Nat) ∧ wi = w1.drewN q ∧ ∀ q, q < j → I q ≠ I i)
          case atStart => exact ⟨0, q, Nat.zero_le _, rfl, rfl, rfl, fun j hj => absurd hj (by omega)⟩
          case round =>
            obtain ⟨j, q, hj, rfl, rfl, rfl, hne⟩ := hrel
            have HNE := Lib.hid hne; clear hne
            by_cases hji : j < i
            · have g1 : decide ((j : Int) < (i : Int)) = true := by simp; omega
              have g2 : decide ((j : Int) < 40) = true := by simp; omega
              have hjl : (j : Int) < (len : Int) := by omega
              obtain ⟨ad', hA, _, k3, _⟩ := HP1.out.at_ (r := j) (by omega)
              injection hA with hA
              subst hA
              by_cases he : I i = I j
              · have e1 : (I i == I j) = true := by simpa using he
                have HN : Hid (¬ Good I (k + m) len) := Lib.hid (fun h => (h i hil).2 j hji he.symm)
                clear he
                go_wp2_with fail
                go_quiet (fail)
                go_wp2
                go_ret2
                exact .inl ⟨HN.out, rfl, below_drewN (below_drewN HB1.out _) _⟩
              · have e1 : (I i == I j) = false := by simpa using he
                have HE := Lib.hid he; clear he
                go_wp2_with fail
                go_quiet (fail)
                go_wp2
                go_roundg (i - (j + 1))
                case measure => go_light; omega
                case rel => go_light; exact ⟨j + 1, _, by omega, rfl, by simp, rfl, fun q hq => by
                  by_cases e : q = j
                  · subst e; exact fun e2 => HE.out e2.symm
                  · exact HNE.out q (by omega)⟩
            · have g1 : decide ((j : Int) < (i : Int)) = false := by simp; omega
              obtain rfl : j = i := by omega
              go_wp2
              go_roundg (len - (j + 1))
              case measure => go_light; omega
              case rel => go_light; exact ⟨j + 1, _, by omega, rfl, by simp, rfl, fun q hq => by
                by_cases e : q = j
                · subst e; exact ⟨HI.out, HNE.out⟩
                · exact HG.out q (by omega)⟩
    · have hiz : ¬ (i : Int) < (len : Int) := by omega
      obtain rfl : i = len := by omega
      by_cases hlen : i < k
      · have g1 : (i : Int) < (k : Int) := by omega
        go_wp2
        go_ret2
        exact .inr (.inl ⟨HG.out, hlen, rfl, below_drewN HB1.out _⟩)
      · have g1 : ¬ (i : Int) < (k : Int) := by omega
        have p0 : 0 < i := by omega
        obtain ⟨ad, rfl, hb, _, _⟩ := HP1.out.at_ p0
        have z2 := HP1.out.first p0
        go_wp2
        go_loopg [12] i (fun gh v wi => ∃ j q, j ≤ i ∧ gh = i - j ∧ v = .int .i64 (j : Nat) ∧ wi = w1.drewN q ∧ ∀ q, q < j → (S q).size = (S 0).size)
        case atStart => exact ⟨0, q, Nat.zero_le _, rfl, rfl, rfl, fun j hj => absurd hj (by omega)⟩
        case round =>
          obtain ⟨j, q, hj, rfl, rfl, rfl, hne⟩ := hrel
          have HNE := Lib.hid hne; clear hne
          by_cases hji : j < i
          · have hjl : (j : Int) < (i : Int) := by omega
            obtain ⟨ad', hA, _, _, k3⟩ := HP1.out.at_ (r := j) (by omega)
            injection hA with hA
            subst hA
            by_cases he : (S j).size = (S 0).size
            · have e1 := same_lens (L := fun i => (S i).size) (k := j) he
              have He := Lib.hid he; clear he
              go_wp2_with fail
              go_quiet (fail)
              go_wp2
              go_roundg (i - (j + 1))
              case measure => go_light; omega
              case rel => go_light; exact ⟨j + 1, _, by omega, rfl, by simp, rfl, fun r hr => by
                by_cases e : r = j
                · subst e; exact He.out
                · exact HNE.out r (by omega)⟩
            · have e1 := not_lens (L := fun i => (S i).size) (k := j) he
              have HF : Hid (¬ Even i S) := Lib.hid (fun h => he (h j hji))
              clear he
              go_wp2_with fail
              go_quiet (fail)
              go_wp2
              go_ret2
              exact .inr (.inr (.inl ⟨HG.out, by omega, HF.out, rfl, below_drewN (below_drewN HB1.out _) _⟩))
          · have hjl : ¬ (j : Int) < (i : Int) := by omega
            obtain rfl : j = i := by omega
            clear z2
            have HE : Hid (Even j S) := Lib.hid (fun r hr => HNE.out r hr)
            have HB3 := Lib.hid (below_drewN HB1.out q)
            have HP3 : Hid (Pc (w1.drewN q) (w1.drewN q).heap.size (some ad) j I S) := Lib.hid HP1.out
            have HM3 : Hid (Mt (w1.drewN q) (w1.drewN q).heap.size A1 (k + m) (fun _ => k) RA1 RC1 (tab k)) := Lib.hid HM1.out
            clear HB1 HP1 HM1 HNE
            generalize w1.drewN q = w3 at *
            obtain ⟨i0, hi0, hz0, hz1, hz2⟩ := info_parts infoRow
            obtain ⟨j0, hj0, jz0, jz1, jz2⟩ := info_parts infoStr
            go_upto_block 6 with fail
            go_cut [13, 14] from 97 (fun s13 s14 wx => ∃ idx, idx ≤ k + m ∧ cnt (num I j) idx = k ∧ Chosen w3 wx 55 s13 ((ch (num I j) idx).map fun r => .slice (RA1 r) k (RC1 r)) ∧ Chosen w3 wx 9 s14 ((ch (num I j) idx).map fun r => .string (txt I S j r)))
            case first =>
              go_wp2_with fail
              go_loopg [13, 14, 15] (k + m) (fun gh v1 v2 v wr => ∃ idx, idx ≤ k + m ∧ gh = k + m - idx ∧ v = .int .i64 (idx : Nat) ∧ cnt (num I j) idx ≤ k ∧ Chosen w3 wr 55 v1 ((ch (num I j) idx).map fun r => .slice (RA1 r) k (RC1 r)) ∧ Chosen w3 wr 9 v2 ((ch (num I j) idx).map fun r => .string (txt I S j r)))
              case atStart => exact ⟨0, Nat.zero_le _, rfl, rfl, Nat.zero_le _, Chosen.start w3 _, Chosen.start w3 _⟩
              case round =>
                obtain ⟨idx, hidx, rfl, rfl, hcnt, hC1, hC2⟩ := hrel
                obtain ⟨A2, c2, rfl, _, _, _⟩ := hC2.has (n := cnt (num I j) idx) (f := fun i => .string (txt I S j (pk (num I j) idx i))) (by simp [cnt]) (fun i hi => by rw [List.getElem?_map, pk_get hi]; rfl)
                have HC1 := Lib.hid hC1
                have HC2 := Lib.hid hC2
                clear hC1 hC2
                by_cases hin : idx < k + m
                · have g1' : decide ((idx : Int) < (k : Int) + (m : Int)) = true := by simp; omega
                  by_cases hck : cnt (num I j) idx < k
                  · have g2 : decide ((cnt (num I j) idx : Int) < (k : Int)) = true := by simp; omega
                    go_wp2
                    clear g1' g2
                    obtain ⟨wo, rfl⟩ : ∃ wo : World, wo = wr := ⟨_, rfl⟩
                    go_loopg [13, 14, 16] j (fun gh v1 v2 v wi => ∃ i, i ≤ j ∧ gh = j - i ∧ v = .int .i64 (i : Nat) ∧ Chosen w3 wi 55 v1 (lst (num I j) I (fun r => .slice (RA1 r) k (RC1 r)) idx i) ∧ Chosen w3 wi 9 v2 (lst (num I j) I (fun r => .string (txt I S j r)) idx i))
                    case atStart => exact ⟨0, Nat.zero_le _, rfl, rfl, by rw [lst_zero]; exact HC1.out, by rw [lst_zero]; exact HC2.out⟩
                    case round =>
                      obtain ⟨i, hi, rfl, rfl, hD1, hD2⟩ := hrel
                      have HD1 := Lib.hid hD1
                      have HD2 := Lib.hid hD2
                      clear hD1 hD2
                      by_cases hij : i < j
                      · have hiz : (i : Int) < (j : Int) := by omega
                        obtain ⟨ad', hA, hb', k0, k2⟩ := (HP3.out.below HD1.out.below HD1.out.below.size).at_ hij
                        injection hA with hA
                        subst hA
                        by_cases he : I i = (idx : Int)
                        · have e1 : (I i == (idx : Int)) = true := by simpa using he
                          obtain ⟨ad1, rfl, hb1, q0, _, _⟩ := HM3.out.row hin
                          rw [← HD1.out.below.cell (by rw [block_of_add]; exact hb1)] at q0
                          have HQ := Lib.hid (HP3.out)
                          have HTX : Hid (txt I S j idx = S i) := Lib.hid (by have := txt_at (S := S) HG.out hij; rw [he] at this; exact this)
                          have HT1 := Lib.hid (lst_take (E := fun r => .slice (RA1 r) k (RC1 r)) (p := num I j) (good_less HG.out (show i + 1 ≤ j by omega)) he)
                          have HT2 := Lib.hid (lst_take (E := fun r => .string (txt I S j r)) (p := num I j) (good_less HG.out (show i + 1 ≤ j by omega)) he)
                          have hl1 := lst_len (num I j) I (fun r => .slice (RA1 r) k (RC1 r)) idx i
                          have hl2 := lst_len (num I j) I (fun r => .string (txt I S j r)) idx i
                          have HL1 := Lib.hid hl1
                          have HL2 := Lib.hid hl2
                          clear hl1 hl2 he k2
                          go_wp2_with (at_builtin; refine wpList_append_own _ rfl (.tmp 123) (.tmp 128) 23 rfl w3.heap.size 55 i0 (.slice none 0 0) 1 24 Try.underlying23 hi0 hz0 hz1 hz2 rfl (by decide) _ _ _ rfl (HD1.out.own.alloc _) ⟨wr.heap.size, 0, none⟩ 1 1 [.slice (RA1 idx) k (RC1 idx)] rfl rfl (one_news _ _) (by simp [Value.oneCell']) (by have := HL1.out; unfold maxLen; omega) (by have := HL1.out; omega) (by rw [size_alloc]; have := HD1.out.below.size; omega) ?_)
                          intro v' w' hown hgrow _
                          have HN1 := Lib.hid (HD1.out.next (Below.refl _ _) hown hgrow)
                          have HN2 := Lib.hid (HD2.out.other HD1.out (by decide) rfl hgrow)
                          clear hown hgrow
                          obtain ⟨ad'', hA, _, _, k3⟩ := (HP3.out.below HN1.out.below HN1.out.below.size).at_ hij
                          injection hA with hA
                          subst hA
                          go_wp2_with (at_builtin; refine wpList_append_own _ rfl (.tmp 130) (.tmp 136) 31 rfl w3.heap.size 9 j0 (.string ByteArray.empty) 1 16 Try.underlying31 hj0 jz0 jz1 jz2 rfl (by decide) _ _ _ rfl (HN2.out.own.alloc _) ⟨w'.heap.size, 0, none⟩ 1 1 [.string (S i)] rfl rfl (one_news _ _) (by simp [Value.oneCell']) (by have := HL2.out; unfold maxLen; omega) (by have := HL2.out; omega) (by rw [size_alloc]; have := HN2.out.below.size; omega) ?_)
                          intro v'' w'' hown hgrow _
                          have HO1 := Lib.hid (HN1.out.other HN2.out (by decide) rfl hgrow)
                          have HO2 := Lib.hid (HN2.out.next (Below.refl _ _) hown hgrow)
                          clear hown hgrow
                          go_wp2
                          go_roundg (j - (i + 1))
                          case measure => go_light; omega
                          case rel => go_light; exact ⟨i + 1, by omega, rfl, by simp, by rw [HT1.out]; exact HO1.out, by rw [HT2.out, HTX.out]; exact HO2.out⟩
                        · have e1 : (I i == (idx : Int)) = false := by simpa using he
                          have HT1 := Lib.hid (lst_skip (E := fun r => .slice (RA1 r) k (RC1 r)) (p := num I j) he)
                          have HT2 := Lib.hid (lst_skip (E := fun r => .string (txt I S j r)) (p := num I j) he)
                          clear he k2
                          go_wp2
                          go_roundg (j - (i + 1))
                          case measure => go_light; omega
                          case rel => go_light; exact ⟨i + 1, by omega, rfl, by simp, by rw [HT1.out]; exact HD1.out, by rw [HT2.out]; exact HD2.out⟩
                      · have hiz : ¬ (i : Int) < (j : Int) := by omega
                        obtain rfl : i = j := by omega
                        go_wp2
                        go_roundg (k + m - (idx + 1))
                        case measure => go_light; omega
                        case rel => go_light; exact ⟨idx + 1, by omega, rfl, by simp, by have := cnt_step (num I i) idx; omega, by rw [← lst_end]; exact HD1.out, by rw [← lst_end]; exact HD2.out⟩
                  · have g2 : decide ((cnt (num I j) idx : Int) < (k : Int)) = false := by simp; omega
                    go_wp2
                    go_meet
                    case rel => exact ⟨idx, by omega, by omega, HC1.out, HC2.out⟩
                · have g1' : decide ((idx : Int) < (k : Int) + (m : Int)) = false := by simp; omega
                  have hck : cnt (num I j) idx = k := by
                    obtain rfl : idx = k + m := by omega
                    have := cnt_num HG.out
                    omega
                  go_wp2
                  go_meet
                  case rel => exact ⟨idx, by omega, hck, HC1.out, HC2.out⟩
            case rest =>
              obtain ⟨idx, hidx, hck, hC1, hC2⟩ := hcut
              obtain ⟨A13, c13, rfl, _, hM13⟩ := hC1.mt (A := A1) (L := fun _ => k) (RA := RA1) (RC := RC1) (F := tab k) (n := idx) (HM3.out.less hidx)
              obtain ⟨A14, c14, rfl, _, hS14⟩ := hC2.st (S := txt I S j) (n := idx)
              rw [hck] at hM13 hS14 ⊢
              have epk : ∀ r, r < k → pk (num I j) idx r = pkn I (k + m) j r := fun r hr => (pk_prefix hidx (by omega)).symm
              have M13 := Lib.hid (hM13.congr (G := fun r c => tab k (pkn I (k + m) j r) c) (fun r c hr _ => by rw [epk r hr]))
              have S14 : Hid (St wc wc.heap.size A14 k (pkt I S (k + m) j)) := Lib.hid (hS14.congr (fun r hr => by unfold pkt; rw [epk r hr]))
              have HBC := Lib.hid (up_trans HB3.out hC1.below)
              have hinv : Inv k (fun r c => tab k (pkn I (k + m) j r) c) := tab_inv (by omega) (fun i hi => by have := pkn_lt HG.out (i := i) (by omega); omega) (fun i j hi hj e => pkn_inj HG.out (by omega) (by omega) e)
              have HI := Lib.hid hinv
              have hp := (even_pk HG.out).2 HE.out
              have HE2 : Hid (Even k (pkt I S (k + m) j)) := Lib.hid (fun i hi => hp i (by omega))
              have hz0 : (pkt I S (k + m) j 0).size ≤ 140737488351232 := by
                obtain ⟨q, hq, _, e⟩ := pkt_of (S := S) HG.out (i := 0) (by omega)
                rw [e]; exact HZ.out q hq
              have HZ0 := Lib.hid hz0
              clear hC1 hC2 hM13 hS14 epk hinv hp hz0 HB3 HM3
              go_wp2_with fail
              refine (refInverse_ok M13.out (ok_sq h1 (by omega)) rfl).mono ?_; rintro e w4 (⟨_, A4, c4, RA4, RC4, rfl, hM4, hB4⟩ | ⟨hno, _⟩)
              rotate_left
              · exact absurd HI.out hno
              have M4 := Lib.hid hM4
              have S4 := Lib.hid (S14.out.up hB4)
              have HB4 := Lib.hid (up_trans HBC.out hB4)
              clear hM4 hB4 HBC S14 M13 HI
              go_wp2
              go_loopg [19, 20] k (fun gh v i wr => ∃ r, r ≤ k ∧ gh = k - r ∧ i = .int .i64 (r : Nat) ∧ Chosen w4 wr 9 v (txs (dat k (pkn I (k + m) j) (pkt I S (k + m) j)) r))
              case atStart => exact ⟨0, Nat.zero_le _, rfl, rfl, Chosen.start w4 _⟩
              case round =>
                obtain ⟨r, hr, rfl, rfl, hC⟩ := hrel
                have HC := Lib.hid hC
                by_cases hrk : r < k
                · have hrz : (r : Int) < (k : Int) := by omega
                  obtain ⟨ad4, rfl, hb4, k1, _, hR⟩ := M4.out.row hrk
                  rw [← hC.below.cell (by rw [block_of_add]; exact hb4)] at k1
                  have HR := Lib.hid (hR.below hC.below hC.below.size)
                  have S5 := Lib.hid (S4.out.up hC.below)
                  clear hC hR
                  go_wp2_with fail
                  refine (refMix_any S5.out HR.out h1 (by omega) HE2.out HZ0.out).mono ?_; rintro e w5 ⟨rfl, hB5⟩
                  have HB5 := Lib.hid hB5; clear hB5
                  have HC3 := Lib.hid (HC.out.under HB5.out)
                  have hlen := txs_len (dat k (pkn I (k + m) j) (pkt I S (k + m) j)) r
                  have HL := Lib.hid hlen; clear hlen
                  go_wp2_with (at_builtin; refine wpList_append_own _ rfl (.tmp 148) (.tmp 155) 31 rfl w4.heap.size 9 j0 (.string ByteArray.empty) 1 16 Try.underlying31 hj0 jz0 jz1 jz2 rfl (by decide) _ _ _ rfl (HC3.out.own.alloc _) ⟨w5.heap.size, 0, none⟩ 1 1 [.string (mixS k (inv k (fun r c => tab k (pkn I (k + m) j r) c) r) (pkt I S (k + m) j))] rfl rfl (one_news _ _) (by simp [Value.oneCell']) (by rw [HL.out]; unfold maxLen; omega) (by rw [HL.out]; omega) (by rw [size_alloc]; have := HC3.out.below.size; omega) ?_)
                  intro v' w' hown hgrow _
                  have HN := Lib.hid (HC3.out.next (Below.refl _ _) hown hgrow)
                  clear hown hgrow
                  go_wp2
                  go_roundg (k - (r + 1))
                  case measure => go_light; omega
                  case rel => go_light; exact ⟨r + 1, by omega, rfl, by simp, by rw [txs_next]; exact HN.out⟩
                · have hrz : ¬ (r : Int) < (k : Int) := by omega
                  obtain rfl : r = k := by omega
                  obtain ⟨A9, c9, rfl, _, hS9⟩ := hC.texts
                  have S9 := Lib.hid hS9
                  clear hC hS9
                  go_wp2_with fail
                  refine (refEncode_yes S9.out h1 h2 (dat_even _ _ _) (by unfold dat; rw [mixS_size]; exact HZ0.out)).mono ?_; rintro e w6 ⟨A6, c6, rfl, hf6, hS6, hB6⟩
                  have S6 := Lib.hid hS6
                  have HF6 := Lib.hid hf6
                  have HC6 := Lib.hid (HC.out.under hB6)
                  clear hS6 hf6 hB6 HC S9 S4 M4
                  have hlen := txs_len (dat r (pkn I (r + m) j) (pkt I S (r + m) j)) r
                  have HL := Lib.hid hlen; clear hlen
                  cases A6 with
                  | none =>
                    obtain rfl : c6 = 0 := HF6.out.2 rfl
                    obtain rfl : m = 0 := by have := HF6.out.1; omega
                    go_wp2_with (at_builtin; refine wpList_append_own_none rfl (.tmp 164) (.tmp 165) 31 rfl w4.heap.size 9 j0 1 Try.underlying31 hj0 _ _ _ rfl HC6.out.own rfl ?_)
                    obtain ⟨A7, c7, hv7, hf7, hS7⟩ := HC6.out.list (T := reb r (pkn I (r + 0) j) (pkt I S (r + 0) j)) (n := r + 0) HL.out (fun i hi => by rw [txs_get (j := r) (by omega), reb_lo (by omega) _ _ (by omega)])
                    injection hv7 with e1 _ e3
                    subst e1 e3
                    have HF7 := Lib.hid hf7
                    have HS7 := Lib.hid hS7
                    clear hf7 hS7
                    go_wp2
                    go_ret2
                    exact .inr (.inr (.inr ⟨HG.out, by omega, HE.out, _, _, rfl, HF7.out, HS7.out, up_trans HB4.out HC6.out.below⟩))
                  | some ad6 =>
                    go_wp2_with (at_builtin; refine wpList_append_own _ rfl (.tmp 164) (.tmp 165) 31 rfl w4.heap.size 9 j0 (.string ByteArray.empty) 1 16 Try.underlying31 hj0 jz0 jz1 jz2 rfl (by decide) _ _ _ rfl HC6.out.own ad6 m c6 (txs (fun q => enc r (dat r (pkn I (r + m) j) (pkt I S (r + m) j)) (r + q)) m) rfl (by rw [txs_len]; omega) (st_news S6.out) (txs_one _ _) (by rw [HL.out]; unfold maxLen; omega) (by rw [HL.out]; omega) HC6.out.below.size ?_)
                    intro v' w' hown hgrow _
                    have HN := HC6.out.more (by rw [txs_len, txs_len]) hown hgrow
                    obtain ⟨A7, c7, rfl, hf7, hS7⟩ := HN.list (T := reb r (pkn I (r + m) j) (pkt I S (r + m) j)) (n := r + m) (by rw [List.length_append, txs_len, txs_len]) (fun i hi => txs_both (fun i hi => reb_lo (by omega) _ _ hi) (fun i hi => reb_dat _ _ _ _) hi)
                    have HN := Lib.hid HN.below
                    have HS7 := Lib.hid hS7
                    have HF7 := Lib.hid hf7
                    clear hown hgrow hS7 hf7
                    go_wp2
                    go_ret2
                    exact .inr (.inr (.inr ⟨HG.out, by omega, HE.out, _, _, rfl, HF7.out, HS7.out, up_trans HB4.out HN.out⟩))
end
end Go.Proofs.Ytohbijjkkadbaaa.Mat
