/- The law CodeSums: walked. -/
import Derived.Test.YtohbijjkkadbaaaCodX
namespace Go.Proofs.Ytohbijjkkadbaaa.Mat
open Go.RowKit Fld

theorem below_of_drew {B : Nat} {a w : World} (h : Below B a.drew w) : Below B a w := ⟨h.os, h.tape, h.output, h.size, h.block⟩
theorem encE_yes {k m : Int} {n : Nat} {S : Nat → ByteArray} (h : encE k m n S = 0) : ∃ m' : Nat, m = m' ∧ k = n ∧ 1 ≤ n ∧ n + m' ≤ 32 ∧ Even n S := by
  rcases enc_cases k m n S with ⟨_, e⟩ | ⟨_, _, e⟩ | ⟨_, _, _, e⟩ | ⟨m', h1, h2, h3, h4, h5, _⟩
  · rw [h] at e; exact absurd e (by decide)
  · rw [h] at e; exact absurd e (by decide)
  · rw [h] at e; exact absurd e (by decide)
  · exact ⟨m', h1, h2.symm, h3, h4, h5⟩
theorem St.cell0 {w : World} {B n : Nat} {ad : Addr} {S : Nat → ByteArray} (h : St w B (some ad) n S) (hn : 0 < n) : w.cell? ad = some (.string (S 0)) := by
  obtain ⟨ad', e, _, hc⟩ := h.at_ hn
  injection e with e
  subst e
  rwa [add_zero] at hc

set_option maxRecDepth 1000000 in
set_option maxHeartbeats 6400000 in
theorem lawSums {w : World} (k m : Int) (A : Option Addr) (n cap : Nat) (S : Nat → ByteArray) (A' : Option Addr) (n' cap' : Nat) (S' : Nat → ByteArray) (k0 : -9223372036854775808 ≤ k) (k1 : k ≤ 9223372036854775807) (m0 : -9223372036854775808 ≤ m) (m1 : m ≤ 9223372036854775807)
    (hn : StOk n cap S) (hS : St w w.heap.size A n S) (hn' : StOk n' cap' S') (hS' : St w w.heap.size A' n' S') :
    Calls Try.prog 8 #[.agg #[.int .i64 k, .int .i64 m, .slice A n cap, .slice A' n' cap']] w fun e w' => e = .returned (.bool true) ∧ Below w.heap.size w w' := by
  obtain ⟨j0, hj0, jz0, jz1, jz2⟩ := info_parts infoStr
  obtain ⟨_, hl, hz⟩ := hn
  obtain ⟨_, hl', hz'⟩ := hn'
  have HZ := Lib.hid hz
  have HZ' := Lib.hid hz'
  have HZ0 : Hid (0 < n → (S 0).size ≤ 140737488351232) := Lib.hid (fun h => hz 0 h)
  have HZ0' : Hid (0 < n' → (S' 0).size ≤ 140737488351232) := Lib.hid (fun h => hz' 0 h)
  have HS := Lib.hid hS
  have HS' := Lib.hid hS'
  clear hz hz' hS hS'
  generalize hE : encE k m n S = E
  generalize hE' : encE k m n' S' = E'
  have HE := Lib.hid hE
  have HE' := Lib.hid hE'
  clear hE hE'
  go_enter Try.func8, Try.ntmps8
  go_wp2_with fail
  have hb0 : Below w.heap.size w (w.alloc (.cells #[.int .i64 k, .int .i64 m, .slice A n cap, .slice A' n' cap'] 50)) := (Below.refl _ _).alloc (Nat.le_refl _) _
  generalize w.alloc (.cells #[.int .i64 k, .int .i64 m, .slice A n cap, .slice A' n' cap'] 50) = w0 at *
  refine (codeShown_any _).mono ?_; rintro e w1 ⟨rfl, hb1⟩
  have B1 := Lib.hid (up_trans hb0 hb1)
  have S1 := Lib.hid (HS.out.up (up_trans hb0 hb1))
  have S1' := Lib.hid (HS'.out.up (up_trans hb0 hb1))
  clear hb0 hb1 HS HS'
  go_wp2_with fail
  refine (small_any S1.out).mono ?_; rintro e w2 ⟨b, rfl, rfl⟩
  go_wp2_with fail
  refine (small_any S1'.out).mono ?_; rintro e w2 ⟨b', rfl, rfl⟩
  go_wp2_with fail
  refine (encode_any S1.out hl ⟨k0, k1⟩ ⟨m0, m1⟩ HZ0.out).mono ?_; rintro e w2 ⟨A2, c2, rfl, _, hS2, hb2⟩
  rw [HE.out]
  have B2 := Lib.hid (up_trans B1.out hb2)
  have S2 := Lib.hid (S1.out.up hb2)
  have S2' := Lib.hid (S1'.out.up hb2)
  have T2 := Lib.hid hS2
  clear hb2 hS2 B1 S1 S1'
  go_wp2_with fail
  refine (encode_any S2'.out hl' ⟨k0, k1⟩ ⟨m0, m1⟩ HZ0'.out).mono ?_; rintro e w3 ⟨A3, c3, rfl, _, hS3, hb3⟩
  rw [HE'.out]
  have B3 := Lib.hid (up_trans B2.out hb3)
  have S3 := Lib.hid (S2.out.up hb3)
  have S3' := Lib.hid (S2'.out.up hb3)
  have T3 := Lib.hid (T2.out.up hb3)
  have T3' := Lib.hid hS3
  clear hb3 hS3 B2 S2 S2' T2
  cases b
  · go_wp2_with fail
    go_quiet (fail)
    go_wp2
    go_ret
    exact ⟨rfl, below_drewN B3.out _⟩
  · cases b'
    · go_wp2_with fail
      go_quiet (fail)
      go_wp2
      go_ret
      exact ⟨rfl, below_drewN B3.out _⟩
    · by_cases hE : E = 0
      · subst hE
        by_cases hE' : E' = 0
        · subst hE'
          obtain ⟨m, rfl, rfl, h1, h2, hev⟩ := encE_yes HE.out
          obtain ⟨m2, hm2, hnn, _, _, hev'⟩ := encE_yes HE'.out
          clear hm2
          obtain rfl : n = n' := by omega
          have hLn := encL_yes HE.out
          have hLn' := encL_yes HE'.out
          rw [hLn] at T3 ⊢
          rw [hLn'] at T3' ⊢
          obtain ⟨ad, rfl, _, _⟩ := S3.out.at_ (r := 0) h1
          obtain ⟨ad', rfl, _, _⟩ := S3'.out.at_ (r := 0) h1
          have z1 := S3.out.cell0 h1
          have z2 := S3'.out.cell0 h1
          have p0 : 0 < n := h1
          by_cases hsz : (S 0).size = (S' 0).size
          · have e1 : (((S 0).size : Int) != ((S' 0).size : Int)) = false := by rw [bne_eq_false_iff_eq]; omega
            have HV := Lib.hid hev
            have HV' := Lib.hid hev'
            have HSZ := Lib.hid hsz
            clear hLn hLn' hnn hev hev' hsz HE HE'
            go_wp2_with fail
            go_quiet (fail)
            clear z1 z2 e1
            have B4 := Lib.hid (below_drewN B3.out nq)
            have S4 : Hid (St (w3.drewN nq) (w3.drewN nq).heap.size (some ad) n S) := Lib.hid S3.out
            have S4' : Hid (St (w3.drewN nq) (w3.drewN nq).heap.size (some ad') n S') := Lib.hid S3'.out
            have T4 : Hid (St (w3.drewN nq) (w3.drewN nq).heap.size A2 m (fun r => enc n S (n + r))) := Lib.hid T3.out
            have T4' : Hid (St (w3.drewN nq) (w3.drewN nq).heap.size A3 m (fun r => enc n S' (n + r))) := Lib.hid T3'.out
            clear B3 S3 S3' T3 T3'
            generalize w3.drewN nq = w4 at *
            go_wp2
            go_loopg [14, 15] n (fun gh v i wr => ∃ j, j ≤ n ∧ gh = n - j ∧ i = .int .i64 (j : Nat) ∧ Chosen w4 wr 9 v (txs (fun r => xs (S r) (S' r)) j))
            case atStart => exact ⟨0, Nat.zero_le _, rfl, rfl, Chosen.start w4 _⟩
            case round =>
              obtain ⟨j, hj, rfl, rfl, hC⟩ := hrel
              have HC := Lib.hid hC
              by_cases hjn : j < n
              · have hjz : (j : Int) < (n : Int) := by omega
                have keep : ∀ W, Below w4.heap.size w4 W → W.cell? (ad.add j) = some (.string (S j)) ∧ W.cell? (ad'.add j) = some (.string (S' j)) := fun W hW => by
                  obtain ⟨q, hq, _, d1⟩ := (S4.out.below hW hW.size).at_ hjn
                  injection hq with hq; subst hq
                  obtain ⟨q, hq, _, d2⟩ := (S4'.out.below hW hW.size).at_ hjn
                  injection hq with hq; subst hq
                  exact ⟨d1, d2⟩
                have HK := Lib.hid keep
                obtain ⟨d1, d2⟩ := keep _ hC.below
                have HZJ := Lib.hid (HZ.out j hjn)
                have hbase := hC.below.size
                have HBS := Lib.hid hbase
                clear hC hbase keep
                go_wp2_with fail
                go_region_held3 (fun W => W.cell? (ad.add j) = some (.string (S j)) ∧ W.cell? (ad'.add j) = some (.string (S' j)))
                  (first | exact ⟨d1, d2⟩ | exact HK.out _ HX.out.below | exact HK.out _ (HX.out.below.alloc HX.out.below.size _) | exact HK.out _ HN.out.below | go_keep)
                  (first
                    | (go_at_call 25; ((with_reducible refine Calls.mono (xor_any _ _ HZJ.out _) ?_); rintro e w5 ⟨rfl, hb5⟩; have HX := Lib.hid (HC.out.under (below_of_drew hb5))))
                    | (refine step_append_lies _ (by rfl) _ _ _ (by rfl) w4.heap.size 9 j0 _ 1 16 Try.underlying31 hj0 jz0 jz1 jz2 rfl (by omega) u14 j (txs (fun r => xs (S r) (S' r)) j) (by rfl) (by have := HX.out.own; rw [txs_len] at this; exact this.alloc _)
                        ⟨w5.heap.size, 0, none⟩ 1 1 [.string (xs (S j) (S' j))] (by rfl) (by rfl) (one_news (w := w5) _ _) (by simp [Value.oneCell']) (by omega) (by unfold maxLen; omega) (by omega) (by have := HX.out.below.size; simp; omega) (w5.heap.size + 1) (by simp) ?_; intro gg cp w6 hown1 hgrow hat hlt; have HN := Lib.hid (HX.out.next (Below.refl _ _) (by rw [txs_len]; exact hown1) hgrow)))
                all_goals
                  go_wp2
                  go_roundg (n - (j + 1))
                  case measure => go_light; omega
                  case rel => go_light; exact ⟨j + 1, by omega, rfl, by simp, by rw [txs_next]; exact HN.out⟩
              · have hjz : ¬ (j : Int) < (n : Int) := by omega
                obtain rfl : j = n := by omega
                obtain ⟨A5, c5, rfl, _, hS5⟩ := hC.texts
                have S5 := Lib.hid hS5
                have B5 := Lib.hid (up_trans B4.out hC.below)
                have T5 := Lib.hid (T4.out.up hC.below)
                have T5' := Lib.hid (T4'.out.up hC.below)
                clear hC hS5 HC B4 T4 T4' S4 S4'
                have hz5 : (xs (S 0) (S' 0)).size ≤ 140737488351232 := by
                  rw [xs_size]
                  have := HZ.out 0 h1
                  omega
                have HZ5 := Lib.hid hz5
                have HEV := Lib.hid (xs_even HV.out HV'.out)
                clear hz5
                go_wp2_with fail
                have hcall := encode_yes (cap := c5) (m := m) S5.out h1 h2 HEV.out HZ5.out
                refine hcall.mono ?_; rintro e w6 ⟨A6, c6, rfl, _, hS6, hb6⟩
                clear hcall
                have B6 := Lib.hid (up_trans B5.out hb6)
                have T6 := Lib.hid (T5.out.up hb6)
                have T6' := Lib.hid (T5'.out.up hb6)
                have X6 : Hid (St w6 w6.heap.size A6 m (fun r => xs (enc j S (j + r)) (enc j S' (j + r)))) := Lib.hid (hS6.congr (fun r _ => enc_xs HV.out HV'.out HSZ.out _))
                clear hS6 hb6 B5 T5 T5' S5
                have g1 : ((m : Int) != (m : Int)) = false := by rw [bne_eq_false_iff_eq]
                go_wp2
                go_loopg [18] m (fun gh i wr => ∃ r, r ≤ m ∧ gh = m - r ∧ i = .int .i64 (r : Nat) ∧ Below w6.heap.size w6 wr)
                case atStart => exact ⟨0, Nat.zero_le _, rfl, rfl, Below.refl _ _⟩
                case round =>
                  obtain ⟨r, hr, rfl, rfl, hB⟩ := hrel
                  have HB := Lib.hid hB
                  by_cases hrm : r < m
                  · have hrz : (r : Int) < (m : Int) := by omega
                    obtain ⟨a1, rfl, l1, d1⟩ := (T6.out.below hB hB.size).at_ hrm
                    obtain ⟨a2, rfl, l2, d2⟩ := (T6'.out.below hB hB.size).at_ hrm
                    obtain ⟨a3, rfl, l3, d3⟩ := (X6.out.below hB hB.size).at_ hrm
                    have hzz : (enc j S (j + r)).size ≤ 140737488351232 := by rw [enc_size]; exact HZ.out 0 h1
                    have HZZ := Lib.hid hzz
                    obtain ⟨t1, t2⟩ := str_yes (rfl : xs (enc j S (j + r)) (enc j S' (j + r)) = xs (enc j S (j + r)) (enc j S' (j + r)))
                    have keep : ∀ W W', Below W.heap.size W W' → wr.heap.size ≤ W.heap.size → (W.cell? (a1.add r) = some (.string (enc j S (j + r))) ∧ W.cell? (a2.add r) = some (.string (enc j S' (j + r))) ∧ W.cell? (a3.add r) = some (.string (xs (enc j S (j + r)) (enc j S' (j + r))))) →
                        (W'.cell? (a1.add r) = some (.string (enc j S (j + r))) ∧ W'.cell? (a2.add r) = some (.string (enc j S' (j + r))) ∧ W'.cell? (a3.add r) = some (.string (xs (enc j S (j + r)) (enc j S' (j + r))))) := fun W W' hW hs h =>
                      ⟨(hW.cell (by rw [block_of_add]; omega)).trans h.1, (hW.cell (by rw [block_of_add]; omega)).trans h.2.1, (hW.cell (by rw [block_of_add]; omega)).trans h.2.2⟩
                    have HK := Lib.hid keep
                    clear hB hzz keep
                    go_wp2_with fail
                    go_region_held3 (fun W => W.cell? (a1.add r) = some (.string (enc j S (j + r))) ∧ W.cell? (a2.add r) = some (.string (enc j S' (j + r))) ∧ W.cell? (a3.add r) = some (.string (xs (enc j S (j + r)) (enc j S' (j + r)))))
                      (first | exact ⟨d1, d2, d3⟩ | exact HK.out _ _ hb7 (Nat.le_refl _) ⟨d1, d2, d3⟩ | go_keep)
                      ((go_at_call 25; ((with_reducible refine Calls.mono (xor_any _ _ HZZ.out _) ?_); rintro e w7 ⟨rfl, hb7⟩)))
                    all_goals
                      go_wp2
                      go_roundg (m - (r + 1))
                      case measure => go_light; omega
                      case rel => go_light; exact ⟨r + 1, by omega, rfl, by simp, up_trans HB.out (below_of_drew hb7)⟩
                  · have hrz : ¬ (r : Int) < (m : Int) := by omega
                    go_wp2
                    go_ret
                    exact ⟨rfl, up_trans B6.out HB.out⟩
          · have e1 : (((S 0).size : Int) != ((S' 0).size : Int)) = true := by rw [bne_iff_ne]; omega
            clear hsz
            go_wp2_with fail
            go_quiet (fail)
            go_wp2
            go_ret
            exact ⟨rfl, below_drewN B3.out _⟩
        · have e1 : (E' != 0) = true := by rw [bne_iff_ne]; exact hE'
          clear hE'
          go_wp2_with fail
          go_quiet (fail)
          go_wp2
          go_ret
          exact ⟨rfl, below_drewN B3.out _⟩
      · have e1 : (E != 0) = true := by rw [bne_iff_ne]; exact hE
        clear hE
        go_wp2_with fail
        go_quiet (fail)
        go_wp2
        go_ret
        exact ⟨rfl, below_drewN B3.out _⟩
end Go.Proofs.Ytohbijjkkadbaaa.Mat
