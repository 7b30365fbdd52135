/- The law CodeAny: walked. -/
import Derived.Test.YtohbijjkkadbaaaCodZ
import Derived.Test.YtohbijjkkadbaaaMatOpen
import Derived.Laws.AppendOwnNone
namespace Go.Proofs.Ytohbijjkkadbaaa.Mat
open Go.RowKit Fld

set_option maxRecDepth 1000000 in
set_option maxHeartbeats 12800000 in
theorem lawAny {w : World} (k m : Int) (A : Option Addr) (n cap : Nat) (S : Nat → ByteArray) (AL : Option Addr) (nl capl : Nat) (f : Nat → Int) (k0 : -9223372036854775808 ≤ k) (k1 : k ≤ 9223372036854775807) (m0 : -9223372036854775808 ≤ m) (m1 : m ≤ 9223372036854775807)
    (hn : StOk n cap S) (hS : St w w.heap.size A n S) (hnl : nl ≤ 9223372036854775807) (hL : Is w w.heap.size AL nl f) :
    Calls Try.prog 6 #[.agg #[.int .i64 k, .int .i64 m, .slice A n cap, .slice AL nl capl]] w fun e w' => e = .returned (.bool true) ∧ Below w.heap.size w w' := by
  obtain ⟨j0, hj0, jz0, jz1, jz2⟩ := info_parts infoStr
  obtain ⟨i0, hi0, hz0, hz1, hz2⟩ := info_parts infoPiece
  obtain ⟨_, hl, hz⟩ := hn
  have HZ := Lib.hid hz
  have HZ0 : Hid (0 < n → (S 0).size ≤ 140737488351232) := Lib.hid (fun h => hz 0 h)
  have HS := Lib.hid hS
  have HL := Lib.hid hL
  clear hz hS hL
  by_cases hE : encE k m n S = 0
  · obtain ⟨m, rfl, rfl, h1, h2, hev⟩ := encE_yes' hE
    have HV := Lib.hid hev
    have ws : IntKind.i64.wrap ((n : Int) + (m : Int)) = (n : Int) + (m : Int) := IntWalk.i64_in _ (by omega)
    clear hE hev
    go_enter Try.func6, Try.ntmps6
    go_wp2_with fail
    have hb0 : Below w.heap.size w (w.alloc (.cells #[.int .i64 (n : Int), .int .i64 (m : Int), .slice A n cap, .slice AL nl capl] 47)) := (Below.refl _ _).alloc (Nat.le_refl _) _
    generalize w.alloc (.cells #[.int .i64 (n : Int), .int .i64 (m : Int), .slice A n cap, .slice AL nl capl] 47) = w0 at *
    refine (codeShown_any _).mono ?_; rintro e w1 ⟨rfl, hb1⟩
    have B1 := Lib.hid (up_trans hb0 hb1)
    have S1 := Lib.hid (HS.out.up (up_trans hb0 hb1))
    clear hb0 hb1 HS
    go_wp2_with fail
    refine (small_any S1.out).mono ?_; rintro e w2 ⟨b, rfl, rfl⟩
    go_wp2_with fail
    refine (encode_some (m := m) S1.out h1 h2 HV.out (HZ0.out h1)).mono ?_; rintro e w3 ⟨a2, c2, rfl, hf2, hS2, hb2⟩
    have B3 := Lib.hid (up_trans B1.out hb2)
    have S3 := Lib.hid (S1.out.up hb2)
    have T3 := Lib.hid hS2
    clear hb2 hS2 B1 S1 hf2
    cases b
    · go_wp2
      go_ret
      exact ⟨rfl, B3.out⟩
    · obtain ⟨ad, rfl, _, _⟩ := S3.out.at_ (r := 0) h1
      have H0 := Lib.hid (Chosen.empty w3 9)
      go_wp2_with (at_builtin; refine wpList_append_own _ rfl (.tmp 48) (.tmp 49) 31 rfl w3.heap.size 9 j0 (.string ByteArray.empty) 1 16 Try.underlying31 hj0 jz0 jz1 jz2 rfl (by decide) (.slice (some ⟨w3.heap.size, 0, none⟩) 0 0) 0 [] rfl H0.out.own ad n cap (txs S n) rfl (by rw [txs_len]; omega) (st_news (S3.out.up ((Below.refl _ _).alloc (Nat.le_refl _) _))) (txs_one _ _) (by unfold maxLen; omega) (by omega) (by rw [size_alloc]; omega) ?_)
      intro v4 w4 hown hgrow _
      have H4 : Chosen w3 w4 9 v4 (txs S n) := ⟨by rw [txs_len]; exact hown, H0.out.below.grown hgrow H0.out.below.size (fun k hk => (H0.out.own.lt k hk).1)⟩
      have T4 := Lib.hid (T3.out.up (H4.below))
      have H4 := Lib.hid H4
      clear hown hgrow H0 T3
      have hlen := txs_len S n
      have HLN := Lib.hid hlen; clear hlen
      go_wp2_with (at_builtin; refine wpList_append_own _ rfl (.tmp 50) (.tmp 51) 31 rfl w3.heap.size 9 j0 (.string ByteArray.empty) 1 16 Try.underlying31 hj0 jz0 jz1 jz2 rfl (by decide) _ _ _ rfl H4.out.own a2 m c2 (txs (fun r => enc n S (n + r)) m) rfl (by rw [txs_len]; omega) (st_news T4.out) (txs_one _ _) (by rw [HLN.out]; unfold maxLen; omega) (by rw [HLN.out]; omega) H4.out.below.size ?_)
      intro v5 w5 hown hgrow _
      have H5 := H4.out.more (by rw [txs_len, txs_len]) hown hgrow
      obtain ⟨A5, c5, rfl, hf5, hS5⟩ := H5.list (T := enc n S) (n := n + m) (by rw [List.length_append, txs_len, txs_len]) (fun i hi => all_get h2 HV.out hi)
      have S5 := Lib.hid hS5
      have F5 := Lib.hid hf5
      have B5 := Lib.hid (up_trans B3.out H5.below)
      have L5 := Lib.hid ((fun hn => by
        obtain ⟨q, e, hb, hc⟩ := HL.out hn
        exact ⟨q, e, by have := B5.out.size; omega, fun c hcl => by
          obtain ⟨q1, q2⟩ := hc c hcl
          exact ⟨(B5.out.cell (by rw [block_of_add]; exact hb)).trans q1, q2⟩⟩) : Is w5 w5.heap.size AL nl f)
      clear hown hgrow H5 hS5 hf5 H4 T4 S3 B3 HL HLN
      obtain ⟨p, hp⟩ : ∃ p : Nat → Bool, ∀ i, p i = !(num f nl i) := ⟨_, fun _ => rfl⟩
      have HPP := Lib.hid hp; clear hp
      go_wp2
      go_loopg [12, 13] (n + m) (fun gh v i wr => ∃ j, j ≤ n + m ∧ gh = n + m - j ∧ i = .int .i64 (j : Nat) ∧ PcRow w5 wr v (cnt p j) (anyI p (n + m)) (anyS n S p (n + m)))
      case atStart => exact ⟨0, Nat.zero_le _, rfl, rfl, PcRow.start w5 _ _⟩
      case round =>
        obtain ⟨j, hj, rfl, rfl, hR⟩ := hrel
        have HR := Lib.hid hR; clear hR
        by_cases hjn : j < n + m
        · have hjz : (j : Int) < ((n + m : Nat) : Int) := by omega
          have hjz2 : (j : Int) < (n : Int) + (m : Int) := by omega
          go_wp2
          go_loop [14, 15] (fun gg i => ∃ q, q ≤ nl ∧ i = .int .i64 (q : Nat) ∧ gg = .bool (num f q j)) (fun _ i => nl - (intOf i).toNat)
          case atStart => exact ⟨0, Nat.zero_le _, rfl, rfl⟩
          case round =>
            obtain ⟨q, hq, rfl, rfl⟩ := hrel
            by_cases hqn : q < nl
            · have hqz : (q : Int) < (nl : Int) := by omega
              cases hnum : num f q j
              · obtain ⟨al, rfl, hb, hc⟩ := L5.out (by omega)
                obtain ⟨c1, _⟩ := hc q hqn
                rw [← HR.out.below.cell (by rw [block_of_add]; exact hb)] at c1
                clear hc
                by_cases he : f q = (j : Int)
                · have e1 : (f q == (j : Int)) = true := by simpa using he
                  have hh := num_hit he
                  have HH := Lib.hid hh
                  clear he hh
                  go_wp2
                  go_round
                  case rel => exact ⟨q + 1, by omega, by go_num, by rw [HH.out]⟩
                  case measure => simp [intOf]; omega
                · have e1 : (f q == (j : Int)) = false := by simpa using he
                  have hh := (num_miss he).trans hnum
                  have HH := Lib.hid hh
                  clear he hh
                  go_wp2
                  go_round
                  case rel => exact ⟨q + 1, by omega, by go_num, by rw [HH.out]⟩
                  case measure => simp [intOf]; omega
              · have hh := num_more hnum
                have HH := Lib.hid hh
                clear hh
                go_wp2
                go_round
                case rel => exact ⟨q + 1, by omega, by go_num, by rw [HH.out]⟩
                case measure => simp [intOf]; omega
            · have hqz : ¬ (q : Int) < (nl : Int) := by omega
              obtain rfl : q = nl := by omega
              cases hnum : num f q j
              · have hpj : p j = true := by rw [HPP.out, hnum]; rfl
                have HPJ := Lib.hid hpj
                obtain ⟨a5, rfl, _, d5⟩ := (S5.out.below HR.out.below HR.out.below.size).at_ hjn
                have hlen := pcs_len (anyI p (n + m)) (anyS n S p (n + m)) (cnt p j)
                have hle := cnt_le p j
                have HLE := Lib.hid hle
                clear hpj hlen hle hnum
                go_wp2_with (at_builtin; refine wpList_append_own _ rfl (.tmp 76) (.tmp 83) 39 rfl w5.heap.size 41 i0 (.agg #[.int .i64 0, .string ByteArray.empty]) 2 24 Try.underlying39 hi0 hz0 hz1 hz2 rfl (by decide) _ _ _ rfl (HR.out.own.alloc _) ⟨wr.heap.size, 0, none⟩ 1 1 [.int .i64 (j : Int), .string (enc n S j)] rfl rfl (two_news _ _ _) (by simp [Value.oneCell']) (by have := HLE.out; unfold maxLen; omega) (by have := HLE.out; omega) (by rw [size_alloc]; have := HR.out.below.size; omega) ?_)
                intro v' w' hown hgrow _
                have HN := Lib.hid (HR.out.next (x := (j : Int)) (s := enc n S j) (by unfold anyI; rw [pk_cnt hjn HPJ.out]) (by unfold anyS; rw [pk_cnt hjn HPJ.out]) hown hgrow)
                clear hown hgrow
                go_wp2
                go_roundg (n + m - (j + 1))
                case measure => go_light; omega
                case rel => go_light; exact ⟨j + 1, by omega, rfl, by simp, by rw [cnt_yes HPJ.out]; exact HN.out⟩
              · have hpj : p j = false := by rw [HPP.out, hnum]; rfl
                have HPJ := Lib.hid hpj
                clear hpj hnum
                go_wp2
                go_roundg (n + m - (j + 1))
                case measure => go_light; omega
                case rel => go_light; exact ⟨j + 1, by omega, rfl, by simp, by rw [cnt_no HPJ.out]; exact HR.out⟩
        · have hjz : ¬ (j : Int) < ((n + m : Nat) : Int) := by omega
          have hjz2 : ¬ (j : Int) < (n : Int) + (m : Int) := by omega
          obtain rfl : j = n + m := by omega
          obtain ⟨A6, c6, rfl, hP6⟩ := HR.out.pc
          have P6 := Lib.hid hP6
          have S6 := Lib.hid (S5.out.up HR.out.below)
          have B6 := Lib.hid (up_trans B5.out HR.out.below)
          have hcl := cnt_le p (n + m)
          clear hP6 HR S5 B5 L5
          have hsz : ∀ i, i < cnt p (n + m) → (anyS n S p (n + m) i).size ≤ 140737488351232 := fun i _ => by unfold anyS; rw [enc_size]; exact HZ0.out h1
          have HSZ := Lib.hid hsz; clear hsz
          by_cases hfew : cnt p (n + m) < n
          · have g1 : (cnt p (n + m) : Int) < (n : Int) := by omega
            have HE := Lib.hid (any_few (S := S) h1 h2 hfew)
            go_wp2_with fail
            refine (rebuild_any P6.out (by omega) ⟨k0, k1⟩ ⟨m0, m1⟩ HSZ.out).mono ?_; rintro e w7 ⟨A7, c7, rfl, _, hS7, hb7⟩
            rw [HE.out]
            have B7 := Lib.hid (up_trans B6.out hb7)
            clear hS7 hb7
            go_wp2
            go_ret
            exact ⟨rfl, B7.out⟩
          · have g1 : ¬ (cnt p (n + m) : Int) < (n : Int) := by omega
            have HE := Lib.hid (any_ok (S := S) h1 h2 (by omega : n ≤ cnt p (n + m)))
            have HLN := Lib.hid (any_len (S := S) h1 h2 (by omega : n ≤ cnt p (n + m)))
            have HAL := Lib.hid (any_all (S := S) h1 h2 (by omega : n ≤ cnt p (n + m)))
            have HFT := Lib.hid (fits_enc h1 h2 HV.out)
            go_wp2_with fail
            refine (rebuild_any P6.out (by omega) ⟨k0, k1⟩ ⟨m0, m1⟩ HSZ.out).mono ?_; rintro e w7 ⟨A7, c7, rfl, _, hS7, hb7⟩
            rw [HE.out, HLN.out]
            rw [HLN.out] at hS7
            have B7 := Lib.hid (up_trans B6.out hb7)
            have S7 := Lib.hid (S6.out.up hb7)
            have T7 := Lib.hid hS7
            clear hS7 hb7 B6 S6 P6
            go_wp2_with fail
            refine (strSame_any T7.out S7.out (by omega) (by omega)).mono ?_; rintro e w8 ⟨rfl, q8, rfl⟩
            rw [stB_yes ⟨rfl, fun r _ => HAL.out r⟩]
            have B8 := Lib.hid (below_drewN B7.out q8)
            have S8 : Hid (St (w7.drewN q8) (w7.drewN q8).heap.size A5 (n + m) (enc n S)) := Lib.hid S7.out
            clear B7 S7 T7
            generalize w7.drewN q8 = w8 at *
            go_wp2_with fail
            refine (fits_any S8.out F5.out.1 ⟨k0, k1⟩ ⟨m0, m1⟩ (fun _ => by rw [enc_size]; exact HZ0.out h1)).mono ?_; rintro e w9 ⟨rfl, hb9⟩
            rw [HFT.out]
            have B9 := Lib.hid (up_trans B8.out hb9)
            clear hb9
            go_wp2
            go_ret
            exact ⟨rfl, B9.out⟩
  · have g1 : (encE k m n S != 0) = true := by rw [bne_iff_ne]; exact hE
    clear hE
    go_enter Try.func6, Try.ntmps6
    go_wp2_with fail
    have hb0 : Below w.heap.size w (w.alloc (.cells #[.int .i64 k, .int .i64 m, .slice A n cap, .slice AL nl capl] 47)) := (Below.refl _ _).alloc (Nat.le_refl _) _
    generalize w.alloc (.cells #[.int .i64 k, .int .i64 m, .slice A n cap, .slice AL nl capl] 47) = w0 at *
    refine (codeShown_any _).mono ?_; rintro e w1 ⟨rfl, hb1⟩
    have B1 := Lib.hid (up_trans hb0 hb1)
    have S1 := Lib.hid (HS.out.up (up_trans hb0 hb1))
    clear hb0 hb1 HS
    go_wp2_with fail
    refine (small_any S1.out).mono ?_; rintro e w2 ⟨b, rfl, rfl⟩
    go_wp2_with fail
    refine (encode_any S1.out hl ⟨k0, k1⟩ ⟨m0, m1⟩ HZ0.out).mono ?_; rintro e w3 ⟨A2, c2, rfl, _, hS2, hb2⟩
    have B3 := Lib.hid (up_trans B1.out hb2)
    clear hb2 hS2
    cases b
    all_goals
      go_wp2
      go_ret
      exact ⟨rfl, B3.out⟩
end Go.Proofs.Ytohbijjkkadbaaa.Mat
