/- The law CodeSpoilt: walked. -/
import Derived.Test.YtohbijjkkadbaaaCodZ
import Derived.Laws.AppendOwnNone
import Derived.Test.YtohbijjkkadbaaaMatI
namespace Go.Proofs.Ytohbijjkkadbaaa.Mat
open Go.RowKit Fld

theorem has_drew {w : World} {b t n : Nat} {f : Nat → Value} (h : Has w b t n f) : Has w.drew b t n f := h
/-- of shards of which one byte is another one .. -/
def spo (n : Nat) (S : Nat → ByteArray) (i : Nat) (s : ByteArray) (r : Nat) : ByteArray := if r = i then s else enc n S r
theorem spo_fits {n m i : Nat} {S : Nat → ByteArray} {s : ByteArray} (h1 : 1 ≤ n) (h2 : n + m ≤ 32) (hm : 1 ≤ m) (he : Even n S) (hi : i < n + m) (hs : s.size = (S 0).size) (hne : s ≠ enc n S i) : fitsB (n : Int) (m : Int) (n + m) (spo n S i s) = false := by
  have hsz : ∀ r, (spo n S i s r).size = (S 0).size := fun r => by
    unfold spo
    by_cases e : r = i
    · rw [if_pos e, hs]
    · rw [if_neg e, enc_size]
  have hev : Even n (spo n S i s) := fun r _ => by rw [hsz, hsz]
  rw [fits_at h1 h2 rfl, even_yes hev, Bool.true_and]
  refine stB_no (fun hh => ?_)
  by_cases hin : i < n
  · have e := hh.2 0 (by omega)
    have e0 : enc n (spo n S i s) n = spo n S i s n := e
    have e1 : enc n (spo n S i s) n = enc n S n := by rw [e0]; unfold spo; rw [if_neg (by omega)]
    refine enc_ne (by omega) hev he hin (S' := S) ?_ ?_ e1
    · unfold spo
      rw [if_pos rfl, ← enc_lo (by omega) he hin]; exact hne
    · intro a ha hai
      unfold spo
      rw [if_neg hai, enc_lo (by omega) he ha]
  · have e := hh.2 (i - n) (by omega)
    simp only [show n + (i - n) = i by omega] at e
    apply hne
    have e1 : spo n S i s i = s := if_pos rfl
    rw [e1] at e
    rw [← e]
    exact enc_congr h1 (fun q hq => by
      unfold spo
      rw [if_neg (by omega), enc_lo (by omega) he hq]) _

set_option maxRecDepth 1000000 in
set_option maxHeartbeats 12800000 in
theorem lawSpoilt {w : World} (k m : Int) (A : Option Addr) (n cap : Nat) (S : Nat → ByteArray) (i at_ b : Int) (k0 : -9223372036854775808 ≤ k) (k1 : k ≤ 9223372036854775807) (m0 : -9223372036854775808 ≤ m) (m1 : m ≤ 9223372036854775807)
    (hn : StOk n cap S) (hS : St w w.heap.size A n S) (i0 : -9223372036854775808 ≤ i) (i1 : i ≤ 9223372036854775807) (t0 : -9223372036854775808 ≤ at_) (t1 : at_ ≤ 9223372036854775807) (b0 : 0 ≤ b) (b1 : b < 256) :
    Calls Try.prog 9 #[.agg #[.int .i64 k, .int .i64 m, .slice A n cap, .int .i64 i, .int .i64 at_, .int .u8 b]] w fun e w' => e = .returned (.bool true) ∧ Below w.heap.size w w' := by
  obtain ⟨j0, hj0, jz0, jz1, jz2⟩ := info_parts infoStr
  obtain ⟨_, hl, hz⟩ := hn
  have HZ := Lib.hid hz
  have HZ0 : Hid (0 < n → (S 0).size ≤ 140737488351232) := Lib.hid (fun h => hz 0 h)
  have HS := Lib.hid hS
  clear hz hS
  by_cases hE : encE k m n S = 0
  · obtain ⟨m, rfl, rfl, h1, h2, hev⟩ := encE_yes' hE
    have HV := Lib.hid hev
    have ws : IntKind.i64.wrap ((n : Int) + (m : Int)) = (n : Int) + (m : Int) := IntWalk.i64_in _ (by omega)
    clear hE hev
    go_enter Try.func9, Try.ntmps9
    go_wp2_with fail
    have hb0 : Below w.heap.size w (w.alloc (.cells #[.int .i64 (n : Int), .int .i64 (m : Int), .slice A n cap, .int .i64 i, .int .i64 at_, .int .u8 b] 54)) := (Below.refl _ _).alloc (Nat.le_refl _) _
    generalize w.alloc (.cells #[.int .i64 (n : Int), .int .i64 (m : Int), .slice A n cap, .int .i64 i, .int .i64 at_, .int .u8 b] 54) = w0 at *
    refine (codeShown_any _).mono ?_; rintro e w1 ⟨rfl, hb1⟩
    have B1 := Lib.hid (up_trans hb0 hb1)
    have S1 := Lib.hid (HS.out.up (up_trans hb0 hb1))
    clear hb0 hb1 HS
    go_wp2_with fail
    refine (small_any S1.out).mono ?_; rintro e w2 ⟨bb, rfl, rfl⟩
    go_wp2_with fail
    refine (encode_some (m := m) S1.out h1 h2 HV.out (HZ0.out h1)).mono ?_; rintro e w3 ⟨a2, c2, rfl, hf2, hS2, hb2⟩
    have B3 := Lib.hid (up_trans B1.out hb2)
    have S3 := Lib.hid (S1.out.up hb2)
    have T3 := Lib.hid hS2
    clear hb2 hS2 B1 S1 hf2
    cases bb
    · go_wp2
      go_ret
      exact ⟨rfl, B3.out⟩
    by_cases c1 : (m : Int) < 1
    · have g1 : decide ((m : Int) < 1) = true := decide_eq_true c1
      clear c1
      go_wp2
      go_ret
      exact ⟨rfl, B3.out⟩
    have g1 : decide ((m : Int) < 1) = false := decide_eq_false c1
    have hm1 : 1 ≤ m := by omega
    clear c1
    by_cases c2' : i < 0
    · have g2 : decide (i < 0) = true := decide_eq_true c2'
      clear c2'
      go_wp2
      go_ret
      exact ⟨rfl, B3.out⟩
    have g2 : decide (i < 0) = false := decide_eq_false c2'
    obtain ⟨i, rfl⟩ : ∃ i' : Nat, i = i' := ⟨i.toNat, by omega⟩
    clear c2'
    by_cases c3 : (n : Int) + (m : Int) ≤ (i : Int)
    · have g3 : decide ((n : Int) + (m : Int) ≤ (i : Int)) = true := decide_eq_true c3
      clear c3
      go_wp2
      go_ret
      exact ⟨rfl, B3.out⟩
    have g3 : decide ((n : Int) + (m : Int) ≤ (i : Int)) = false := decide_eq_false c3
    have hi : i < n + m := by omega
    have hiz : (i : Int) < ((n + m : Nat) : Int) := by omega
    have hiz2 : (i : Int) < (n : Int) + (m : Int) := by omega
    clear c3
    obtain ⟨ad, rfl, _, _⟩ := S3.out.at_ (r := 0) h1
    have H0 := Lib.hid (Chosen.empty w3 9)
    go_wp2_with (at_builtin; refine wpList_append_own _ rfl (.tmp 63) (.tmp 64) 31 rfl w3.heap.size 9 j0 (.string ByteArray.empty) 1 16 Try.underlying31 hj0 jz0 jz1 jz2 rfl (by decide) (.slice (some ⟨w3.heap.size, 0, none⟩) 0 0) 0 [] rfl H0.out.own ad n cap (txs S n) rfl (by rw [txs_len]; omega) (st_news (S3.out.up ((Below.refl _ _).alloc (Nat.le_refl _) _))) (txs_one _ _) (by unfold maxLen; omega) (by omega) (by rw [size_alloc]; omega) ?_)
    intro v4 w4 hown hgrow _
    have H4 : Chosen w3 w4 9 v4 (txs S n) := ⟨by rw [txs_len]; exact hown, H0.out.below.grown hgrow H0.out.below.size (fun k hk => (H0.out.own.lt k hk).1)⟩
    have T4 := Lib.hid (T3.out.up (H4.below))
    have H4 := Lib.hid H4
    clear hown hgrow H0 T3
    have hlen := txs_len S n
    have HLN := Lib.hid hlen; clear hlen
    go_wp2_with (at_builtin; refine wpList_append_own _ rfl (.tmp 65) (.tmp 66) 31 rfl w3.heap.size 9 j0 (.string ByteArray.empty) 1 16 Try.underlying31 hj0 jz0 jz1 jz2 rfl (by decide) _ _ _ rfl H4.out.own a2 m c2 (txs (fun r => enc n S (n + r)) m) rfl (by rw [txs_len]; omega) (st_news T4.out) (txs_one _ _) (by rw [HLN.out]; unfold maxLen; omega) (by rw [HLN.out]; omega) H4.out.below.size ?_)
    intro v5 w5 hown hgrow _
    have H5 := H4.out.more (by rw [txs_len, txs_len]) hown hgrow
    obtain ⟨A5, c5, rfl, hcc5, _, hh5⟩ := H5.has (f := fun r => .string (enc n S r)) (n := n + m) (by rw [List.length_append, txs_len, txs_len]) (fun i hi => all_get h2 HV.out hi)
    obtain ⟨g5, rfl, hg5, hg5', hH5⟩ := hh5 (by omega)
    have B5 := Lib.hid (up_trans B3.out H5.below)
    have hg : w.heap.size ≤ g5 := by have := B3.out.size; omega
    have HG := Lib.hid hg
    have HH5 := Lib.hid hH5
    have HC5 := Lib.hid hcc5
    have d5 : w5.cell? ⟨g5, i, none⟩ = some (.string (enc n S i)) := hH5.cell hi
    clear hown hgrow H5 hh5 H4 T4 S3 B3 HLN hg5 hH5 hcc5 hg
    -- the shard that is spoilt
    generalize hs : enc n S i = s at d5
    have hsz : s.size = (S 0).size := by rw [← hs, enc_size]
    have HSS := Lib.hid hs
    have HSZ := Lib.hid hsz
    clear hs hsz
    by_cases c4 : at_ < 0
    · have g4 : decide (at_ < 0) = true := decide_eq_true c4
      clear c4
      go_wp2
      go_ret
      exact ⟨rfl, B5.out⟩
    have g4 : decide (at_ < 0) = false := decide_eq_false c4
    obtain ⟨x, rfl⟩ : ∃ x : Nat, at_ = x := ⟨at_.toNat, by omega⟩
    clear c4
    by_cases c5' : (s.size : Int) ≤ (x : Int)
    · have g5' : decide ((s.size : Int) ≤ (x : Int)) = true := decide_eq_true c5'
      have hx1 : s.size ≤ x := by omega
      have hx2 : ¬ x < s.size := by omega
      clear c5'
      go_wp2
      go_ret
      exact ⟨rfl, B5.out⟩
    have g5' : decide ((s.size : Int) ≤ (x : Int)) = false := decide_eq_false c5'
    have hx : x < s.size := by omega
    clear c5'
    by_cases c6 : ((s[x]'hx).toNat : Int) = b
    · subst c6
      go_wp2
      go_ret
      exact ⟨rfl, B5.out⟩
    have g6 : (((s[x]'hx).toNat : Int) == b) = false := by simpa using c6
    have hne : V (bt s x) ≠ b := by rw [← bt_at s x hx]; exact c6
    have HNE := Lib.hid hne
    clear c6 hne
    have hcp := fun w => copy_run s.size (bt s) w
    rw [rs_bt] at hcp
    go_upto_region 16 with fail
    have hP := has_drew (copy_has w5 s.size (bt s))
    have hD : Below w.heap.size w (w5.alloc (cpObj w5 s.size (bt s))).drew := (B5.out.alloc B5.out.size _).drew
    have hH := has_drew (HH5.out.alloc (cpObj w5 s.size (bt s)))
    have hlt := HH5.out.lt
    have hle := B5.out.size
    clear hcp g6 d5
    generalize (w5.alloc (cpObj w5 s.size (bt s))).drew = w6 at *
    generalize cpCap w5 s.size = cx
    generalize w5.heap.size = z at *
    have c1 : w6.cell? ⟨z, x, none⟩ = some (.int .u8 (V (bt s x))) := hP.cell hx
    have c2z : w6.frozen? ⟨z, x, none⟩ = false := hP.frozen hx
    have hP7 := (hP.set_ x (.int .u8 b)).congr (g := fun c => .int .u8 (V (if c = x then B b else bt s c))) (fun c _ => by
      by_cases e : c = x
      · rw [if_pos e, if_pos e, V_B b b0 b1]
      · rw [if_neg e, if_neg e])
    have hH7 := hH.setOther (a := ⟨z, x, none⟩) (by show g5 ≠ z; omega) (.int .u8 b)
    have hD7 := hD.setCell (p := ⟨z, x, none⟩) (by show w.heap.size ≤ z; omega) (.int .u8 b)
    have HP7 := Lib.hid hP7
    have HH7 := Lib.hid hH7
    have HD7 := Lib.hid hD7
    clear hP hD hH hP7 hH7 hD7 HH5
    go_upto_region 17 with fail
    clear c1 c2z
    generalize w6.setCell ⟨z, x, none⟩ (.int .u8 b) = w7 at *
    have hcv := row_convert (c := cx) (Rw.of_has HP7.out HP7.out.lt)
    have k3 : w7.cell? ⟨g5, i, none⟩ = some (.string (enc n S i)) := HH7.out.cell hi
    have k4 : w7.frozen? ⟨g5, i, none⟩ = false := HH7.out.frozen hi
    generalize hs' : rs s.size (fun c => if c = x then B b else bt s c) = s' at *
    have hne' : s' ≠ enc n S i := by
      intro e
      rw [HSS.out, ← hs'] at e
      have e2 : bt (rs s.size (fun c => if c = x then B b else bt s c)) x = bt s x := by rw [e]
      rw [bt_rs hx, if_pos rfl] at e2
      exact HNE.out (by rw [← e2, V_B b b0 b1])
    have hsz' : s'.size = (S 0).size := by rw [← hs', rs_size', HSZ.out]
    have hSt : St (w7.setCell ⟨g5, i, none⟩ (.string s')) (w7.setCell ⟨g5, i, none⟩ (.string s')).heap.size (some ⟨g5, 0, none⟩) (n + m) (spo n S i s') :=
      St.of_has ((HH7.out.set_ i (.string s')).congr (fun r _ => by
        unfold spo
        by_cases e : r = i
        · rw [if_pos e, if_pos e]
        · rw [if_neg e, if_neg e])) (HH7.out.set_ i (.string s')).lt
    have hD8 := HD7.out.setCell (p := ⟨g5, i, none⟩) HG.out (.string s')
    have hft := spo_fits h1 h2 hm1 HV.out hi hsz' hne'
    have hz8 : (spo n S i s' 0).size ≤ 140737488351232 := by
      have : (spo n S i s' 0).size = (S 0).size := by
        unfold spo
        by_cases e : 0 = i
        · rw [if_pos e]; exact hsz'
        · rw [if_neg e, enc_size]
      rw [this]; exact HZ0.out h1
    have HS8 := Lib.hid hSt
    have HD8 := Lib.hid hD8
    have HFT := Lib.hid hft
    have HZ8 := Lib.hid hz8
    clear hSt hD8 hft hz8 hne' hsz' hs'
    go_wp2_with fail
    generalize w7.setCell ⟨g5, i, none⟩ (.string s') = w8 at *
    refine (fits_any HS8.out HC5.out ⟨k0, k1⟩ ⟨m0, m1⟩ (fun _ => HZ8.out)).mono ?_; rintro e w9 ⟨rfl, hb9⟩
    rw [HFT.out]
    have B9 := Lib.hid (up_trans HD8.out hb9)
    clear hb9
    go_wp2
    go_ret
    exact ⟨rfl, B9.out⟩
  · have g1 : (encE k m n S != 0) = true := by rw [bne_iff_ne]; exact hE
    clear hE
    go_enter Try.func9, Try.ntmps9
    go_wp2_with fail
    have hb0 : Below w.heap.size w (w.alloc (.cells #[.int .i64 k, .int .i64 m, .slice A n cap, .int .i64 i, .int .i64 at_, .int .u8 b] 54)) := (Below.refl _ _).alloc (Nat.le_refl _) _
    generalize w.alloc (.cells #[.int .i64 k, .int .i64 m, .slice A n cap, .int .i64 i, .int .i64 at_, .int .u8 b] 54) = w0 at *
    refine (codeShown_any _).mono ?_; rintro e w1 ⟨rfl, hb1⟩
    have B1 := Lib.hid (up_trans hb0 hb1)
    have S1 := Lib.hid (HS.out.up (up_trans hb0 hb1))
    clear hb0 hb1 HS
    go_wp2_with fail
    refine (small_any S1.out).mono ?_; rintro e w2 ⟨b, rfl, rfl⟩
    go_wp2_with fail
    refine (encode_any S1.out hl ⟨k0, k1⟩ ⟨m0, m1⟩ HZ0.out).mono ?_; rintro e w3 ⟨A2, c2, rfl, _, hS2, hb2⟩
    have B3 := Lib.hid (up_trans B1.out hb2)
    clear hb2 hS2
    cases b
    all_goals
      go_wp2
      go_ret
      exact ⟨rfl, B3.out⟩
end Go.Proofs.Ytohbijjkkadbaaa.Mat
