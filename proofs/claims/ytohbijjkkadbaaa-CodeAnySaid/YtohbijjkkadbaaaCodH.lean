/- Encode, by the program and by the document: walked. -/
import Derived.Test.YtohbijjkkadbaaaCodG
namespace Go.Proofs.Ytohbijjkkadbaaa.Mat
open Go.RowKit Fld

/-- what Encode says .. -/
def encE (k m : Int) (n : Nat) (S : Nat → ByteArray) : Int := if MayB k m = false then 1 else if (n : Int) ≠ k then 10 else if ¬ Even n S then 3 else 0
/-- .. and how many shards it makes -/
def encL (k m : Int) (n : Nat) (S : Nat → ByteArray) : Nat := if encE k m n S = 0 then m.toNat else 0
def i64 (k : Int) : Prop := -9223372036854775808 ≤ k ∧ k ≤ 9223372036854775807
theorem mt_hi {w : World} {A : Option Addr} {k m : Nat} {L RC : Nat → Nat} {RA : Nat → Option Addr} {F : Nat → Nat → BitVec 8} {B : Nat}
    (h : Mt w B A (cnt (hiB k) (k + m)) (fun i => L (pk (hiB k) (k + m) i)) (fun i => RA (pk (hiB k) (k + m) i)) (fun i => RC (pk (hiB k) (k + m) i)) (fun i => F (pk (hiB k) (k + m) i))) :
    Mt w B A m (fun i => L (k + i)) (fun i => RA (k + i)) (fun i => RC (k + i)) (fun i => F (k + i)) := by
  rw [cnt_hi] at h
  intro hn
  obtain ⟨ad, h1, h2, h3⟩ := h hn
  refine ⟨ad, h1, h2, fun r hr => ?_⟩
  have := h3 r hr
  simp only [pk_hi hr] at this
  exact this
/-- the texts that are made till now -/
def txs (T : Nat → ByteArray) (j : Nat) : List Value := (List.range j).map fun a => .string (T a)
theorem txs_next (T : Nat → ByteArray) (j : Nat) : txs T (j + 1) = txs T j ++ [.string (T j)] := by unfold txs; rw [List.range_succ, List.map_append]; rfl
theorem txs_len (T : Nat → ByteArray) (j : Nat) : (txs T j).length = j := by unfold txs; simp
theorem txs_get {T : Nat → ByteArray} {j i : Nat} (h : i < j) : (txs T j)[i]? = some (.string (T i)) := by unfold txs; simp [h]
theorem Chosen.texts {w a : World} {v : Value} {T : Nat → ByteArray} {n : Nat} (h : Chosen w a 9 v (txs T n)) : ∃ A cap, v = .slice A n cap ∧ Fit A n cap ∧ St a a.heap.size A n T := by
  obtain ⟨A', cap', hv, _, _, hh⟩ := h.has (txs_len T n) (f := fun i => .string (T i)) (fun i hi => txs_get hi)
  refine ⟨A', cap', hv, ?_, fun hn => ?_⟩
  · have := h.own
    rw [hv, txs_len] at this
    exact own_fit this
  obtain ⟨b, rfl, hb1, hb2, hb3⟩ := hh hn
  exact ⟨_, rfl, hb2, fun r hr => by rw [add_lit]; exact hb3.cell hr⟩

section
variable {A : Option Addr} {n cap : Nat} {S : Nat → ByteArray} {w : World} {k m : Int}
set_option maxRecDepth 100000 in
theorem encode_no1 (hk : i64 k) (hm : i64 m) (h : MayB k m = false) : Calls Try.prog 18 #[.int .i64 k, .int .i64 m, .slice A n cap] w (FailRet w 1) := by
  have HM := Lib.hid h; clear h
  go_enter Try.func18, Try.ntmps18
  go_wp2_with fail
  have hb0 : Below w.heap.size w (w.alloc (.cells #[.int .i64 k] 3)) := (Below.refl _ _).alloc (Nat.le_refl _) _
  generalize w.alloc (.cells #[.int .i64 k] 3) = w0 at *
  refine (codeMay_any _ _ hk hm _).mono ?_; rintro e w1 ⟨rfl, rfl⟩
  rw [HM.out]
  have HB := Lib.hid hb0
  clear hb0
  go_wp2
  go_ret2
  exact ⟨rfl, HB.out⟩
set_option maxRecDepth 100000 in
theorem encode_no2 (hk : i64 k) (hm : i64 m) (h : MayB k m = true) (hn : (n : Int) ≠ k) : Calls Try.prog 18 #[.int .i64 k, .int .i64 m, .slice A n cap] w (FailRet w 10) := by
  have HM := Lib.hid h; clear h
  have g1 : ((n : Int) != k) = true := by rw [bne_iff_ne]; exact hn
  go_enter Try.func18, Try.ntmps18
  go_wp2_with fail
  have hbox := has_box w (.int .i64 k) 3
  have hb0 : Below w.heap.size w (w.alloc (.cells #[.int .i64 k] 3)) := (Below.refl _ _).alloc (Nat.le_refl _) _
  generalize w.alloc (.cells #[.int .i64 k] 3) = w0 at *
  refine (codeMay_any _ _ hk hm _).mono ?_; rintro e w1 ⟨rfl, rfl⟩
  rw [HM.out]
  have hc0 := hbox.cell (i := 0) (by omega)
  have HB := Lib.hid hb0
  clear hb0 hbox
  go_wp2
  go_ret2
  exact ⟨rfl, HB.out⟩
set_option maxRecDepth 100000 in
theorem encode_no3 (hS : St w w.heap.size A n S) (hN : n ≤ 9223372036854775807) (hk : i64 k) (hm : i64 m) (h : MayB k m = true) (hn : (n : Int) = k) (he : ¬ Even n S) : Calls Try.prog 18 #[.int .i64 k, .int .i64 m, .slice A n cap] w (FailRet w 3) := by
  subst hn
  have HM := Lib.hid h; clear h
  have HS := Lib.hid hS; clear hS
  have HE := Lib.hid (even_no he); clear he
  have g1 : ((n : Int) != (n : Int)) = false := by rw [bne_eq_false_iff_eq]
  go_enter Try.func18, Try.ntmps18
  go_wp2_with fail
  have hbox := has_box w (.int .i64 (n : Int)) 3
  have hb0 : Below w.heap.size w (w.alloc (.cells #[.int .i64 (n : Int)] 3)) := (Below.refl _ _).alloc (Nat.le_refl _) _
  generalize w.alloc (.cells #[.int .i64 (n : Int)] 3) = w0 at *
  refine (codeMay_any _ _ hk hm _).mono ?_; rintro e w1 ⟨rfl, rfl⟩
  rw [HM.out]
  have hc0 := hbox.cell (i := 0) (by omega)
  have HB := Lib.hid hb0
  clear hb0 hbox
  go_wp2_with fail
  refine (even_any (HS.out.up HB.out) hN).mono ?_; rintro e w1 ⟨rfl, rfl⟩
  rw [HE.out]
  go_wp2
  go_ret2
  exact ⟨rfl, HB.out⟩
set_option maxRecDepth 100000 in
set_option maxHeartbeats 800000 in
theorem encode_yes {m : Nat} (hS : St w w.heap.size A n S) (h1 : 1 ≤ n) (h2 : n + m ≤ 32) (he : Even n S) (hz : (S 0).size ≤ 140737488351232) :
    Calls Try.prog 18 #[.int .i64 (n : Int), .int .i64 (m : Int), .slice A n cap] w (TextsRet w 0 m (fun r => enc n S (n + r))) := by
  have hmay : MayB (n : Int) (m : Int) = true := decide_eq_true (by omega)
  have HM := Lib.hid hmay; clear hmay
  have HS := Lib.hid hS; clear hS
  have HE := Lib.hid (even_yes he)
  have HE2 := Lib.hid he; clear he
  have HZ := Lib.hid hz; clear hz
  have g1 : ((n : Int) != (n : Int)) = false := by rw [bne_eq_false_iff_eq]
  go_enter Try.func18, Try.ntmps18
  go_wp2_with fail
  have hbox := has_box w (.int .i64 (n : Int)) 3
  have hb0 : Below w.heap.size w (w.alloc (.cells #[.int .i64 (n : Int)] 3)) := (Below.refl _ _).alloc (Nat.le_refl _) _
  generalize w.alloc (.cells #[.int .i64 (n : Int)] 3) = w0 at *
  refine (codeMay_any _ _ (by omega) (by omega) _).mono ?_; rintro e w1 ⟨rfl, rfl⟩
  rw [HM.out]
  have hc0 := hbox.cell (i := 0) (by omega)
  have HB := Lib.hid hb0
  have HX := Lib.hid hbox
  clear hb0 hbox
  go_wp2_with fail
  refine (even_any (HS.out.up HB.out) (by omega)).mono ?_; rintro e w1 ⟨rfl, rfl⟩
  rw [HE.out]
  go_wp2_with fail
  refine (table_yes n m h1 h2 _).mono ?_; rintro e w1 ⟨A1, c1, RA1, RC1, rfl, hM1, hB1⟩
  have M1 := Lib.hid hM1
  have HB1 := Lib.hid (HB.out.trans (hB1.mono HB.out.size))
  have HX1 := Lib.hid (HX.out.below hB1 HX.out.lt)
  clear hM1 hB1 HB HX hc0
  go_wp2_with fail
  refine (chosenRows_any (p := hiB n) 36 #[.pointer (some ⟨w.heap.size, 0, none⟩)] h2 M1.out
    (fun r W _ hW => hiPlace_any n r w.heap.size W ((HX1.out.below hW HX1.out.lt).cell (by omega))) (by kernel_rfl)).mono ?_; rintro e w2 ⟨v, rfl, hC⟩
  obtain ⟨A2, c2, rfl, _, hM2⟩ := hC.mt M1.out
  have M2 := Lib.hid (mt_hi (L := fun _ => n) (RA := RA1) (RC := RC1) (F := tab n) hM2)
  have HB2 := Lib.hid (up_trans HB1.out hC.below)
  rw [cnt_hi]
  clear hC hM2 HX1 HB1 M1
  go_wp2_with fail
  refine (shards_any (HS.out.up HB2.out) M2.out h1 (by omega) (by omega) HE2.out HZ.out).mono ?_; rintro e w3 ⟨A3, c3, rfl, hc3, hS3, hB3⟩
  have HB3 := Lib.hid (up_trans HB2.out hB3)
  have HS3 := Lib.hid hS3
  clear hS3 hB3 HB2 M2
  go_wp2
  go_ret2
  exact ⟨_, _, rfl, hc3, HS3.out, HB3.out⟩

theorem enc_cases (k m : Int) (n : Nat) (S : Nat → ByteArray) : (MayB k m = false ∧ encE k m n S = 1) ∨ (MayB k m = true ∧ (n : Int) ≠ k ∧ encE k m n S = 10) ∨ (MayB k m = true ∧ (n : Int) = k ∧ ¬ Even n S ∧ encE k m n S = 3) ∨
    ∃ m' : Nat, m = m' ∧ (n : Int) = k ∧ 1 ≤ n ∧ n + m' ≤ 32 ∧ Even n S ∧ encE k m n S = 0 := by
  unfold encE
  cases h : MayB k m
  · exact .inl ⟨rfl, rfl⟩
  · refine .inr ?_
    by_cases hn : (n : Int) = k
    · refine .inr ?_
      by_cases he : Even n S
      · refine .inr ⟨m.toNat, ?_⟩
        have := may_yes' h
        refine ⟨by omega, hn, by omega, by omega, he, ?_⟩
        simp [hn, he]
      · refine .inl ⟨rfl, hn, he, ?_⟩
        simp [hn, he]
    · exact .inl ⟨rfl, hn, by simp [hn]⟩
theorem encL_no {E : Int} (h : encE k m n S = E) (h0 : E ≠ 0) : encL k m n S = 0 := by unfold encL; rw [h, if_neg h0]
theorem encL_yes {m : Nat} (h : encE k (m : Int) n S = 0) : encL k (m : Int) n S = m := by unfold encL; rw [h, if_pos rfl]; rfl
theorem encode_any (hS : St w w.heap.size A n S) (hN : n ≤ 9223372036854775807) (hk : i64 k) (hm : i64 m) (hz : 0 < n → (S 0).size ≤ 140737488351232) :
    Calls Try.prog 18 #[.int .i64 k, .int .i64 m, .slice A n cap] w (TextsRet w (encE k m n S) (encL k m n S) (fun r => enc n S (n + r))) := by
  rcases enc_cases k m n S with ⟨h1, h2⟩ | ⟨h1, hn, h2⟩ | ⟨h1, hn, he, h2⟩ | ⟨m', rfl, hn, a1, a2, he, h2⟩
  · rw [encL_no h2 (by decide), h2]; exact (encode_no1 hk hm h1).mono fun _ _ h => h.texts _
  · rw [encL_no h2 (by decide), h2]; exact (encode_no2 hk hm h1 hn).mono fun _ _ h => h.texts _
  · rw [encL_no h2 (by decide), h2]; exact (encode_no3 hS hN hk hm h1 hn he).mono fun _ _ h => h.texts _
  · rw [encL_yes h2, h2]; subst hn; exact encode_yes hS a1 a2 he (hz a1)

/-! ### the document's own -/
set_option maxRecDepth 100000 in
theorem refEncode_no1 (h : MayB k m = false) : Calls Try.prog 19 #[.int .i64 k, .int .i64 m, .slice A n cap] w (FailRet w 1) := by
  have HM := Lib.hid h; clear h
  go_enter Try.func19, Try.ntmps19
  go_wp2_with fail
  refine (refTable_no _ _ HM.out _).mono ?_; rintro e w1 ⟨rfl, hB⟩
  have HB := Lib.hid hB; clear hB
  go_wp2
  go_ret2
  exact ⟨rfl, HB.out⟩
set_option maxRecDepth 100000 in
theorem refEncode_no2 {k m : Nat} (h1 : 1 ≤ k) (h2 : k + m ≤ 32) (hn : n ≠ k) : Calls Try.prog 19 #[.int .i64 (k : Int), .int .i64 (m : Int), .slice A n cap] w (FailRet w 10) := by
  have g1 : ((n : Int) != (k : Int)) = true := by rw [bne_iff_ne]; omega
  clear hn
  go_enter Try.func19, Try.ntmps19
  go_wp2_with fail
  refine (refTable_yes _ _ h1 h2 _).mono ?_; rintro e w1 ⟨A1, c1, RA1, RC1, rfl, hM1, hB1⟩
  have HB := Lib.hid hB1; clear hB1 hM1
  go_wp2
  go_ret2
  exact ⟨rfl, HB.out⟩
set_option maxRecDepth 100000 in
theorem refEncode_no3 {m : Nat} (hS : St w w.heap.size A n S) (h1 : 1 ≤ n) (h2 : n + m ≤ 32) (he : ¬ Even n S) : Calls Try.prog 19 #[.int .i64 (n : Int), .int .i64 (m : Int), .slice A n cap] w (FailRet w 3) := by
  have g1 : ((n : Int) != (n : Int)) = false := by rw [bne_eq_false_iff_eq]
  have HE := Lib.hid (even_no he); clear he
  have HS := Lib.hid hS; clear hS
  go_enter Try.func19, Try.ntmps19
  go_wp2_with fail
  refine (refTable_yes _ _ h1 h2 _).mono ?_; rintro e w1 ⟨A1, c1, RA1, RC1, rfl, hM1, hB1⟩
  have HB := Lib.hid hB1
  have HS1 := Lib.hid (HS.out.up hB1)
  clear hB1 hM1 HS
  go_wp2_with fail
  refine (refEven_any HS1.out (by omega)).mono ?_; rintro e w2 ⟨rfl, q, rfl⟩
  rw [HE.out]
  go_wp2
  go_ret2
  exact ⟨rfl, below_drewN HB.out _⟩
set_option maxRecDepth 100000 in
set_option maxHeartbeats 1600000 in
theorem refEncode_yes {m : Nat} (hS : St w w.heap.size A n S) (h1 : 1 ≤ n) (h2 : n + m ≤ 32) (he : Even n S) (hz : (S 0).size ≤ 140737488351232) :
    Calls Try.prog 19 #[.int .i64 (n : Int), .int .i64 (m : Int), .slice A n cap] w (TextsRet w 0 m (fun r => enc n S (n + r))) := by
  obtain ⟨i0, hi, hz0, hz1, hz2⟩ := info_parts infoStr
  have g1 : ((n : Int) != (n : Int)) = false := by rw [bne_eq_false_iff_eq]
  have ws : IntKind.i64.wrap ((n : Int) + (m : Int)) = (n : Int) + (m : Int) := IntWalk.i64_in _ (by omega)
  have HE := Lib.hid (even_yes he)
  have HE2 := Lib.hid he; clear he
  have HZ := Lib.hid hz; clear hz
  have HS := Lib.hid hS; clear hS
  go_enter Try.func19, Try.ntmps19
  go_wp2_with fail
  refine (refTable_yes _ _ h1 h2 _).mono ?_; rintro e w1 ⟨A1, c1, RA1, RC1, rfl, hM1, hB1⟩
  have HB := Lib.hid hB1
  have HS1 := Lib.hid (HS.out.up hB1)
  have HM := Lib.hid hM1
  clear hB1 hM1 HS
  go_wp2_with fail
  refine (refEven_any HS1.out (by omega)).mono ?_; rintro e w2 ⟨rfl, q, rfl⟩
  rw [HE.out]
  have HB2 := Lib.hid (below_drewN HB.out q)
  have HS2 : Hid (St (w1.drewN q) (w1.drewN q).heap.size A n S) := Lib.hid (HS1.out.drewN q)
  have HM2 : Hid (Mt (w1.drewN q) (w1.drewN q).heap.size A1 (n + m) (fun _ => n) RA1 RC1 (tab n)) := Lib.hid (HM.out.drewN q)
  clear HB HS1 HM
  generalize w1.drewN q = w2 at *
  go_wp2
  go_loopg [11, 12] m (fun gh v i wr => ∃ j, j ≤ m ∧ gh = m - j ∧ i = .int .i64 ((n : Int) + (j : Nat)) ∧ Chosen w2 wr 9 v (txs (fun r => enc n S (n + r)) j))
  case atStart => exact ⟨0, Nat.zero_le _, rfl, by simp, Chosen.start w2 _⟩
  case round =>
    obtain ⟨j, hj, rfl, rfl, hC⟩ := hrel
    have HC := Lib.hid hC
    by_cases hjm : j < m
    · have g2 : decide ((n : Int) + (j : Int) < (n : Int) + (m : Int)) = true := by simp; omega
      have g3 : (0 : Int) ≤ (n : Int) + (j : Int) := by omega
      have g4 : ((n : Int) + (j : Int)).toNat = n + j := by omega
      have g5 : (n : Int) + (j : Int) < ((n + m : Nat) : Int) := by omega
      have g6 : IntKind.i64.wrap ((n : Int) + (j : Int) + 1) = (n : Int) + ((j + 1 : Nat) : Int) := by rw [IntWalk.i64_in _ (by omega)]; omega
      obtain ⟨ad, rfl, hb, k1, _, hR⟩ := HM2.out.row (r := n + j) (by omega)
      rw [← hC.below.cell (by rw [block_of_add]; exact hb)] at k1
      have HR := Lib.hid (hR.below hC.below hC.below.size)
      have HS3 := Lib.hid (HS2.out.up hC.below)
      clear hC hR
      go_wp2_with fail
      refine (refMix_any HS3.out HR.out h1 (by omega) HE2.out HZ.out).mono ?_; rintro e w3 ⟨rfl, hB3⟩
      have HB3 := Lib.hid hB3; clear hB3
      have HC3 := Lib.hid (HC.out.under HB3.out)
      have hlen := txs_len (fun r => enc n S (n + r)) j
      have HL := Lib.hid hlen; clear hlen
      go_wp2_with (at_builtin; refine wpList_append_own _ rfl (.tmp 38) (.tmp 45) 31 rfl w2.heap.size 9 i0 (.string ByteArray.empty) 1 16 Try.underlying31 hi hz0 hz1 hz2 rfl (by decide) _ _ _ rfl (HC3.out.own.alloc _) ⟨w3.heap.size, 0, none⟩ 1 1 [.string (mixS n (tab n (n + j)) S)] rfl rfl (one_news _ _) (by simp [Value.oneCell']) (by rw [HL.out]; unfold maxLen; omega) (by rw [HL.out]; omega) (by rw [size_alloc]; have := HC3.out.below.size; omega) ?_)
      intro v' w' hown hgrow _
      have HN := Lib.hid (HC3.out.next (Below.refl _ _) hown hgrow)
      clear hown hgrow
      go_wp2
      go_roundg (m - (j + 1))
      case measure => go_light; omega
      case rel => go_light; exact ⟨j + 1, by omega, rfl, by simp, by rw [txs_next]; exact HN.out⟩
    · have g2 : decide ((n : Int) + (j : Int) < (n : Int) + (m : Int)) = false := by simp; omega
      obtain rfl : j = m := by omega
      obtain ⟨A3, c3, rfl, hc3, hS3⟩ := hC.texts
      have HS3 := Lib.hid hS3
      clear hC hS3
      go_wp2
      go_ret2
      exact ⟨_, _, rfl, hc3, HS3.out, up_trans HB2.out HC.out.below⟩
theorem refEncode_any (hS : St w w.heap.size A n S) (hz : 0 < n → (S 0).size ≤ 140737488351232) :
    Calls Try.prog 19 #[.int .i64 k, .int .i64 m, .slice A n cap] w (TextsRet w (encE k m n S) (encL k m n S) (fun r => enc n S (n + r))) := by
  rcases enc_cases k m n S with ⟨h1, h2⟩ | ⟨h1, hn, h2⟩ | ⟨h1, hn, he, h2⟩ | ⟨m', rfl, hn, a1, a2, he, h2⟩
  · rw [encL_no h2 (by decide), h2]; exact (refEncode_no1 h1).mono fun _ _ h => h.texts _
  · rw [encL_no h2 (by decide), h2]
    have := may_yes' h1
    obtain ⟨k', rfl⟩ : ∃ k' : Nat, k = k' := ⟨k.toNat, by omega⟩
    obtain ⟨m', rfl⟩ : ∃ m' : Nat, m = m' := ⟨m.toNat, by omega⟩
    exact (refEncode_no2 (by omega) (by omega) (by omega)).mono fun _ _ h => h.texts _
  · rw [encL_no h2 (by decide), h2]
    have := may_yes' h1
    obtain ⟨m', rfl⟩ : ∃ m' : Nat, m = m' := ⟨m.toNat, by omega⟩
    subst hn
    exact (refEncode_no3 hS (by omega) (by omega) he).mono fun _ _ h => h.texts _
  · rw [encL_yes h2, h2]; subst hn; exact refEncode_yes hS a1 a2 he (hz a1)
end
end Go.Proofs.Ytohbijjkkadbaaa.Mat
