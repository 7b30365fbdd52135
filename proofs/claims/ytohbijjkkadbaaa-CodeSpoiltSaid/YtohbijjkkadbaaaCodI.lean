/- Fits, by the program and by the document: walked. -/
import Derived.Test.YtohbijjkkadbaaaCodH
namespace Go.Proofs.Ytohbijjkkadbaaa.Mat
open Go.RowKit Fld

/-- all are k + m shards of their data -/
def fitsB (k m : Int) (n : Nat) (S : Nat → ByteArray) : Bool :=
  decide (MayB k m = true ∧ (n : Int) = k + m ∧ Even k.toNat S ∧ ∀ i, i < m.toNat → enc k.toNat S (k.toNat + i) = S (k.toNat + i))
theorem rest_map {w : World} {B n k m : Nat} {A : Option Addr} {S : Nat → ByteArray} (hn : n = k + m) (h : St w B A n S) : St w B (A.map fun x => x.add k) m (fun i => S (k + i)) := by
  have := h.rest (k := k) (cap := n + k + 1) (by omega)
  rwa [if_neg (by omega), show n - k = m by omega] at this
theorem rest_nil {w : World} {B n k m : Nat} {A : Option Addr} {S : Nat → ByteArray} (hn : n = k + m) (hc : n ≤ k) : St w B A m (fun i => S (k + i)) := fun h => absurd h (by omega)
/-- a call answers yes or no, beside new memory -/
def BoolRet (w : World) (b : Bool) (e : Ending) (w' : World) : Prop := e = .returned (.bool b) ∧ Below w.heap.size w w'

section
variable {A : Option Addr} {n cap : Nat} {S : Nat → ByteArray} {w : World} {k m : Int}
theorem fits_iff : fitsB k m n S = true ↔ (MayB k m = true ∧ (n : Int) = k + m ∧ Even k.toNat S ∧ ∀ i, i < m.toNat → enc k.toNat S (k.toNat + i) = S (k.toNat + i)) := decide_eq_true_iff
theorem even_iff : evenB n S = true ↔ Even n S := decide_eq_true_iff
theorem stB_iff {n' : Nat} {S' : Nat → ByteArray} : stB n S n' S' = true ↔ StSame n S n' S' := decide_eq_true_iff
theorem fits_no (h : ¬ (MayB k m = true ∧ (n : Int) = k + m)) : fitsB k m n S = false := decide_eq_false (fun hh => h ⟨hh.1, hh.2.1⟩)
theorem fits_at {k m : Nat} (h1 : 1 ≤ k) (h2 : k + m ≤ 32) (hn : n = k + m) : fitsB (k : Int) (m : Int) n S = (evenB k S && stB m (fun r => enc k S (k + r)) m (fun i => S (k + i))) := by
  rw [Bool.eq_iff_iff, Bool.and_eq_true, fits_iff, even_iff, stB_iff]
  unfold StSame
  have hmay : MayB (k : Int) (m : Int) = true := decide_eq_true (by omega)
  simp only [hmay, Int.toNat_natCast, true_and]
  constructor
  · rintro ⟨_, h3, h4⟩; exact ⟨h3, h4⟩
  · rintro ⟨h3, h4⟩; exact ⟨by omega, h3, h4⟩
theorem encE_even {k m : Nat} (h1 : 1 ≤ k) (h2 : k + m ≤ 32) (he : Even k S) : encE (k : Int) (m : Int) k S = 0 := by
  unfold encE
  have hmay : MayB (k : Int) (m : Int) = true := decide_eq_true (by omega)
  simp [hmay, he]
theorem encE_odd {k m : Nat} (h1 : 1 ≤ k) (h2 : k + m ≤ 32) (he : ¬ Even k S) : encE (k : Int) (m : Int) k S = 3 := by
  unfold encE
  have hmay : MayB (k : Int) (m : Int) = true := decide_eq_true (by omega)
  simp [hmay, he]

set_option maxRecDepth 100000 in
theorem fits_no1 (hk : i64 k) (hm : i64 m) (h : MayB k m = false) : Calls Try.prog 21 #[.int .i64 k, .int .i64 m, .slice A n cap] w (BoolRet w false) := by
  have HM := Lib.hid h; clear h
  go_enter Try.func21, Try.ntmps21
  go_wp2_with fail
  refine (codeMay_any _ _ hk hm _).mono ?_; rintro e w1 ⟨rfl, rfl⟩
  rw [HM.out]
  go_wp2
  go_ret
  exact ⟨rfl, Below.refl _ _⟩
set_option maxRecDepth 100000 in
theorem fits_no2 {k m : Nat} (h1 : 1 ≤ k) (h2 : k + m ≤ 32) (hn : n ≠ k + m) : Calls Try.prog 21 #[.int .i64 (k : Int), .int .i64 (m : Int), .slice A n cap] w (BoolRet w false) := by
  have hmay : MayB (k : Int) (m : Int) = true := decide_eq_true (by omega)
  have HM := Lib.hid hmay; clear hmay
  have ws : IntKind.i64.wrap ((k : Int) + (m : Int)) = (k : Int) + (m : Int) := IntWalk.i64_in _ (by omega)
  have g1 : ((n : Int) != (k : Int) + (m : Int)) = true := by rw [bne_iff_ne]; omega
  go_enter Try.func21, Try.ntmps21
  go_wp2_with fail
  refine (codeMay_any _ _ (by omega) (by omega) _).mono ?_; rintro e w1 ⟨rfl, rfl⟩
  rw [HM.out]
  go_wp2
  go_ret
  exact ⟨rfl, Below.refl _ _⟩
set_option maxRecDepth 100000 in
set_option maxHeartbeats 800000 in
theorem fits_at_any {k m : Nat} (hS : St w w.heap.size A n S) (hc : n ≤ cap) (h1 : 1 ≤ k) (h2 : k + m ≤ 32) (hn : n = k + m) (hz : (S 0).size ≤ 140737488351232) :
    Calls Try.prog 21 #[.int .i64 (k : Int), .int .i64 (m : Int), .slice A n cap] w (BoolRet w (fitsB (k : Int) (m : Int) n S)) := by
  have hmay : MayB (k : Int) (m : Int) = true := decide_eq_true (by omega)
  have HM := Lib.hid hmay; clear hmay
  have ws : IntKind.i64.wrap ((k : Int) + (m : Int)) = (k : Int) + (m : Int) := IntWalk.i64_in _ (by omega)
  have g1 : ((n : Int) != (k : Int) + (m : Int)) = false := by rw [bne_eq_false_iff_eq]; omega
  have HS := Lib.hid hS; clear hS
  have HF := Lib.hid (fits_at (S := S) h1 h2 hn)
  by_cases he : Even k S
  · have hE := encE_even h1 h2 he
    have HE := Lib.hid he
    clear he
    go_enter Try.func21, Try.ntmps21
    go_wp2_with fail
    refine (codeMay_any _ _ (by omega) (by omega) _).mono ?_; rintro e w1 ⟨rfl, rfl⟩
    rw [HM.out]
    go_wp2_with fail
    refine (encode_any (HS.out.less (k := k) (by omega)) (by omega) ⟨by omega, by omega⟩ ⟨by omega, by omega⟩ (fun _ => hz)).mono ?_; rintro e w1 ⟨A1, c1, rfl, _, hS1, hB1⟩
    rw [encL_yes hE] at hS1 ⊢
    rw [hE]
    have HS1 := Lib.hid hS1
    have HB1 := Lib.hid hB1
    clear hS1 hB1 hE
    go_wp2_with fail
    all_goals
      refine (strEqual_any (S' := fun i => S (k + i)) HS1.out (by first | exact rest_map hn (HS.out.up HB1.out) | exact rest_nil (B := 0) hn (by omega)) (by omega) (by omega)).mono ?_; rintro e w2 ⟨rfl, q, rfl⟩
      go_wp2
      go_ret
      exact ⟨ret_bool (by rw [HF.out, even_yes HE.out]; rfl), below_drewN HB1.out _⟩
  · have hE := encE_odd h1 h2 he
    have HE := Lib.hid he
    clear he
    go_enter Try.func21, Try.ntmps21
    go_wp2_with fail
    refine (codeMay_any _ _ (by omega) (by omega) _).mono ?_; rintro e w1 ⟨rfl, rfl⟩
    rw [HM.out]
    go_wp2_with fail
    refine (encode_any (HS.out.less (k := k) (by omega)) (by omega) ⟨by omega, by omega⟩ ⟨by omega, by omega⟩ (fun _ => hz)).mono ?_; rintro e w1 ⟨A1, c1, rfl, _, hS1, hB1⟩
    rw [hE]
    have HB1 := Lib.hid hB1
    clear hS1 hB1 hE
    go_wp2
    go_ret
    exact ⟨ret_bool (by rw [HF.out, even_no HE.out]; rfl), HB1.out⟩
theorem fits_any (hS : St w w.heap.size A n S) (hc : n ≤ cap) (hk : i64 k) (hm : i64 m) (hz : 0 < n → (S 0).size ≤ 140737488351232) :
    Calls Try.prog 21 #[.int .i64 k, .int .i64 m, .slice A n cap] w (BoolRet w (fitsB k m n S)) := by
  cases h : MayB k m
  · rw [fits_no (fun hh => by rw [h] at hh; exact absurd hh.1 (by decide))]; exact fits_no1 hk hm h
  · have := may_yes' h
    obtain ⟨k', rfl⟩ : ∃ k' : Nat, k = k' := ⟨k.toNat, by omega⟩
    obtain ⟨m', rfl⟩ : ∃ m' : Nat, m = m' := ⟨m.toNat, by omega⟩
    by_cases hn : n = k' + m'
    · exact fits_at_any hS hc (by omega) (by omega) hn (hz (by omega))
    · rw [fits_no (fun hh => hn (by omega))]; exact fits_no2 (by omega) (by omega) hn

/-! ### the document's own -/
set_option maxRecDepth 100000 in
theorem refFits_no1 (h : MayB k m = false) : Calls Try.prog 22 #[.int .i64 k, .int .i64 m, .slice A n cap] w (BoolRet w false) := by
  have HM := Lib.hid h; clear h
  go_enter Try.func22, Try.ntmps22
  go_wp2_with fail
  refine (refMayC_any _ _ _).mono ?_; rintro e w1 ⟨rfl, rfl⟩
  rw [HM.out]
  go_wp2
  go_ret
  exact ⟨rfl, Below.refl _ _⟩
set_option maxRecDepth 100000 in
theorem refFits_no2 {k m : Nat} (h1 : 1 ≤ k) (h2 : k + m ≤ 32) (hn : n ≠ k + m) : Calls Try.prog 22 #[.int .i64 (k : Int), .int .i64 (m : Int), .slice A n cap] w (BoolRet w false) := by
  have hmay : MayB (k : Int) (m : Int) = true := decide_eq_true (by omega)
  have HM := Lib.hid hmay; clear hmay
  have ws : IntKind.i64.wrap ((k : Int) + (m : Int)) = (k : Int) + (m : Int) := IntWalk.i64_in _ (by omega)
  have g1 : ((n : Int) != (k : Int) + (m : Int)) = true := by rw [bne_iff_ne]; omega
  go_enter Try.func22, Try.ntmps22
  go_wp2_with fail
  refine (refMayC_any _ _ _).mono ?_; rintro e w1 ⟨rfl, rfl⟩
  rw [HM.out]
  go_wp2
  go_ret
  exact ⟨rfl, Below.refl _ _⟩
theorem enc_same {k m : Nat} (h1 : 1 ≤ k) (h2 : k + m ≤ 32) (L : Nat) (hL : encE (k : Int) (m : Int) k S = 0 → L = m) :
    ((encE (k : Int) (m : Int) k S == 0) && stB L (fun r => enc k S (k + r)) m (fun i => S (k + i))) = (evenB k S && stB m (fun r => enc k S (k + r)) m (fun i => S (k + i))) := by
  by_cases he : Even k S
  · have h := encE_even h1 h2 he
    rw [hL h, h, even_yes he]; rfl
  · rw [encE_odd h1 h2 he, even_no he]; rfl
set_option maxRecDepth 100000 in
set_option maxHeartbeats 800000 in
theorem refFits_at_any {k m : Nat} (hS : St w w.heap.size A n S) (hc : n ≤ cap) (h1 : 1 ≤ k) (h2 : k + m ≤ 32) (hn : n = k + m) (hz : (S 0).size ≤ 140737488351232) :
    Calls Try.prog 22 #[.int .i64 (k : Int), .int .i64 (m : Int), .slice A n cap] w (BoolRet w (fitsB (k : Int) (m : Int) n S)) := by
  have hmay : MayB (k : Int) (m : Int) = true := decide_eq_true (by omega)
  have HM := Lib.hid hmay; clear hmay
  have ws : IntKind.i64.wrap ((k : Int) + (m : Int)) = (k : Int) + (m : Int) := IntWalk.i64_in _ (by omega)
  have g1 : ((n : Int) != (k : Int) + (m : Int)) = false := by rw [bne_eq_false_iff_eq]; omega
  have HS := Lib.hid hS; clear hS
  have hF := fits_at (S := S) h1 h2 hn
  have hL : encL (k : Int) (m : Int) k S ≤ 9223372036854775807 := by unfold encL; split <;> omega
  have hL2 : encE (k : Int) (m : Int) k S = 0 → encL (k : Int) (m : Int) k S = m := encL_yes
  rw [← enc_same h1 h2 (encL (k : Int) (m : Int) k S) hL2] at hF
  have HF := Lib.hid hF
  clear hF hL2
  go_enter Try.func22, Try.ntmps22
  go_wp2_with fail
  refine (refMayC_any _ _ _).mono ?_; rintro e w1 ⟨rfl, rfl⟩
  rw [HM.out]
  go_wp2_with fail
  refine (refEncode_any (HS.out.less (k := k) (by omega)) (fun _ => hz)).mono ?_; rintro e w1 ⟨A1, c1, rfl, _, hS1, hB1⟩
  have HS1 := Lib.hid hS1
  have HB1 := Lib.hid hB1
  clear hS1 hB1
  go_wp2_with fail
  all_goals
    refine (strSame_any (S' := fun i => S (k + i)) HS1.out (by first | exact rest_map hn (HS.out.up HB1.out) | exact rest_nil (B := 0) hn (by omega)) hL (by omega)).mono ?_; rintro e w2 ⟨rfl, q, rfl⟩
    go_wp2
    all_goals
      go_ret
      refine ⟨ret_bool ?_, below_drewN HB1.out _⟩
      rw [HF.out]
      simp_all
theorem refFits_any (hS : St w w.heap.size A n S) (hc : n ≤ cap) (hz : 0 < n → (S 0).size ≤ 140737488351232) :
    Calls Try.prog 22 #[.int .i64 k, .int .i64 m, .slice A n cap] w (BoolRet w (fitsB k m n S)) := by
  cases h : MayB k m
  · rw [fits_no (fun hh => by rw [h] at hh; exact absurd hh.1 (by decide))]; exact refFits_no1 h
  · have := may_yes' h
    obtain ⟨k', rfl⟩ : ∃ k' : Nat, k = k' := ⟨k.toNat, by omega⟩
    obtain ⟨m', rfl⟩ : ∃ m' : Nat, m = m' := ⟨m.toNat, by omega⟩
    by_cases hn : n = k' + m'
    · exact refFits_at_any hS hc (by omega) (by omega) hn (hz (by omega))
    · rw [fits_no (fun hh => hn (by omega))]; exact refFits_no2 (by omega) (by omega) hn
end
end Go.Proofs.Ytohbijjkkadbaaa.Mat
