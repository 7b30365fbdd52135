/- Rebuild, by the program: walked. -/
import Derived.Test.YtohbijjkkadbaaaCodN
namespace Go.Proofs.Ytohbijjkkadbaaa.Mat
open Go.RowKit Fld

/-! ### which pieces -/
theorem good_less {I : Nat → Int} {n i j : Nat} (h : Good I n i) (hj : j ≤ i) : Good I n j := fun q hq => h q (by omega)
theorem cnt_num {I : Nat → Int} {n : Nat} : ∀ {i : Nat}, Good I n i → cnt (num I i) n = i
  | 0, _ => by
    have : ∀ n, cnt (num I 0) n = 0 := fun n => by
      induction n with
      | zero => rfl
      | succ n ih => rw [cnt_no rfl, ih]
    exact this n
  | i + 1, h => by
    have ih := cnt_num (good_less h (Nat.le_succ i))
    have hp := (h i (by omega)).1
    have h0 : num I i (I i).toNat = false := by
      cases e : num I i (I i).toNat
      · rfl
      · obtain ⟨j, hj, e2⟩ := num_iff.1 e
        exact absurd (by omega) ((h i (by omega)).2 j hj)
    have h1 : num I (i + 1) (I i).toNat = true := num_iff.2 ⟨i, by omega, by omega⟩
    have h2 : ∀ j, j ≠ (I i).toNat → num I (i + 1) j = num I i j := fun j hj => by
      have : ¬ I i = (j : Int) := by omega
      simp [num, this]
    rw [cnt_more h0 h1 h2 n, ih, if_pos (by omega)]
/-- the numbers that are there, in order; their bytes -/
def pkn (I : Nat → Int) (n len : Nat) : Nat → Nat := pk (num I len) n
def pkt (I : Nat → Int) (S : Nat → ByteArray) (n len i : Nat) : ByteArray := txt I S len (pkn I n len i)
theorem pkn_lt {I : Nat → Int} {n len i : Nat} (h : Good I n len) (hi : i < len) : pkn I n len i < n := pk_lt (by rw [cnt_num h]; exact hi)
theorem pkn_inj {I : Nat → Int} {n len i j : Nat} (h : Good I n len) (hi : i < len) (hj : j < len) (e : pkn I n len i = pkn I n len j) : i = j := pk_inj (by rw [cnt_num h]; exact hi) (by rw [cnt_num h]; exact hj) e
theorem pkn_of {I : Nat → Int} {n len i : Nat} (h : Good I n len) (hi : i < len) : ∃ j, j < len ∧ I j = (pkn I n len i : Int) := num_iff.1 (pk_yes (by rw [cnt_num h]; exact hi))
theorem pkt_of {I : Nat → Int} {S : Nat → ByteArray} {n len i : Nat} (h : Good I n len) (hi : i < len) : ∃ j, j < len ∧ I j = (pkn I n len i : Int) ∧ pkt I S n len i = S j := by
  obtain ⟨j, hj, e⟩ := pkn_of h hi
  refine ⟨j, hj, e, ?_⟩
  have := txt_at (S := S) h hj
  rw [e] at this
  exact this
theorem pkn_at {I : Nat → Int} {S : Nat → ByteArray} {n len j : Nat} (h : Good I n len) (hj : j < len) : ∃ i, i < len ∧ I j = (pkn I n len i : Int) ∧ pkt I S n len i = S j := by
  have hp := (h j hj).1
  have h1 : num I len (I j).toNat = true := num_iff.2 ⟨j, hj, by omega⟩
  obtain ⟨i, hi, e⟩ := pk_at (p := num I len) (n := n) (r := (I j).toNat) (by omega) h1
  rw [cnt_num h] at hi
  refine ⟨i, hi, by unfold pkn; rw [e]; omega, ?_⟩
  unfold pkt pkn
  rw [e]
  exact txt_at h hj
theorem even_pk {I : Nat → Int} {S : Nat → ByteArray} {n len : Nat} (h : Good I n len) : Even len (pkt I S n len) ↔ Even len S := by
  constructor
  · intro he j hj
    obtain ⟨i, hi, _, e⟩ := pkn_at (S := S) h hj
    obtain ⟨i0, hi0, _, e0⟩ := pkn_at (S := S) h (j := 0) (by omega)
    rw [← e, ← e0, he i hi, he i0 hi0]
  · intro he i hi
    obtain ⟨j, hj, _, e⟩ := pkt_of (S := S) h hi
    obtain ⟨j0, hj0, _, e0⟩ := pkt_of (S := S) h (i := 0) (by omega)
    rw [e, e0, he j hj, he j0 hj0]

instance (I : Nat → Int) (n i : Nat) : Decidable (Good I n i) := by unfold Good; infer_instance
/-- what Rebuild says .. -/
def rebE (k m : Int) (len : Nat) (I : Nat → Int) (S : Nat → ByteArray) : Int :=
  if MayB k m = true ∧ Good I (k + m).toNat len then (if (len : Int) < k then 10 else if Even len S then 0 else 3) else 1
/-- .. how many shards it makes .. -/
def rebL (k m : Int) (len : Nat) (I : Nat → Int) (S : Nat → ByteArray) : Nat := if rebE k m len I S = 0 then (k + m).toNat else 0
/-- .. and which -/
def rebT (k m : Int) (len : Nat) (I : Nat → Int) (S : Nat → ByteArray) (r : Nat) : ByteArray := reb k.toNat (pkn I (k + m).toNat len) (pkt I S (k + m).toNat len) r
theorem reb_cases (k m : Int) (len : Nat) (I : Nat → Int) (S : Nat → ByteArray) : (MayB k m = false ∧ rebE k m len I S = 1) ∨
    ∃ k' m' : Nat, k = k' ∧ m = m' ∧ 1 ≤ k' ∧ k' + m' ≤ 32 ∧ ((¬ Good I (k' + m') len ∧ rebE k m len I S = 1) ∨ (Good I (k' + m') len ∧ len < k' ∧ rebE k m len I S = 10) ∨
      (Good I (k' + m') len ∧ k' ≤ len ∧ ¬ Even len S ∧ rebE k m len I S = 3) ∨ (Good I (k' + m') len ∧ k' ≤ len ∧ Even len S ∧ rebE k m len I S = 0)) := by
  cases h : MayB k m
  · exact .inl ⟨rfl, by unfold rebE; rw [if_neg (fun hh => by rw [h] at hh; exact absurd hh.1 (by decide))]⟩
  · refine .inr ?_
    obtain ⟨k, m, rfl, rfl, h1, h2⟩ := may_nat h
    have e : ((k : Int) + (m : Int)).toNat = k + m := by omega
    refine ⟨k, m, rfl, rfl, h1, h2, ?_⟩
    unfold rebE
    rw [e]
    by_cases hG : Good I (k + m) len
    · rw [if_pos ⟨h, hG⟩]
      by_cases hl : (len : Int) < (k : Int)
      · rw [if_pos hl]; exact .inr (.inl ⟨hG, by omega, rfl⟩)
      · rw [if_neg hl]
        by_cases he : Even len S
        · rw [if_pos he]; exact .inr (.inr (.inr ⟨hG, by omega, he, rfl⟩))
        · rw [if_neg he]; exact .inr (.inr (.inl ⟨hG, by omega, he, rfl⟩))
    · rw [if_neg (fun hh => hG hh.2)]; exact .inl ⟨hG, rfl⟩

/-- two arrays in memory: there, bytes -/
structure Arr (w1 : World) (b s : Array Value) : Prop where
  a1 : ((w1.alloc (.cells boolZ 66)).alloc (.cells strZ 67)).heap[w1.heap.size]? = some (.cells boolZ 66 (0, 0))
  a2 : (((w1.alloc (.cells boolZ 66)).alloc (.cells strZ 67)).setRow w1.heap.size b).heap[w1.heap.size + 1]? = some (.cells strZ 67 (0, 0))
  a3 : ((((w1.alloc (.cells boolZ 66)).alloc (.cells strZ 67)).setRow w1.heap.size b).setRow (w1.heap.size + 1) s).heap[w1.heap.size]? = some (.cells b 66 (0, 0))
  a4 : ((((w1.alloc (.cells boolZ 66)).alloc (.cells strZ 67)).setRow w1.heap.size b).setRow (w1.heap.size + 1) s).heap[w1.heap.size + 1]? = some (.cells s 67 (0, 0))
  below : Below w1.heap.size w1 ((((w1.alloc (.cells boolZ 66)).alloc (.cells strZ 67)).setRow w1.heap.size b).setRow (w1.heap.size + 1) s)
theorem arr (w1 : World) (b s : Array Value) : Arr w1 b s := by
  have e0 : ((w1.alloc (.cells boolZ 66)).alloc (.cells strZ 67)).heap[w1.heap.size]? = some (.cells boolZ 66 (0, 0)) := by
    show ((w1.heap.push (.cells boolZ 66)).push (.cells strZ 67))[w1.heap.size]? = _
    rw [Array.getElem?_push, if_neg (by simp only [Array.size_push]; omega), Array.getElem?_push, if_pos rfl]
  have e1 : ((w1.alloc (.cells boolZ 66)).alloc (.cells strZ 67)).heap[w1.heap.size + 1]? = some (.cells strZ 67 (0, 0)) := by
    show ((w1.heap.push (.cells boolZ 66)).push (.cells strZ 67))[w1.heap.size + 1]? = _
    rw [Array.getElem?_push, if_pos (by simp only [Array.size_push])]
  have k5 := (setRow_other _ w1.heap.size (w1.heap.size + 1) b (by omega)).trans e1
  exact ⟨e0, k5, (setRow_other _ (w1.heap.size + 1) w1.heap.size s (by omega)).trans (setRow_heap _ w1.heap.size boolZ b _ _ e0), setRow_heap _ (w1.heap.size + 1) strZ s _ _ k5,
    below_setRow (below_setRow (((Below.refl _ _).alloc (Nat.le_refl _) _).alloc (by simp) _) (Nat.le_refl _) b) (Nat.le_succ _) s⟩
theorem st_arr {w : World} {g n : Nat} {T : Nat → ByteArray} (h : w.heap[g]? = some (.cells (sA T) 67 (0, 0))) (hn : n ≤ 32) : St w w.heap.size (some ⟨g, 0, none⟩) n T := fun _ =>
  ⟨_, rfl, heap_lt h, fun r hr => by
    rw [add_lit]
    exact (cell_of_row _ _ r _ _ _ h).trans (sA_get (by omega))⟩
set_option maxRecDepth 100000 in
theorem thPlace_any (p : Nat → Bool) (r g : Nat) (hr : r < 32) (w : World) (h : w.heap[g]? = some (.cells (bA p) 66 (0, 0))) :
    Calls Try.prog 41 #[.int .i64 (r : Int), .pointer (some ⟨g, 0, none⟩)] w fun e w' => e = .returned (.bool (p r)) ∧ w = w' := by
  have hz : (r : Int) < 32 := by omega
  have hc : w.cell? ⟨g, r, none⟩ = some (.bool (p r)) := (cell_of_row _ _ r _ _ _ h).trans (bA_get hr)
  clear h
  go_enter Try.func41, Try.ntmps41
  go_wp2
  go_ret
  exact ⟨rfl, rfl⟩

theorem arr_take (g k m : Nat) (h : k + m ≤ 32) (w : World) : (Instr.sliceAt 67 (.pointer (some ⟨g, 0, none⟩)) none (some (.int .i64 ((k : Int) + (m : Int)))) none).run Try.prog w = .ok (.slice (some ⟨g, 0, none⟩) (k + m) 32) w := by
  have ht : Try.prog.underlying 67 = some (.array 32 9) := Try.underlying67
  have hl : Try.prog.arrayLen 67 = 32 := by simp [Program.arrayLen, ht]
  have he : Try.prog.elem 67 = 9 := by simp [Program.elem, ht]
  obtain ⟨i, hi, hs⟩ := Option.map_eq_some_iff.1 sizeStr
  rw [run_sliceAt_array_h w 67 ⟨g, 0, none⟩ (by rw [hl, he]; exact ht) .i64 _ (by omega) (by rw [hl]; omega), hl, he]
  have e : ((k : Int) + (m : Int)).toNat = k + m := by omega
  simp [sizeOf, typeInfo, hi, hs, Result.andThen, slicedAt, e, Addr.add]
section
variable {A : Option Addr} {len cap : Nat} {I : Nat → Int} {S : Nat → ByteArray} {w : World} {k m : Nat}
set_option maxRecDepth 100000 in
theorem rebuild_no1 {k m : Int} (hk : i64 k) (hm : i64 m) (h : MayB k m = false) : Calls Try.prog 23 #[.int .i64 k, .int .i64 m, .slice A len cap] w (FailRet w 1) := by
  have HM := Lib.hid h; clear h
  go_enter Try.func23, Try.ntmps23
  go_wp2_with fail
  refine (codeMay_any _ _ hk hm _).mono ?_; rintro e w1 ⟨rfl, rfl⟩
  rw [HM.out]
  go_wp2
  go_ret2
  exact ⟨rfl, Below.refl _ _⟩
set_option maxRecDepth 100000 in
set_option maxHeartbeats 800000 in
theorem rebuild_no2 (hP : Pc w w.heap.size A len I S) (hl : len ≤ 9223372036854775807) (h1 : 1 ≤ k) (h2 : k + m ≤ 32) (hG : ¬ Good I (k + m) len) :
    Calls Try.prog 23 #[.int .i64 (k : Int), .int .i64 (m : Int), .slice A len cap] w (FailRet w 1) := by
  have hmay : MayB (k : Int) (m : Int) = true := decide_eq_true (by omega)
  have HM := Lib.hid hmay; clear hmay
  have ws : IntKind.i64.wrap ((k : Int) + (m : Int)) = ((k + m : Nat) : Int) := by rw [IntWalk.i64_in _ (by omega)]; omega
  have hzB := (zero_of_info infoB).1
  have hzT := (zero_of_info infoT).1
  have HP := Lib.hid hP; clear hP
  go_enter Try.func23, Try.ntmps23
  go_wp2_with fail
  refine (codeMay_any _ _ (by omega) (by omega) _).mono ?_; rintro e w1 ⟨rfl, rfl⟩
  rw [HM.out]
  go_wp2_with fail
  refine (byNumber_any h2 hl HP.out).mono ?_; rintro e w1 ⟨⟨hG2, rfl⟩ | ⟨hG2, rfl⟩, hB1⟩
  · exact absurd hG2 hG
  have HA := Lib.hid (arr w1 boolZ strZ)
  have HB1 := Lib.hid hB1
  clear hB1 hG hG2 HP
  go_wp2_with (first | refine wpList_store_row rfl 66 (.tmp 8) (.tmp 26) rfl w1.heap.size boolZ rfl rfl 66 boolZ HA.out.a1 (infoBs _ boolZ_size) (by first | rw [boolZ_size, boolZ_size] | rfl) boolZ_all ?_ | refine wpList_store_row rfl 67 (.tmp 9) (.tmp 27) rfl (w1.heap.size + 1) strZ rfl rfl 67 strZ HA.out.a2 (infoTs _ strZ_size) (by first | rw [strZ_size, strZ_size] | rfl) strZ_all ?_)
  go_ret2
  exact ⟨rfl, up_trans HB1.out HA.out.below⟩
set_option maxRecDepth 100000 in
set_option maxHeartbeats 1600000 in
theorem rebuild_no3 (hP : Pc w w.heap.size A len I S) (hl : len ≤ 9223372036854775807) (h1 : 1 ≤ k) (h2 : k + m ≤ 32) (hG : Good I (k + m) len) (hlen : len < k) :
    Calls Try.prog 23 #[.int .i64 (k : Int), .int .i64 (m : Int), .slice A len cap] w (FailRet w 10) := by
  have hmay : MayB (k : Int) (m : Int) = true := decide_eq_true (by omega)
  have HM := Lib.hid hmay; clear hmay
  have ws : IntKind.i64.wrap ((k : Int) + (m : Int)) = ((k + m : Nat) : Int) := by rw [IntWalk.i64_in _ (by omega)]; omega
  have hzB := (zero_of_info infoB).1
  have hzT := (zero_of_info infoT).1
  have HP := Lib.hid hP; clear hP
  go_enter Try.func23, Try.ntmps23
  go_wp2_with fail
  refine (codeMay_any _ _ (by omega) (by omega) _).mono ?_; rintro e w1 ⟨rfl, rfl⟩
  rw [HM.out]
  go_wp2_with fail
  refine (byNumber_any h2 hl HP.out).mono ?_; rintro e w1 ⟨⟨hG2, rfl⟩ | ⟨hG2, rfl⟩, hB1⟩
  rotate_left
  · exact absurd hG hG2
  have HA := Lib.hid (arr w1 (bA (num I len)) (sA (txt I S len)))
  have HB1 := Lib.hid hB1
  have HG := Lib.hid hG
  clear hB1 hG hG2 HP
  have hsl := fun w => arr_take (w1.heap.size + 1) k m h2 w
  go_wp2_with (first | refine wpList_store_row rfl 66 (.tmp 8) (.tmp 26) rfl w1.heap.size (bA (num I len)) rfl rfl 66 boolZ HA.out.a1 (infoBs _ (bA_size _)) (by first | rw [(bA_size _), boolZ_size] | rfl) (bA_all _) ?_ | refine wpList_store_row rfl 67 (.tmp 9) (.tmp 27) rfl (w1.heap.size + 1) (sA (txt I S len)) rfl rfl 67 strZ HA.out.a2 (infoTs _ (sA_size _)) (by first | rw [(sA_size _), strZ_size] | rfl) (sA_all _) ?_)
  have H3 := Lib.hid HA.out.a3
  have H4 := Lib.hid HA.out.a4
  have HB2 := Lib.hid (up_trans HB1.out HA.out.below)
  clear HA HB1
  generalize (((w1.alloc (.cells boolZ 66)).alloc (.cells strZ 67)).setRow w1.heap.size (bA (num I len))).setRow (w1.heap.size + 1) (sA (txt I S len)) = w2 at *
  refine (chosenStrs_any (S := txt I S len) (p := num I len) 41 #[.pointer (some ⟨w1.heap.size, 0, none⟩)] h2 (st_arr H4.out h2)
    (fun r W hr hW => thPlace_any (num I len) r w1.heap.size (by omega) W ((hW.block _ (heap_lt H3.out)).trans H3.out)) (by kernel_rfl)).mono ?_; rintro e w3 ⟨v, rfl, hC⟩
  obtain ⟨A3, c3, rfl, hc3, hS3⟩ := hC.st
  rw [cnt_num HG.out] at hS3 hc3 ⊢
  have HS3 : Hid (St w3 w3.heap.size A3 len (pkt I S (k + m) len)) := Lib.hid hS3
  have HB3 := Lib.hid (up_trans HB2.out hC.below)
  have H33 := Lib.hid ((hC.below.block _ (heap_lt H3.out)).trans H3.out)
  clear hS3 hC HB2 H3 H4
  have g1 : (len : Int) < (k : Int) := by omega
  go_wp2
  go_ret2
  exact ⟨rfl, HB3.out⟩
set_option maxRecDepth 100000 in
set_option maxHeartbeats 1600000 in
theorem rebuild_no4 (hP : Pc w w.heap.size A len I S) (hl : len ≤ 9223372036854775807) (h1 : 1 ≤ k) (h2 : k + m ≤ 32) (hG : Good I (k + m) len) (hlen : k ≤ len) (he : ¬ Even len S) :
    Calls Try.prog 23 #[.int .i64 (k : Int), .int .i64 (m : Int), .slice A len cap] w (FailRet w 3) := by
  have hmay : MayB (k : Int) (m : Int) = true := decide_eq_true (by omega)
  have HM := Lib.hid hmay; clear hmay
  have ws : IntKind.i64.wrap ((k : Int) + (m : Int)) = ((k + m : Nat) : Int) := by rw [IntWalk.i64_in _ (by omega)]; omega
  have hzB := (zero_of_info infoB).1
  have hzT := (zero_of_info infoT).1
  have HP := Lib.hid hP; clear hP
  have HE := Lib.hid (even_no (fun h => he ((even_pk hG).1 h))); clear he
  go_enter Try.func23, Try.ntmps23
  go_wp2_with fail
  refine (codeMay_any _ _ (by omega) (by omega) _).mono ?_; rintro e w1 ⟨rfl, rfl⟩
  rw [HM.out]
  go_wp2_with fail
  refine (byNumber_any h2 hl HP.out).mono ?_; rintro e w1 ⟨⟨hG2, rfl⟩ | ⟨hG2, rfl⟩, hB1⟩
  rotate_left
  · exact absurd hG hG2
  have HA := Lib.hid (arr w1 (bA (num I len)) (sA (txt I S len)))
  have HB1 := Lib.hid hB1
  have HG := Lib.hid hG
  clear hB1 hG hG2 HP
  have hsl := fun w => arr_take (w1.heap.size + 1) k m h2 w
  go_wp2_with (first | refine wpList_store_row rfl 66 (.tmp 8) (.tmp 26) rfl w1.heap.size (bA (num I len)) rfl rfl 66 boolZ HA.out.a1 (infoBs _ (bA_size _)) (by first | rw [(bA_size _), boolZ_size] | rfl) (bA_all _) ?_ | refine wpList_store_row rfl 67 (.tmp 9) (.tmp 27) rfl (w1.heap.size + 1) (sA (txt I S len)) rfl rfl 67 strZ HA.out.a2 (infoTs _ (sA_size _)) (by first | rw [(sA_size _), strZ_size] | rfl) (sA_all _) ?_)
  have H3 := Lib.hid HA.out.a3
  have H4 := Lib.hid HA.out.a4
  have HB2 := Lib.hid (up_trans HB1.out HA.out.below)
  clear HA HB1
  generalize (((w1.alloc (.cells boolZ 66)).alloc (.cells strZ 67)).setRow w1.heap.size (bA (num I len))).setRow (w1.heap.size + 1) (sA (txt I S len)) = w2 at *
  refine (chosenStrs_any (S := txt I S len) (p := num I len) 41 #[.pointer (some ⟨w1.heap.size, 0, none⟩)] h2 (st_arr H4.out h2)
    (fun r W hr hW => thPlace_any (num I len) r w1.heap.size (by omega) W ((hW.block _ (heap_lt H3.out)).trans H3.out)) (by kernel_rfl)).mono ?_; rintro e w3 ⟨v, rfl, hC⟩
  obtain ⟨A3, c3, rfl, hc3, hS3⟩ := hC.st
  rw [cnt_num HG.out] at hS3 hc3 ⊢
  have HS3 : Hid (St w3 w3.heap.size A3 len (pkt I S (k + m) len)) := Lib.hid hS3
  have HB3 := Lib.hid (up_trans HB2.out hC.below)
  have H33 := Lib.hid ((hC.below.block _ (heap_lt H3.out)).trans H3.out)
  clear hS3 hC HB2 H3 H4
  have g1 : ¬ (len : Int) < (k : Int) := by omega
  go_wp2_with fail
  refine (even_any HS3.out hl).mono ?_; rintro e w4 ⟨rfl, rfl⟩
  rw [HE.out]
  go_wp2
  go_ret2
  exact ⟨rfl, HB3.out⟩
set_option maxRecDepth 100000 in
set_option maxHeartbeats 1600000 in
theorem rebuild_yes (hP : Pc w w.heap.size A len I S) (hl : len ≤ 9223372036854775807) (h1 : 1 ≤ k) (h2 : k + m ≤ 32) (hG : Good I (k + m) len) (hlen : k ≤ len) (he : Even len S) (hz : ∀ i, i < len → (S i).size ≤ 140737488351232) :
    Calls Try.prog 23 #[.int .i64 (k : Int), .int .i64 (m : Int), .slice A len cap] w (TextsRet w 0 (k + m) (reb k (pkn I (k + m) len) (pkt I S (k + m) len))) := by
  have hmay : MayB (k : Int) (m : Int) = true := decide_eq_true (by omega)
  have HM := Lib.hid hmay; clear hmay
  have ws : IntKind.i64.wrap ((k : Int) + (m : Int)) = ((k + m : Nat) : Int) := by rw [IntWalk.i64_in _ (by omega)]; omega
  have hzB := (zero_of_info infoB).1
  have hzT := (zero_of_info infoT).1
  have HP := Lib.hid hP; clear hP
  have hp := (even_pk hG).2 he
  have HE := Lib.hid (even_yes hp)
  have HE2 : Hid (Even k (pkt I S (k + m) len)) := Lib.hid (fun i hi => hp i (by omega))
  have hz0 : (pkt I S (k + m) len 0).size ≤ 140737488351232 := by
    obtain ⟨j, hj, _, e⟩ := pkt_of (S := S) hG (i := 0) (by omega)
    rw [e]; exact hz j hj
  have HZ := Lib.hid hz0
  clear he hp hz hz0
  go_enter Try.func23, Try.ntmps23
  go_wp2_with fail
  refine (codeMay_any _ _ (by omega) (by omega) _).mono ?_; rintro e w1 ⟨rfl, rfl⟩
  rw [HM.out]
  go_wp2_with fail
  refine (byNumber_any h2 hl HP.out).mono ?_; rintro e w1 ⟨⟨hG2, rfl⟩ | ⟨hG2, rfl⟩, hB1⟩
  rotate_left
  · exact absurd hG hG2
  have HA := Lib.hid (arr w1 (bA (num I len)) (sA (txt I S len)))
  have HB1 := Lib.hid hB1
  have HG := Lib.hid hG
  clear hB1 hG hG2 HP
  have hsl := fun w => arr_take (w1.heap.size + 1) k m h2 w
  go_wp2_with (first | refine wpList_store_row rfl 66 (.tmp 8) (.tmp 26) rfl w1.heap.size (bA (num I len)) rfl rfl 66 boolZ HA.out.a1 (infoBs _ (bA_size _)) (by first | rw [(bA_size _), boolZ_size] | rfl) (bA_all _) ?_ | refine wpList_store_row rfl 67 (.tmp 9) (.tmp 27) rfl (w1.heap.size + 1) (sA (txt I S len)) rfl rfl 67 strZ HA.out.a2 (infoTs _ (sA_size _)) (by first | rw [(sA_size _), strZ_size] | rfl) (sA_all _) ?_)
  have H3 := Lib.hid HA.out.a3
  have H4 := Lib.hid HA.out.a4
  have HB2 := Lib.hid (up_trans HB1.out HA.out.below)
  clear HA HB1
  generalize (((w1.alloc (.cells boolZ 66)).alloc (.cells strZ 67)).setRow w1.heap.size (bA (num I len))).setRow (w1.heap.size + 1) (sA (txt I S len)) = w2 at *
  refine (chosenStrs_any (S := txt I S len) (p := num I len) 41 #[.pointer (some ⟨w1.heap.size, 0, none⟩)] h2 (st_arr H4.out h2)
    (fun r W hr hW => thPlace_any (num I len) r w1.heap.size (by omega) W ((hW.block _ (heap_lt H3.out)).trans H3.out)) (by kernel_rfl)).mono ?_; rintro e w3 ⟨v, rfl, hC⟩
  obtain ⟨A3, c3, rfl, hc3, hS3⟩ := hC.st
  rw [cnt_num HG.out] at hS3 hc3 ⊢
  have HS3 : Hid (St w3 w3.heap.size A3 len (pkt I S (k + m) len)) := Lib.hid hS3
  have HB3 := Lib.hid (up_trans HB2.out hC.below)
  have H33 := Lib.hid ((hC.below.block _ (heap_lt H3.out)).trans H3.out)
  clear hS3 hC HB2 H3 H4
  have g1 : ¬ (len : Int) < (k : Int) := by omega
  go_wp2_with fail
  refine (even_any HS3.out hl).mono ?_; rintro e w4 ⟨rfl, rfl⟩
  rw [HE.out]
  go_wp2_with fail
  refine (table_yes k m h1 h2 _).mono ?_; rintro e w4 ⟨A4, c4, RA4, RC4, rfl, hM4, hB4⟩
  have M4 := Lib.hid hM4
  have HB4 := Lib.hid (up_trans HB3.out hB4)
  have HS4 := Lib.hid (HS3.out.up hB4)
  have H34 := Lib.hid ((hB4.block _ (heap_lt H33.out)).trans H33.out)
  clear hM4 hB4 HB3 HS3 H33
  go_wp2_with fail
  refine (chosenRows_any (p := num I len) 41 #[.pointer (some ⟨w1.heap.size, 0, none⟩)] h2 M4.out
    (fun r W hr hW => thPlace_any (num I len) r w1.heap.size (by omega) W ((hW.block _ (heap_lt H34.out)).trans H34.out)) (by kernel_rfl)).mono ?_; rintro e w5 ⟨v, rfl, hC⟩
  obtain ⟨A5, c5, rfl, hc5, hM5⟩ := hC.mt M4.out
  rw [cnt_num HG.out] at hM5 hc5 ⊢
  have M5 : Hid (Mt w5 w5.heap.size A5 len (fun _ => k) (fun i => RA4 (pkn I (k + m) len i)) (fun i => RC4 (pkn I (k + m) len i)) (fun i => tab k (pkn I (k + m) len i))) := Lib.hid hM5
  have M45 := Lib.hid (M4.out.up hC.below)
  have HB5 := Lib.hid (up_trans HB4.out hC.below)
  have HS5 := Lib.hid (HS4.out.up hC.below)
  clear hC hM5 HB4 HS4 H34 M4
  go_wp2_with fail
  have HI : Hid (Inv k (fun r c => tab k (pkn I (k + m) len r) c)) := Lib.hid (tab_inv (by omega) (fun i hi => by have := pkn_lt HG.out (i := i) (by omega); omega) (fun i j hi hj e => pkn_inj HG.out (by omega) (by omega) e))
  refine (inverse_yes (M5.out.less (k := k) hlen) (ok_sq h1 (by omega)) rfl HI.out).mono ?_; rintro e w6 ⟨A6, c6, RA6, RC6, rfl, hM6, hB6⟩
  have M6 := Lib.hid hM6
  have M46 := Lib.hid (M45.out.up hB6)
  have HB6 := Lib.hid (up_trans HB5.out hB6)
  have HS6 := Lib.hid (HS5.out.up hB6)
  clear hM6 hB6 HB5 HS5 M45 M5
  go_wp2_with fail
  refine (mul_ok M46.out M6.out ⟨ok_rect (by omega) h2 h1 (by omega), ok_sq h1 (by omega), rfl⟩).mono ?_; rintro e w7 ⟨A7, c7, RA7, RC7, rfl, hM7, hB7⟩
  have M7 := Lib.hid hM7
  have HB7 := Lib.hid (up_trans HB6.out hB7)
  have HS7 := Lib.hid (HS6.out.up hB7)
  clear hM7 hB7 HB6 HS6 M46 M6
  go_wp2_with fail
  refine (shards_any (HS7.out.less (k := k) hlen) M7.out h1 (by omega) (by omega) HE2.out HZ.out).mono ?_; rintro e w8 ⟨A8, c8, rfl, hc8, hS8, hB8⟩
  have HB8 := Lib.hid (up_trans HB7.out hB8)
  have HS8 := Lib.hid hS8
  clear hS8 hB8 HB7 M7
  go_wp2
  go_ret2
  exact ⟨_, _, rfl, hc8, HS8.out, HB8.out⟩

theorem rebuild_any {k m : Int} (hP : Pc w w.heap.size A len I S) (hl : len ≤ 9223372036854775807) (hk : i64 k) (hm : i64 m) (hz : ∀ i, i < len → (S i).size ≤ 140737488351232) :
    Calls Try.prog 23 #[.int .i64 k, .int .i64 m, .slice A len cap] w (TextsRet w (rebE k m len I S) (rebL k m len I S) (rebT k m len I S)) := by
  unfold rebL
  rcases reb_cases k m len I S with ⟨h, e⟩ | ⟨k, m, rfl, rfl, h1, h2, ⟨hG, e⟩ | ⟨hG, hlen, e⟩ | ⟨hG, hlen, he, e⟩ | ⟨hG, hlen, he, e⟩⟩
  · rw [e]; exact (rebuild_no1 hk hm h).mono fun _ _ h => h.texts _
  · rw [e]; exact (rebuild_no2 hP hl h1 h2 hG).mono fun _ _ h => h.texts _
  · rw [e]; exact (rebuild_no3 hP hl h1 h2 hG hlen).mono fun _ _ h => h.texts _
  · rw [e]; exact (rebuild_no4 hP hl h1 h2 hG hlen he).mono fun _ _ h => h.texts _
  · rw [e]
    have e2 : ((k : Int) + (m : Int)).toNat = k + m := by omega
    have e3 : rebT (k : Int) (m : Int) len I S = reb k (pkn I (k + m) len) (pkt I S (k + m) len) := by
      funext r
      unfold rebT
      rw [e2]; rfl
    rw [if_pos rfl, e2, e3]
    exact rebuild_yes hP hl h1 h2 hG hlen he hz
end
end Go.Proofs.Ytohbijjkkadbaaa.Mat
