/- XCrcA XCrcB XCrcC XCrcD, as far as this dump goes. -/
import Derived.Test.YtofafmjkjgiccaaRows
import Derived.Test.YtofafmjkjgiccaaCelCrc
import Derived.WalkKit
import Derived.WalkSpells
import Derived.WalkLawsBesides
import Derived.Lib.Hide
import Derived.Deep.WholeRow
import Derived.Deep.QuietTactic
import Derived.BigQuiet
import Derived.IntWalk
/- The small functions of package crc, walked. -/
namespace Go.Proofs.Ytofafmjkjgiccaa.Crc
open Go.RowKit

theorem ret_int {k : IntKind} {a b : Int} (h : a = b) : Ending.returned (.int k a) = .returned (.int k b) := by rw [h]

set_option maxHeartbeats 400000 in
theorem stepBit_any (a x : Int) (h0 : 0 ≤ a) (h1 : a < 4294967296) (h2 : 0 ≤ x) (h3 : x ≤ 1) (w : World) :
    Calls Try.prog 74 #[.int .u32 a, .int .u32 x] w fun e w' => e = .returned (.int .u32 (V (sb (B a) (one x)))) ∧ w = w' := by
  go_enter Try.func74, Try.ntmps74
  go_wp2
  go_ret
  exact ⟨ret_int (sb_num a x h0 h1 h2 h3), rfl⟩


set_option maxRecDepth 100000 in
set_option maxHeartbeats 400000 in
theorem refStep_any (a b : Int) (h0 : 0 ≤ a) (h1 : a < 4294967296) (h2 : 0 ≤ b) (h3 : b < 256) (w : World) :
    Calls Try.prog 73 #[.int .u32 a, .int .u8 b] w fun e w' => e = .returned (.int .u32 (V (st (B a) (B8 b)))) ∧ w = w' := by
  go_enter Try.func73, Try.ntmps73
  go_wp2
  go_loop [0, 1, 5] (fun r b' i => ∃ k : Nat, k ≤ 8 ∧ i = .int .i64 k ∧ r = .int .u32 (V (stL (B a) ((bits8 (B8 b)).take k))) ∧ b' = .int .u8 (V8 (B8 b <<< k))) (fun _ _ i => 8 - (intOf i).toNat)
  case atStart => exact ⟨0, by omega, rfl, by rw [List.take_zero, stL_nil, V_B a h0 h1], by rw [BitVec.shiftLeft_zero, V8_B8 b h2 h3]⟩
  case round =>
    obtain ⟨k, hk, rfl, rfl, rfl⟩ := hrel
    by_cases hlt : k < 8
    · have v0 := V_lo (stL (B a) ((bits8 (B8 b)).take k))
      have v1 := V_hi (stL (B a) ((bits8 (B8 b)).take k))
      have v2 := V8_lo (B8 b <<< k)
      have v3 := V8_hi (B8 b <<< k)
      generalize hR : V (stL (B a) ((bits8 (B8 b)).take k)) = R at *
      generalize hX : V8 (B8 b <<< k) = X at *
      have HR := Lib.hid hR; clear hR
      have HX := Lib.hid hX; clear hX
      go_wp2
      all_goals
        go_round
        case rel => 
          refine ⟨k + 1, by omega, by go_num, ?_, ?_⟩
          · first | rw [ref_yes HR.out HX.out hlt (by assumption)] | rw [ref_no HR.out HX.out hlt (by assumption)]
          · rw [ref_byte HX.out]
        case measure => simp [intOf]; omega
    · go_wp2
      go_ret
      obtain rfl : k = 8 := by omega
      exact ⟨rfl, rfl⟩
end Go.Proofs.Ytofafmjkjgiccaa.Crc


/- The table, the closure, the sum, walked. -/
namespace Go.Proofs.Ytofafmjkjgiccaa.Crc
open Go.RowKit

theorem info42 : (Try.prog.info? 119).map (fun i => (i.zero, i.size)) = some (some (.agg tabZ), 256) := by kernel_rfl

theorem info42s : (Try.prog.info? 119).map (·.size) = some 256 := (zero_of_info info42).2

theorem below_setRow {B : Nat} {a w : World} (h : Below B a w) {g : Nat} (hg : B ≤ g) (cs : Array Value) : Below B a (w.setRow g cs) :=
  ⟨h.os, h.tape, h.output, by rw [setRow_size]; exact h.size, fun k hk => (setRow_other w g k cs (by omega)).trans (h.block k hk)⟩

set_option maxRecDepth 100000 in
set_option maxHeartbeats 400000 in
theorem steps_any (w : World) :
    Calls Try.prog 71 #[] w fun e w' => e = .returned (.agg tabW) ∧ Below w.heap.size w w' := by
  have hz := (zero_of_info info42).1
  go_enter Try.func71, Try.ntmps71
  go_wp2
  go_loopw [4] (fun i wr => ∃ k : Nat, k ≤ 128 ∧ i = .int .i64 k ∧ wr = (w.alloc (.cells tabZ 119)).alloc (.cells (tabA k) 119)) (fun i _ => 128 - (intOf i).toNat)
  case atStart => exact ⟨0, by omega, rfl, by rw [← tabZ_eq]⟩
  case round =>
    obtain ⟨k, hk, rfl, rfl⟩ := hrel
    by_cases hlt : k < 128
    · have g0 := tabA_get k k (by omega)
      have g1 := tabA_get k (2 * k) (by omega)
      have g2 := tabA_get k (2 * k + 1) (by omega)
      go_wp2_with (go_at_call 74; refine (stepBit_any _ _ (V_lo _) (V_hi _) (by omega) (by omega) _).mono ?_; rintro e w' ⟨rfl, rfl⟩)
      go_roundw
      case rel => exact ⟨k + 1, by omega, by go_num, by rw [tabA_next k hlt]⟩
      case measure => simp [intOf]; omega
    · obtain rfl : k = 128 := by omega
      have hs := tabA_size 128
      have ha := tabA_all 128
      go_wp2_with (first | (refine wpList_load_row rfl 119 _ rfl (w.heap.size + 1) rfl 119 (tabA 128) (0, 0) _ (heap_alloc2_new _ _ _) Try.underlying119 rfl ?_ ?_) | (refine wpList_store_row rfl 119 _ _ rfl w.heap.size (tabA 128) rfl rfl 119 tabZ (heap_alloc2_old _ _ _) ?_ ?_ ?_ ?_))
      · rw [hs]; exact info42s
      · rw [hs]; exact info42s
      · rw [hs, tabZ_size]
      · exact ha
      · refine bodyPost_ret (v := .agg tabW) (results_cell_row rfl _ _ w.heap.size 119 (tabA 128) (0, 0) _ rfl (setRow_heap _ _ _ _ _ _ (heap_alloc2_old _ _ _)) Try.underlying119 rfl (by rw [hs]; exact info42s)) rfl ⟨rfl, ?_⟩
        exact below_setRow (((Below.refl _ _).alloc (Nat.le_refl _) _).alloc (by simp) _) (Nat.le_refl _) _

set_option maxRecDepth 100000 in
set_option maxHeartbeats 400000 in
/-- the closure: r, b, and the table's place -/
theorem closure_any (a b : Int) (g : Nat) (h0 : 0 ≤ a) (h1 : a < 4294967296) (h2 : 0 ≤ b) (h3 : b < 256) (w : World)
    (hg : w.heap[g]? = some (.cells tabW 119 (0, 0))) :
    Calls Try.prog 72 #[.int .u32 a, .int .u8 b, .pointer (some ⟨g, 0, none⟩)] w fun e w' => e = .returned (.int .u32 (V (st (B a) (B8 b)))) ∧ w = w' := by
  have e := idx_num a b h0 h1 h2 h3
  have x0 : 0 ≤ bits .xor .u8 (a / 16777216) b := by rw [e]; exact V8_lo _
  have x1 : bits .xor .u8 (a / 16777216) b < 256 := by rw [e]; exact V8_hi _
  have hc : w.cell? ⟨g, (bits .xor .u8 (a / 16777216) b).toNat, none⟩ = some (.int .u32 (V (st 0#32 (top (B a) ^^^ B8 b)))) := by
    rw [cell_of_row w g _ _ _ _ hg, e, V8_toNat, tabW_get]
  clear hg e
  go_enter Try.func72, Try.ntmps72
  go_wp2
  go_ret
  exact ⟨ret_int (out_num a b h0 h1), rfl⟩

theorem take_snoc (s : ByteArray) (k : Nat) (h : k < s.size) : s.data.toList.take (k + 1) = s.data.toList.take k ++ [s[k]] := by
  rw [List.take_succ_eq_append_getElem (by simpa using h)]; rfl

/-- the register behind the first k bytes of a text -/
def rk (s : ByteArray) (k : Nat) : BitVec 32 := rg 0xffffffff#32 (s.data.toList.take k)
theorem rk_zero (s : ByteArray) : rk s 0 = 0xffffffff#32 := rfl
theorem rk_next (s : ByteArray) (k : Nat) (h : k < s.size) : V (st (B (V (rk s k))) (B8 ((s[k]).toNat : Int))) = V (rk s (k + 1)) := by
  unfold rk
  rw [take_snoc s k h, rg_append, B_V]
  have : B8 ((s[k]).toNat : Int) = (s[k]).toBitVec := by unfold B8; simp
  rw [this]; rfl
theorem rk_end (s : ByteArray) : bits .xor .u32 (V (rk s s.size)) 4294967295 = V (sumL s.data.toList) := by
  rw [show (4294967295 : Int) = V 0xffffffff#32 from by decide +kernel, xor_V]
  unfold rk sumL
  rw [List.take_of_length_le (by simp)]
theorem byte_hi (c : UInt8) : (c.toNat : Int) < 256 := by have := c.toBitVec.isLt; show (c.toBitVec.toNat : Int) < 256; omega

set_option maxHeartbeats 400000 in
theorem refSum_any (s : ByteArray) (w : World) (hs : s.size ≤ maxLen) :
    Calls Try.prog 61 #[.string s] w fun e w' => e = .returned (.int .u32 (V (sumL s.data.toList))) ∧ w = w' := by
  unfold maxLen at hs
  go_enter Try.func61, Try.ntmps61
  go_wp2
  go_loop [3, 4] (fun r i => ∃ k : Nat, k ≤ s.size ∧ i = .int .i64 k ∧ r = .int .u32 (V (rk s k))) (fun _ i => s.size - (intOf i).toNat)
  case atStart => exact ⟨0, Nat.zero_le _, rfl, by rw [rk_zero]; rfl⟩
  case round =>
    obtain ⟨k, hk, rfl, rfl⟩ := hrel
    by_cases hlt : k < s.size
    · go_wp2_with (go_at_call 73; refine (refStep_any _ _ (V_lo _) (V_hi _) (by omega) (byte_hi _) _).mono ?_; rintro e w' ⟨rfl, rfl⟩)
      go_round
      case rel => exact ⟨k + 1, by omega, by go_num, by rw [rk_next s k hlt]⟩
      case measure => simp [intOf]; omega
    · obtain rfl : k = s.size := by omega
      go_wp2
      go_ret
      exact ⟨ret_int (rk_end s), rfl⟩

set_option maxRecDepth 100000 in
set_option maxHeartbeats 400000 in
theorem sum_any (s : ByteArray) (w : World) (hs : s.size ≤ maxLen) :
    Calls Try.prog 60 #[.string s] w fun e w' => e = .returned (.int .u32 (V (sumL s.data.toList))) ∧ Below w.heap.size w w' := by
  unfold maxLen at hs
  have hz := (zero_of_info info42).1
  go_enter Try.func60, Try.ntmps60
  have h1 : (Try.prog.info? 119).map (·.size) = some tabW.size := by rw [show tabW.size = 256 from tabA_size 128]; exact info42s
  have h2 : tabZ.size = tabW.size := by rw [show tabW.size = 256 from tabA_size 128, tabZ_size]
  have h3 : tabW.all (·.oneCell') = true := tabA_all 128
  have H1 := Lib.hid h1
  have H2 := Lib.hid h2
  have H3 := Lib.hid h3
  clear h1 h2 h3
  go_wp2_with (first | (go_at_call 71; refine (steps_any _).mono ?_; rintro e w' ⟨rfl, hb⟩) | (refine wpList_store_row rfl 119 _ _ rfl _ tabW rfl rfl 119 tabZ (heap_alloc_new _ _) H1.out H2.out H3.out ?_; rw [World.setRow_alloc_new]))
  go_loop [5, 11] (fun r i => ∃ k : Nat, k ≤ s.size ∧ i = .int .i64 k ∧ r = .int .u32 (V (rk s k))) (fun _ i => s.size - (intOf i).toNat)
  case atStart => exact ⟨0, Nat.zero_le _, rfl, by rw [rk_zero]; rfl⟩
  case round =>
    obtain ⟨k, hk, rfl, rfl⟩ := hrel
    by_cases hlt : k < s.size
    · go_wp2_with (go_at_call 72; refine (closure_any _ _ _ (V_lo _) (V_hi _) (by omega) (byte_hi _) _ (heap_alloc_new _ _)).mono ?_; rintro e w1 ⟨rfl, rfl⟩)
      go_round
      case rel => exact ⟨k + 1, by omega, by go_num, by rw [rk_next s k hlt]⟩
      case measure => simp [intOf]; omega
    · obtain rfl : k = s.size := by omega
      go_wp2
      go_ret
      exact ⟨ret_int (rk_end s), hb.alloc hb.size _⟩
end Go.Proofs.Ytofafmjkjgiccaa.Crc


/- The bytes of a sum, the seal, what opens, walked. -/
namespace Go.Proofs.Ytofafmjkjgiccaa.Crc
open Go.RowKit

theorem nums_laid (a : Int) (h0 : 0 ≤ a) (h1 : a < 4294967296) : strOfNums [a / 16777216, a / 65536 % 256, a / 256 % 256, a % 256] = ⟨(laidL (B a)).toArray⟩ := by
  have e : ∀ (n : Int) (c : BitVec 8), n = V8 c → UInt8.ofNat n.toNat = UInt8.ofBitVec c := by
    intro n c hn
    subst hn
    rw [V8_toNat]
    apply UInt8.toBitVec_inj.1
    simp
  have ha := V_B a h0 h1
  generalize B a = r at ha
  subst ha
  have hr := r.isLt
  unfold strOfNums laidL
  have e0 := e (V r / 16777216) (top r) (top_V r)
  have e1 := e (V r / 65536 % 256) (top (r <<< 8)) (by
    rw [← top_V]; unfold V; rw [BitVec.toNat_shiftLeft, Nat.shiftLeft_eq]; omega)
  have e2 := e (V r / 256 % 256) (top (r <<< 16)) (by
    rw [← top_V]; unfold V; rw [BitVec.toNat_shiftLeft, Nat.shiftLeft_eq]; omega)
  have e3 := e (V r % 256) (top (r <<< 24)) (by
    rw [← top_V]; unfold V; rw [BitVec.toNat_shiftLeft, Nat.shiftLeft_eq]; omega)
  simp only [List.map_cons, List.map_nil, e0, e1, e2, e3]

/-- the text of four bytes in a block that was made last -/
theorem conv4 (a : Int) (h0 : 0 ≤ a) (h1 : a < 4294967296) (w : World) (t : TypeId) :
    (convert 109 9 (.slice (some ⟨w.heap.size, 0, none⟩) 4 4)).run Try.prog (w.alloc (.cells #[.int .u8 (a / 16777216), .int .u8 (a / 65536 % 256), .int .u8 (a / 256 % 256), .int .u8 (a % 256)] t))
      = .ok (.string ⟨(laidL (B a)).toArray⟩) (w.alloc (.cells #[.int .u8 (a / 16777216), .int .u8 (a / 65536 % 256), .int .u8 (a / 256 % 256), .int .u8 (a % 256)] t)) := by
  rw [run_convert_bytes_arg _ 109 5 Try.underlying109 Try.underlying5 w.heap.size 0 4 4 [a / 16777216, a / 65536 % 256, a / 256 % 256, a % 256] rfl ?_ _ Try.underlying9, nums_laid a h0 h1]
  intro i hi
  rw [World.cell?_alloc_at _ _ _ _ rfl]
  match i, hi with
  | 0, _ | 1, _ | 2, _ | 3, _ => rfl

set_option maxRecDepth 100000 in
set_option maxHeartbeats 400000 in
theorem laid_any (a : Int) (h0 : 0 ≤ a) (h1 : a < 4294967296) (w : World) :
    Calls Try.prog 59 #[.int .u32 a] w fun e w' => e = .returned (.string ⟨(laidL (B a)).toArray⟩) ∧ Below w.heap.size w w' := by
  have hconv := conv4 a h0 h1 w 118
  go_enter Try.func59, Try.ntmps59
  go_wp2
  refine wp_loop_rounds 5 ?_
  rw [rounds_succ]; go_wp2
  rw [rounds_succ]; go_wp2
  rw [rounds_succ]; go_wp2
  rw [rounds_succ]; go_wp2
  rw [rounds_succ]; go_wp2
  go_ret
  exact ⟨rfl, (Below.refl _ _).alloc (Nat.le_refl _) _⟩

/-- a text with its sum -/
def sealS (s : ByteArray) : ByteArray := s ++ ⟨(laidL (sumL s.data.toList)).toArray⟩

set_option maxRecDepth 100000 in
set_option maxHeartbeats 400000 in
theorem seal_any (s : ByteArray) (w : World) (hs : s.size ≤ 9223372036854775803) :
    Calls Try.prog 36 #[.string s] w fun e w' => e = .returned (.string (sealS s)) ∧ Below w.heap.size w w' := by
  have hz : (⟨(laidL (sumL s.data.toList)).toArray⟩ : ByteArray).size = 4 := rfl
  have hadd := fun w => run_string_add_sum (P := Try.prog) (w := w) s ⟨(laidL (sumL s.data.toList)).toArray⟩ (by rw [hz]; omega)
  clear hz
  go_enter Try.func36, Try.ntmps36
  go_wp2_with fail
  refine (sum_any _ _ (by unfold maxLen; omega)).mono ?_; rintro e w1 ⟨rfl, hb1⟩
  go_wp2_with fail
  refine (laid_any _ (V_lo _) (V_hi _) _).mono ?_; rintro e w2 ⟨rfl, hb2⟩
  rw [B_V]
  go_wp2
  go_ret
  exact ⟨rfl, hb1.trans (hb2.mono hb1.size)⟩

set_option maxRecDepth 100000 in
set_option maxHeartbeats 400000 in
theorem refSeal_any (s : ByteArray) (w : World) (hs : s.size ≤ 9223372036854775803) :
    Calls Try.prog 39 #[.string s] w fun e w' => e = .returned (.string (sealS s)) ∧ Below w.heap.size w w' := by
  have hz : (⟨(laidL (sumL s.data.toList)).toArray⟩ : ByteArray).size = 4 := rfl
  have hadd := fun w => run_string_add_sum (P := Try.prog) (w := w) s ⟨(laidL (sumL s.data.toList)).toArray⟩ (by rw [hz]; omega)
  clear hz
  go_enter Try.func39, Try.ntmps39
  go_wp2_with fail
  refine (refSum_any _ _ (by unfold maxLen; omega)).mono ?_; rintro e w1 ⟨rfl, rfl⟩
  have v0 := V_lo (sumL s.data.toList)
  have v1 := V_hi (sumL s.data.toList)
  have hconv := conv4 _ v0 v1 w 5
  rw [B_V] at hconv
  generalize hx : V (sumL s.data.toList) = x at *
  clear hx
  go_wp2
  go_ret
  exact ⟨rfl, (Below.refl _ _).alloc (Nat.le_refl _) _⟩

/-- the text that opens, and the error's number -/
def openS (s : ByteArray) : ByteArray := ⟨(openL s.data.toList).1.toArray⟩
def openE (s : ByteArray) : Int := (openL s.data.toList).2

theorem openS_short (s : ByteArray) (h : s.size < 4) : openS s = ⟨#[]⟩ := by
  unfold openS; rw [openL_short _ (by simpa using h)]
theorem openE_short (s : ByteArray) (h : s.size < 4) : openE s = 2 := by
  unfold openE; rw [openL_short _ (by simpa using h)]

theorem extract_front (s : ByteArray) (k : Nat) : s.extract 0 k = ⟨(s.data.toList.take k).toArray⟩ := by
  obtain ⟨⟨l⟩⟩ := s
  rw [ByteArray.extract_mk]; simp
theorem extract_back (s : ByteArray) (k : Nat) : (s.extract k s.size).toList = s.data.toList.drop k := by
  obtain ⟨⟨l⟩⟩ := s
  rw [ByteArray.extract_mk, ByteArray.toList_mk]
  rw [List.take_of_length_le (by simp [ByteArray.size])]

theorem open_other (s : ByteArray) (h : ¬ s.size < 4) (t : (!(s.extract (s.size - 4) s.size).toList == laidL (sumL (List.take (s.size - 4) s.data.toList))) = true) : openS s = ⟨#[]⟩ ∧ openE s = 13 := by
  have hl : s.data.toList.length = s.size := by simp
  have e := openL_sum s.data.toList (by rw [hl]; exact h) (by
    rw [hl]
    intro h2
    rw [extract_back, h2] at t
    simp at t)
  unfold openS openE
  rw [e]; exact ⟨rfl, rfl⟩
theorem open_same (s : ByteArray) (h : ¬ s.size < 4) (t : (!(s.extract (s.size - 4) s.size).toList == laidL (sumL (List.take (s.size - 4) s.data.toList))) = false) : openS s = s.extract 0 (s.size - 4) ∧ openE s = 0 := by
  have hl : s.data.toList.length = s.size := by simp
  have e := openL_ok s.data.toList (by rw [hl]; exact h) (by
    rw [hl]
    rw [extract_back] at t
    simpa using t)
  unfold openS openE
  rw [e, hl, extract_front]; exact ⟨rfl, rfl⟩

theorem seal_toList (s : ByteArray) : (sealS s).toList = s.data.toList ++ laidL (sumL s.data.toList) := by
  rw [ByteArray.toList_eq]; unfold sealS
  rw [ByteArray.data_append]; simp
theorem seal_test (s : ByteArray) :
    (!(sealS (s.extract 0 (s.size - 4))).toList == s.toList) = (!(s.extract (s.size - 4) s.size).toList == laidL (sumL (List.take (s.size - 4) s.data.toList))) := by
  rw [seal_toList, extract_back, extract_front, ByteArray.toList_eq s]
  show (!(s.data.toList.take (s.size - 4) ++ laidL (sumL (s.data.toList.take (s.size - 4))) == s.data.toList)) = _
  congr 1
  rw [Bool.eq_iff_iff, beq_iff_eq, beq_iff_eq]
  constructor
  · intro hh
    have := List.take_append_drop (s.size - 4) s.data.toList
    rw [← hh] at this
    rw [List.take_left' (by simp), List.drop_left' (by simp)] at this
    conv => lhs; rw [← hh]
    rw [List.drop_left' (by simp)]
  · intro hh
    rw [← hh, List.take_append_drop]

set_option maxRecDepth 100000 in
set_option maxHeartbeats 400000 in
theorem open_any (s : ByteArray) (w : World) (hs : s.size ≤ 9223372036854775807) :
    Calls Try.prog 42 #[.string s] w fun e w' => e = .returned (.tuple #[.string (openS s), .int .i64 (openE s)]) ∧ Below w.heap.size w w' := by
  by_cases h4 : s.size < 4
  · have h4' : decide ((s.size : Int) < 4) = true := by simp; omega
    go_enter Try.func42, Try.ntmps42
    go_wp2
    go_ret2
    exact ⟨by rw [openS_short s h4, openE_short s h4]; rfl, Below.refl _ _⟩
  · have h4' : decide ((s.size : Int) < 4) = false := by simp; omega
    have q0 : IntKind.i64.wrap ((s.size : Int) - 4) = (s.size : Int) - 4 := IntWalk.i64_in _ (by omega)
    have q1 : (0 : Int) ≤ (s.size : Int) - 4 := by omega
    have q2 : ((s.size : Int) - 4).toNat = s.size - 4 := by omega
    go_enter Try.func42, Try.ntmps42
    go_wp2_with fail
    go_quiet (fail)
    clear q0 q1 q2
    go_wp2_with fail
    refine (sum_any _ _ (by unfold maxLen; rw [ByteArray.size_extract]; omega)).mono ?_; rintro e w1 ⟨rfl, hb1⟩
    go_wp2_with fail
    refine (laid_any _ (V_lo _) (V_hi _) _).mono ?_; rintro e w2 ⟨rfl, hb2⟩
    rw [B_V]
    go_wp2
    · obtain ⟨o1, o2⟩ := open_other s h4 (by assumption)
      go_ret2
      exact ⟨by rw [o1, o2]; rfl, (below_drewN (Below.refl _ _) _).trans (hb1.trans (hb2.mono hb1.size))⟩
    · obtain ⟨o1, o2⟩ := open_same s h4 (by assumption)
      go_ret2
      exact ⟨by rw [o1, o2]; rfl, (below_drewN (Below.refl _ _) _).trans (hb1.trans (hb2.mono hb1.size))⟩

set_option maxRecDepth 100000 in
set_option maxHeartbeats 400000 in
theorem refOpen_any (s : ByteArray) (w : World) (hs : s.size ≤ 9223372036854775807) :
    Calls Try.prog 45 #[.string s] w fun e w' => e = .returned (.tuple #[.string (openS s), .int .i64 (openE s)]) ∧ Below w.heap.size w w' := by
  by_cases h4 : s.size < 4
  · have h4' : decide ((s.size : Int) < 4) = true := by simp; omega
    go_enter Try.func45, Try.ntmps45
    go_wp2
    go_ret2
    exact ⟨by rw [openS_short s h4, openE_short s h4]; rfl, Below.refl _ _⟩
  · have h4' : decide ((s.size : Int) < 4) = false := by simp; omega
    go_enter Try.func45, Try.ntmps45
    go_wp2_with fail
    refine (refSeal_any _ _ (by rw [ByteArray.size_extract]; omega)).mono ?_; rintro e w1 ⟨rfl, hb1⟩
    go_wp2
    · obtain ⟨o1, o2⟩ := open_other s h4 (by rw [← seal_test s]; assumption)
      go_ret2
      exact ⟨by rw [o1, o2]; rfl, hb1⟩
    · obtain ⟨o1, o2⟩ := open_same s h4 (by rw [← seal_test s]; assumption)
      go_ret2
      exact ⟨by rw [o1, o2]; rfl, hb1⟩

theorem shown_sum : V (sumL [49, 50, 51, 52, 53, 54, 55, 56, 57]) = 4236843288 := by decide +kernel
theorem shown_seal : sealS ⟨#[]⟩ = ⟨#[0, 0, 0, 0]⟩ := by
  have h : laidL (sumL []) = [0, 0, 0, 0] := by decide +kernel
  have e : sealS ⟨#[]⟩ = ByteArray.mk #[] ++ ⟨(laidL (sumL [])).toArray⟩ := rfl
  rw [e, h]; rfl

end Go.Proofs.Ytofafmjkjgiccaa.Crc


/- The laws of package crc, walked (but CrcBursts). -/
namespace Go.Proofs.Ytofafmjkjgiccaa.Crc
open Go.RowKit




theorem open_seal (s : ByteArray) : openS (sealS s) = s ∧ openE (sealS s) = 0 := by
  have h : (sealS s).data.toList = s.data.toList ++ laidL (sumL s.data.toList) := by rw [← ByteArray.toList_eq, seal_toList]
  unfold openS openE
  rw [h, openL_seal]
  exact ⟨by obtain ⟨⟨l⟩⟩ := s; rfl, rfl⟩
theorem sealS_size (s : ByteArray) : (sealS s).size = s.size + 4 := by
  unfold sealS; rw [ByteArray.size_append]; rfl


theorem short_test (s : ByteArray) : ((openE s == 2) == decide ((s.size : Int) < 4)) = true := by
  by_cases h : s.size < 4
  · rw [openE_short s h, decide_eq_true (by omega)]; rfl
  · have e : openE s = 0 ∨ openE s = 13 := by
      unfold openE openL
      rw [if_neg (by simpa using h)]
      split
      · exact .inl rfl
      · exact .inr rfl
    rw [decide_eq_false (by omega)]
    rcases e with e | e <;> rw [e] <;> rfl


theorem rest_end (s : ByteArray) : V (rk (sealS s) (sealS s).size) = 3338984827 := by
  unfold rk
  have h : (sealS s).data.toList = s.data.toList ++ laidL (sumL s.data.toList) := by rw [← ByteArray.toList_eq, seal_toList]
  rw [List.take_of_length_le (by simp), h, rg_seal]
  decide +kernel


theorem xor32 (a b : Int) (h0 : 0 ≤ a) (h1 : a < 4294967296) (h2 : 0 ≤ b) (h3 : b < 4294967296) : bits .xor .u32 a b = V (B a ^^^ B b) := by
  rw [← xor_V, V_B a h0 h1, V_B b h2 h3]
theorem xor8 (a b : Int) (h0 : 0 ≤ a) (h1 : a < 256) (h2 : 0 ≤ b) (h3 : b < 256) : bits .xor .u8 a b = V8 (B8 a ^^^ B8 b) := by
  rw [← xor_V8, V8_B8 a h0 h1, V8_B8 b h2 h3]


theorem V_beq (a b : BitVec 32) : (V a == V b) = (a == b) := by
  rw [Bool.eq_iff_iff, beq_iff_eq, beq_iff_eq]; exact ⟨V_inj, fun h => by rw [h]⟩
theorem turns_reg (a b x : Int) (h0 : 0 ≤ a) (h1 : a < 4294967296) (h2 : 0 ≤ b) (h3 : b < 4294967296) :
    ((V (st (B a) (B8 x)) == V (st (B b) (B8 x))) == (a == b)) = true := by
  rw [V_beq, beq_iff_eq, Bool.eq_iff_iff, beq_iff_eq, beq_iff_eq, st_inj_reg]
  exact ⟨fun h => by rw [← V_B a h0 h1, h, V_B b h2 h3], fun h => by rw [h]⟩
theorem turns_byte (a x y : Int) (h0 : 0 ≤ x) (h1 : x < 256) (h2 : 0 ≤ y) (h3 : y < 256) :
    ((V (st (B a) (B8 x)) == V (st (B a) (B8 y))) == (x == y)) = true := by
  rw [V_beq, beq_iff_eq, Bool.eq_iff_iff, beq_iff_eq, beq_iff_eq, st_inj_byte]
  exact ⟨fun h => by rw [← V8_B8 x h0 h1, h, V8_B8 y h2 h3], fun h => by rw [h]⟩

end Go.Proofs.Ytofafmjkjgiccaa.Crc

