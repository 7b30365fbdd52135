/- The table, the closure, the sum, walked. -/
import Derived.Test.YtmhnfloikgfgmaaCrcA
import Derived.Test.YtmhnfloikgfgmaaCrcTab
import Derived.Deep.WholeRow
namespace Go.Proofs.Ytmhnfloikgfgmaa.Crc
open Go.RowKit

theorem info42 : (Try.prog.info? 42).map (fun i => (i.zero, i.size)) = some (some (.agg tabZ), 256) := by kernel_rfl

theorem info42s : (Try.prog.info? 42).map (·.size) = some 256 := (zero_of_info info42).2

theorem below_setRow {B : Nat} {a w : World} (h : Below B a w) {g : Nat} (hg : B ≤ g) (cs : Array Value) : Below B a (w.setRow g cs) :=
  ⟨h.os, h.tape, h.output, by rw [setRow_size]; exact h.size, fun k hk => (setRow_other w g k cs (by omega)).trans (h.block k hk)⟩

set_option maxRecDepth 100000 in
set_option maxHeartbeats 400000 in
theorem steps_any (w : World) :
    Calls Try.prog 22 #[] w fun e w' => e = .returned (.agg tabW) ∧ Below w.heap.size w w' := by
  have hz := (zero_of_info info42).1
  go_enter Try.func22, Try.ntmps22
  go_wp2
  go_loopw [4] (fun i wr => ∃ k : Nat, k ≤ 128 ∧ i = .int .i64 k ∧ wr = (w.alloc (.cells tabZ 42)).alloc (.cells (tabA k) 42)) (fun i _ => 128 - (intOf i).toNat)
  case atStart => exact ⟨0, by omega, rfl, by rw [← tabZ_eq]⟩
  case round =>
    obtain ⟨k, hk, rfl, rfl⟩ := hrel
    by_cases hlt : k < 128
    · have g0 := tabA_get k k (by omega)
      have g1 := tabA_get k (2 * k) (by omega)
      have g2 := tabA_get k (2 * k + 1) (by omega)
      go_wp2_with (go_at_call 21; refine (stepBit_any _ _ (V_lo _) (V_hi _) (by omega) (by omega) _).mono ?_; rintro e w' ⟨rfl, rfl⟩)
      go_roundw
      case rel => exact ⟨k + 1, by omega, by go_num, by rw [tabA_next k hlt]⟩
      case measure => simp [intOf]; omega
    · obtain rfl : k = 128 := by omega
      have hs := tabA_size 128
      have ha := tabA_all 128
      go_wp2_with (first | (refine wpList_load_row rfl 42 _ rfl (w.heap.size + 1) rfl 42 (tabA 128) (0, 0) _ (heap_alloc2_new _ _ _) Try.underlying42 rfl ?_ ?_) | (refine wpList_store_row rfl 42 _ _ rfl w.heap.size (tabA 128) rfl rfl 42 tabZ (heap_alloc2_old _ _ _) ?_ ?_ ?_ ?_))
      · rw [hs]; exact info42s
      · rw [hs]; exact info42s
      · rw [hs, tabZ_size]
      · exact ha
      · refine bodyPost_ret (v := .agg tabW) (results_cell_row rfl _ _ w.heap.size 42 (tabA 128) (0, 0) _ rfl (setRow_heap _ _ _ _ _ _ (heap_alloc2_old _ _ _)) Try.underlying42 rfl (by rw [hs]; exact info42s)) rfl ⟨rfl, ?_⟩
        exact below_setRow (((Below.refl _ _).alloc (Nat.le_refl _) _).alloc (by simp) _) (Nat.le_refl _) _

set_option maxRecDepth 100000 in
set_option maxHeartbeats 400000 in
/-- the closure: r, b, and the table's place -/
theorem closure_any (a b : Int) (g : Nat) (h0 : 0 ≤ a) (h1 : a < 4294967296) (h2 : 0 ≤ b) (h3 : b < 256) (w : World)
    (hg : w.heap[g]? = some (.cells tabW 42 (0, 0))) :
    Calls Try.prog 23 #[.int .u32 a, .int .u8 b, .pointer (some ⟨g, 0, none⟩)] w fun e w' => e = .returned (.int .u32 (V (st (B a) (B8 b)))) ∧ w = w' := by
  have e := idx_num a b h0 h1 h2 h3
  have x0 : 0 ≤ bits .xor .u8 (a / 16777216) b := by rw [e]; exact V8_lo _
  have x1 : bits .xor .u8 (a / 16777216) b < 256 := by rw [e]; exact V8_hi _
  have hc : w.cell? ⟨g, (bits .xor .u8 (a / 16777216) b).toNat, none⟩ = some (.int .u32 (V (st 0#32 (top (B a) ^^^ B8 b)))) := by
    rw [cell_of_row w g _ _ _ _ hg, e, V8_toNat, tabW_get]
  clear hg e
  go_enter Try.func23, Try.ntmps23
  go_wp2
  go_ret
  exact ⟨ret_int (out_num a b h0 h1), rfl⟩

theorem take_snoc (s : ByteArray) (k : Nat) (h : k < s.size) : s.data.toList.take (k + 1) = s.data.toList.take k ++ [s[k]] := by
  rw [List.take_succ_eq_append_getElem (by simpa using h)]; rfl

/-- the register behind the first k bytes of a text -/
def rk (s : ByteArray) (k : Nat) : BitVec 32 := rg 0xffffffff#32 (s.data.toList.take k)
theorem rk_zero (s : ByteArray) : rk s 0 = 0xffffffff#32 := rfl
theorem rk_next (s : ByteArray) (k : Nat) (h : k < s.size) : V (st (B (V (rk s k))) (B8 ((s[k]).toNat : Int))) = V (rk s (k + 1)) := by
  unfold rk
  rw [take_snoc s k h, rg_append, B_V]
  have : B8 ((s[k]).toNat : Int) = (s[k]).toBitVec := by unfold B8; simp
  rw [this]; rfl
theorem rk_end (s : ByteArray) : bits .xor .u32 (V (rk s s.size)) 4294967295 = V (sumL s.data.toList) := by
  rw [show (4294967295 : Int) = V 0xffffffff#32 from by decide +kernel, xor_V]
  unfold rk sumL
  rw [List.take_of_length_le (by simp)]
theorem byte_hi (c : UInt8) : (c.toNat : Int) < 256 := by have := c.toBitVec.isLt; show (c.toBitVec.toNat : Int) < 256; omega

set_option maxHeartbeats 400000 in
theorem refSum_any (s : ByteArray) (w : World) (hs : s.size ≤ maxLen) :
    Calls Try.prog 16 #[.string s] w fun e w' => e = .returned (.int .u32 (V (sumL s.data.toList))) ∧ w = w' := by
  unfold maxLen at hs
  go_enter Try.func16, Try.ntmps16
  go_wp2
  go_loop [3, 4] (fun r i => ∃ k : Nat, k ≤ s.size ∧ i = .int .i64 k ∧ r = .int .u32 (V (rk s k))) (fun _ i => s.size - (intOf i).toNat)
  case atStart => exact ⟨0, Nat.zero_le _, rfl, by rw [rk_zero]; rfl⟩
  case round =>
    obtain ⟨k, hk, rfl, rfl⟩ := hrel
    by_cases hlt : k < s.size
    · go_wp2_with (go_at_call 14; refine (refStep_any _ _ (V_lo _) (V_hi _) (by omega) (byte_hi _) _).mono ?_; rintro e w' ⟨rfl, rfl⟩)
      go_round
      case rel => exact ⟨k + 1, by omega, by go_num, by rw [rk_next s k hlt]⟩
      case measure => simp [intOf]; omega
    · obtain rfl : k = s.size := by omega
      go_wp2
      go_ret
      exact ⟨ret_int (rk_end s), rfl⟩

set_option maxRecDepth 100000 in
set_option maxHeartbeats 400000 in
theorem sum_any (s : ByteArray) (w : World) (hs : s.size ≤ maxLen) :
    Calls Try.prog 15 #[.string s] w fun e w' => e = .returned (.int .u32 (V (sumL s.data.toList))) ∧ Below w.heap.size w w' := by
  unfold maxLen at hs
  have hz := (zero_of_info info42).1
  go_enter Try.func15, Try.ntmps15
  have h1 : (Try.prog.info? 42).map (·.size) = some tabW.size := by rw [show tabW.size = 256 from tabA_size 128]; exact info42s
  have h2 : tabZ.size = tabW.size := by rw [show tabW.size = 256 from tabA_size 128, tabZ_size]
  have h3 : tabW.all (·.oneCell') = true := tabA_all 128
  have H1 := Lib.hid h1
  have H2 := Lib.hid h2
  have H3 := Lib.hid h3
  clear h1 h2 h3
  go_wp2_with (first | (go_at_call 22; refine (steps_any _).mono ?_; rintro e w' ⟨rfl, hb⟩) | (refine wpList_store_row rfl 42 _ _ rfl _ tabW rfl rfl 42 tabZ (heap_alloc_new _ _) H1.out H2.out H3.out ?_; rw [World.setRow_alloc_new]))
  go_loop [5, 11] (fun r i => ∃ k : Nat, k ≤ s.size ∧ i = .int .i64 k ∧ r = .int .u32 (V (rk s k))) (fun _ i => s.size - (intOf i).toNat)
  case atStart => exact ⟨0, Nat.zero_le _, rfl, by rw [rk_zero]; rfl⟩
  case round =>
    obtain ⟨k, hk, rfl, rfl⟩ := hrel
    by_cases hlt : k < s.size
    · go_wp2_with (go_at_call 23; refine (closure_any _ _ _ (V_lo _) (V_hi _) (by omega) (byte_hi _) _ (heap_alloc_new _ _)).mono ?_; rintro e w1 ⟨rfl, rfl⟩)
      go_round
      case rel => exact ⟨k + 1, by omega, by go_num, by rw [rk_next s k hlt]⟩
      case measure => simp [intOf]; omega
    · obtain rfl : k = s.size := by omega
      go_wp2
      go_ret
      exact ⟨ret_int (rk_end s), hb.alloc hb.size _⟩
end Go.Proofs.Ytmhnfloikgfgmaa.Crc
