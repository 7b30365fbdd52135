/- New of both sides: walked. -/
import Derived.Test.YtefppiplkmhdmaaDskM
namespace Go.Proofs.Ytefppiplkmhdmaa.Mat
open Go.RowKit Fld

def newB (n : Int) : Bool := decide (1 ≤ n ∧ n ≤ 256)
/-- n empty slots; nothing at all -/
def freshD (n : Nat) : Dk := ⟨n, fun _ => ByteArray.empty, 0, fun _ => 0, fun _ => ByteArray.empty, -1, false⟩
def voidD : Dk := ⟨0, fun _ => ByteArray.empty, 0, fun _ => 0, fun _ => ByteArray.empty, 0, false⟩
def newD (n : Int) : Dk := if newB n = true then freshD n.toNat else voidD
def newE (n : Int) : Int := if newB n = true then 0 else 1
theorem new_in {N : Nat} (h : 1 ≤ N ∧ N ≤ 256) : newD N = freshD N ∧ newE N = 0 := by
  have e : newB (N : Int) = true := decide_eq_true (by omega)
  unfold newD newE; rw [e]; exact ⟨by simp, rfl⟩
theorem new_out {n : Int} (h : ¬ (1 ≤ n ∧ n ≤ 256)) : newD n = voidD ∧ newE n = 1 := by
  have e : newB n = false := decide_eq_false h
  unfold newD newE; rw [e]; exact ⟨rfl, rfl⟩
theorem sz_fresh {N : Nat} (h : N ≤ 256) : Sz (freshD N) := ⟨by show N * 16 ≤ _; omega, by show 0 * 24 ≤ _; omega, fun _ _ => by show ByteArray.empty.size ≤ _; simp, fun _ hi => absurd hi (Nat.not_lt_zero _), by show (-9223372036854775808 : Int) ≤ -1; omega, by show (-1 : Int) ≤ _; omega⟩
theorem sz_void : Sz voidD := ⟨by show 0 * 16 ≤ _; omega, by show 0 * 24 ≤ _; omega, fun _ hi => absurd hi (Nat.not_lt_zero _), fun _ hi => absurd hi (Nat.not_lt_zero _), by show (-9223372036854775808 : Int) ≤ 0; omega, by show (0 : Int) ≤ _; omega⟩
theorem has_texts (W : World) {b k : Nat} (e : W.heap.size = b) : Has (W.alloc (.cells (madeCells #[.string ByteArray.empty] k) 9)) b 9 k (fun _ => .string ByteArray.empty) := by
  subst e; exact .of_is (World.rowIs_made W _ k _)
/-- the end of New -/
theorem void_fin {w W : World} (h : Bx W w.heap.size (.slice none 0 0) (.slice none 0 0) (.int .i64 0) (.bool false)) (hb : Below w.heap.size w W) :
    Bx (put4 W w.heap.size (.slice none 0 0) (.slice none 0 0) (.int .i64 0) (.bool false)) w.heap.size (.slice none 0 0) (.slice none 0 0) (.int .i64 0) (.bool false) ∧
    DErr w voidD 1 (.returned (.tuple #[.agg #[.slice none 0 0, .slice none 0 0, .int .i64 0, .bool false], .int .i64 1])) (put4 W w.heap.size (.slice none 0 0) (.slice none 0 0) (.int .i64 0) (.bool false)) :=
  ⟨h.put _ _ _ _, none, 0, none, 0, rfl, ⟨fun hn => absurd hn (Nat.lt_irrefl 0), fun hn => absurd hn (Nat.lt_irrefl 0), ⟨Nat.le_refl _, fun _ => rfl⟩, ⟨Nat.le_refl _, fun _ => rfl⟩, sz_void⟩, put4_below hb (Nat.le_refl _) _ _ _ _⟩
theorem fresh_fin {w wb : World} {N : Nat} (hN : N ≤ 256) (h : Bx wb w.heap.size (.slice none 0 0) (.slice none 0 0) (.int .i64 0) (.bool false)) (hb : Below w.heap.size w wb) :
    Bx (put4 (wb.alloc (.cells (madeCells #[.string ByteArray.empty] N) 9)) w.heap.size (.slice (some ⟨wb.heap.size, 0, none⟩) N N) (.slice none 0 0) (.int .i64 (-1)) (.bool false)) w.heap.size (.slice (some ⟨wb.heap.size, 0, none⟩) N N) (.slice none 0 0) (.int .i64 (-1)) (.bool false) ∧
    DErr w (freshD N) 0 (.returned (.tuple #[.agg #[.slice (some ⟨wb.heap.size, 0, none⟩) N N, .slice none 0 0, .int .i64 (-1), .bool false], .int .i64 0])) (put4 (wb.alloc (.cells (madeCells #[.string ByteArray.empty] N) 9)) w.heap.size (.slice (some ⟨wb.heap.size, 0, none⟩) N N) (.slice none 0 0) (.int .i64 (-1)) (.bool false)) := by
  have hs : Sl (wb.alloc (.cells (madeCells #[.string ByteArray.empty] N) 9)) w.heap.size (some ⟨wb.heap.size, 0, none⟩) N (freshD N).S := fun _ => ⟨_, rfl, hb.size, has_texts wb rfl⟩
  have hx := h.alloc (.cells (madeCells #[.string ByteArray.empty] N) 9)
  have hp := sl_put4 hx hs (.slice (some ⟨wb.heap.size, 0, none⟩) N N) (.slice none 0 0) (.int .i64 (-1)) (.bool false)
  exact ⟨hx.put _ _ _ _, some ⟨wb.heap.size, 0, none⟩, N, none, 0, rfl, ⟨hp.st, fun hn => absurd hn (Nat.lt_irrefl 0), ⟨Nat.le_refl _, fun e => by cases e⟩, ⟨Nat.le_refl _, fun _ => rfl⟩, sz_fresh hN⟩, put4_below (hb.alloc hb.size _) (Nat.le_refl _) _ _ _ _⟩
set_option maxRecDepth 100000 in
set_option maxHeartbeats 1600000 in
theorem new_any (n : Int) (w : World) : Calls Try.prog 17 #[.int .i64 n] w (DErr w (newD n) (newE n)) := by
  have hx := bx_new w (.slice none 0 0) (.slice none 0 0) (.int .i64 0) (.bool false)
  have hb := (Below.refl w.heap.size w).alloc (Nat.le_refl _) (.cells #[.slice none 0 0, .slice none 0 0, .int .i64 0, .bool false] 25)
  have HX := Lib.hid hx
  have HB := Lib.hid hb
  clear hx hb
  by_cases hn : 1 ≤ n ∧ n ≤ 256
  · obtain ⟨N, rfl⟩ : ∃ N : Nat, n = N := ⟨n.toNat, by omega⟩
    have HE := Lib.hid (new_in (N := N) (by omega))
    have hmk := run_make_row' (P := Try.prog) 22 9 (.string ByteArray.empty) 16 Try.underlying22 infoStr rfl .i64 .i64 N (by omega) (by omega)
    have HN : Hid (N ≤ 256) := Lib.hid (by omega)
    have g1 : decide ((N : Int) < 1) = false := decide_eq_false (by omega)
    have g2 : decide ((N : Int) > 256) = false := decide_eq_false (by omega)
    clear hn
    go_enter Try.func17, Try.ntmps17
    go_upto_region 1 with fail
    generalize w.alloc (.cells #[.slice none 0 0, .slice none 0 0, .int .i64 0, .bool false] 25) = wb at *
    obtain ⟨x0, x1, x2, x3⟩ := (HX.out.alloc (.cells (madeCells #[.string ByteArray.empty] N) 9)).cells
    obtain ⟨y0, y1, y2, y3⟩ := (HX.out.alloc (.cells (madeCells #[.string ByteArray.empty] N) 9)).free
    have HF := Lib.hid (fresh_fin HN.out HX.out HB.out)
    go_wp2
    refine bodyPost_ret (results_disk_err rfl _ _ w.heap.size rfl HF.out.1) rfl (by rw [HE.out.1, HE.out.2]; exact HF.out.2)
  · have HE := Lib.hid (new_out hn)
    by_cases h0 : n < 1
    · have g1 : decide (n < 1) = true := decide_eq_true h0
      clear hn h0
      go_enter Try.func17, Try.ntmps17
      go_upto_region 1 with fail
      generalize w.alloc (.cells #[.slice none 0 0, .slice none 0 0, .int .i64 0, .bool false] 25) = wb at *
      obtain ⟨x0, x1, x2, x3⟩ := HX.out.cells
      obtain ⟨y0, y1, y2, y3⟩ := HX.out.free
      have HF := Lib.hid (void_fin HX.out HB.out)
      go_wp2
      refine bodyPost_ret (results_disk_err rfl _ _ w.heap.size rfl HF.out.1) rfl (by rw [HE.out.1, HE.out.2]; exact HF.out.2)
    · have g1 : decide (n < 1) = false := decide_eq_false h0
      have g2 : decide (n > 256) = true := decide_eq_true (by omega)
      clear hn h0
      go_enter Try.func17, Try.ntmps17
      go_upto_region 1 with fail
      generalize w.alloc (.cells #[.slice none 0 0, .slice none 0 0, .int .i64 0, .bool false] 25) = wb at *
      obtain ⟨x0, x1, x2, x3⟩ := HX.out.cells
      obtain ⟨y0, y1, y2, y3⟩ := HX.out.free
      have HF := Lib.hid (void_fin HX.out HB.out)
      go_wp2
      refine bodyPost_ret (results_disk_err rfl _ _ w.heap.size rfl HF.out.1) rfl (by rw [HE.out.1, HE.out.2]; exact HF.out.2)
set_option maxRecDepth 100000 in
set_option maxHeartbeats 1600000 in
theorem refNew_any (n : Int) (w : World) : Calls Try.prog 18 #[.int .i64 n] w (DErr w (newD n) (newE n)) := by
  have hx := bx_new w (.slice none 0 0) (.slice none 0 0) (.int .i64 0) (.bool false)
  have hb := (Below.refl w.heap.size w).alloc (Nat.le_refl _) (.cells #[.slice none 0 0, .slice none 0 0, .int .i64 0, .bool false] 25)
  have HX := Lib.hid hx
  have HB := Lib.hid hb
  clear hx hb
  by_cases hn : 1 ≤ n ∧ n ≤ 256
  · obtain ⟨N, rfl⟩ : ∃ N : Nat, n = N := ⟨n.toNat, by omega⟩
    have HE := Lib.hid (new_in (N := N) (by omega))
    have hmk := run_make_row' (P := Try.prog) 22 9 (.string ByteArray.empty) 16 Try.underlying22 infoStr rfl .i64 .i64 N (by omega) (by omega)
    have HN : Hid (N ≤ 256) := Lib.hid (by omega)
    have g1 : decide ((N : Int) < 1) = false := decide_eq_false (by omega)
    have g2 : decide ((N : Int) > 256) = false := decide_eq_false (by omega)
    clear hn
    go_enter Try.func18, Try.ntmps18
    go_upto_region 1 with fail
    generalize w.alloc (.cells #[.slice none 0 0, .slice none 0 0, .int .i64 0, .bool false] 25) = wb at *
    obtain ⟨x0, x1, x2, x3⟩ := (HX.out.alloc (.cells (madeCells #[.string ByteArray.empty] N) 9)).cells
    obtain ⟨y0, y1, y2, y3⟩ := (HX.out.alloc (.cells (madeCells #[.string ByteArray.empty] N) 9)).free
    have HF := Lib.hid (fresh_fin HN.out HX.out HB.out)
    go_wp2
    refine bodyPost_ret (results_disk_err rfl _ _ w.heap.size rfl HF.out.1) rfl (by rw [HE.out.1, HE.out.2]; exact HF.out.2)
  · have HE := Lib.hid (new_out hn)
    by_cases h0 : n < 1
    · have g1 : decide (n < 1) = true := decide_eq_true h0
      clear hn h0
      go_enter Try.func18, Try.ntmps18
      go_upto_region 1 with fail
      generalize w.alloc (.cells #[.slice none 0 0, .slice none 0 0, .int .i64 0, .bool false] 25) = wb at *
      obtain ⟨x0, x1, x2, x3⟩ := HX.out.cells
      obtain ⟨y0, y1, y2, y3⟩ := HX.out.free
      have HF := Lib.hid (void_fin HX.out HB.out)
      go_wp2
      refine bodyPost_ret (results_disk_err rfl _ _ w.heap.size rfl HF.out.1) rfl (by rw [HE.out.1, HE.out.2]; exact HF.out.2)
    · have g1 : decide (n < 1) = false := decide_eq_false h0
      have g2 : decide (n > 256) = true := decide_eq_true (by omega)
      clear hn h0
      go_enter Try.func18, Try.ntmps18
      go_upto_region 1 with fail
      generalize w.alloc (.cells #[.slice none 0 0, .slice none 0 0, .int .i64 0, .bool false] 25) = wb at *
      obtain ⟨x0, x1, x2, x3⟩ := HX.out.cells
      obtain ⟨y0, y1, y2, y3⟩ := HX.out.free
      have HF := Lib.hid (void_fin HX.out HB.out)
      go_wp2
      refine bodyPost_ret (results_disk_err rfl _ _ w.heap.size rfl HF.out.1) rfl (by rw [HE.out.1, HE.out.2]; exact HF.out.2)
end Go.Proofs.Ytefppiplkmhdmaa.Mat
