/- Shards are made: walked. -/
import Derived.Test.YtohbijjkkadbaaaCodE
namespace Go.Proofs.Ytohbijjkkadbaaa.Mat
open Go.RowKit Fld

theorem str_at (s : ByteArray) (c : Nat) (h : c < s.size) (w : World) : (Instr.index 9 (.string s) (.int .i64 (c : Int))).run Try.prog w = .ok (.int .u8 (V (bt s c))) w := by
  rw [run_index_string _ _ _ _ _ Try.underlying9, dif_pos (by omega)]
  have := bt_at s c h
  simp only [Int.toNat_natCast]
  rw [this]

section
variable {A A' : Option Addr} {n cap cap' : Nat} {S : Nat → ByteArray} {f : Nat → BitVec 8} {w : World}
/-- the sum's row: c factors are done, and at the places below x one more -/
def part (S : Nat → ByteArray) (f : Nat → BitVec 8) (c x at_ : Nat) : BitVec 8 := if at_ < x then sm (c + 1) (fun i => gm (f i) (bt (S i) at_)) else sm c (fun i => gm (f i) (bt (S i) at_))
theorem part_zero (S : Nat → ByteArray) (f) (c at_ : Nat) : part S f c 0 at_ = sm c (fun i => gm (f i) (bt (S i) at_)) := if_neg (by omega)
theorem part_end (S : Nat → ByteArray) (f) (c x at_ : Nat) (h : at_ < x) : part S f c x at_ = part S f (c + 1) 0 at_ := by rw [part_zero]; exact if_pos h
theorem part_skip (S : Nat → ByteArray) (f : Nat → BitVec 8) (c at_ : Nat) (h : f c = 0#8) : part S f c 0 at_ = part S f (c + 1) 0 at_ := by
  rw [part_zero, part_zero, sm_succ, h, gm_zero_left, xor_zero]
theorem part_next (S : Nat → ByteArray) (f : Nat → BitVec 8) (c x at_ : Nat) : (if at_ = x then part S f c x x ^^^ gm (f c) (bt (S c) x) else part S f c x at_) = part S f c (x + 1) at_ := by
  by_cases e : at_ = x
  · subst e
    rw [if_pos rfl]
    unfold part
    rw [if_neg (by omega), if_pos (by omega), sm_succ]
  · rw [if_neg e]
    unfold part
    by_cases h : at_ < x
    · rw [if_pos h, if_pos (by omega)]
    · rw [if_neg h, if_neg (by omega)]

/-- a call answers a text, in new memory -/
def TextRet (w : World) (s : ByteArray) (e : Ending) (w' : World) : Prop := e = .returned (.string s) ∧ Below w.heap.size w w'

set_option maxRecDepth 100000 in
set_option maxHeartbeats 1600000 in
theorem shard_any (h : St w w.heap.size A n S) (hR : Rw w w.heap.size A' n f) (hn0 : 0 < n) (hn : n ≤ 32) (he : Even n S) (hz : (S 0).size ≤ 140737488351232) :
    Calls Try.prog 60 #[.slice A n cap, .slice A' n cap'] w (TextRet w (mixS n f S)) := by
  have hmk := run_make_row' (P := Try.prog) 55 5 (.int .u8 0) 1 Try.underlying55 infoByte rfl .i64 .i64 (S 0).size (by omega) (by omega)
  obtain ⟨ad, rfl, hb, hc⟩ := h hn0
  obtain ⟨ad', rfl, hb', hc'⟩ := hR hn0
  have c0 := hc 0 hn0
  rw [add_zero] at c0
  have H := Lib.hid hc
  have H' := Lib.hid hc'
  have HE := Lib.hid he
  clear h hR hc hc' he
  go_enter Try.func60, Try.ntmps60
  go_wp2
  clear hmk c0
  generalize hz1 : (S 0).size = z at *
  have HZ := Lib.hid hz1; clear hz1
  go_loopg [16] n (fun gh v wr => ∃ c, c ≤ n ∧ gh = n - c ∧ v = .int .i64 (c : Nat) ∧ Below w.heap.size w wr ∧ Has wr w.heap.size 5 z (fun a => .int .u8 (V (part S f c 0 a))))
  case atStart => exact ⟨0, Nat.zero_le _, rfl, rfl, (Below.refl _ _).alloc (Nat.le_refl _) _, (Has.of_is (World.rowIs_made w (.int .u8 0) z 5)).congr (fun a _ => by rw [part_zero]; rfl)⟩
  case round =>
    obtain ⟨c, hc, rfl, rfl, hB, hH⟩ := hrel
    by_cases hcn : c < n
    · have hcz : (c : Int) < (n : Int) := by omega
      have k1 := H'.out c hcn
      rw [← hB.cell (by rw [block_of_add]; exact hb')] at k1
      have HB := Lib.hid hB
      have HH := Lib.hid hH
      clear hB hH
      by_cases hf : f c = 0#8
      · have e1 : (V (f c) == 0) = true := by rw [hf, V_zero]; rfl
        go_wp2
        go_roundg (n - (c + 1))
        case measure => go_light; omega
        case rel => go_light; exact ⟨c + 1, by omega, rfl, by simp, HB.out, HH.out.congr (fun a _ => by rw [part_skip S f c a hf])⟩
      · have e1 : (V (f c) == 0) = false := by
          rw [beq_eq_false_iff_ne]; intro h; exact hf (V_inj (by rw [h, V_zero]))
        clear hf
        go_wp2
        clear k1 e1
        go_loopg [25] z (fun gh v wi => ∃ x, x ≤ z ∧ gh = z - x ∧ v = .int .i64 (x : Nat) ∧ Below w.heap.size w wi ∧ Has wi w.heap.size 5 z (fun a => .int .u8 (V (part S f c x a))))
        case atStart => exact ⟨0, Nat.zero_le _, rfl, rfl, HB.out, HH.out⟩
        case round =>
          obtain ⟨x, hx, rfl, rfl, hB, hI⟩ := hrel
          by_cases hxz : x < z
          · have hxi : (x : Int) < (z : Int) := by omega
            have k2 : wr.cell? ⟨w.heap.size, x, none⟩ = some (.int .u8 (V (part S f c x x))) := hI.cell hxz
            have k3 : wr.frozen? ⟨w.heap.size, x, none⟩ = false := hI.frozen hxz
            have k4 := H.out c hcn
            rw [← hB.cell (by rw [block_of_add]; exact hb)] at k4
            have k5 := fun w => str_at (S c) x (by rw [HE.out c hcn, HZ.out]; exact hxz) w
            have HB2 := Lib.hid hB
            have HI := Lib.hid hI
            clear hB hI HB HH
            go_wp2_with fail
            go_still_tail 16, (by kernel_rfl)
            still_call ((mul_any _ _ (V_lo _) (V_hi _) (V_lo _) (V_hi _) _).mono fun e w' h => ⟨h.1, h.2.symm⟩)
            still_call ((add_any _ _ (V_lo _) (V_hi _) (V_lo _) (V_hi _) _).mono fun e w' h => ⟨h.1, h.2.symm⟩)
            still_step
            refine wpStill_nil ?_
            change wpList _ _ _ _ _ wr.drew
            go_wp2
            go_roundg (z - (x + 1))
            case measure => go_light; omega
            case rel =>
              go_light
              refine ⟨x + 1, by omega, rfl, by simp, HB2.out.drew.setCell (p := ⟨w.heap.size, x, none⟩) (Nat.le_refl _) _, ?_⟩
              rw [B_V, B_V, B_V, B_V]
              exact (HI.out.drew.set_ x _).congr (fun a _ => by rw [← part_next]; split <;> rfl)
          · have hxi : ¬ (x : Int) < (z : Int) := by omega
            obtain rfl : x = z := by omega
            have HB2 := Lib.hid hB
            have HI := Lib.hid hI
            clear hB hI
            go_wp2
            go_roundg (n - (c + 1))
            case measure => go_light; omega
            case rel => go_light; exact ⟨c + 1, by omega, rfl, by simp, HB2.out, HI.out.congr (fun a ha => by rw [part_end S f c x a ha])⟩
    · have hcz : ¬ (c : Int) < (n : Int) := by omega
      obtain rfl : c = n := by omega
      have hrw : Rw wr wr.heap.size (some ⟨w.heap.size, 0, none⟩) z (fun a => sm c (fun i => gm (f i) (bt (S i) a))) := Rw.of_has (hH.congr (fun a _ => by rw [part_zero])) hH.lt
      have hcv := row_convert (c := z) hrw
      have HB2 := Lib.hid hB
      clear hB hH hrw
      go_wp2
      go_ret
      refine ⟨?_, HB2.out⟩
      unfold mixS
      rw [HZ.out]; rfl
end
end Go.Proofs.Ytohbijjkkadbaaa.Mat
