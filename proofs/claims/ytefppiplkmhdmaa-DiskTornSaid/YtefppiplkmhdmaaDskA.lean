/- Is there such a slot? One write, many, a torn one: walked. -/
import Derived.Test.YtefppiplkmhdmaaDskMem
namespace Go.Proofs.Ytefppiplkmhdmaa.Mat
open Go.RowKit Fld

set_option maxRecDepth 100000 in
theorem has_any (A : Option Addr) (n c : Nat) (slot : Int) (w : World) :
    Calls Try.prog 28 #[.slice A n c, .int .i64 slot] w fun e w' => e = .returned (.bool (hasB n slot)) ∧ w = w' := by
  by_cases h0 : 0 ≤ slot
  · have g1 : decide (slot ≥ 0) = true := decide_eq_true h0
    have g2 : decide (slot < (n : Int)) = hasB n slot := by unfold hasB; rw [decide_eq_decide]; omega
    generalize hasB n slot = b at g2 ⊢
    clear h0
    go_enter Try.func28, Try.ntmps28
    go_wp2
    go_ret
    exact ⟨ret_bool (by first | rfl | simp_all), rfl⟩
  · have g1 : decide (slot ≥ 0) = false := decide_eq_false h0
    rw [hasB_no (fun h => h0 h.1)]
    clear h0
    go_enter Try.func28, Try.ntmps28
    go_wp2
    go_ret
    exact ⟨rfl, rfl⟩

/-- a write in a box of its own -/
def cell2 (i : Int) (s : ByteArray) (j : Nat) : Value := if j = 0 then .int .i64 i else .string s
theorem has_write (w : World) (i : Int) (s : ByteArray) : Has (w.alloc (.cells #[.int .i64 i, .string s] 55)) w.heap.size 55 2 (cell2 i s) :=
  has_new w _ _ (fun j hj => by
    have : j = 0 ∨ j = 1 := by omega
    rcases this with rfl | rfl <;> rfl)

section
variable {A B : Option Addr} {n c k base : Nat} {S T : Nat → ByteArray} {I : Nat → Int} {w : World}
theorem Sl.put {i : Nat} {b : Nat} {t : ByteArray} (h : Has w b 9 n (fun i => .string (S i))) : Has (w.setCell ⟨b, i, none⟩ (.string t)) b 9 n (fun j => .string (setS S (i : Int) t j)) :=
  (h.set_ i _).congr (fun j _ => by
    unfold setS
    by_cases e : j = i
    · rw [if_pos e, if_pos (by omega)]
    · rw [if_neg e, if_neg (by omega)])
set_option maxRecDepth 100000 in
set_option maxHeartbeats 800000 in
theorem write_any (h : Sl w base A n S) (hn : n ≤ 9223372036854775807) (i : Int) (t : ByteArray) :
    Calls Try.prog 32 #[.slice A n c, .agg #[.int .i64 i, .string t]] w (WroteRet w base A n (setS S i t)) := by
  have hx := has_write w i t
  have c0 : (w.alloc (.cells #[.int .i64 i, .string t] 55)).cell? ⟨w.heap.size, 0, none⟩ = some (.int .i64 i) := hx.cell (by omega)
  have c1 : (w.alloc (.cells #[.int .i64 i, .string t] 55)).cell? ⟨w.heap.size, 1, none⟩ = some (.string t) := hx.cell (by omega)
  have hg := World.grownBy_alloc w (.cells #[.int .i64 i, .string t] 55) (blk A n)
  have hS : Sl (w.alloc (.cells #[.int .i64 i, .string t] 55)) base A n S := h.up ((Below.refl _ _).alloc (Nat.le_refl _) _)
  have HG := Lib.hid hg
  have HS := Lib.hid hS
  clear hg hS hx h
  by_cases hh : 0 ≤ i ∧ i < n
  · obtain ⟨j, rfl⟩ : ∃ j : Nat, i = j := ⟨i.toNat, by omega⟩
    have hjn : j < n := by omega
    have hjz : (j : Int) < (n : Int) := by omega
    have HB := Lib.hid (hasB_yes hh)
    obtain ⟨b, rfl, hb, hH⟩ := HS.out (by omega)
    have hce := hH.cell hjn
    have hfr := hH.frozen hjn
    have HH := Lib.hid hH
    have HBL := Lib.hid hb
    clear hh hH hb
    go_enter Try.func32, Try.ntmps32
    go_wp2_with fail
    refine (has_any _ _ _ _ _).mono ?_; rintro e w1 ⟨rfl, rfl⟩
    rw [HB.out]
    go_wp2
    exact ⟨rfl, .tuple #[], by simp [results, Try.results32, go_sem], rfl, fun _ => ⟨b, rfl, HBL.out, Sl.put HH.out⟩, by
      have hbl : blk (some ⟨b, 0, none⟩) n = some b := by unfold blk; rw [if_pos (by omega)]; rfl
      rw [hbl]
      exact (hbl ▸ HG.out).trans ⟨rfl, rfl, rfl, by simp [World.setCell], fun q _ hq => Below.heap_setCell _ _ _ _ (fun e => hq (by rw [e]))⟩⟩
  · have HB := Lib.hid (hasB_no hh)
    have HS2 : Hid (Sl (w.alloc (.cells #[.int .i64 i, .string t] 55)) base A n (setS S i t)) := Lib.hid (HS.out.congr (fun j hj => (setS_ne (fun e => hh ⟨by omega, by omega⟩)).symm))
    clear hh
    go_enter Try.func32, Try.ntmps32
    go_wp2_with fail
    refine (has_any _ _ _ _ _).mono ?_; rintro e w1 ⟨rfl, rfl⟩
    rw [HB.out]
    go_wp2
    exact ⟨rfl, .tuple #[], by simp [results, Try.results32, go_sem], rfl, HS2.out, HG.out⟩
end
end Go.Proofs.Ytefppiplkmhdmaa.Mat
