/- Writes are done; a write is torn; rows are copied: walked. -/
import Derived.Test.YtefppiplkmhdmaaDskA
namespace Go.Proofs.Ytefppiplkmhdmaa.Mat
open Go.RowKit Fld

theorem Sl.drewN {w : World} {base n : Nat} {A : Option Addr} {S : Nat → ByteArray} (h : Sl w base A n S) (q : Nat) : Sl (w.drewN q) base A n S := h
theorem results_write {fn : Func} {t : Tmp} (h : fn.results = #[.cell t 55]) (tmps : Array Value) (w : World) (g : Nat) {i : Int} {s : ByteArray} (hp : tmps.getD t undef = .pointer (some ⟨g, 0, none⟩)) (hc : Has w g 55 2 (cell2 i s)) :
    (results fn tmps).run Try.prog w = .ok (.agg #[.int .i64 i, .string s]) w := by
  have hp' : tmps[t]?.getD undef = .pointer (some ⟨g, 0, none⟩) := by simpa using hp
  have c0 : w.cell? ⟨g, 0, none⟩ = some (.int .i64 i) := hc.cell (by omega)
  have c1 : w.cell? ⟨g, 1, none⟩ = some (.string s) := hc.cell (by omega)
  simp [results, h, hp', asAddr, go_sem, c0, c1]
def WriteRet (w : World) (i : Int) (s : ByteArray) (e : Ending) (w' : World) : Prop := e = .returned (.agg #[.int .i64 i, .string s]) ∧ Below w.heap.size w w'
theorem cell2_put {w : World} {g : Nat} {i j : Int} {s t : ByteArray} (h : Has w g 55 2 (cell2 i s)) : Has ((w.setCell ⟨g, 0, none⟩ (.int .i64 j)).setCell ⟨g, 1, none⟩ (.string t)) g 55 2 (cell2 j t) :=
  ((h.set_ 0 _).set_ 1 _).congr (fun i hi => by
    rcases (show i = 0 ∨ i = 1 by omega) with rfl | rfl <;> rfl)
set_option maxRecDepth 100000 in
set_option maxHeartbeats 1600000 in
theorem torn_any (i : Int) (t : ByteArray) (ht : t.size ≤ 140737488351232) (tear : Int) (h0 : 0 ≤ tear) (w : World) :
    Calls Try.prog 33 #[.agg #[.int .i64 i, .string t], .int .i64 tear] w (WriteRet w i (headS t tear)) := by
  obtain ⟨x, rfl⟩ : ∃ x : Nat, tear = x := ⟨tear.toNat, by omega⟩
  have hx := (has_write w i t).alloc (.cells #[.int .i64 0, .string ⟨#[]⟩] 55)
  have hz := has_write (w.alloc (.cells #[.int .i64 i, .string t] 55)) 0 ⟨#[]⟩
  rw [size_alloc] at hz
  have HB : Hid (Below w.heap.size w ((w.alloc (.cells #[.int .i64 i, .string t] 55)).alloc (.cells #[.int .i64 0, .string ⟨#[]⟩] 55))) := Lib.hid (((Below.refl _ _).alloc (Nat.le_refl _) _).alloc (by rw [size_alloc]; omega) _)
  have HX := Lib.hid hx
  have HZ := Lib.hid hz
  clear hx hz h0
  go_enter Try.func33, Try.ntmps33
  go_upto_region 1 with fail
  generalize (w.alloc (.cells #[.int .i64 i, .string t] 55)).alloc (.cells #[.int .i64 0, .string ⟨#[]⟩] 55) = wb at *
  have c0 : wb.cell? ⟨w.heap.size, 0, none⟩ = some (.int .i64 i) := HX.out.cell (by omega)
  have c1 : wb.cell? ⟨w.heap.size, 1, none⟩ = some (.string t) := HX.out.cell (by omega)
  have d0 : wb.cell? ⟨w.heap.size + 1, 0, none⟩ = some (.int .i64 0) := HZ.out.cell (by omega)
  have d1 : wb.cell? ⟨w.heap.size + 1, 1, none⟩ = some (.string ⟨#[]⟩) := HZ.out.cell (by omega)
  have f0 : wb.frozen? ⟨w.heap.size + 1, 0, none⟩ = false := HZ.out.frozen (by omega)
  have f1 : wb.frozen? ⟨w.heap.size + 1, 1, none⟩ = false := HZ.out.frozen (by omega)
  have HF : Hid (∀ s, Has ((wb.setCell ⟨w.heap.size + 1, 0, none⟩ (.int .i64 i)).setCell ⟨w.heap.size + 1, 1, none⟩ (.string s)) (w.heap.size + 1) 55 2 (cell2 i s)) := Lib.hid (fun s => cell2_put HZ.out)
  have HBB : Hid (∀ s, Below w.heap.size w ((wb.setCell ⟨w.heap.size + 1, 0, none⟩ (.int .i64 i)).setCell ⟨w.heap.size + 1, 1, none⟩ (.string s))) := Lib.hid (fun s => (HB.out.setCell (p := ⟨w.heap.size + 1, 0, none⟩) (by show w.heap.size ≤ w.heap.size + 1; omega) _).setCell (p := ⟨w.heap.size + 1, 1, none⟩) (by show w.heap.size ≤ w.heap.size + 1; omega) _)
  have HE : Hid (¬ t.size < x → t.extract 0 x = headS t (x : Int)) := Lib.hid (fun e => by
    unfold headS
    congr 1
    simp; omega)
  have HE2 : Hid (t.size < x → headS t (x : Int) = t) := Lib.hid (fun e => by
    unfold headS
    rw [show min (x : Int).toNat t.size = t.size by simp; omega]
    simp)
  go_region
  go_wp2
  all_goals
    refine bodyPost_ret (results_write rfl _ _ (w.heap.size + 1) rfl ((HF.out _).drew)) rfl ⟨by first | rw [HE.out (by omega)] | rw [HE2.out (by omega)], (HBB.out _).drew⟩

section
variable {A B : Option Addr} {n m c k base : Nat} {S T : Nat → ByteArray} {I : Nat → Int} {w : World}
set_option maxRecDepth 100000 in
set_option maxHeartbeats 800000 in
theorem do_any (h : Sl w base A n S) (hP : ∀ W, w.grownBy W (blk A n) → Pc W W.heap.size B m I T) (hn : n ≤ 9223372036854775807) (hm : m ≤ 9223372036854775807) (f : Int) (o : Bool) (N : Nat) (hN : N ≤ m) :
    Calls Try.prog 29 #[.agg #[.slice A n c, .slice B m k, .int .i64 f, .bool o], .int .i64 (N : Int)] w (WroteRet w base A n (doS I T S N)) := by
  have H := Lib.hid h
  have HP := Lib.hid hP
  have HN := Lib.hid hn
  clear h hP hn
  go_enter Try.func29, Try.ntmps29
  go_wp2
  go_loopg [6] N (fun gh v wr => ∃ r, r ≤ N ∧ gh = N - r ∧ v = .int .i64 (r : Nat) ∧ Sl wr base A n (doS I T S r) ∧ w.grownBy wr (blk A n) ∧ Bx wr w.heap.size (.slice A n c) (.slice B m k) (.int .i64 f) (.bool o))
  case atStart => exact ⟨0, Nat.zero_le _, rfl, rfl, H.out.up ((Below.refl _ _).alloc (Nat.le_refl _) _), World.grownBy_alloc w _ _, bx_new w _ _ _ _⟩
  case round =>
    obtain ⟨r, hr, rfl, rfl, hS, hG, hX⟩ := hrel
    by_cases hrn : r < N
    · have hrz : (r : Int) < (N : Int) := by omega
      have hrm : r < m := by omega
      obtain ⟨ad, rfl, hb, k0, k1⟩ := (HP.out wr hG).at_ hrm
      obtain ⟨x0, x1, x2, x3⟩ := hX.cells
      have HS := Lib.hid hS
      have HG := Lib.hid hG
      have HX := Lib.hid hX
      have KK : Hid (∀ W, wr.grownBy W (blk A n) → W.cell? ⟨w.heap.size, 0, none⟩ = some (.slice A n c) ∧ W.cell? ⟨w.heap.size, 1, none⟩ = some (.slice (some ad) m k) ∧ W.cell? (ad.add (r * 2)) = some (.int .i64 (I r)) ∧ W.cell? ⟨(ad.add (r * 2)).block, (ad.add (r * 2)).off + 1, none⟩ = some (.string (T r))) := Lib.hid (fun W hW => by
        have h1 := HX.out.grown hW (HS.out.blk_ne HX.out (by decide))
        obtain ⟨ad', e, _, q0, q1⟩ := (HP.out W (HG.out.trans hW)).at_ hrm
        injection e with e
        subst e
        exact ⟨h1.c0, h1.c1, q0, q1⟩)
      clear hS hG hX
      go_wp2_with fail
      go_region_held3 (fun W => W.cell? ⟨w.heap.size, 0, none⟩ = some (.slice A n c) ∧ W.cell? ⟨w.heap.size, 1, none⟩ = some (.slice (some ad) m k) ∧ W.cell? (ad.add (r * 2)) = some (.int .i64 (I r)) ∧ W.cell? ⟨(ad.add (r * 2)).block, (ad.add (r * 2)).off + 1, none⟩ = some (.string (T r)))
        (first | exact ⟨x0, x1, k0, k1⟩ | exact KK.out _ HG1.out | go_keep)
        ((go_at_call 32; (with_reducible refine Calls.mono (write_any (Sl.drewN HS.out _) HN.out _ _) ?_); rintro e w1 ⟨rfl, hS1, hG1⟩; have HG1 : Hid (wr.grownBy w1 (blk A n)) := Lib.hid ⟨hG1.os, hG1.tape, hG1.output, hG1.size, hG1.block⟩))
      have HS1 := Lib.hid hS1
      have HX1 := Lib.hid (HX.out.grown HG1.out (HS.out.blk_ne HX.out (by decide)))
      have HGG := Lib.hid (HG.out.trans HG1.out)
      clear hS1 hG1 x0 x1 x2 x3 k0 k1
      go_wp2
      go_roundg (N - (r + 1))
      case measure => go_light; omega
      case rel => go_light; exact ⟨r + 1, by omega, rfl, by simp, HS1.out, HGG.out, HX1.out⟩
    · have hrz : ¬ (r : Int) < (N : Int) := by omega
      obtain rfl : r = N := by omega
      have HS := Lib.hid hS
      have HG := Lib.hid hG
      clear hS hG hX
      go_wp2
      exact ⟨rfl, .tuple #[], by simp [results, Try.results29, go_sem], rfl, HS.out, HG.out⟩
end
end Go.Proofs.Ytefppiplkmhdmaa.Mat
