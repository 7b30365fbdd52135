/- The document's Flush, Arm and Crash: walked. -/
import Derived.Test.YtefppiplkmhdmaaDskJ
namespace Go.Proofs.Ytefppiplkmhdmaa.Mat
open Go.RowKit Fld

section
variable {w W W' : World} {d : Dk} {A B : Option Addr} {c k : Nat} {S : Nat → ByteArray}
/-- what lies in the result's box -/
def Laid (w W : World) (d : Dk) : Prop := ∃ A c B k, Bx W (w.heap.size + 1) (.slice A d.n c) (.slice B d.m k) (.int .i64 d.fuse) (.bool d.off) ∧ DOk W A c B k d ∧ Below w.heap.size w W
theorem Laid.err (h : Laid w W d) (E : Int) : ∃ A c B k, Bx W (w.heap.size + 1) (.slice A d.n c) (.slice B d.m k) (.int .i64 d.fuse) (.bool d.off) ∧ DErr w d E (.returned (.tuple #[.agg #[.slice A d.n c, .slice B d.m k, .int .i64 d.fuse, .bool d.off], .int .i64 E])) W := by
  obtain ⟨A, c, B, k, h1, h2, h3⟩ := h
  exact ⟨A, c, B, k, h1, A, c, B, k, rfl, h2, h3⟩
/-- slots of the call's own are laid into the result -/
theorem laid_slots (h : Raw w W d A c B k) {A' : Option Addr} {c' : Nat} (hf : Fit A' d.n c') (hs : Sl W w.heap.size A' d.n S) {f : Int} {o : Bool} (hz : Sz (doneD d S f o)) : Laid w (put4 W (w.heap.size + 1) (.slice A' d.n c') (.slice none 0 0) (.int .i64 f) (.bool o)) (doneD d S f o) := by
  have hp := D2.putz h (.slice A' d.n c') (.slice none 0 0) (.int .i64 f) (.bool o)
  have hs2 := sl_put4 h.z hs (.slice A' d.n c') (.slice none 0 0) (.int .i64 f) (.bool o)
  exact ⟨A', c', none, 0, hp.z, ⟨hs2.st, fun hh => absurd hh (Nat.lt_irrefl 0), hf, ⟨Nat.le_refl _, fun _ => rfl⟩, hz⟩, hp.below⟩
theorem Laid.drew (h : Laid w W d) : Laid w W.drew d := by
  obtain ⟨A, c, B, k, h1, h2, h3⟩ := h
  exact ⟨A, c, B, k, h1.drew, h2.drew, h3.drew⟩
set_option maxRecDepth 100000 in
set_option maxHeartbeats 1600000 in
theorem refFlush_any (h : DOk w A c B k d) : Calls Try.prog 16 #[.agg #[.slice A d.n c, .slice B d.m k, .int .i64 d.fuse, .bool d.off]] w (DErr w (flushD d) (flushE d)) := by
  have h0 : Raw w _ d A c B k := D2.start w (.slice A d.n c) (.slice B d.m k) (.int .i64 d.fuse) (.bool d.off) (.slice none 0 0) (.slice none 0 0) (.int .i64 0) (.bool false)
  have HD := Lib.hid h
  have HSZ := Lib.hid h.sz
  have H0 := Lib.hid h0
  clear h h0
  go_enter Try.func16, Try.ntmps16
  go_upto_region 1 with fail
  generalize (w.alloc (.cells #[.slice A d.n c, .slice B d.m k, .int .i64 d.fuse, .bool d.off] 25)).alloc (.cells #[.slice none 0 0, .slice none 0 0, .int .i64 0, .bool false] 25) = wb at *
  obtain ⟨x0, x1, x2, x3⟩ := H0.out.x.cells
  obtain ⟨z0, z1, z2, z3⟩ := H0.out.z.cells
  obtain ⟨u0, u1, u2, u3⟩ := H0.out.z.free
  have HDB := Lib.hid (HD.out.up H0.out.below)
  cases hoff : d.off
  rotate_left
  · have HE := Lib.hid (flush_off hoff)
    have HF := Lib.hid (raw_fin H0.out HD.out)
    rw [hoff] at x3
    go_wp2
    rw [← hoff]
    refine bodyPost_ret (results_disk_err rfl _ _ (w.heap.size + 1) rfl HF.out.1) rfl (by rw [HE.out.1, HE.out.2]; exact ⟨A, c, B, k, rfl, HF.out.2.1, HF.out.2.2⟩)
  · rw [hoff] at x3
    have HE := Lib.hid (flush_on hoff)
    have HOFF := Lib.hid hoff
    have hSZ2 := sz_done HSZ.out (doS_size HSZ.out.zs HSZ.out.zt d.m (Nat.le_refl _) (I := d.I)) HSZ.out.fl HSZ.out.fh false
    have HSZ2 := Lib.hid hSZ2
    have HDN : Hid (∀ W, DOk W A c B k d → Calls Try.prog 30 #[.agg #[.slice A d.n c, .slice B d.m k, .int .i64 d.fuse, .bool false], .int .i64 (d.m : Int)] W (SlotsRet W d.n (doS d.I d.T d.S d.m))) := Lib.hid (fun W hW => by
      have := refDone_any hW d.m (Nat.le_refl _)
      rwa [hoff] at this)
    have K : Hid (∀ W, Below wb.heap.size wb W → (W.cell? ⟨w.heap.size, 2, none⟩ = some (.int .i64 d.fuse)) ∧ (W.cell? ⟨w.heap.size + 1, 0, none⟩ = some (.slice none 0 0) ∧ W.cell? ⟨w.heap.size + 1, 1, none⟩ = some (.slice none 0 0) ∧ W.cell? ⟨w.heap.size + 1, 2, none⟩ = some (.int .i64 0) ∧ W.cell? ⟨w.heap.size + 1, 3, none⟩ = some (.bool false)) ∧
        (W.frozen? ⟨w.heap.size + 1, 0, none⟩ = false ∧ W.frozen? ⟨w.heap.size + 1, 1, none⟩ = false ∧ W.frozen? ⟨w.heap.size + 1, 2, none⟩ = false ∧ W.frozen? ⟨w.heap.size + 1, 3, none⟩ = false)) := Lib.hid (fun W hb =>
      have h1 := H0.out.up hb
      ⟨h1.x.c2, h1.z.cells, h1.z.free⟩)
    clear hoff hSZ2
    go_upto_region 3 with fail
    go_cut [3] from 7 to 14 (fun s wx => s = .int .i64 0 ∧ Laid w wx (doneD d (doS d.I d.T d.S d.m) d.fuse false))
    case first =>
      go_region_with
        ((go_at_call 30; (with_reducible refine Calls.mono (HDN.out _ HDB.out.drew) ?_); rintro e w3 ⟨A3, c3, rfl, hf3, hs3, hb3⟩; have B3 : Hid (Below wb.heap.size wb w3) := Lib.hid ⟨hb3.os, hb3.tape, hb3.output, hb3.size, hb3.block⟩; obtain ⟨q0, ⟨q1, q2, q3, q4⟩, q5, q6, q7, q8⟩ := K.out _ B3.out))
      all_goals
        have HL := Lib.hid (laid_slots (H0.out.up B3.out) hf3 (hs3.lower H0.out.below.size) HSZ2.out)
        go_wp2_with fail
        go_meet
        case rel =>
          go_light
          first | exact ⟨rfl, HL.out⟩ | exact ⟨rfl, HL.out.drew⟩
    case rest =>
      obtain ⟨rfl, hL⟩ := hcut
      obtain ⟨A3, c3, B3, k3, hx, hF⟩ := hL.err 0
      have HF := Lib.hid hF
      have HX := Lib.hid hx
      clear hL hF hx
      go_wp2
      refine bodyPost_ret (results_disk_err rfl _ _ (w.heap.size + 1) rfl HX.out) rfl (by rw [HE.out.1, HE.out.2]; exact HF.out)

set_option maxRecDepth 100000 in
set_option maxHeartbeats 1600000 in
theorem refArm_any (h : DOk w A c B k d) (f : Int) (f0 : -9223372036854775808 ≤ f) (f1 : f ≤ 9223372036854775807) : Calls Try.prog 23 #[.agg #[.slice A d.n c, .slice B d.m k, .int .i64 d.fuse, .bool d.off], .int .i64 f] w (DRet w (armD d f)) := by
  have h0 : Raw w _ d A c B k := D2.start w (.slice A d.n c) (.slice B d.m k) (.int .i64 d.fuse) (.bool d.off) (.slice none 0 0) (.slice none 0 0) (.int .i64 0) (.bool false)
  have HD := Lib.hid h
  have HSZ := Lib.hid h.sz
  have H0 := Lib.hid h0
  clear h h0
  go_enter Try.func23, Try.ntmps23
  go_upto_region 1 with fail
  generalize (w.alloc (.cells #[.slice A d.n c, .slice B d.m k, .int .i64 d.fuse, .bool d.off] 25)).alloc (.cells #[.slice none 0 0, .slice none 0 0, .int .i64 0, .bool false] 25) = wb at *
  obtain ⟨x0, x1, x2, x3⟩ := H0.out.x.cells
  obtain ⟨y0, y1, y2, y3⟩ := H0.out.x.free
  obtain ⟨z0, z1, z2, z3⟩ := H0.out.z.cells
  obtain ⟨u0, u1, u2, u3⟩ := H0.out.z.free
  have hz : Sz (armD d f) := ⟨HSZ.out.bn, HSZ.out.bm, HSZ.out.zs, HSZ.out.zt, by show _ ≤ (if f < 0 then -1 else f); split <;> omega, by show (if f < 0 then -1 else f) ≤ _; split <;> omega⟩
  have hdk : DOk w A c B k (armD d f) := ⟨HD.out.st, HD.out.pc, HD.out.fa, HD.out.fb, hz⟩
  have h1 := D2.x2 H0.out (.int .i64 f)
  by_cases hf : f < 0
  · have g1 : decide (f < 0) = true := decide_eq_true hf
    have h2 : Raw w ((wb.setCell ⟨w.heap.size, 2, none⟩ (.int .i64 f)).setCell ⟨w.heap.size, 2, none⟩ (.int .i64 (if f < 0 then -1 else f))) (armD d f) A c B k := by
      have := D2.x2 h1 (.int .i64 (if f < 0 then -1 else f))
      exact this
    have ef : (armD d f).fuse = -1 := if_pos hf
    have hF := raw_fin h2 hdk
    rw [if_pos hf, ef] at hF
    have HF := Lib.hid hF
    have EF := Lib.hid ef
    clear h1 h2 hz hdk hf hF ef
    go_wp2
    refine bodyPost_ret (results_disk rfl _ _ (w.heap.size + 1) rfl HF.out.1) rfl ⟨A, c, B, k, by rw [EF.out], HF.out.2.1, HF.out.2.2⟩
  · have g1 : decide (f < 0) = false := decide_eq_false hf
    have ef : (armD d f).fuse = f := if_neg hf
    have h2 : Raw w (wb.setCell ⟨w.heap.size, 2, none⟩ (.int .i64 f)) (armD d f) A c B k := by
      show D2 w _ _ _ (.int .i64 (armD d f).fuse) _ _ _ _ _
      rw [ef]
      exact h1
    have hF := raw_fin h2 hdk
    rw [ef] at hF
    have HF := Lib.hid hF
    have EF := Lib.hid ef
    clear h1 h2 hz hdk hf hF ef
    go_wp2
    refine bodyPost_ret (results_disk rfl _ _ (w.heap.size + 1) rfl HF.out.1) rfl ⟨A, c, B, k, by rw [EF.out], HF.out.2.1, HF.out.2.2⟩
end
end Go.Proofs.Ytefppiplkmhdmaa.Mat
