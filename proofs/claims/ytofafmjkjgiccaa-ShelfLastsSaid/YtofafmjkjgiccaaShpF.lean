/- The program's Put of shards: walked. -/
import Derived.Test.YtofafmjkjgiccaaShpE
namespace Go.Proofs.Ytofafmjkjgiccaa.Mat
open Go.RowKit Fld

section
variable {w : World} {A B : Option Addr} {c k : Nat} {d : Dk}
set_option maxRecDepth 100000 in
set_option maxHeartbeats 6400000 in
theorem shPut_any (h : DOk w A c B k d) (hm : (d.m + 1) * 24 ≤ 140737488355328) (v i : Int) (x : ByteArray) (hx : x.size ≤ 140737488351232) :
    Calls Try.prog 28 #[.agg #[.slice A d.n c, .slice B d.m k, .int .i64 d.fuse, .bool d.off], .agg #[.int .i64 v, .int .i64 i, .string x]] w (DErr w (spD d v i x) (spE d v i x)) := by
  obtain ⟨W, hW, hV, hS, hZ, hB⟩ := put_start h v i x
  have c1 := fun W => shRec_any v i x hx W
  have ck := fun W => key_any v i x W
  have c2 := fun W' (hb : Below W.heap.size W W') => shFind_any (hV.ok.up hb) v i
  have c5 := fun W' (hb : Below W.heap.size W W') => (shApart_any (hV.ok.up hb)).mono (R' := DRet W' d) (fun e X q => own_ret q h.sz)
  have HV := Lib.hid hV
  have HS := Lib.hid hS
  have HZ := Lib.hid hZ
  have HB := Lib.hid hB
  have CK := Lib.hid ck
  have C5 := Lib.hid c5
  obtain ⟨x0, x1, x2, x3⟩ := hV.cells
  obtain ⟨y0, y1, y2⟩ := hS.cells
  clear hV hS hZ hB h ck c5
  cases hmay : mayB v i x
  · obtain ⟨e1, e2⟩ := srT_no hmay
    obtain ⟨q1, q2⟩ := sp_not hmay
    rw [e1, e2] at c1
    rw [q1, q2]
    have C1 := Lib.hid c1
    clear c1 c2 e1 e2 q1 q2 hmay
    go_enter Try.func28, Try.ntmps28
    go_upto_region 1 with fail
    rw [← hW]
    clear hW
    go_wp2_with fail
    refine (C1.out _).mono ?_; rintro e w1 ⟨rfl, hb1⟩
    have H1 := Lib.hid hb1
    clear hb1 x0 x1 x2 x3 y0 y1 y2
    obtain ⟨x0, x1, x2, x3⟩ := (HV.out.up H1.out).cells
    obtain ⟨y0, y1, y2⟩ := (HS.out.up H1.out).cells
    go_wp2_with fail
    refine (C5.out _ H1.out).mono ?_; rintro e w5 ⟨A5, c5, B5, k5, rfl, ok5, hb5⟩
    have H5 := Lib.hid (up_trans H1.out hb5)
    have hf := fin_disk (HZ.out.up H5.out) ok5 (up_trans HB.out H5.out)
    have HF := Lib.hid hf
    obtain ⟨z0, z1, z2, z3⟩ := (HZ.out.up H5.out).cells
    obtain ⟨f0, f1, f2, f3⟩ := (HZ.out.up H5.out).bx.free
    clear hf ok5 hb5
    go_wp2
    exact bodyPost_ret (results_disk_err rfl _ _ (w.heap.size + 1 + 1) rfl HF.out.1.bx) rfl ⟨A5, c5, B5, k5, rfl, HF.out.1.ok, HF.out.2⟩
  obtain ⟨e1, e2⟩ := srT_yes hmay
  have hfit : (shR v.toNat i.toNat x).size ≤ 1024 := by
    obtain ⟨a0, a1, a2, a3, a4⟩ := may_iff.1 hmay
    exact shR_fits (by omega) (by omega) a4
  by_cases hE : fdE d v i = 0
  · by_cases hX : fdX d v i = x
    · obtain ⟨q1, q2⟩ := sp_same hmay hE hX
      rw [e1] at c1
      rw [hE, hX] at c2
      rw [q1, q2]
      have g1 := str_yes (s := x) rfl
      generalize srT v i x = t at *
      have C1 := Lib.hid c1
      have C2 := Lib.hid c2
      clear c1 c2 e1 e2 q1 q2 hmay hE hX hfit
      go_enter Try.func28, Try.ntmps28
      go_upto_region 1 with fail
      rw [← hW]
      clear hW
      go_wp2_with fail
      refine (C1.out _).mono ?_; rintro e w1 ⟨rfl, hb1⟩
      have H1 := Lib.hid hb1
      clear hb1 x0 x1 x2 x3 y0 y1 y2
      obtain ⟨x0, x1, x2, x3⟩ := (HV.out.up H1.out).cells
      obtain ⟨y0, y1, y2⟩ := (HS.out.up H1.out).cells
      have K : Hid (∀ W, Below w1.heap.size w1 W → W.cell? ⟨w.heap.size, 0, none⟩ = some (.slice A d.n c) ∧ W.cell? ⟨w.heap.size, 1, none⟩ = some (.slice B d.m k) ∧ W.cell? ⟨w.heap.size, 2, none⟩ = some (.int .i64 d.fuse) ∧ W.cell? ⟨w.heap.size, 3, none⟩ = some (.bool d.off) ∧ W.cell? ⟨w.heap.size + 1, 0, none⟩ = some (.int .i64 v) ∧ W.cell? ⟨w.heap.size + 1, 1, none⟩ = some (.int .i64 i) ∧ W.cell? ⟨w.heap.size + 1, 2, none⟩ = some (.string x)) := Lib.hid (fun X hb => by
        obtain ⟨x0, x1, x2, x3⟩ := (HV.out.up (up_trans H1.out hb)).cells
        obtain ⟨y0, y1, y2⟩ := (HS.out.up (up_trans H1.out hb)).cells
        exact ⟨x0, x1, x2, x3, y0, y1, y2⟩)
      go_upto_region 4 with fail
      go_region_held3 (fun W => W.cell? ⟨w.heap.size, 0, none⟩ = some (.slice A d.n c) ∧ W.cell? ⟨w.heap.size, 1, none⟩ = some (.slice B d.m k) ∧ W.cell? ⟨w.heap.size, 2, none⟩ = some (.int .i64 d.fuse) ∧ W.cell? ⟨w.heap.size, 3, none⟩ = some (.bool d.off) ∧ W.cell? ⟨w.heap.size + 1, 0, none⟩ = some (.int .i64 v) ∧ W.cell? ⟨w.heap.size + 1, 1, none⟩ = some (.int .i64 i) ∧ W.cell? ⟨w.heap.size + 1, 2, none⟩ = some (.string x))
        (first | exact ⟨x0, x1, x2, x3, y0, y1, y2⟩ | exact K.out _ b3.out | exact K.out _ b4.out | go_keep)
        (first
          | (go_at_call 49; (with_reducible refine Calls.mono (CK.out _) ?_); rintro e w3 ⟨rfl, hb3⟩; have b3 : Hid (Below w1.heap.size w1 w3) := Lib.hid (below_of_drew hb3))
          | (go_at_call 24; (with_reducible refine Calls.mono (C2.out _ (up_trans H1.out b3.out)) ?_); rintro e w4 ⟨rfl, hb4⟩; have b4 : Hid (Below w1.heap.size w1 w4) := Lib.hid (up_trans b3.out hb4)))
      have H4 := Lib.hid (up_trans H1.out b4.out)
      clear x0 x1 x2 x3 y0 y1 y2
      obtain ⟨x0, x1, x2, x3⟩ := (HV.out.up H4.out).cells
      obtain ⟨y0, y1, y2⟩ := (HS.out.up H4.out).cells
      go_wp2_with fail
      refine (C5.out _ H4.out).mono ?_; rintro e w5 ⟨A5, c5, B5, k5, rfl, ok5, hb5⟩
      have H5 := Lib.hid (up_trans H4.out hb5)
      have hf := fin_disk (HZ.out.up H5.out) ok5 (up_trans HB.out H5.out)
      have HF := Lib.hid hf
      obtain ⟨z0, z1, z2, z3⟩ := (HZ.out.up H5.out).cells
      obtain ⟨f0, f1, f2, f3⟩ := (HZ.out.up H5.out).bx.free
      clear hf ok5 hb5
      go_wp2
      exact bodyPost_ret (results_disk_err rfl _ _ (w.heap.size + 1 + 1) rfl HF.out.1.bx) rfl ⟨A5, c5, B5, k5, rfl, HF.out.1.ok, HF.out.2⟩
    · obtain ⟨q1, q2⟩ := sp_there hmay hE hX
      rw [e1] at c1
      rw [hE] at c2
      rw [q1, q2]
      have g1 := str_no hX
      generalize fdX d v i = y at *
      generalize srT v i x = t at *
      have C1 := Lib.hid c1
      have C2 := Lib.hid c2
      clear c1 c2 e1 e2 q1 q2 hmay hE hX hfit
      go_enter Try.func28, Try.ntmps28
      go_upto_region 1 with fail
      rw [← hW]
      clear hW
      go_wp2_with fail
      refine (C1.out _).mono ?_; rintro e w1 ⟨rfl, hb1⟩
      have H1 := Lib.hid hb1
      clear hb1 x0 x1 x2 x3 y0 y1 y2
      obtain ⟨x0, x1, x2, x3⟩ := (HV.out.up H1.out).cells
      obtain ⟨y0, y1, y2⟩ := (HS.out.up H1.out).cells
      have K : Hid (∀ W, Below w1.heap.size w1 W → W.cell? ⟨w.heap.size, 0, none⟩ = some (.slice A d.n c) ∧ W.cell? ⟨w.heap.size, 1, none⟩ = some (.slice B d.m k) ∧ W.cell? ⟨w.heap.size, 2, none⟩ = some (.int .i64 d.fuse) ∧ W.cell? ⟨w.heap.size, 3, none⟩ = some (.bool d.off) ∧ W.cell? ⟨w.heap.size + 1, 0, none⟩ = some (.int .i64 v) ∧ W.cell? ⟨w.heap.size + 1, 1, none⟩ = some (.int .i64 i) ∧ W.cell? ⟨w.heap.size + 1, 2, none⟩ = some (.string x)) := Lib.hid (fun X hb => by
        obtain ⟨x0, x1, x2, x3⟩ := (HV.out.up (up_trans H1.out hb)).cells
        obtain ⟨y0, y1, y2⟩ := (HS.out.up (up_trans H1.out hb)).cells
        exact ⟨x0, x1, x2, x3, y0, y1, y2⟩)
      go_upto_region 4 with fail
      go_region_held3 (fun W => W.cell? ⟨w.heap.size, 0, none⟩ = some (.slice A d.n c) ∧ W.cell? ⟨w.heap.size, 1, none⟩ = some (.slice B d.m k) ∧ W.cell? ⟨w.heap.size, 2, none⟩ = some (.int .i64 d.fuse) ∧ W.cell? ⟨w.heap.size, 3, none⟩ = some (.bool d.off) ∧ W.cell? ⟨w.heap.size + 1, 0, none⟩ = some (.int .i64 v) ∧ W.cell? ⟨w.heap.size + 1, 1, none⟩ = some (.int .i64 i) ∧ W.cell? ⟨w.heap.size + 1, 2, none⟩ = some (.string x))
        (first | exact ⟨x0, x1, x2, x3, y0, y1, y2⟩ | exact K.out _ b3.out | exact K.out _ b4.out | go_keep)
        (first
          | (go_at_call 49; (with_reducible refine Calls.mono (CK.out _) ?_); rintro e w3 ⟨rfl, hb3⟩; have b3 : Hid (Below w1.heap.size w1 w3) := Lib.hid (below_of_drew hb3))
          | (go_at_call 24; (with_reducible refine Calls.mono (C2.out _ (up_trans H1.out b3.out)) ?_); rintro e w4 ⟨rfl, hb4⟩; have b4 : Hid (Below w1.heap.size w1 w4) := Lib.hid (up_trans b3.out hb4)))
      have H4 := Lib.hid (up_trans H1.out b4.out)
      clear x0 x1 x2 x3 y0 y1 y2
      obtain ⟨x0, x1, x2, x3⟩ := (HV.out.up H4.out).cells
      obtain ⟨y0, y1, y2⟩ := (HS.out.up H4.out).cells
      go_wp2_with fail
      refine (C5.out _ H4.out).mono ?_; rintro e w5 ⟨A5, c5, B5, k5, rfl, ok5, hb5⟩
      have H5 := Lib.hid (up_trans H4.out hb5)
      have hf := fin_disk (HZ.out.up H5.out) ok5 (up_trans HB.out H5.out)
      have HF := Lib.hid hf
      obtain ⟨z0, z1, z2, z3⟩ := (HZ.out.up H5.out).cells
      obtain ⟨f0, f1, f2, f3⟩ := (HZ.out.up H5.out).bx.free
      clear hf ok5 hb5
      go_wp2
      exact bodyPost_ret (results_disk_err rfl _ _ (w.heap.size + 1 + 1) rfl HF.out.1.bx) rfl ⟨A5, c5, B5, k5, rfl, HF.out.1.ok, HF.out.2⟩
  have hE7 : fdE d v i = 7 := by rcases fdE_or d v i with e | e <;> omega
  have c3 := fun W' (hb : Below W.heap.size W W') => lay_any (HV.out.ok.up hb) hm (srT v i x) (by rw [e2]; omega) (spD d v i x) (spE d v i x)
    (fun j hj hs hb => by
      obtain ⟨q1, q2⟩ := sp_put (d := d) (v := v) (i := i) (x := x) (j := j) hmay hE hj hs hb
      exact ⟨q2, q1⟩) (fun hb => by
      obtain ⟨q1, q2⟩ := sp_full (d := d) (v := v) (i := i) (x := x) hmay hE hb
      exact ⟨q2, q1⟩)
  rw [e1] at c1
  rw [hE7] at c2
  generalize srT v i x = t at *
  generalize fdX d v i = y at *
  generalize spE d v i x = E at *
  generalize spD d v i x = D at *
  have C1 := Lib.hid c1
  have C2 := Lib.hid c2
  have C3 := Lib.hid c3
  clear c1 c2 c3 e1 e2 hmay hE hE7 hfit hm hx
  go_enter Try.func28, Try.ntmps28
  go_upto_region 1 with fail
  rw [← hW]
  clear hW
  go_wp2_with fail
  refine (C1.out _).mono ?_; rintro e w1 ⟨rfl, hb1⟩
  have H1 := Lib.hid hb1
  clear hb1 x0 x1 x2 x3 y0 y1 y2
  obtain ⟨x0, x1, x2, x3⟩ := (HV.out.up H1.out).cells
  obtain ⟨y0, y1, y2⟩ := (HS.out.up H1.out).cells
  have K : Hid (∀ W, Below w1.heap.size w1 W → W.cell? ⟨w.heap.size, 0, none⟩ = some (.slice A d.n c) ∧ W.cell? ⟨w.heap.size, 1, none⟩ = some (.slice B d.m k) ∧ W.cell? ⟨w.heap.size, 2, none⟩ = some (.int .i64 d.fuse) ∧ W.cell? ⟨w.heap.size, 3, none⟩ = some (.bool d.off) ∧ W.cell? ⟨w.heap.size + 1, 0, none⟩ = some (.int .i64 v) ∧ W.cell? ⟨w.heap.size + 1, 1, none⟩ = some (.int .i64 i) ∧ W.cell? ⟨w.heap.size + 1, 2, none⟩ = some (.string x)) := Lib.hid (fun X hb => by
    obtain ⟨x0, x1, x2, x3⟩ := (HV.out.up (up_trans H1.out hb)).cells
    obtain ⟨y0, y1, y2⟩ := (HS.out.up (up_trans H1.out hb)).cells
    exact ⟨x0, x1, x2, x3, y0, y1, y2⟩)
  go_upto_region 4 with fail
  go_region_held3 (fun W => W.cell? ⟨w.heap.size, 0, none⟩ = some (.slice A d.n c) ∧ W.cell? ⟨w.heap.size, 1, none⟩ = some (.slice B d.m k) ∧ W.cell? ⟨w.heap.size, 2, none⟩ = some (.int .i64 d.fuse) ∧ W.cell? ⟨w.heap.size, 3, none⟩ = some (.bool d.off) ∧ W.cell? ⟨w.heap.size + 1, 0, none⟩ = some (.int .i64 v) ∧ W.cell? ⟨w.heap.size + 1, 1, none⟩ = some (.int .i64 i) ∧ W.cell? ⟨w.heap.size + 1, 2, none⟩ = some (.string x))
    (first | exact ⟨x0, x1, x2, x3, y0, y1, y2⟩ | exact K.out _ b3.out | exact K.out _ b4.out | go_keep)
    (first
      | (go_at_call 49; (with_reducible refine Calls.mono (CK.out _) ?_); rintro e w3 ⟨rfl, hb3⟩; have b3 : Hid (Below w1.heap.size w1 w3) := Lib.hid (below_of_drew hb3))
      | (go_at_call 24; (with_reducible refine Calls.mono (C2.out _ (up_trans H1.out b3.out)) ?_); rintro e w4 ⟨rfl, hb4⟩; have b4 : Hid (Below w1.heap.size w1 w4) := Lib.hid (up_trans b3.out hb4)))
  have H4 := Lib.hid (up_trans H1.out b4.out)
  clear x0 x1 x2 x3 y0 y1 y2
  obtain ⟨x0, x1, x2, x3⟩ := (HV.out.up H4.out).cells
  obtain ⟨y0, y1, y2⟩ := (HS.out.up H4.out).cells
  go_wp2_with fail
  refine (C3.out _ H4.out).mono ?_; rintro e w5 ⟨A5, c5, B5, k5, rfl, ok5, hb5⟩
  have H5 := Lib.hid (up_trans H4.out hb5)
  have hf := fin_disk (HZ.out.up H5.out) ok5 (up_trans HB.out H5.out)
  have HF := Lib.hid hf
  obtain ⟨z0, z1, z2, z3⟩ := (HZ.out.up H5.out).cells
  obtain ⟨f0, f1, f2, f3⟩ := (HZ.out.up H5.out).bx.free
  clear hf ok5 hb5
  go_wp2
  exact bodyPost_ret (results_disk_err rfl _ _ (w.heap.size + 1 + 1) rfl HF.out.1.bx) rfl ⟨A5, c5, B5, k5, rfl, HF.out.1.ok, HF.out.2⟩
end
end Go.Proofs.Ytofafmjkjgiccaa.Mat
