/- Write of both sides: walked. -/
import Derived.Test.YtnpognhgncnnpaaCelPut
namespace Go.Proofs.Ytnpognhgncnnpaa.Mat
open Go.RowKit Fld

def wrE (d : Dk) (base : Int) (x : ByteArray) : Int :=
  if bothB d.n base = true then (if 1000 < x.size then 4 else if rdT d base = 18446744073709551615 then 5 else putE d (base + 1 - (rdA d base : Int)) (recS (rdT d base + 1) x)) else 1
def wrD (d : Dk) (base : Int) (x : ByteArray) : Dk :=
  if bothB d.n base = true then (if 1000 < x.size then d else if rdT d base = 18446744073709551615 then d else putD d (base + 1 - (rdA d base : Int)) (recS (rdT d base + 1) x)) else d
theorem wr_out {d : Dk} {base : Int} (x : ByteArray) (h : bothB d.n base = false) : wrE d base x = 1 ∧ wrD d base x = d := by unfold wrE wrD; rw [h]; exact ⟨rfl, rfl⟩
theorem wr_big {d : Dk} {base : Int} {x : ByteArray} (h : bothB d.n base = true) (hx : 1000 < x.size) : wrE d base x = 4 ∧ wrD d base x = d := by unfold wrE wrD; rw [if_pos h, if_pos h, if_pos hx, if_pos hx]; exact ⟨rfl, rfl⟩
theorem wr_full {d : Dk} {base : Int} {x : ByteArray} (h : bothB d.n base = true) (hx : ¬ 1000 < x.size) (ht : rdT d base = 18446744073709551615) : wrE d base x = 5 ∧ wrD d base x = d := by
  unfold wrE wrD; rw [if_pos h, if_pos h, if_neg hx, if_neg hx, if_pos ht, if_pos ht]; exact ⟨rfl, rfl⟩
theorem wr_put {d : Dk} {base : Int} {x : ByteArray} (h : bothB d.n base = true) (hx : ¬ 1000 < x.size) (ht : ¬ rdT d base = 18446744073709551615) :
    wrE d base x = putE d (base + 1 - (rdA d base : Int)) (recS (rdT d base + 1) x) ∧ wrD d base x = putD d (base + 1 - (rdA d base : Int)) (recS (rdT d base + 1) x) := by
  unfold wrE wrD; rw [if_pos h, if_pos h, if_neg hx, if_neg hx, if_neg ht, if_neg ht]; exact ⟨rfl, rfl⟩
theorem rdT_max (d : Dk) (base : Int) : rdT d base < 18446744073709551616 := by
  unfold rdT
  by_cases h : bothB d.n base = true
  · rw [if_pos h]; exact cuT_max _ _
  · rw [if_neg h]; omega
theorem rdE_in {d : Dk} {base : Int} (h : bothB d.n base = true) : rdE d base = 0 ∨ rdE d base = 7 := by
  rw [(rd_in h).1]
  unfold cuE
  by_cases hc : cuB (s0 d base) (s1 d base) = true
  · rw [if_pos hc]; exact .inl rfl
  · rw [if_neg hc]; exact .inr rfl
theorem rdA_in (d : Dk) (base : Int) : rdA d base = 0 ∨ rdA d base = 1 := by
  unfold rdA
  by_cases h : bothB d.n base = true
  · rw [if_pos h]; exact cuAt_lt _ _
  · rw [if_neg h]; exact .inl rfl
/-- the result's box is laid -/
theorem put_res {w W : World} {p q r s : Value} {D : Dk} {A B : Option Addr} {c k : Nat} (h : D2 w W p q r s (.slice none 0 0) (.slice none 0 0) (.int .i64 0) (.bool false)) (ok : DOk W A c B k D) :
    Bx (put4 W (w.heap.size + 1) (.slice A D.n c) (.slice B D.m k) (.int .i64 D.fuse) (.bool D.off)) (w.heap.size + 1) (.slice A D.n c) (.slice B D.m k) (.int .i64 D.fuse) (.bool D.off) ∧
    DOk (put4 W (w.heap.size + 1) (.slice A D.n c) (.slice B D.m k) (.int .i64 D.fuse) (.bool D.off)) A c B k D ∧ Below w.heap.size w (put4 W (w.heap.size + 1) (.slice A D.n c) (.slice B D.m k) (.int .i64 D.fuse) (.bool D.off)) := by
  have hp := D2.putz h (.slice A D.n c) (.slice B D.m k) (.int .i64 D.fuse) (.bool D.off)
  have hv : Vr W (w.heap.size + 1) voidD none 0 none 0 := ⟨h.z, void_ok W⟩
  exact ⟨hp.z, ok_put ok hv _ _ _ _, hp.below⟩
section
variable {A B : Option Addr} {c k : Nat} {d : Dk} {w : World}
set_option maxRecDepth 100000 in
set_option maxHeartbeats 1600000 in
theorem cellApart_any (h : DOk w A c B k d) : Calls Try.prog 38 #[.agg #[.slice A d.n c, .slice B d.m k, .int .i64 d.fuse, .bool d.off]] w (OwnRet w d) := by
  have h0 := D2.start w (.slice A d.n c) (.slice B d.m k) (.int .i64 d.fuse) (.bool d.off) (.slice none 0 0) (.slice none 0 0) (.int .i64 0) (.bool false)
  have hd := h.up h0.below
  have HD := Lib.hid hd
  have H0 := Lib.hid h0
  clear h h0 hd
  go_enter Try.func38, Try.ntmps38
  go_upto_region 1 with fail
  generalize (w.alloc (.cells #[.slice A d.n c, .slice B d.m k, .int .i64 d.fuse, .bool d.off] 37)).alloc (.cells #[.slice none 0 0, .slice none 0 0, .int .i64 0, .bool false] 37) = wb at *
  obtain ⟨x0, x1, x2, x3⟩ := H0.out.x.cells
  obtain ⟨y0, y1, y2, y3⟩ := H0.out.x.free
  obtain ⟨z0, z1, z2, z3⟩ := H0.out.z.cells
  obtain ⟨u0, u1, u2, u3⟩ := H0.out.z.free
  have K : Hid (∀ W, Below wb.heap.size wb W → W.cell? ⟨w.heap.size, 0, none⟩ = some (.slice A d.n c) ∧ W.cell? ⟨w.heap.size, 1, none⟩ = some (.slice B d.m k) ∧ W.frozen? ⟨w.heap.size, 0, none⟩ = false ∧ W.frozen? ⟨w.heap.size, 1, none⟩ = false) :=
    Lib.hid (fun W hb => ⟨(H0.out.up hb).x.c0, (H0.out.up hb).x.c1, (H0.out.up hb).x.free.1, (H0.out.up hb).x.free.2.1⟩)
  go_cut [] from 3 to 10 (fun wc => Owns w d wc)
  case first =>
    go_region_with
    (first
      | (go_at_call 49; (first | (with_reducible refine Calls.mono (cloneS_any (HD.out.drew).st HD.out.fa (by have := HD.out.sz.bn; omega)) ?_) | (with_reducible refine Calls.mono (cloneS_any ((HD.out.up b4.out).st) HD.out.fa (by have := HD.out.sz.bn; omega)) ?_)); rintro e w3 ⟨A3, c3, rfl, hf3, ho3, hb3⟩; have b3 : Hid (Below wb.heap.size wb w3) := Lib.hid (by first | exact up_trans b4.out hb3 | exact ⟨hb3.os, hb3.tape, hb3.output, hb3.size, hb3.block⟩); obtain ⟨q0, q1, q2, q3⟩ := K.out _ b3.out)
      | (go_at_call 50; (first | (with_reducible refine Calls.mono (cloneW_any (HD.out.drew).pc HD.out.fb HD.out.sz.bm) ?_) | (with_reducible refine Calls.mono (cloneW_any ((HD.out.up b3.out).pc) HD.out.fb HD.out.sz.bm) ?_)); rintro e w4 ⟨B4, k4, rfl, hf4, ho4, hb4⟩; have b4 : Hid (Below wb.heap.size wb w4) := Lib.hid (by first | exact up_trans b3.out hb4 | exact ⟨hb4.os, hb4.tape, hb4.output, hb4.size, hb4.block⟩); obtain ⟨q0, q1, q2, q3⟩ := K.out _ b4.out))
    all_goals
      go_wp2_with fail
      go_meet
      case rel =>
        go_light
        first
          | exact ⟨_, _, _, _, (own_fin H0.out b4.out hf3 (own_up ho3 hb4) (own_low ho4 b3.out.size)).1⟩
          | exact ⟨_, _, _, _, (own_fin H0.out b4.out hf3 (own_up ho3 hb4) (own_low ho4 b3.out.size)).2⟩
          | exact ⟨_, _, _, _, (own_fin H0.out b3.out hf3 (own_low ho3 b4.out.size) (own_up ho4 hb3)).1⟩
          | exact ⟨_, _, _, _, (own_fin H0.out b3.out hf3 (own_low ho3 b4.out.size) (own_up ho4 hb3)).2⟩
  case rest =>
    obtain ⟨A', c', B', k', hO⟩ := hcut
    obtain ⟨x0, x1, x2, x3⟩ := hO.fr.x.cells
    obtain ⟨z0, z1, z2, z3⟩ := hO.fr.z.cells
    obtain ⟨u0, u1, u2, u3⟩ := hO.fr.z.free
    have HO := Lib.hid hO
    clear hO
    go_wp2
    have hp := HO.out.fr.putz (.slice A' d.n c') (.slice B' d.m k') (.int .i64 d.fuse) (.bool d.off)
    refine bodyPost_ret (results_disk rfl _ _ (w.heap.size + 1) rfl hp.z) rfl ⟨A', c', B', k', rfl, HO.out.fa, own_put4 HO.out.fr.z HO.out.s (by decide) _ _ _ _, own_put4 HO.out.fr.z HO.out.t (by decide) _ _ _ _, hp.below⟩

theorem cellApart_ret (h : DOk w A c B k d) : Calls Try.prog 38 #[.agg #[.slice A d.n c, .slice B d.m k, .int .i64 d.fuse, .bool d.off]] w (fun e w' => ∃ A' c' B' k', e = .returned (.agg #[.slice A' d.n c', .slice B' d.m k', .int .i64 d.fuse, .bool d.off]) ∧ DOk w' A' c' B' k' d ∧ Below w.heap.size w w' ∧ Fr w.heap.size A' d.n ∧ Fr w.heap.size B' d.m) :=
  (cellApart_any h).mono (fun _ _ ⟨A', c', B', k', he, hf, hs, ht, hb⟩ => ⟨A', c', B', k', he, ⟨(own_sl hs).st, own_pc ht, hf, own_fit ht, h.sz⟩, hb, own_fr hs, own_fr ht⟩)

set_option maxRecDepth 100000 in
set_option maxHeartbeats 3200000 in
theorem write_fresh (h : DOk w A c B k d) (hm : (d.m + 1) * 24 ≤ 140737488355328) (base : Int) (b0 : -9223372036854775808 ≤ base) (b1 : base ≤ 9223372036854775807) (x : ByteArray) (hx : x.size ≤ 140737488351232) :
    Calls Try.prog 17 #[.agg #[.slice A d.n c, .slice B d.m k, .int .i64 d.fuse, .bool d.off], .int .i64 base, .string x] w (DErrF w (wrD d base x) (wrE d base x)) := by
  have h0 := D2.start w (.slice A d.n c) (.slice B d.m k) (.int .i64 d.fuse) (.bool d.off) (.slice none 0 0) (.slice none 0 0) (.int .i64 0) (.bool false)
  have hd := h.up h0.below
  have c1 := current_any hd base b0 b1
  have hbn := h.sz.bn
  have H0 := Lib.hid h0
  have HD := Lib.hid hd
  have HM := Lib.hid hm
  clear hd hm
  by_cases hbt : bothB d.n base = true
  · have hE : (rdE d base == 1) = false := by
      rcases rdE_in hbt with e | e <;> rw [e] <;> rfl
    have htm := rdT_max d base
    have hwt : IntKind.u64.wrap ((rdT d base : Int) + 1) = (((rdT d base + 1) % 18446744073709551616 : Nat) : Int) := by rw [IntKind.wrap_u64]; omega
    have c2 := fun W => rec_any ((rdT d base + 1) % 18446744073709551616) (by omega) x hx W
    have C2 := Lib.hid c2
    clear c2
    by_cases hx1 : 1000 < x.size
    · obtain ⟨e1, e2⟩ := wr_big hbt hx1
      rw [e1, e2]
      have hre : recE x = 4 := if_pos hx1
      rw [hre] at C2
      generalize recT ((rdT d base + 1) % 18446744073709551616) x = y at *
      generalize (rdT d base + 1) % 18446744073709551616 = t1 at *
      generalize rdT d base = t at *
      generalize rdE d base = E at *
      generalize rdA d base = at_ at *
      generalize rdX d base = v at *
      have C1 := Lib.hid c1
      clear c1 e1 e2 hre hbt htm hx1 hbn b0 b1
      clear h h0
      go_enter Try.func17, Try.ntmps17
      go_upto_region 1 with fail
      generalize (w.alloc (.cells #[.slice A d.n c, .slice B d.m k, .int .i64 d.fuse, .bool d.off] 37)).alloc (.cells #[.slice none 0 0, .slice none 0 0, .int .i64 0, .bool false] 37) = wb at *
      obtain ⟨x0, x1, x2, x3⟩ := H0.out.x.cells
      go_wp2_with fail
      clear x0 x1 x2 x3
      refine C1.out.mono ?_; rintro e w1 ⟨rfl, hb1⟩
      have hr := has_rc w1 t v
      have H2 := Lib.hid ((H0.out.up hb1).alloc (.cells #[.int .u64 (t : Int), .string v] 69))
      have HD2 := Lib.hid ((HD.out.up hb1).up ((Below.refl _ _).alloc (Nat.le_refl _) (.cells #[.int .u64 (t : Int), .string v] 69)))
      go_upto_region 2 with fail
      generalize w1.alloc (.cells #[.int .u64 (t : Int), .string v] 69) = w2 at *
      generalize w1.heap.size = g at *
      have r0 : w2.cell? ⟨g, 0, none⟩ = some (.int .u64 (t : Int)) := hr.cell (show 0 < 2 by omega)
      obtain ⟨x0, x1, x2, x3⟩ := H2.out.x.cells
      go_wp2_with fail
      refine (C2.out _).mono ?_; rintro e w3 ⟨rfl, hb3⟩
      have H3 := Lib.hid (H2.out.up hb3)
      have HD3 := Lib.hid (HD2.out.up hb3)
      clear x0 x1 x2 x3
      obtain ⟨x0, x1, x2, x3⟩ := H3.out.x.cells
      have r1 : w3.cell? ⟨g, 0, none⟩ = some (.int .u64 (t : Int)) := (hr.below hb3 hr.lt).cell (show 0 < 2 by omega)
      go_wp2_with fail
      refine (cellApart_ret HD3.out).mono ?_; rintro e w4 ⟨A4, c4, B4, k4, rfl, ok4, hb4, fa4, fb4⟩
      have FA4 := Lib.hid (fa4.low H3.out.below.size)
      have FB4 := Lib.hid (fb4.low H3.out.below.size)
      clear fa4 fb4
      clear x0 x1 x2 x3
      have h4 := H3.out.up hb4
      obtain ⟨u0, u1, u2, u3⟩ := h4.z.free
      obtain ⟨z0, z1, z2, z3⟩ := h4.z.cells
      have HP := Lib.hid (put_res h4 ok4)
      clear h4 ok4 hb4
      go_wp2
      exact bodyPost_ret (results_disk_err rfl _ _ (w.heap.size + 1) rfl HP.out.1) rfl ⟨A4, c4, B4, k4, rfl, HP.out.2.1, HP.out.2.2, FA4.out, FB4.out⟩
    · have hre : recE x = 0 := if_neg hx1
      rw [hre] at C2
      have hrt : recT ((rdT d base + 1) % 18446744073709551616) x = recS ((rdT d base + 1) % 18446744073709551616) x := if_neg hx1
      rw [hrt] at C2
      by_cases ht : rdT d base = 18446744073709551615
      · obtain ⟨e1, e2⟩ := wr_full hbt hx1 ht
        rw [e1, e2]
        have g5 : ((rdT d base : Int) == 18446744073709551615) = true := by rw [ht]; rfl
        generalize recS ((rdT d base + 1) % 18446744073709551616) x = y at *
        generalize (rdT d base + 1) % 18446744073709551616 = t1 at *
        generalize rdT d base = t at *
        generalize rdE d base = E at *
        generalize rdA d base = at_ at *
        generalize rdX d base = v at *
        have C1 := Lib.hid c1
        clear c1 e1 e2 hre hrt hbt htm hx1 hbn b0 b1 ht
        clear h h0
        go_enter Try.func17, Try.ntmps17
        go_upto_region 1 with fail
        generalize (w.alloc (.cells #[.slice A d.n c, .slice B d.m k, .int .i64 d.fuse, .bool d.off] 37)).alloc (.cells #[.slice none 0 0, .slice none 0 0, .int .i64 0, .bool false] 37) = wb at *
        obtain ⟨x0, x1, x2, x3⟩ := H0.out.x.cells
        go_wp2_with fail
        clear x0 x1 x2 x3
        refine C1.out.mono ?_; rintro e w1 ⟨rfl, hb1⟩
        have hr := has_rc w1 t v
        have H2 := Lib.hid ((H0.out.up hb1).alloc (.cells #[.int .u64 (t : Int), .string v] 69))
        have HD2 := Lib.hid ((HD.out.up hb1).up ((Below.refl _ _).alloc (Nat.le_refl _) (.cells #[.int .u64 (t : Int), .string v] 69)))
        go_upto_region 2 with fail
        generalize w1.alloc (.cells #[.int .u64 (t : Int), .string v] 69) = w2 at *
        generalize w1.heap.size = g at *
        have r0 : w2.cell? ⟨g, 0, none⟩ = some (.int .u64 (t : Int)) := hr.cell (show 0 < 2 by omega)
        obtain ⟨x0, x1, x2, x3⟩ := H2.out.x.cells
        go_wp2_with fail
        refine (C2.out _).mono ?_; rintro e w3 ⟨rfl, hb3⟩
        have H3 := Lib.hid (H2.out.up hb3)
        have HD3 := Lib.hid (HD2.out.up hb3)
        clear x0 x1 x2 x3
        obtain ⟨x0, x1, x2, x3⟩ := H3.out.x.cells
        have r1 : w3.cell? ⟨g, 0, none⟩ = some (.int .u64 (t : Int)) := (hr.below hb3 hr.lt).cell (show 0 < 2 by omega)
        go_wp2_with fail
        refine (cellApart_ret HD3.out).mono ?_; rintro e w4 ⟨A4, c4, B4, k4, rfl, ok4, hb4, fa4, fb4⟩
        have FA4 := Lib.hid (fa4.low H3.out.below.size)
        have FB4 := Lib.hid (fb4.low H3.out.below.size)
        clear fa4 fb4
        clear x0 x1 x2 x3
        have h4 := H3.out.up hb4
        obtain ⟨u0, u1, u2, u3⟩ := h4.z.free
        obtain ⟨z0, z1, z2, z3⟩ := h4.z.cells
        have HP := Lib.hid (put_res h4 ok4)
        clear h4 ok4 hb4
        go_wp2
        exact bodyPost_ret (results_disk_err rfl _ _ (w.heap.size + 1) rfl HP.out.1) rfl ⟨A4, c4, B4, k4, rfl, HP.out.2.1, HP.out.2.2, FA4.out, FB4.out⟩
      · obtain ⟨e1, e2⟩ := wr_put hbt hx1 ht
        rw [e1, e2]
        obtain ⟨a0, a1⟩ := both_iff.1 hbt
        have g5 : ((rdT d base : Int) == 18446744073709551615) = false := by rw [beq_eq_false_iff_ne]; omega
        have hm1 : (rdT d base + 1) % 18446744073709551616 = rdT d base + 1 := by omega
        rw [hm1] at C2 hwt
        have hat := rdA_in d base
        have hw1 : IntKind.i64.wrap (base + 1) = base + 1 := IntWalk.i64_in _ (by omega)
        have hw2 : IntKind.i64.wrap (base + 1 - (rdA d base : Int)) = base + 1 - (rdA d base : Int) := IntWalk.i64_in _ (by omega)
        have hfit := recS_fits (t := rdT d base + 1) (x := x) (by omega) (by omega)
        have c3 := fun W A c B k (h : DOk W A c B k d) => put_fresh h HM.out (base + 1 - (rdA d base : Int)) (recS (rdT d base + 1) x) (by omega)
        generalize putE d (base + 1 - (rdA d base : Int)) (recS (rdT d base + 1) x) = E5 at *
        generalize putD d (base + 1 - (rdA d base : Int)) (recS (rdT d base + 1) x) = D5 at *
        have C3 := Lib.hid c3
        clear hm1 hrt
        generalize recS (rdT d base + 1) x = y at *
        generalize rdT d base + 1 = t1 at *
        generalize rdT d base = t at *
        generalize rdE d base = E at *
        generalize rdA d base = at_ at *
        generalize rdX d base = v at *
        have C1 := Lib.hid c1
        clear c1 c3 e1 e2 hre hbt htm hx1 hbn b0 b1 ht a0 a1 hat hfit
        clear h h0
        go_enter Try.func17, Try.ntmps17
        go_upto_region 1 with fail
        generalize (w.alloc (.cells #[.slice A d.n c, .slice B d.m k, .int .i64 d.fuse, .bool d.off] 37)).alloc (.cells #[.slice none 0 0, .slice none 0 0, .int .i64 0, .bool false] 37) = wb at *
        obtain ⟨x0, x1, x2, x3⟩ := H0.out.x.cells
        go_wp2_with fail
        clear x0 x1 x2 x3
        refine C1.out.mono ?_; rintro e w1 ⟨rfl, hb1⟩
        have hr := has_rc w1 t v
        have H2 := Lib.hid ((H0.out.up hb1).alloc (.cells #[.int .u64 (t : Int), .string v] 69))
        have HD2 := Lib.hid ((HD.out.up hb1).up ((Below.refl _ _).alloc (Nat.le_refl _) (.cells #[.int .u64 (t : Int), .string v] 69)))
        go_upto_region 2 with fail
        generalize w1.alloc (.cells #[.int .u64 (t : Int), .string v] 69) = w2 at *
        generalize w1.heap.size = g at *
        have r0 : w2.cell? ⟨g, 0, none⟩ = some (.int .u64 (t : Int)) := hr.cell (show 0 < 2 by omega)
        obtain ⟨x0, x1, x2, x3⟩ := H2.out.x.cells
        go_wp2_with fail
        refine (C2.out _).mono ?_; rintro e w3 ⟨rfl, hb3⟩
        have H3 := Lib.hid (H2.out.up hb3)
        have HD3 := Lib.hid (HD2.out.up hb3)
        clear x0 x1 x2 x3
        obtain ⟨x0, x1, x2, x3⟩ := H3.out.x.cells
        have r1 : w3.cell? ⟨g, 0, none⟩ = some (.int .u64 (t : Int)) := (hr.below hb3 hr.lt).cell (show 0 < 2 by omega)
        go_wp2_with fail
        refine (C3.out _ _ _ _ _ HD3.out).mono ?_; rintro e w4 ⟨A4, c4, B4, k4, rfl, ok4, hb4, fa4, fb4⟩
        have FA4 := Lib.hid (fa4.low H3.out.below.size)
        have FB4 := Lib.hid (fb4.low H3.out.below.size)
        clear fa4 fb4
        clear x0 x1 x2 x3
        have h4 := H3.out.up hb4
        obtain ⟨u0, u1, u2, u3⟩ := h4.z.free
        obtain ⟨z0, z1, z2, z3⟩ := h4.z.cells
        have HP := Lib.hid (put_res h4 ok4)
        clear h4 ok4 hb4
        go_wp2
        exact bodyPost_ret (results_disk_err rfl _ _ (w.heap.size + 1) rfl HP.out.1) rfl ⟨A4, c4, B4, k4, rfl, HP.out.2.1, HP.out.2.2, FA4.out, FB4.out⟩
  · have hbf : bothB d.n base = false := by simpa using hbt
    obtain ⟨e1, e2⟩ := wr_out x hbf
    rw [e1, e2]
    have hE : (rdE d base == 1) = true := by rw [(rd_out hbf).1]; rfl
    have hE1 := (rd_out hbf).1
    rw [hE1] at c1
    generalize rdT d base = t at *
    generalize rdA d base = at_ at *
    generalize rdX d base = v at *
    have C1 := Lib.hid c1
    clear c1 e1 e2 hbt hbf hE hE1 hbn b0 b1
    clear h h0
    go_enter Try.func17, Try.ntmps17
    go_upto_region 1 with fail
    generalize (w.alloc (.cells #[.slice A d.n c, .slice B d.m k, .int .i64 d.fuse, .bool d.off] 37)).alloc (.cells #[.slice none 0 0, .slice none 0 0, .int .i64 0, .bool false] 37) = wb at *
    obtain ⟨x0, x1, x2, x3⟩ := H0.out.x.cells
    go_wp2_with fail
    clear x0 x1 x2 x3
    refine C1.out.mono ?_; rintro e w1 ⟨rfl, hb1⟩
    have hr := has_rc w1 t v
    have H2 := Lib.hid ((H0.out.up hb1).alloc (.cells #[.int .u64 (t : Int), .string v] 69))
    have HD2 := Lib.hid ((HD.out.up hb1).up ((Below.refl _ _).alloc (Nat.le_refl _) (.cells #[.int .u64 (t : Int), .string v] 69)))
    go_upto_region 2 with fail
    generalize w1.alloc (.cells #[.int .u64 (t : Int), .string v] 69) = w2 at *
    generalize w1.heap.size = g at *
    have r0 : w2.cell? ⟨g, 0, none⟩ = some (.int .u64 (t : Int)) := hr.cell (show 0 < 2 by omega)
    obtain ⟨x0, x1, x2, x3⟩ := H2.out.x.cells
    go_wp2_with fail
    refine (cellApart_ret HD2.out).mono ?_; rintro e w4 ⟨A4, c4, B4, k4, rfl, ok4, hb4, fa4, fb4⟩
    have FA4 := Lib.hid (fa4.low H2.out.below.size)
    have FB4 := Lib.hid (fb4.low H2.out.below.size)
    clear fa4 fb4
    clear x0 x1 x2 x3
    have h4 := H2.out.up hb4
    obtain ⟨u0, u1, u2, u3⟩ := h4.z.free
    obtain ⟨z0, z1, z2, z3⟩ := h4.z.cells
    have HP := Lib.hid (put_res h4 ok4)
    clear h4 ok4 hb4
    go_wp2
    exact bodyPost_ret (results_disk_err rfl _ _ (w.heap.size + 1) rfl HP.out.1) rfl ⟨A4, c4, B4, k4, rfl, HP.out.2.1, HP.out.2.2, FA4.out, FB4.out⟩

theorem write_any (h : DOk w A c B k d) (hm : (d.m + 1) * 24 ≤ 140737488355328) (base : Int) (b0 : -9223372036854775808 ≤ base) (b1 : base ≤ 9223372036854775807) (x : ByteArray) (hx : x.size ≤ 140737488351232) :
    Calls Try.prog 17 #[.agg #[.slice A d.n c, .slice B d.m k, .int .i64 d.fuse, .bool d.off], .int .i64 base, .string x] w (DErr w (wrD d base x) (wrE d base x)) :=
  (write_fresh h hm base b0 b1 x hx).mono (fun _ _ h => h.plain)

set_option maxRecDepth 100000 in
set_option maxHeartbeats 3200000 in
theorem refWrite_any (h : DOk w A c B k d) (hm : (d.m + 1) * 24 ≤ 140737488355328) (base : Int) (b0 : -9223372036854775808 ≤ base) (b1 : base ≤ 9223372036854775807) (x : ByteArray) (hx : x.size ≤ 140737488351232) :
    Calls Try.prog 18 #[.agg #[.slice A d.n c, .slice B d.m k, .int .i64 d.fuse, .bool d.off], .int .i64 base, .string x] w (DErr w (wrD d base x) (wrE d base x)) := by
  have h0 := D2.start w (.slice A d.n c) (.slice B d.m k) (.int .i64 d.fuse) (.bool d.off) (.slice none 0 0) (.slice none 0 0) (.int .i64 0) (.bool false)
  have hd := h.up h0.below
  have hbn := h.sz.bn
  have H0 := Lib.hid h0
  have HD := Lib.hid hd
  have HM := Lib.hid hm
  by_cases hbt : bothB d.n base = true
  · obtain ⟨a0, a1⟩ := both_iff.1 hbt
    have g1 : decide (base < 0) = false := decide_eq_false (by omega)
    have g2 : decide (base ≥ (d.n : Int)) = false := decide_eq_false (by omega)
    have hwr : IntKind.i64.wrap ((d.n : Int) - base) = (d.n : Int) - base := IntWalk.i64_in _ (by omega)
    have g3 : decide ((d.n : Int) - base < 2) = false := decide_eq_false (by omega)
    by_cases hx1 : 1000 < x.size
    · obtain ⟨e1, e2⟩ := wr_big hbt hx1
      rw [e1, e2]
      clear e1 e2 hbt hbn b0 b1 a0 a1 h h0 hd hm
      go_enter Try.func18, Try.ntmps18
      go_upto_region 1 with fail
      generalize (w.alloc (.cells #[.slice A d.n c, .slice B d.m k, .int .i64 d.fuse, .bool d.off] 37)).alloc (.cells #[.slice none 0 0, .slice none 0 0, .int .i64 0, .bool false] 37) = wb at *
      obtain ⟨x0, x1, x2, x3⟩ := H0.out.x.cells
      obtain ⟨u0, u1, u2, u3⟩ := H0.out.z.free
      obtain ⟨z0, z1, z2, z3⟩ := H0.out.z.cells
      have HP := Lib.hid (put_res H0.out HD.out)
      go_wp2
      exact bodyPost_ret (results_disk_err rfl _ _ (w.heap.size + 1) rfl HP.out.1) rfl ⟨A, c, B, k, rfl, HP.out.2.1, HP.out.2.2⟩
    · have c1 := refCurrent_any hd base hbt
      obtain ⟨q1, q2, q3, q4⟩ := rd_in hbt
      rw [← q2, ← q3, ← q4] at c1
      generalize cuB (s0 d base) (s1 d base) = is at *
      by_cases ht : rdT d base = 18446744073709551615
      · obtain ⟨e1, e2⟩ := wr_full hbt hx1 ht
        rw [e1, e2]
        have g5 : ((rdT d base : Int) == 18446744073709551615) = true := by rw [ht]; rfl
        clear q1 q2 q3 q4
        generalize rdT d base = t at *
        generalize rdA d base = at_ at *
        generalize rdX d base = v at *
        have C1 := Lib.hid c1
        clear c1 e1 e2 hbt hbn b0 b1 a0 a1 h h0 hd hm ht
        go_enter Try.func18, Try.ntmps18
        go_upto_region 1 with fail
        generalize (w.alloc (.cells #[.slice A d.n c, .slice B d.m k, .int .i64 d.fuse, .bool d.off] 37)).alloc (.cells #[.slice none 0 0, .slice none 0 0, .int .i64 0, .bool false] 37) = wb at *
        obtain ⟨x0, x1, x2, x3⟩ := H0.out.x.cells
        go_wp2_with fail
        clear x0 x1 x2 x3
        refine C1.out.mono ?_; rintro e w1 ⟨rfl, hb1⟩
        have h4 := H0.out.up hb1
        obtain ⟨x0, x1, x2, x3⟩ := h4.x.cells
        obtain ⟨u0, u1, u2, u3⟩ := h4.z.free
        obtain ⟨z0, z1, z2, z3⟩ := h4.z.cells
        have HP := Lib.hid (put_res h4 (HD.out.up hb1))
        clear h4 hb1
        go_wp2
        exact bodyPost_ret (results_disk_err rfl _ _ (w.heap.size + 1) rfl HP.out.1) rfl ⟨A, c, B, k, rfl, HP.out.2.1, HP.out.2.2⟩
      · obtain ⟨e1, e2⟩ := wr_put hbt hx1 ht
        rw [e1, e2]
        have g5 : ((rdT d base : Int) == 18446744073709551615) = false := by rw [beq_eq_false_iff_ne]; omega
        have htm := rdT_max d base
        have hwt : IntKind.u64.wrap ((rdT d base : Int) + 1) = ((rdT d base + 1 : Nat) : Int) := by rw [IntKind.wrap_u64]; omega
        have hat := rdA_in d base
        have hw1 : IntKind.i64.wrap (base + 1) = base + 1 := IntWalk.i64_in _ (by omega)
        have hfit := recS_fits (t := rdT d base + 1) (x := x) (by omega) (by omega)
        have hre : recE x = 0 := if_neg hx1
        have hrt : recT (rdT d base + 1) x = recS (rdT d base + 1) x := if_neg hx1
        have c2 := fun W => refRec_any (rdT d base + 1) (by omega) x hx W
        rw [hre, hrt] at c2
        have c3 := fun W A c B k (h : DOk W A c B k d) => refPut_any h HM.out (base + 1 - (rdA d base : Int)) (recS (rdT d base + 1) x) (by omega)
        generalize putE d (base + 1 - (rdA d base : Int)) (recS (rdT d base + 1) x) = E5 at *
        generalize putD d (base + 1 - (rdA d base : Int)) (recS (rdT d base + 1) x) = D5 at *
        have hx0 : ¬ 1000 < x.size := hx1
        clear q1 q2 q3 q4 hrt hre
        generalize recS (rdT d base + 1) x = y at *
        generalize rdT d base + 1 = t1 at *
        generalize rdT d base = t at *
        generalize rdX d base = v at *
        rcases hat with hat | hat
        · rw [hat] at c1 c3
          clear hat
          have hsl : base + 1 - ((0 : Nat) : Int) = base + 1 := by omega
          have hba : base + ((0 : Nat) : Int) = base := by omega
          have gq : (base == base) = true := beq_iff_eq.2 rfl
          rw [hsl] at c3
          unfold Cu4 at c1
          rw [hba] at c1
          have C1 := Lib.hid c1
          have C2 := Lib.hid c2
          have C3 := Lib.hid c3
          clear c1 c2 c3 e1 e2 hbt htm hx1 hbn b0 b1 ht a0 a1 hfit hsl hba h h0 hd hm
          go_enter Try.func18, Try.ntmps18
          go_upto_region 1 with fail
          generalize (w.alloc (.cells #[.slice A d.n c, .slice B d.m k, .int .i64 d.fuse, .bool d.off] 37)).alloc (.cells #[.slice none 0 0, .slice none 0 0, .int .i64 0, .bool false] 37) = wb at *
          obtain ⟨x0, x1, x2, x3⟩ := H0.out.x.cells
          go_wp2_with fail
          clear x0 x1 x2 x3
          refine C1.out.mono ?_; rintro e w1 ⟨rfl, hb1⟩
          have H1 := Lib.hid (H0.out.up hb1)
          have HD1 := Lib.hid (HD.out.up hb1)
          go_wp2_with fail
          refine (C2.out _).mono ?_; rintro e w3 ⟨rfl, hb3⟩
          have H3 := Lib.hid (H1.out.up hb3)
          have HD3 := Lib.hid (HD1.out.up hb3)
          obtain ⟨x0, x1, x2, x3⟩ := H3.out.x.cells
          go_wp2_with fail
          refine (C3.out _ _ _ _ _ HD3.out).mono ?_; rintro e w4 ⟨A4, c4, B4, k4, rfl, ok4, hb4⟩
          clear x0 x1 x2 x3
          have h4 := H3.out.up hb4
          obtain ⟨u0, u1, u2, u3⟩ := h4.z.free
          obtain ⟨z0, z1, z2, z3⟩ := h4.z.cells
          have HP := Lib.hid (put_res h4 ok4)
          clear h4 ok4 hb4
          go_wp2
          exact bodyPost_ret (results_disk_err rfl _ _ (w.heap.size + 1) rfl HP.out.1) rfl ⟨A4, c4, B4, k4, rfl, HP.out.2.1, HP.out.2.2⟩
        · rw [hat] at c1 c3
          clear hat
          have hsl : base + 1 - ((1 : Nat) : Int) = base := by omega
          have hba : base + ((1 : Nat) : Int) = base + 1 := by omega
          have gq : (base + 1 == base) = false := by rw [beq_eq_false_iff_ne]; omega
          rw [hsl] at c3
          unfold Cu4 at c1
          rw [hba] at c1
          have C1 := Lib.hid c1
          have C2 := Lib.hid c2
          have C3 := Lib.hid c3
          clear c1 c2 c3 e1 e2 hbt htm hx1 hbn b0 b1 ht a0 a1 hfit hsl hba h h0 hd hm
          go_enter Try.func18, Try.ntmps18
          go_upto_region 1 with fail
          generalize (w.alloc (.cells #[.slice A d.n c, .slice B d.m k, .int .i64 d.fuse, .bool d.off] 37)).alloc (.cells #[.slice none 0 0, .slice none 0 0, .int .i64 0, .bool false] 37) = wb at *
          obtain ⟨x0, x1, x2, x3⟩ := H0.out.x.cells
          go_wp2_with fail
          clear x0 x1 x2 x3
          refine C1.out.mono ?_; rintro e w1 ⟨rfl, hb1⟩
          have H1 := Lib.hid (H0.out.up hb1)
          have HD1 := Lib.hid (HD.out.up hb1)
          go_wp2_with fail
          refine (C2.out _).mono ?_; rintro e w3 ⟨rfl, hb3⟩
          have H3 := Lib.hid (H1.out.up hb3)
          have HD3 := Lib.hid (HD1.out.up hb3)
          obtain ⟨x0, x1, x2, x3⟩ := H3.out.x.cells
          go_wp2_with fail
          refine (C3.out _ _ _ _ _ HD3.out).mono ?_; rintro e w4 ⟨A4, c4, B4, k4, rfl, ok4, hb4⟩
          clear x0 x1 x2 x3
          have h4 := H3.out.up hb4
          obtain ⟨u0, u1, u2, u3⟩ := h4.z.free
          obtain ⟨z0, z1, z2, z3⟩ := h4.z.cells
          have HP := Lib.hid (put_res h4 ok4)
          clear h4 ok4 hb4
          go_wp2
          exact bodyPost_ret (results_disk_err rfl _ _ (w.heap.size + 1) rfl HP.out.1) rfl ⟨A4, c4, B4, k4, rfl, HP.out.2.1, HP.out.2.2⟩
  · have hbf : bothB d.n base = false := by simpa using hbt
    obtain ⟨e1, e2⟩ := wr_out x hbf
    rw [e1, e2]
    have hno := both_niff.1 hbf
    by_cases g : base < 0
    · have g1 : decide (base < 0) = true := decide_eq_true g
      clear e1 e2 hbt hbf hno g b0 b1 hbn h h0 hd hm
      go_enter Try.func18, Try.ntmps18
      go_upto_region 1 with fail
      generalize (w.alloc (.cells #[.slice A d.n c, .slice B d.m k, .int .i64 d.fuse, .bool d.off] 37)).alloc (.cells #[.slice none 0 0, .slice none 0 0, .int .i64 0, .bool false] 37) = wb at *
      obtain ⟨x0, x1, x2, x3⟩ := H0.out.x.cells
      obtain ⟨u0, u1, u2, u3⟩ := H0.out.z.free
      obtain ⟨z0, z1, z2, z3⟩ := H0.out.z.cells
      have HP := Lib.hid (put_res H0.out HD.out)
      go_wp2
      exact bodyPost_ret (results_disk_err rfl _ _ (w.heap.size + 1) rfl HP.out.1) rfl ⟨A, c, B, k, rfl, HP.out.2.1, HP.out.2.2⟩
    · have g1 : decide (base < 0) = false := decide_eq_false g
      by_cases g' : base ≥ (d.n : Int)
      · have g2 : decide (base ≥ (d.n : Int)) = true := decide_eq_true g'
        clear e1 e2 hbt hbf hno g g' b0 b1 hbn h h0 hd hm
        go_enter Try.func18, Try.ntmps18
        go_upto_region 1 with fail
        generalize (w.alloc (.cells #[.slice A d.n c, .slice B d.m k, .int .i64 d.fuse, .bool d.off] 37)).alloc (.cells #[.slice none 0 0, .slice none 0 0, .int .i64 0, .bool false] 37) = wb at *
        obtain ⟨x0, x1, x2, x3⟩ := H0.out.x.cells
        obtain ⟨u0, u1, u2, u3⟩ := H0.out.z.free
        obtain ⟨z0, z1, z2, z3⟩ := H0.out.z.cells
        have HP := Lib.hid (put_res H0.out HD.out)
        go_wp2
        exact bodyPost_ret (results_disk_err rfl _ _ (w.heap.size + 1) rfl HP.out.1) rfl ⟨A, c, B, k, rfl, HP.out.2.1, HP.out.2.2⟩
      · have g2 : decide (base ≥ (d.n : Int)) = false := decide_eq_false g'
        have hwr : IntKind.i64.wrap ((d.n : Int) - base) = (d.n : Int) - base := IntWalk.i64_in _ (by omega)
        have g3 : decide ((d.n : Int) - base < 2) = true := decide_eq_true (by omega)
        clear e1 e2 hbt hbf hno g g' b0 b1 hbn h h0 hd hm
        go_enter Try.func18, Try.ntmps18
        go_upto_region 1 with fail
        generalize (w.alloc (.cells #[.slice A d.n c, .slice B d.m k, .int .i64 d.fuse, .bool d.off] 37)).alloc (.cells #[.slice none 0 0, .slice none 0 0, .int .i64 0, .bool false] 37) = wb at *
        obtain ⟨x0, x1, x2, x3⟩ := H0.out.x.cells
        obtain ⟨u0, u1, u2, u3⟩ := H0.out.z.free
        obtain ⟨z0, z1, z2, z3⟩ := H0.out.z.cells
        have HP := Lib.hid (put_res H0.out HD.out)
        go_wp2
        exact bodyPost_ret (results_disk_err rfl _ _ (w.heap.size + 1) rfl HP.out.1) rfl ⟨A, c, B, k, rfl, HP.out.2.1, HP.out.2.2⟩
end
end Go.Proofs.Ytnpognhgncnnpaa.Mat
