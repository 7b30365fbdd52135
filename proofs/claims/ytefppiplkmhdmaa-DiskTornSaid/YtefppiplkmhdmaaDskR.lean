/- Disks in a law's own boxes; the document's example: walked. -/
import Derived.Test.YtefppiplkmhdmaaDskQ
namespace Go.Proofs.Ytefppiplkmhdmaa.Mat
open Go.RowKit Fld

/-- a box holds a disk -/
structure Vr (W : World) (g : Nat) (D : Dk) (A : Option Addr) (c : Nat) (B : Option Addr) (k : Nat) : Prop where
  bx : Bx W g (.slice A D.n c) (.slice B D.m k) (.int .i64 D.fuse) (.bool D.off)
  ok : DOk W A c B k D
section
variable {W W' : World} {g g' : Nat} {D D' : Dk} {A B A' B' : Option Addr} {c k c' k' : Nat}
theorem Vr.up (h : Vr W g D A c B k) (hb : Below W.heap.size W W') : Vr W' g D A c B k := ⟨h.bx.up hb, h.ok.up hb⟩
theorem Vr.alloc (h : Vr W g D A c B k) (o : Obj) : Vr (W.alloc o) g D A c B k := h.up ((Below.refl _ _).alloc (Nat.le_refl _) _)
theorem Vr.new (h : DOk W A c B k D) : Vr (W.alloc (.cells #[.slice A D.n c, .slice B D.m k, .int .i64 D.fuse, .bool D.off] 25)) W.heap.size D A c B k :=
  ⟨bx_new _ _ _ _ _, h.up ((Below.refl _ _).alloc (Nat.le_refl _) _)⟩
theorem Vr.cells (h : Vr W g D A c B k) : W.cell? ⟨g, 0, none⟩ = some (.slice A D.n c) ∧ W.cell? ⟨g, 1, none⟩ = some (.slice B D.m k) ∧ W.cell? ⟨g, 2, none⟩ = some (.int .i64 D.fuse) ∧ W.cell? ⟨g, 3, none⟩ = some (.bool D.off) := h.bx.cells
theorem Vr.drewN (h : Vr W g D A c B k) (q : Nat) : Vr (W.drewN q) g D A c B k := ⟨h.bx, h.ok.drewN q⟩
theorem Vr.drew (h : Vr W g D A c B k) : Vr W.drew g D A c B k := ⟨h.bx, h.ok.drew⟩
/-- a row isn't in the box -/
theorem cell_ne {a : Addr} {i : Nat} {u v : Value} (h : W.cell? a = some u) (h' : W.cell? ⟨g, i, none⟩ = some v) (hne : u ≠ v) : (⟨g, i, none⟩ : Addr) ≠ a := by
  rintro rfl
  rw [h'] at h
  injection h with h
  exact hne h.symm
theorem put4_cell {a : Addr} {p q r s : Value} (h0 : (⟨g, 0, none⟩ : Addr) ≠ a) (h1 : (⟨g, 1, none⟩ : Addr) ≠ a) (h2 : (⟨g, 2, none⟩ : Addr) ≠ a) (h3 : (⟨g, 3, none⟩ : Addr) ≠ a) : (put4 W g p q r s).cell? a = W.cell? a := by
  unfold put4
  rw [World.cell?_setCell_other _ _ _ _ h3, World.cell?_setCell_other _ _ _ _ h2, World.cell?_setCell_other _ _ _ _ h1, World.cell?_setCell_other _ _ _ _ h0]
theorem spot_none {a : Addr} {u : Value} (h : W.cell? a = some u) : a.spot = none := by
  unfold World.cell? at h
  cases hs : a.spot with
  | none => rfl
  | some x =>
    rw [hs] at h
    split at h <;> simp at h
theorem ok_put (h : DOk W A c B k D) (hx : Vr W g D' A' c' B' k') (p q r s : Value) : DOk (put4 W g p q r s) A c B k D := by
  obtain ⟨x0, x1, x2, x3⟩ := hx.cells
  have hsz : (put4 W g p q r s).heap.size = W.heap.size := put4_size _ _ _ _ _ _
  refine ⟨fun hn => ?_, fun hn => ?_, h.fa, h.fb, h.sz⟩
  · obtain ⟨ad, e, hl, hc⟩ := h.st hn
    refine ⟨ad, e, by omega, fun i hi => ?_⟩
    have := hc i hi
    rw [put4_cell (cell_ne this x0 (fun e => by cases e)) (cell_ne this x1 (fun e => by cases e)) (cell_ne this x2 (fun e => by cases e)) (cell_ne this x3 (fun e => by cases e))]
    exact this
  · obtain ⟨ad, e, hl, hc⟩ := h.pc hn
    refine ⟨ad, e, by omega, fun i hi => ?_⟩
    obtain ⟨k0, k1⟩ := hc i hi
    have n0 := cell_ne k0 x0 (fun e => by cases e)
    have n1 := cell_ne k0 x1 (fun e => by cases e)
    have n3 := cell_ne k0 x3 (fun e => by cases e)
    have m0 := cell_ne k1 x0 (fun e => by cases e)
    have m1 := cell_ne k1 x1 (fun e => by cases e)
    have m2 := cell_ne k1 x2 (fun e => by cases e)
    have m3 := cell_ne k1 x3 (fun e => by cases e)
    have n2 : (⟨g, 2, none⟩ : Addr) ≠ ad.add (i * 2) := by
      intro e2
      apply m3
      rw [← add_add, ← e2]
      rfl
    rw [put4_cell n0 n1 n2 n3, put4_cell m0 m1 m2 m3]
    exact ⟨k0, k1⟩
theorem Vr.put (h : Vr W g D A c B k) (ok : DOk W A' c' B' k' D') : Vr (put4 W g (.slice A' D'.n c') (.slice B' D'.m k') (.int .i64 D'.fuse) (.bool D'.off)) g D' A' c' B' k' := ⟨h.bx.put _ _ _ _, ok_put ok h _ _ _ _⟩
theorem Vr.other (h : Vr W g D A c B k) (hx : Vr W g' D' A' c' B' k') (hne : g ≠ g') (p q r s : Value) : Vr (put4 W g' p q r s) g D A c B k := ⟨h.bx.putOther hne _ _ _ _, ok_put h.ok hx _ _ _ _⟩
end

theorem shown_nums : ∃ D1 D2 D3 D4 D5 : Dk, newD 2 = D1 ∧ newE 2 = 0 ∧ (D1.m + 1) * 24 ≤ 140737488355328 ∧ putD D1 0 ⟨#[97]⟩ = D2 ∧ putE D1 0 ⟨#[97]⟩ = 0 ∧ flushD D2 = D3 ∧ flushE D2 = 0 ∧ (D3.m + 1) * 24 ≤ 140737488355328 ∧ putD D3 0 ⟨#[98, 99]⟩ = D4 ∧ putE D3 0 ⟨#[98, 99]⟩ = 0 ∧ crashD D4 0 1 = D5 ∧ getE D5 0 = 0 ∧ getS D5 0 = ⟨#[98]⟩ :=
  ⟨_, _, _, _, _, rfl, by decide, by decide, rfl, by decide, rfl, by decide, by decide, rfl, by decide, rfl, by decide, by decide⟩

set_option maxRecDepth 100000 in
set_option maxHeartbeats 1600000 in
theorem shown_any (w : World) : Calls Try.prog 10 #[] w (BoolRet w true) := by
  obtain ⟨D1, D2, D3, D4, D5, e1, f1, m1, e2, f2, e3, f3, m3, e4, f4, e5, f5, g5⟩ := shown_nums
  have c1 := fun W => new_any 2 W
  have c2 := fun W A c B k (h : DOk W A c B k D1) => put_any h m1 0 ⟨#[97]⟩ (by decide)
  have c3 := fun W A c B k (h : DOk W A c B k D2) => flush_any h
  have c4 := fun W A c B k (h : DOk W A c B k D3) => put_any h m3 0 ⟨#[98, 99]⟩ (by decide)
  have c5 := fun W A c B k (h : DOk W A c B k D4) => crash_any h 0 1
  have c6 := fun W A c B k (h : DOk W A c B k D5) => get_any h 0
  rw [e1, f1] at c1
  rw [e2, f2] at c2
  rw [e3, f3] at c3
  rw [e4, f4] at c4
  rw [e5] at c5
  rw [f5, g5] at c6
  have C1 := Lib.hid c1
  have C2 := Lib.hid c2
  have C3 := Lib.hid c3
  have C4 := Lib.hid c4
  have C5 := Lib.hid c5
  have C6 := Lib.hid c6
  clear c1 c2 c3 c4 c5 c6 e1 f1 m1 e2 f2 e3 f3 m3 e4 f4 e5 f5 g5
  go_enter Try.func10, Try.ntmps10
  go_wp2_with fail
  refine (C1.out _).mono ?_; rintro e w1 ⟨A1, c1, B1, k1, rfl, ok1, hb1⟩
  have HV1 := Lib.hid (Vr.new ok1)
  have HG := Lib.hid hb1.size
  have HB1 := Lib.hid (hb1.alloc hb1.size (.cells #[.slice A1 D1.n c1, .slice B1 D1.m k1, .int .i64 D1.fuse, .bool D1.off] 25))
  clear ok1 hb1
  go_upto_region 2 with fail
  generalize w1.alloc (.cells #[.slice A1 D1.n c1, .slice B1 D1.m k1, .int .i64 D1.fuse, .bool D1.off] 25) = W1 at *
  generalize w1.heap.size = g at *
  obtain ⟨x0, x1, x2, x3⟩ := HV1.out.cells
  go_wp2_with fail
  clear x0 x1 x2 x3
  refine (C2.out _ _ _ _ _ HV1.out.ok).mono ?_; rintro e w2 ⟨A2, c2, B2, k2, rfl, ok2, hb2⟩
  have h2 := HV1.out.up hb2
  obtain ⟨x0, x1, x2, x3⟩ := h2.cells
  obtain ⟨y0, y1, y2, y3⟩ := h2.bx.free
  have HV2 := Lib.hid (h2.put ok2)
  have HB2 := Lib.hid (put4_below (up_trans HB1.out hb2) HG.out (.slice A2 D2.n c2) (.slice B2 D2.m k2) (.int .i64 D2.fuse) (.bool D2.off))
  clear h2 ok2 hb2 HB1 HV1
  go_wp2_with fail
  clear x0 x1 x2 x3 y0 y1 y2 y3
  refine (C3.out _ _ _ _ _ HV2.out.ok).mono ?_; rintro e w3 ⟨A3, c3, B3, k3, rfl, ok3, hb3⟩
  have h3 := HV2.out.up hb3
  obtain ⟨x0, x1, x2, x3⟩ := h3.cells
  obtain ⟨y0, y1, y2, y3⟩ := h3.bx.free
  have HV3 := Lib.hid (h3.put ok3)
  have HB3 := Lib.hid (put4_below (up_trans HB2.out hb3) HG.out (.slice A3 D3.n c3) (.slice B3 D3.m k3) (.int .i64 D3.fuse) (.bool D3.off))
  clear h3 ok3 hb3 HB2 HV2
  go_wp2_with fail
  clear x0 x1 x2 x3 y0 y1 y2 y3
  refine (C4.out _ _ _ _ _ HV3.out.ok).mono ?_; rintro e w4 ⟨A4, c4, B4, k4, rfl, ok4, hb4⟩
  have h4 := HV3.out.up hb4
  obtain ⟨x0, x1, x2, x3⟩ := h4.cells
  obtain ⟨y0, y1, y2, y3⟩ := h4.bx.free
  have HV4 := Lib.hid (h4.put ok4)
  have HB4 := Lib.hid (put4_below (up_trans HB3.out hb4) HG.out (.slice A4 D4.n c4) (.slice B4 D4.m k4) (.int .i64 D4.fuse) (.bool D4.off))
  clear h4 ok4 hb4 HB3 HV3
  go_wp2_with fail
  clear x0 x1 x2 x3 y0 y1 y2 y3
  refine (C5.out _ _ _ _ _ HV4.out.ok).mono ?_; rintro e w5 ⟨A5, c5, B5, k5, rfl, ok5, hb5⟩
  have HB5 := Lib.hid (up_trans HB4.out hb5)
  have HK5 := Lib.hid ok5
  clear ok5 hb5
  go_wp2_with fail
  refine (C6.out _ _ _ _ _ HK5.out).mono ?_; rintro e w6 ⟨rfl, hb6⟩
  have HB6 := Lib.hid (up_trans HB5.out hb6)
  clear hb6
  go_wp2
  go_ret
  exact ⟨ret_bool (by first | rfl | decide | simp), HB6.out⟩
end Go.Proofs.Ytefppiplkmhdmaa.Mat
