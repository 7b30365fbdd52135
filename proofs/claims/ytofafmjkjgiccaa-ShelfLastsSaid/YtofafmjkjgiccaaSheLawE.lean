/- The law ShelfTells: walked from what it asks of the program. -/
import Derived.Test.YtofafmjkjgiccaaSheLawD
namespace Go.Proofs.Ytofafmjkjgiccaa.Mat
open Go.RowKit Fld

section
variable {w : World} {d : Dk} {A B : Option Addr} {c k : Nat}
set_option maxRecDepth 100000 in
set_option maxHeartbeats 6400000 in
theorem lawTells (C : ShelfOk) (h : DOk w A c B k d) (v i : Int) :
    Calls Try.prog 4 #[.agg #[.slice A d.n c, .slice B d.m k, .int .i64 d.fuse, .bool d.off], .agg #[.int .i64 v, .int .i64 i]] w (BoolRet w true) := by
  have hbn := h.sz.bn
  have c1 := fun W A c B k (h : DOk W A c B k d) => C.list W A c B k d h
  have r1 := fun W A c B k (h : DOk W A c B k d) => refList_any h
  have c2 := fun W A c B k (h : DOk W A c B k d) => C.bad W A c B k d h
  have r2 := fun W A c B k (h : DOk W A c B k d) => refBad_any h
  have c3 := fun W A c B k (h : DOk W A c B k d) => C.find W A c B k d h v i
  have r3 := fun W A c B k (h : DOk W A c B k d) => refFind_any h v i
  have c4 := fun W A c B k (h : DOk W A c B k d) => C.free W A c B k d h
  have r4 := fun W A c B k (h : DOk W A c B k d) => refFree_any h
  have n1 := ks_len (gs d) d.n
  have n2 := bd_len (gs d) d.n
  have hE := fdE_or d v i
  have CS := Lib.hid (shelfShown_any C)
  obtain ⟨W, hW, hV, hK, hB⟩ := lists_start h v i
  generalize ks (gs d) d.n = l at *
  generalize bd (gs d) d.n = m at *
  generalize em (gs d) d.n = f at *
  generalize fdE d v i = E1 at *
  generalize fdX d v i = X1 at *
  have HL : Hid (l.length ≤ 9223372036854775807) := Lib.hid (by omega)
  have HM : Hid (m.length ≤ 9223372036854775807) := Lib.hid (by omega)
  have g1 := (str_yes (s := X1) rfl).1
  have g2 : (E1 == E1) = true := by simp
  have g3 : IntKind.i64.wrap E1 = E1 := IntWalk.i64_in _ (by omega)
  have C1 := Lib.hid c1
  have C2 := Lib.hid c2
  have C3 := Lib.hid c3
  have C4 := Lib.hid c4
  have R1 := Lib.hid r1
  have R2 := Lib.hid r2
  have R3 := Lib.hid r3
  have R4 := Lib.hid r4
  have Hd := Lib.hid hV
  have Hk := Lib.hid hK
  have HB0 := Lib.hid hB
  clear c1 c2 c3 c4 r1 r2 r3 r4 hV hK hB h C n1 n2 hbn hE
  go_enter Try.func4, Try.ntmps4
  go_upto_region 1 with fail
  rw [← hW]
  clear hW
  go_wp2_with fail
  refine (CS.out _).mono ?_; rintro e w1 ⟨rfl, hb1⟩
  have Nd := Lib.hid (Hd.out.up hb1)
  have Nk := Lib.hid (Hk.out.up hb1)
  clear Hd Hk
  have Hd := Nd
  have Hk := Nk
  clear Nd Nk
  have HB1 := Lib.hid (up_trans HB0.out hb1)
  clear hb1 HB0
  obtain ⟨da, db, dc, dd⟩ := Hd.out.cells
  have HB_ := HB1
  clear HB1
  have K20 : Hid (∀ W, Below w1.heap.size w1 W → (W.cell? ⟨w.heap.size, 0, none⟩ = some (.slice A d.n c) ∧ W.cell? ⟨w.heap.size, 1, none⟩ = some (.slice B d.m k) ∧ W.cell? ⟨w.heap.size, 2, none⟩ = some (.int .i64 d.fuse) ∧ W.cell? ⟨w.heap.size, 3, none⟩ = some (.bool d.off))) := Lib.hid (fun W hb => (Hd.out.up hb).cells)
  go_upto_region 2 with fail
  go_region_held3 (fun W => (W.cell? ⟨w.heap.size, 0, none⟩ = some (.slice A d.n c) ∧ W.cell? ⟨w.heap.size, 1, none⟩ = some (.slice B d.m k) ∧ W.cell? ⟨w.heap.size, 2, none⟩ = some (.int .i64 d.fuse) ∧ W.cell? ⟨w.heap.size, 3, none⟩ = some (.bool d.off)))
    (first | exact ⟨da, db, dc, dd⟩ | exact K20.out _ b20.out | exact K20.out _ b21.out | exact K20.out _ b22.out | go_keep)
    (first
      | (go_at_call 19; (with_reducible refine Calls.mono (C1.out _ _ _ _ _ Hd.out.ok.drew) ?_); rintro e w20 ⟨A20, c20, rfl, hk20, hb20⟩; have b20 : Hid (Below w1.heap.size w1 w20) := Lib.hid (below_of_drew hb20); have HK20 := Lib.hid hk20; clear hk20 hb20)
      | (go_at_call 20; (with_reducible refine Calls.mono (R1.out _ _ _ _ _ (Hd.out.ok.up b20.out)) ?_); rintro e w21 ⟨A21, c21, rfl, hk21, hb21⟩; have b21 : Hid (Below w1.heap.size w1 w21) := Lib.hid (up_trans b20.out hb21); have HL21 := Lib.hid (HK20.out.up hb21); have HK21 := Lib.hid hk21; clear hk21 hb21)
      | (go_at_call 18; (with_reducible refine Calls.mono (refKeys_any l l HL.out HL.out HL21.out HK21.out) ?_); rintro e w22 ⟨rfl, hb22⟩; have b22 : Hid (Below w1.heap.size w1 w22) := Lib.hid (up_trans b21.out hb22); clear hb22))
  clear da db dc dd K20 HK20 HL21 HK21 b20 b21
  have M20 := Lib.hid (Hd.out.up b22.out)
  have N20 := Lib.hid (Hk.out.up b22.out)
  have HB20 := Lib.hid (up_trans HB_.out b22.out)
  clear Hd Hk HB_ b22
  have Hd := M20
  have Hk := N20
  have HB_ := HB20
  clear M20 N20 HB20
  obtain ⟨da, db, dc, dd⟩ := Hd.out.cells
  have K30 : Hid (∀ W, Below w22.heap.size w22 W → (W.cell? ⟨w.heap.size, 0, none⟩ = some (.slice A d.n c) ∧ W.cell? ⟨w.heap.size, 1, none⟩ = some (.slice B d.m k) ∧ W.cell? ⟨w.heap.size, 2, none⟩ = some (.int .i64 d.fuse) ∧ W.cell? ⟨w.heap.size, 3, none⟩ = some (.bool d.off))) := Lib.hid (fun W hb => (Hd.out.up hb).cells)
  go_upto_region 3 with fail
  go_region_held3 (fun W => (W.cell? ⟨w.heap.size, 0, none⟩ = some (.slice A d.n c) ∧ W.cell? ⟨w.heap.size, 1, none⟩ = some (.slice B d.m k) ∧ W.cell? ⟨w.heap.size, 2, none⟩ = some (.int .i64 d.fuse) ∧ W.cell? ⟨w.heap.size, 3, none⟩ = some (.bool d.off)))
    (first | exact ⟨da, db, dc, dd⟩ | exact K30.out _ b30.out | exact K30.out _ b31.out | exact K30.out _ b32.out | go_keep)
    (first
      | (go_at_call 22; (with_reducible refine Calls.mono (C2.out _ _ _ _ _ Hd.out.ok.drew) ?_); rintro e w30 ⟨A30, c30, rfl, hk30, hb30⟩; have b30 : Hid (Below w22.heap.size w22 w30) := Lib.hid (below_of_drew hb30); have HK30 := Lib.hid hk30; clear hk30 hb30)
      | (go_at_call 23; (with_reducible refine Calls.mono (R2.out _ _ _ _ _ (Hd.out.ok.up b30.out)) ?_); rintro e w31 ⟨A31, c31, rfl, hk31, hb31⟩; have b31 : Hid (Below w22.heap.size w22 w31) := Lib.hid (up_trans b30.out hb31); have HL31 := Lib.hid (HK30.out.up hb31); have HK31 := Lib.hid hk31; clear hk31 hb31)
      | (go_at_call 21; (with_reducible refine Calls.mono (refInts_any m m HM.out HM.out HL31.out HK31.out) ?_); rintro e w32 ⟨rfl, hb32⟩; have b32 : Hid (Below w22.heap.size w22 w32) := Lib.hid (up_trans b31.out hb32); clear hb32))
  clear da db dc dd K30 HK30 HL31 HK31 b30 b31
  have M30 := Lib.hid (Hd.out.up b32.out)
  have N30 := Lib.hid (Hk.out.up b32.out)
  have HB30 := Lib.hid (up_trans HB_.out b32.out)
  clear Hd Hk HB_ b32
  have Hd := M30
  have Hk := N30
  have HB_ := HB30
  clear M30 N30 HB30
  obtain ⟨da, db, dc, dd⟩ := Hd.out.cells
  obtain ⟨ka, kb⟩ := Hk.out.cells
  go_wp2_with fail
  refine (C3.out _ _ _ _ _ Hd.out.ok).mono ?_; rintro e w40 ⟨rfl, hb40⟩
  have M4 := Lib.hid (Hd.out.up hb40)
  have N4 := Lib.hid (Hk.out.up hb40)
  have HB4 := Lib.hid (up_trans HB_.out hb40)
  clear Hd Hk HB_ hb40 da db dc dd ka kb
  obtain ⟨da, db, dc, dd⟩ := M4.out.cells
  obtain ⟨ka, kb⟩ := N4.out.cells
  go_wp2_with fail
  refine (R3.out _ _ _ _ _ M4.out.ok).mono ?_; rintro e w50 ⟨rfl, hb50⟩
  have Hd := Lib.hid (M4.out.up hb50)
  have HB5 := Lib.hid (up_trans HB4.out hb50)
  clear M4 N4 HB4 hb50 da db dc dd ka kb
  obtain ⟨da, db, dc, dd⟩ := Hd.out.cells
  have K5 : Hid (∀ W, Below w50.heap.size w50 W → (W.cell? ⟨w.heap.size, 0, none⟩ = some (.slice A d.n c) ∧ W.cell? ⟨w.heap.size, 1, none⟩ = some (.slice B d.m k) ∧ W.cell? ⟨w.heap.size, 2, none⟩ = some (.int .i64 d.fuse) ∧ W.cell? ⟨w.heap.size, 3, none⟩ = some (.bool d.off))) := Lib.hid (fun W hb => (Hd.out.up hb).cells)
  go_upto_region 6 with fail
  go_region_held3 (fun W => (W.cell? ⟨w.heap.size, 0, none⟩ = some (.slice A d.n c) ∧ W.cell? ⟨w.heap.size, 1, none⟩ = some (.slice B d.m k) ∧ W.cell? ⟨w.heap.size, 2, none⟩ = some (.int .i64 d.fuse) ∧ W.cell? ⟨w.heap.size, 3, none⟩ = some (.bool d.off)))
    (first | exact ⟨da, db, dc, dd⟩ | exact K5.out _ b60.out | exact K5.out _ b61.out | go_keep)
    (first
      | (go_at_call 26; (with_reducible refine Calls.mono (C4.out _ _ _ _ _ Hd.out.ok.drew) ?_); rintro e w60 ⟨rfl, hb60⟩; have b60 : Hid (Below w50.heap.size w50 w60) := Lib.hid (below_of_drew hb60); clear hb60)
      | (go_at_call 27; (with_reducible refine Calls.mono (R4.out _ _ _ _ _ (Hd.out.ok.up b60.out)) ?_); rintro e w61 ⟨rfl, hb61⟩; have b61 : Hid (Below w50.heap.size w50 w61) := Lib.hid (up_trans b60.out hb61); clear hb61))
  go_wp2
  go_ret
  exact ⟨ret_bool (by first | rfl | simp), up_trans HB5.out b61.out⟩
end
end Go.Proofs.Ytofafmjkjgiccaa.Mat
