/- The law ShelfRecords: walked from what it asks of the program. -/
import Derived.Test.YtofafmjkjgiccaaSheLawE
namespace Go.Proofs.Ytofafmjkjgiccaa.Mat
open Go.RowKit Fld

theorem eqlS (a b : Int) (x : ByteArray) (w : World) : (binOp .eql 23 (.agg #[.int .i64 a, .int .i64 b, .string x]) (.agg #[.int .i64 a, .int .i64 b, .string x])).run Try.prog w = .ok (.bool true) w := by
  have ht : Try.prog.underlying 23 = some (.struct (Try.prog.fieldsOf 23)) := by kernel_rfl
  have hs : Try.prog.stoodInHeld 23 = false := by kernel_rfl
  have u := Try.underlying23
  have u0 := Try.underlying3
  have u1 := Try.underlying9
  rw [run_eql_struct, run_equalIn_agg w 9999 _ _ _ ht hs]
  unfold Program.fieldsOf
  rw [u]
  simp [Op.eqFields, go_sem, u0, u1]
set_option maxRecDepth 100000 in
set_option maxHeartbeats 6400000 in
theorem lawShRecords (C : ShelfOk) (v i : Int) (x : ByteArray) (hx : x.size ≤ 140737488351232) (s : ByteArray) (hs : s.size ≤ 140737488351232) (w : World) :
    Calls Try.prog 3 #[.agg #[.int .i64 v, .int .i64 i, .string x], .string s] w (BoolRet w true) := by
  have c1 := fun W => C.rec_ v i x hx W
  have r1 := fun W => refShRec_any v i x hx W
  have c2 := fun W => C.take s hs W
  have r2 := fun W => refShTake_any s hs W
  have c3 := fun W => C.may v i x hx W
  have r3 := fun W => refMay_any v i x hx W
  have CS := Lib.hid (shelfShown_any C)
  have hE1 : srE v i x = 0 ∨ srE v i x = 1 := by
    cases h : mayB v i x
    · exact .inr (srT_no h).1
    · exact .inl (srT_yes h).1
  have hE2 : shE s = 0 ∨ shE s = 3 := by
    cases h : shB s
    · exact .inr (sh_no h).1
    · exact .inl (sh_yes h).1
  obtain ⟨x0, x1, x2⟩ := (sx_new w v i x).cells
  have hX := sx_new w v i x
  have hB := (Below.refl w.heap.size w).alloc (Nat.le_refl _) (.cells #[.int .i64 v, .int .i64 i, .string x] 23)
  generalize srE v i x = E1 at *
  generalize srT v i x = T1 at *
  generalize shE s = E2 at *
  generalize shV s = sv at *
  generalize shI s = si at *
  generalize shX s = sx at *
  generalize mayB v i x = mb at *
  have g1 := (str_yes (s := T1) rfl).1
  have g2 : (E1 == E1) = true := by simp
  have g3 : IntKind.i64.wrap E1 = E1 := IntWalk.i64_in _ (by omega)
  have g4 : (E2 == E2) = true := by simp
  have g5 : IntKind.i64.wrap E2 = E2 := IntWalk.i64_in _ (by omega)
  have g6 : (mb == mb) = true := by simp
  have hq := fun W => eqlS (sv : Int) (si : Int) sx W
  have C1 := Lib.hid c1
  have R1 := Lib.hid r1
  have C2 := Lib.hid c2
  have R2 := Lib.hid r2
  have C3 := Lib.hid c3
  have R3 := Lib.hid r3
  have Hs := Lib.hid hX
  have HB0 := Lib.hid hB
  clear c1 r1 c2 r2 c3 r3 hX hB hx hs hE1 hE2 C x0 x1 x2
  go_enter Try.func3, Try.ntmps3
  go_upto_region 1 with fail
  generalize w.alloc (.cells #[.int .i64 v, .int .i64 i, .string x] 23) = W at *
  go_wp2_with fail
  refine (CS.out _).mono ?_; rintro e w1 ⟨rfl, hb1⟩
  have Ns := Lib.hid (Hs.out.up hb1)
  clear Hs
  have Hs := Ns
  clear Ns
  have HB1 := Lib.hid (up_trans HB0.out hb1)
  clear hb1 HB0
  obtain ⟨sa, sb, sc⟩ := Hs.out.cells
  go_wp2_with fail
  clear sa sb sc
  refine (C1.out _).mono ?_; rintro e w2 ⟨rfl, hb2⟩
  have Ns := Lib.hid (Hs.out.up hb2)
  clear Hs
  have Hs := Ns
  clear Ns
  have HB2 := Lib.hid (up_trans HB1.out hb2)
  clear hb2 HB1
  obtain ⟨sa, sb, sc⟩ := Hs.out.cells
  go_wp2_with fail
  clear sa sb sc
  refine (R1.out _).mono ?_; rintro e w3 ⟨rfl, hb3⟩
  have Ns := Lib.hid (Hs.out.up hb3)
  clear Hs
  have Hs := Ns
  clear Ns
  have HB3 := Lib.hid (up_trans HB2.out hb3)
  clear hb3 HB2
  go_wp2_with fail
  refine (C2.out _).mono ?_; rintro e w4 ⟨rfl, hb4⟩
  have Ns := Lib.hid ((Hs.out.up hb4).alloc (.cells #[.int .i64 (sv : Int), .int .i64 (si : Int), .string sx] 23))
  clear Hs
  have Hs := Ns
  clear Ns
  have Hy := Lib.hid (sx_new w4 (sv : Int) (si : Int) sx)
  have hbb := up_trans HB3.out hb4
  have HB4 := Lib.hid (hbb.alloc hbb.size (.cells #[.int .i64 (sv : Int), .int .i64 (si : Int), .string sx] 23))
  clear hbb hb4 HB3
  go_upto_region 5 with fail
  generalize w4.alloc (.cells #[.int .i64 (sv : Int), .int .i64 (si : Int), .string sx] 23) = W4 at *
  generalize w4.heap.size = gy at *
  go_wp2_with fail
  refine (R2.out _).mono ?_; rintro e w5 ⟨rfl, hb5⟩
  have Ns := Lib.hid ((Hs.out.up hb5).alloc (.cells #[.int .i64 (sv : Int), .int .i64 (si : Int), .string sx] 23))
  have Ny := Lib.hid ((Hy.out.up hb5).alloc (.cells #[.int .i64 (sv : Int), .int .i64 (si : Int), .string sx] 23))
  clear Hs Hy
  have Hs := Ns
  have Hy := Ny
  clear Ns Ny
  have Hz := Lib.hid (sx_new w5 (sv : Int) (si : Int) sx)
  have hbb := up_trans HB4.out hb5
  have HB5 := Lib.hid (hbb.alloc hbb.size (.cells #[.int .i64 (sv : Int), .int .i64 (si : Int), .string sx] 23))
  clear hbb hb5 HB4
  go_upto_region 6 with fail
  generalize w5.alloc (.cells #[.int .i64 (sv : Int), .int .i64 (si : Int), .string sx] 23) = W5 at *
  generalize w5.heap.size = gz at *
  obtain ⟨sa, sb, sc⟩ := Hs.out.cells
  obtain ⟨ya, yb, yc⟩ := Hy.out.cells
  obtain ⟨za, zb, zc⟩ := Hz.out.cells
  have K : Hid (∀ W, Below W5.heap.size W5 W → (W.cell? ⟨w.heap.size, 0, none⟩ = some (.int .i64 v) ∧ W.cell? ⟨w.heap.size, 1, none⟩ = some (.int .i64 i) ∧ W.cell? ⟨w.heap.size, 2, none⟩ = some (.string x)) ∧ (W.cell? ⟨gy, 0, none⟩ = some (.int .i64 (sv : Nat)) ∧ W.cell? ⟨gy, 1, none⟩ = some (.int .i64 (si : Nat)) ∧ W.cell? ⟨gy, 2, none⟩ = some (.string sx)) ∧ W.cell? ⟨gz, 0, none⟩ = some (.int .i64 (sv : Nat)) ∧ W.cell? ⟨gz, 1, none⟩ = some (.int .i64 (si : Nat)) ∧ W.cell? ⟨gz, 2, none⟩ = some (.string sx)) := Lib.hid (fun W hb => ⟨(Hs.out.up hb).cells, (Hy.out.up hb).cells, (Hz.out.up hb).cells⟩)
  go_region_held3 (fun W => (W.cell? ⟨w.heap.size, 0, none⟩ = some (.int .i64 v) ∧ W.cell? ⟨w.heap.size, 1, none⟩ = some (.int .i64 i) ∧ W.cell? ⟨w.heap.size, 2, none⟩ = some (.string x)) ∧ (W.cell? ⟨gy, 0, none⟩ = some (.int .i64 (sv : Nat)) ∧ W.cell? ⟨gy, 1, none⟩ = some (.int .i64 (si : Nat)) ∧ W.cell? ⟨gy, 2, none⟩ = some (.string sx)) ∧ W.cell? ⟨gz, 0, none⟩ = some (.int .i64 (sv : Nat)) ∧ W.cell? ⟨gz, 1, none⟩ = some (.int .i64 (si : Nat)) ∧ W.cell? ⟨gz, 2, none⟩ = some (.string sx))
    (first | exact ⟨⟨sa, sb, sc⟩, ⟨ya, yb, yc⟩, za, zb, zc⟩ | exact K.out _ b6.out | exact K.out _ b7.out | go_keep)
    (first
      | (go_at_call 16; (with_reducible refine Calls.mono (C3.out _) ?_); rintro e w6 ⟨rfl, hb6⟩; have b6 : Hid (Below W5.heap.size W5 w6) := Lib.hid (below_of_drew hb6); clear hb6)
      | (go_at_call 17; (with_reducible refine Calls.mono (R3.out _) ?_); rintro e w7 ⟨rfl, hb7⟩; have b7 : Hid (Below W5.heap.size W5 w7) := Lib.hid (up_trans b6.out hb7); clear hb7))
  go_wp2
  go_ret
  exact ⟨ret_bool (by first | rfl | simp), up_trans HB5.out b7.out⟩
end Go.Proofs.Ytofafmjkjgiccaa.Mat
