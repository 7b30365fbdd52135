/- The document's Crash; New of both sides: walked. -/
import Derived.Test.YtefppiplkmhdmaaDskK
import Derived.Deep.CutBlock
namespace Go.Proofs.Ytefppiplkmhdmaa.Mat
open Go.RowKit Fld

theorem headS_all {s : ByteArray} {x : Nat} (h : s.size ≤ x) : headS s (x : Int) = s := by
  unfold headS
  rw [show min (x : Int).toNat s.size = s.size by simp; omega]
  simp
theorem headS_some {s : ByteArray} {x : Nat} (h : x ≤ s.size) : headS s (x : Int) = s.extract 0 x := by
  unfold headS
  rw [show min (x : Int).toNat s.size = x by simp; omega]
theorem setS_twice {S : Nat → ByteArray} {i : Int} {t t' : ByteArray} (j : Nat) : setS (setS S i t) i t' j = setS S i t' j := by
  unfold setS
  by_cases e : (j : Int) = i
  · rw [if_pos e, if_pos e]
  · rw [if_neg e, if_neg e, if_neg e]
section
variable {w W W' : World} {d : Dk} {A B : Option Addr} {c k : Nat} {S : Nat → ByteArray}
theorem laid_ret (h : Raw w W d A c B k) {A' : Option Addr} {c' : Nat} (hf : Fit A' d.n c') (hs : Sl W w.heap.size A' d.n S) {f : Int} {o : Bool} (hz : Sz (doneD d S f o)) : Bx (put4 W (w.heap.size + 1) (.slice A' d.n c') (.slice none 0 0) (.int .i64 f) (.bool o)) (w.heap.size + 1) (.slice A' d.n c') (.slice none 0 0) (.int .i64 f) (.bool o) ∧
    DRet w (doneD d S f o) (.returned (.agg #[.slice A' d.n c', .slice none 0 0, .int .i64 f, .bool o])) (put4 W (w.heap.size + 1) (.slice A' d.n c') (.slice none 0 0) (.int .i64 f) (.bool o)) := by
  have hp := D2.putz h (.slice A' d.n c') (.slice none 0 0) (.int .i64 f) (.bool o)
  have hs2 := sl_put4 h.z hs (.slice A' d.n c') (.slice none 0 0) (.int .i64 f) (.bool o)
  exact ⟨hp.z, A', c', none, 0, rfl, ⟨hs2.st, fun hh => absurd hh (Nat.lt_irrefl 0), hf, ⟨Nat.le_refl _, fun _ => rfl⟩, hz⟩, hp.below⟩
set_option maxRecDepth 100000 in
set_option maxHeartbeats 3200000 in
theorem refCrash_any (h : DOk w A c B k d) (keep tear : Int) : Calls Try.prog 21 #[.agg #[.slice A d.n c, .slice B d.m k, .int .i64 d.fuse, .bool d.off], .int .i64 keep, .int .i64 tear] w (DRet w (crashD d keep tear)) := by
  have h0 : Raw w _ d A c B k := D2.start w (.slice A d.n c) (.slice B d.m k) (.int .i64 d.fuse) (.bool d.off) (.slice none 0 0) (.slice none 0 0) (.int .i64 0) (.bool false)
  have HD := Lib.hid h
  have HSZ := Lib.hid h.sz
  have H0 := Lib.hid h0
  have hmm : d.m ≤ 9223372036854775807 := by have := h.sz.bm; omega
  have hn63 : d.n ≤ 9223372036854775807 := by have := h.sz.bn; omega
  clear h h0
  go_enter Try.func21, Try.ntmps21
  go_upto_region 1 with fail
  generalize (w.alloc (.cells #[.slice A d.n c, .slice B d.m k, .int .i64 d.fuse, .bool d.off] 25)).alloc (.cells #[.slice none 0 0, .slice none 0 0, .int .i64 0, .bool false] 25) = wb at *
  obtain ⟨x0, x1, x2, x3⟩ := H0.out.x.cells
  have HDB := Lib.hid (HD.out.up H0.out.below)
  have hle := keepN_le d.m keep
  have HC : Hid (crashD d keep tear = doneD d (crashS d (keepN d.m keep) tear) (-1) false) := Lib.hid rfl
  have HKN : Hid (∀ i : Nat, i ≤ keepN d.m keep → (i < keepN d.m keep ↔ i < d.m ∧ (i : Int) < keep)) := Lib.hid (fun i hi => by unfold keepN at *; omega)
  generalize keepN d.m keep = R at *
  go_upto_block 0 with fail
  go_cut [7] from 10 (fun s wx => s = .int .i64 (R : Nat) ∧ wx = wb)
  case first =>
    go_wp2_with fail
    go_loopg [7] R (fun gh v wr => ∃ i, i ≤ R ∧ gh = R - i ∧ v = .int .i64 (i : Nat) ∧ wr = wb)
    case atStart => exact ⟨0, Nat.zero_le _, rfl, rfl, rfl⟩
    case round =>
      obtain ⟨i, hi, rfl, rfl, rfl⟩ := hrel
      by_cases hiR : i < R
      · obtain ⟨e1, e2⟩ := (HKN.out i hi).1 hiR
        have g1 : (i : Int) < (d.m : Int) := by omega
        have g2 : decide ((i : Int) < keep) = true := decide_eq_true e2
        clear e2
        go_wp2
        go_roundg (R - (i + 1))
        case measure => go_light; omega
        case rel => go_light; exact ⟨i + 1, by omega, rfl, by simp, rfl⟩
      · obtain rfl : i = R := by omega
        by_cases him : i < d.m
        · have g1 : (i : Int) < (d.m : Int) := by omega
          have g2 : decide ((i : Int) < keep) = false := decide_eq_false (fun h => hiR ((HKN.out i hi).2 ⟨him, h⟩))
          clear him
          go_wp2_with fail
          go_meet
          case rel => go_light; exact ⟨rfl, rfl⟩
        · have g1 : ¬ (i : Int) < (d.m : Int) := by omega
          clear him
          go_wp2_with fail
          go_meet
          case rel => go_light; exact ⟨rfl, rfl⟩
  case rest =>
    obtain ⟨rfl, rfl⟩ := hcut
    have HZ := Lib.hid (sz_done HSZ.out (crash_size HSZ.out hle tear) (show (-9223372036854775808 : Int) ≤ -1 by omega) (show (-1 : Int) ≤ 9223372036854775807 by omega) false)
    have HLE := Lib.hid hle
    clear HKN hle
    go_wp2_with fail
    clear x0 x1 x2 x3
    refine (refDone_any HDB.out R HLE.out).mono ?_; rintro e w2 ⟨A2, c2, rfl, hf2, hs2, hb2⟩
    have HF2 := Lib.hid hf2
    have HS2 := Lib.hid (hs2.lower H0.out.below.size)
    have HR2 := Lib.hid (H0.out.up hb2)
    have HD2 := Lib.hid (HDB.out.up hb2)
    clear hf2 hs2 hb2
    obtain ⟨x0, x1, x2, x3⟩ := HR2.out.x.cells
    by_cases ht : R < d.m ∧ 0 ≤ tear
    · obtain ⟨ht1, ht2⟩ := ht
      have HC2 := Lib.hid (crash_yes ⟨ht1, ht2⟩ (d := d))
      have g1 : (R : Int) < (d.m : Int) := by omega
      have g2 : decide (tear ≥ 0) = true := decide_eq_true ht2
      obtain ⟨ad, rfl, _, m0, m1⟩ := HD2.out.pc.at_ ht1
      have HT := Lib.hid (HSZ.out.zt R ht1)
      have HR3 := Lib.hid (D2.alloc HR2.out (.cells #[.int .i64 (d.I R), .string (d.T R)] 55))
      have HS3 := Lib.hid (HS2.out.up ((Below.refl _ _).alloc (Nat.le_refl _) (.cells #[.int .i64 (d.I R), .string (d.T R)] 55)))
      have HW3 := Lib.hid (has_write w2 (d.I R) (d.T R))
      go_upto_region 7 with fail
      generalize w2.alloc (.cells #[.int .i64 (d.I R), .string (d.T R)] 55) = w3 at *
      generalize w2.heap.size = g at *
      have c0 : w3.cell? ⟨g, 0, none⟩ = some (.int .i64 (d.I R)) := HW3.out.cell (by omega)
      have c1 : w3.cell? ⟨g, 1, none⟩ = some (.string (d.T R)) := HW3.out.cell (by omega)
      clear m0 m1 x0 x1 x2 x3 g1 g2
      by_cases hh : 0 ≤ d.I R ∧ d.I R < d.n
      · obtain ⟨j, hj⟩ : ∃ j : Nat, d.I R = j := ⟨(d.I R).toNat, by omega⟩
        have HJ := Lib.hid hj
        rw [hj] at c0
        have hjn : j < d.n := by omega
        have hjz : (j : Int) < (d.n : Int) := by omega
        have g1 : decide ((j : Int) ≥ 0) = true := decide_eq_true (by omega)
        obtain ⟨b, rfl, hb, hH⟩ := HS3.out (by omega)
        have hce := hH.cell hjn
        have hfr := hH.frozen hjn
        have hp := Sl.put (i := j) (t := d.T R) hH
        have hbz : b ≠ w.heap.size + 1 := hH.ne_ HR3.out.z (by decide)
        have hbx : b ≠ w.heap.size := hH.ne_ HR3.out.x (by decide)
        have hbg : b ≠ g := hH.ne_ HW3.out (by decide)
        have HH4 := Lib.hid hp
        have HR4 : Hid (Raw w (w3.setCell ⟨b, j, none⟩ (.string (d.T R))) d A c (some ad) k) := Lib.hid ⟨HR3.out.below.setCell (p := ⟨b, j, none⟩) hb _, HR3.out.x.setOther (a := ⟨b, j, none⟩) (fun e => hbx e.symm) _, HR3.out.z.setOther (a := ⟨b, j, none⟩) (fun e => hbz e.symm) _⟩
        have HW4 := Lib.hid (HW3.out.setOther (a := ⟨b, j, none⟩) (fun e => hbg e.symm) (.string (d.T R)))
        have HBB := Lib.hid hb
        obtain ⟨x, hx⟩ : ∃ x : Nat, tear = x := ⟨tear.toNat, by omega⟩
        subst hx
        clear hh hj hp hH hb hbg ht2
        go_upto_region 9 with fail
        generalize w3.setCell ⟨b, j, none⟩ (.string (d.T R)) = w4 at *
        clear c0 c1 hce hfr
        have c0 : w4.cell? ⟨g, 0, none⟩ = some (.int .i64 (j : Int)) := by have := HW4.out.cell (i := 0) (by omega); rw [this]; show some (Value.int .i64 (d.I R)) = _; rw [HJ.out]
        have c1 : w4.cell? ⟨g, 1, none⟩ = some (.string (d.T R)) := HW4.out.cell (by omega)
        have hce := HH4.out.cell hjn
        have hfr := HH4.out.frozen hjn
        by_cases hx : x < (d.T R).size
        · have g3 : (x : Int) < ((d.T R).size : Int) := by omega
          have hp5 := Sl.put (i := j) (t := (d.T R).extract 0 x) HH4.out
          have HS5 : Hid (Sl (w4.setCell ⟨b, j, none⟩ (.string ((d.T R).extract 0 x))) w.heap.size (some ⟨b, 0, none⟩) d.n (crashS d R (x : Int))) := Lib.hid (by
            rw [HC2.out]
            refine fun _ => ⟨b, rfl, HBB.out, hp5.congr (fun i _ => ?_)⟩
            show Value.string (setS (setS _ (j : Int) _) (j : Int) _ i) = _
            rw [setS_twice, HJ.out, headS_some (by omega)])
          have HR5 : Hid (Raw w (w4.setCell ⟨b, j, none⟩ (.string ((d.T R).extract 0 x))) d A c (some ad) k) := Lib.hid ⟨HR4.out.below.setCell (p := ⟨b, j, none⟩) HBB.out _, HR4.out.x.setOther (a := ⟨b, j, none⟩) (fun e => hbx e.symm) _, HR4.out.z.setOther (a := ⟨b, j, none⟩) (fun e => hbz e.symm) _⟩
          have hxs : (x : Int) ≤ ((d.T R).size : Int) := by omega
          clear hp5 hx
          go_upto_region 10 with fail
          go_cut [] from 61 to 67 (fun wx => Raw w wx d A c (some ad) k ∧ Sl wx w.heap.size (some ⟨b, 0, none⟩) d.n (crashS d R (x : Int)))
          case first =>
            go_region
            all_goals
              go_wp2_with fail
              go_meet
              case rel => go_light; exact ⟨HR5.out.drew, fun hn => (HS5.out hn)⟩
          case rest =>
            have HR6 := Lib.hid hcut.1
            have HS6 := Lib.hid hcut.2
            clear hcut c0 c1 hce hfr
            obtain ⟨z0, z1, z2, z3⟩ := HR6.out.z.cells
            obtain ⟨u0, u1, u2, u3⟩ := HR6.out.z.free
            have HL := Lib.hid (laid_ret HR6.out HF2.out HS6.out HZ.out)
            go_wp2
            refine bodyPost_ret (results_disk rfl _ _ (w.heap.size + 1) rfl HL.out.1) rfl (by rw [HC.out]; exact HL.out.2)
        · have g3 : ¬ (x : Int) < ((d.T R).size : Int) := by omega
          have HS5 : Hid (Sl w4 w.heap.size (some ⟨b, 0, none⟩) d.n (crashS d R (x : Int))) := Lib.hid (by
            rw [HC2.out]
            refine fun _ => ⟨b, rfl, HBB.out, HH4.out.congr (fun i _ => ?_)⟩
            rw [HJ.out, headS_all (by omega)])
          clear hx
          obtain ⟨z0, z1, z2, z3⟩ := HR4.out.z.cells
          obtain ⟨u0, u1, u2, u3⟩ := HR4.out.z.free
          have HL := Lib.hid (laid_ret HR4.out HF2.out HS5.out HZ.out)
          go_wp2
          refine bodyPost_ret (results_disk rfl _ _ (w.heap.size + 1) rfl HL.out.1) rfl (by rw [HC.out]; exact HL.out.2)
      · have HS5 : Hid (Sl w3 w.heap.size A2 d.n (crashS d R tear)) := Lib.hid (by
          rw [HC2.out]
          exact HS3.out.congr (fun j hj => (setS_ne (fun e => hh ⟨by omega, by omega⟩)).symm))
        by_cases h0 : 0 ≤ d.I R
        · have g1 : decide (d.I R ≥ 0) = true := decide_eq_true h0
          have g2 : decide (d.I R < (d.n : Int)) = false := decide_eq_false (fun h => hh ⟨h0, h⟩)
          clear hh h0
          obtain ⟨z0, z1, z2, z3⟩ := HR3.out.z.cells
          obtain ⟨u0, u1, u2, u3⟩ := HR3.out.z.free
          have HL := Lib.hid (laid_ret HR3.out HF2.out HS5.out HZ.out)
          go_wp2
          refine bodyPost_ret (results_disk rfl _ _ (w.heap.size + 1) rfl HL.out.1) rfl (by rw [HC.out]; exact HL.out.2)
        · have g1 : decide (d.I R ≥ 0) = false := decide_eq_false h0
          clear hh h0
          obtain ⟨z0, z1, z2, z3⟩ := HR3.out.z.cells
          obtain ⟨u0, u1, u2, u3⟩ := HR3.out.z.free
          have HL := Lib.hid (laid_ret HR3.out HF2.out HS5.out HZ.out)
          go_wp2
          refine bodyPost_ret (results_disk rfl _ _ (w.heap.size + 1) rfl HL.out.1) rfl (by rw [HC.out]; exact HL.out.2)
    · have HS5 : Hid (Sl w2 w.heap.size A2 d.n (crashS d R tear)) := Lib.hid (by rw [crash_no ht]; exact HS2.out)
      by_cases g : R < d.m
      · have g1 : (R : Int) < (d.m : Int) := by omega
        have g2 : decide (tear ≥ 0) = false := decide_eq_false (fun h => ht ⟨g, h⟩)
        clear ht
        obtain ⟨z0, z1, z2, z3⟩ := HR2.out.z.cells
        obtain ⟨u0, u1, u2, u3⟩ := HR2.out.z.free
        have HL := Lib.hid (laid_ret HR2.out HF2.out HS5.out HZ.out)
        go_wp2
        refine bodyPost_ret (results_disk rfl _ _ (w.heap.size + 1) rfl HL.out.1) rfl (by rw [HC.out]; exact HL.out.2)
      · have g1 : ¬ (R : Int) < (d.m : Int) := by omega
        clear ht
        obtain ⟨z0, z1, z2, z3⟩ := HR2.out.z.cells
        obtain ⟨u0, u1, u2, u3⟩ := HR2.out.z.free
        have HL := Lib.hid (laid_ret HR2.out HF2.out HS5.out HZ.out)
        go_wp2
        refine bodyPost_ret (results_disk rfl _ _ (w.heap.size + 1) rfl HL.out.1) rfl (by rw [HC.out]; exact HL.out.2)
end
end Go.Proofs.Ytefppiplkmhdmaa.Mat
