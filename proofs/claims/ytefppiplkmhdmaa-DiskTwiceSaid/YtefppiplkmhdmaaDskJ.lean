/- The document's Flush and Arm, and what they call: walked. -/
import Derived.Test.YtefppiplkmhdmaaDskI
namespace Go.Proofs.Ytefppiplkmhdmaa.Mat
open Go.RowKit Fld

/-- a call answers slots of its own -/
def SlotsRet (w : World) (n : Nat) (S : Nat → ByteArray) (e : Ending) (w' : World) : Prop :=
  ∃ A c, e = .returned (.slice A n c) ∧ Fit A n c ∧ Sl w' w.heap.size A n S ∧ Below w.heap.size w w'
def Copied (w : World) (n : Nat) (S : Nat → ByteArray) (p q r s : Value) (v : Value) (wx : World) : Prop :=
  ∃ A c, v = .slice A n c ∧ Fit A n c ∧ Sl wx w.heap.size A n S ∧ Below w.heap.size w wx ∧ Bx wx w.heap.size p q r s
section
variable {w W W' : World} {d : Dk} {A B : Option Addr} {c k : Nat} {S : Nat → ByteArray}
theorem doS_in {r : Nat} {j : Nat} (h : d.I r = (j : Int)) : doS d.I d.T S (r + 1) = setS (doS d.I d.T S r) (j : Int) (d.T r) := by
  show setS _ (d.I r) _ = _
  rw [h]
set_option maxRecDepth 100000 in
set_option maxHeartbeats 3200000 in
theorem refDone_any (h : DOk w A c B k d) (N : Nat) (hN : N ≤ d.m) : Calls Try.prog 30 #[.agg #[.slice A d.n c, .slice B d.m k, .int .i64 d.fuse, .bool d.off], .int .i64 (N : Int)] w (SlotsRet w d.n (doS d.I d.T d.S N)) := by
  obtain ⟨i0, hi0, hz0, hz1, hz2⟩ := info_parts infoStr
  have hx := bx_new w (.slice A d.n c) (.slice B d.m k) (.int .i64 d.fuse) (.bool d.off)
  have hb := (Below.refl w.heap.size w).alloc (Nat.le_refl _) (.cells #[.slice A d.n c, .slice B d.m k, .int .i64 d.fuse, .bool d.off] 25)
  have HD := Lib.hid h
  have HSZ := Lib.hid h.sz
  have HB := Lib.hid hb
  have HX := Lib.hid hx
  have hmm : d.m ≤ 9223372036854775807 := by have := h.sz.bm; omega
  have HMM := Lib.hid hmm
  clear h hx hb hmm
  go_enter Try.func30, Try.ntmps30
  go_upto_region 1 with fail
  generalize w.alloc (.cells #[.slice A d.n c, .slice B d.m k, .int .i64 d.fuse, .bool d.off] 25) = wb at *
  go_cut [5] from 8 to 11 (fun s wx => Copied w d.n d.S (.slice A d.n c) (.slice B d.m k) (.int .i64 d.fuse) (.bool d.off) s wx)
  case first =>
    have HL : Hid ((wb.alloc (.cells #[] 9)).ownsRow w.heap.size 9 1 (.slice (some ⟨wb.heap.size, 0, none⟩) 0 0) 0 []) := Lib.hid (lit_own wb w.heap.size HB.out.size 9 1)
    have x0 : (wb.alloc (.cells #[] 9)).cell? ⟨w.heap.size, 0, none⟩ = some (.slice A d.n c) := (HX.out.alloc _).c0
    have HBA : Hid (Below w.heap.size w (wb.alloc (.cells #[] 9))) := Lib.hid (HB.out.alloc HB.out.size _)
    cases A with
    | none =>
      have e1 := HD.out.fa.2 rfl
      have e0 : d.n = 0 := by have := HD.out.fa.1; omega
      have HCP : Hid (Copied w d.n d.S (.slice none d.n c) (.slice B d.m k) (.int .i64 d.fuse) (.bool d.off) (.slice (some ⟨wb.heap.size, 0, none⟩) 0 0) (wb.alloc (.cells #[] 9))) := Lib.hid ⟨some ⟨wb.heap.size, 0, none⟩, 0, by rw [e0], ⟨by omega, fun h => by cases h⟩, fun hn => absurd hn (by omega), HBA.out, HX.out.alloc _⟩
      rw [e0, e1] at x0
      clear e0 e1
      go_wp2_with (at_builtin; refine wpList_append_own_none rfl (.tmp 8) (.tmp 10) 22 rfl w.heap.size 9 i0 1 Try.underlying22 hi0 _ _ _ rfl HL.out rfl ?_)
      go_meet
      case rel => go_light; exact HCP.out
    | some ad =>
      have HS := Lib.hid (HD.out.st.below HBA.out HBA.out.size)
      go_wp2_with (at_builtin; refine wpList_append_own _ rfl (.tmp 8) (.tmp 10) 22 rfl w.heap.size 9 i0 (.string ByteArray.empty) 1 16 Try.underlying22 hi0 hz0 hz1 hz2 rfl (by decide) _ _ _ rfl HL.out ad d.n c (strs d.S d.n) rfl (by rw [strs_len]; omega) HS.out.news (strs_one _ _) (by have := HSZ.out.bn; unfold maxLen; omega) (by have := HSZ.out.bn; omega) (by rw [size_alloc]; have := HB.out.size; omega) ?_)
      intro v' w' hown hgrow _
      obtain ⟨A', c', rfl, hf⟩ := own_form hown
      have hbo : (Value.slice (some ⟨wb.heap.size, 0, none⟩) 0 0).ownBlock = some wb.heap.size := rfl
      rw [hbo] at hgrow
      have hlx := HX.out.lt_
      have HCP : Hid (Copied w d.n d.S (.slice (some ad) d.n c) (.slice B d.m k) (.int .i64 d.fuse) (.bool d.off) (.slice A' d.n c') w') := Lib.hid ⟨A', c', rfl, hf, own_sl hown, HBA.out.grown hgrow HBA.out.size (fun g hg => by injection hg with hg; have := HB.out.size; omega), (HX.out.alloc _).grown hgrow (fun e => by injection e with e; omega)⟩
      clear hown hgrow hf hbo hlx
      go_wp2_with fail
      go_meet
      case rel => go_light; exact HCP.out
  case rest =>
    obtain ⟨A1, c1, rfl, hf1, hs1, hb1, hx1⟩ := hcut
    have HF1 := Lib.hid hf1
    have HS1 := Lib.hid hs1
    have HB1 := Lib.hid hb1
    have HX1 := Lib.hid hx1
    have HNN := Lib.hid hN
    clear hf1 hs1 hb1 hx1 HB HX hN
    have hn63 : d.n ≤ 9223372036854775807 := by have := HSZ.out.bn; omega
    have hN63 : N ≤ 9223372036854775807 := by have := HMM.out; have := HNN.out; omega
    go_wp2
    go_loopg [6] N (fun gh v wr => ∃ r, r ≤ N ∧ gh = N - r ∧ v = .int .i64 (r : Nat) ∧ Sl wr w.heap.size A1 d.n (doS d.I d.T d.S r) ∧ Below w.heap.size w wr ∧ Bx wr w.heap.size (.slice A d.n c) (.slice B d.m k) (.int .i64 d.fuse) (.bool d.off))
    case atStart => exact ⟨0, Nat.zero_le _, rfl, rfl, HS1.out, HB1.out, HX1.out⟩
    case round =>
      obtain ⟨r, hr, rfl, rfl, hS, hB, hX⟩ := hrel
      by_cases hrn : r < N
      · have hrz : (r : Int) < (N : Int) := by omega
        have hrm : r < d.m := by have := HNN.out; omega
        have hrmz : (r : Int) < (d.m : Int) := by omega
        obtain ⟨ad, rfl, _, k0, k1⟩ := (HD.out.pc.below hB hB.size).at_ hrm
        obtain ⟨x0, x1, x2, x3⟩ := hX.cells
        have HB2 := Lib.hid (hB.alloc hB.size (.cells #[.int .i64 (d.I r), .string (d.T r)] 55))
        have HX2 := Lib.hid (hX.alloc (.cells #[.int .i64 (d.I r), .string (d.T r)] 55))
        have HS2 := Lib.hid (hS.up ((Below.refl _ _).alloc (Nat.le_refl _) (.cells #[.int .i64 (d.I r), .string (d.T r)] 55)))
        have HW2 := Lib.hid (has_write wr (d.I r) (d.T r))
        clear hS hB hX
        go_upto_region 6 with fail
        generalize wr.alloc (.cells #[.int .i64 (d.I r), .string (d.T r)] 55) = w2 at *
        generalize wr.heap.size = g at *
        have c0 : w2.cell? ⟨g, 0, none⟩ = some (.int .i64 (d.I r)) := HW2.out.cell (by omega)
        have c1 : w2.cell? ⟨g, 1, none⟩ = some (.string (d.T r)) := HW2.out.cell (by omega)
        clear k0 k1 x0 x1 x2 x3
        by_cases hh : 0 ≤ d.I r ∧ d.I r < d.n
        · obtain ⟨j, hj⟩ : ∃ j : Nat, d.I r = j := ⟨(d.I r).toNat, by omega⟩
          have HE := Lib.hid (doS_in hj (S := d.S))
          rw [hj] at c0
          have hjn : j < d.n := by omega
          have hjz : (j : Int) < (d.n : Int) := by omega
          have g1 : decide ((j : Int) ≥ 0) = true := decide_eq_true (by omega)
          obtain ⟨b, rfl, hb, hH⟩ := HS2.out (by omega)
          have hce := hH.cell hjn
          have hfr := hH.frozen hjn
          have hp := Sl.put (i := j) (t := d.T r) hH
          have HP : Hid (Sl (w2.setCell ⟨b, j, none⟩ (.string (d.T r))) w.heap.size (some ⟨b, 0, none⟩) d.n (doS d.I d.T d.S (r + 1))) := Lib.hid (fun _ => ⟨b, rfl, hb, by rw [HE.out]; exact hp⟩)
          have HB3 := Lib.hid (HB2.out.setCell (p := ⟨b, j, none⟩) hb (.string (d.T r)))
          have HX3 := Lib.hid (HX2.out.setOther (a := ⟨b, j, none⟩) (fun e => hH.ne_ HX2.out (by decide) e.symm) (.string (d.T r)))
          clear hh hj hp hH hb
          go_wp2
          go_roundg (N - (r + 1))
          case measure => go_light; omega
          case rel => go_light; exact ⟨r + 1, by omega, rfl, by simp, HP.out, HB3.out, HX3.out⟩
        · have HS3 : Hid (Sl w2 w.heap.size A1 d.n (doS d.I d.T d.S (r + 1))) := Lib.hid (HS2.out.congr (fun j hj => (setS_ne (fun e => hh ⟨by omega, by omega⟩)).symm))
          by_cases h0 : 0 ≤ d.I r
          · have g1 : decide (d.I r ≥ 0) = true := decide_eq_true h0
            have g2 : decide (d.I r < (d.n : Int)) = false := decide_eq_false (fun h => hh ⟨h0, h⟩)
            clear hh h0
            go_wp2
            go_roundg (N - (r + 1))
            case measure => go_light; omega
            case rel => go_light; exact ⟨r + 1, by omega, rfl, by simp, HS3.out, HB2.out, HX2.out⟩
          · have g1 : decide (d.I r ≥ 0) = false := decide_eq_false h0
            clear hh h0
            go_wp2
            go_roundg (N - (r + 1))
            case measure => go_light; omega
            case rel => go_light; exact ⟨r + 1, by omega, rfl, by simp, HS3.out, HB2.out, HX2.out⟩
      · have hrz : ¬ (r : Int) < (N : Int) := by omega
        obtain rfl : r = N := by omega
        have HS := Lib.hid hS
        have HB := Lib.hid hB
        clear hS hB hX
        go_wp2
        go_ret
        exact ⟨_, _, rfl, HF1.out, HS.out, HB.out⟩
end
end Go.Proofs.Ytefppiplkmhdmaa.Mat
