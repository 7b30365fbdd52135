/- XDskH XDskI XDskJ XDskK XDskL, as far as this dump goes. -/
import Derived.Test.YtofafmjkjgiccaaCelDsc
import Derived.Deep.CutBlock
/- Flush and Arm: walked. -/
namespace Go.Proofs.Ytofafmjkjgiccaa.Mat
open Go.RowKit Fld

/-- a box with a disk whose slots are the call's own, and the result's box -/
structure Done (w W : World) (d : Dk) (A : Option Addr) (c : Nat) (B : Option Addr) (k : Nat) : Prop where
  fa : Fit A d.n c
  fr : Raw w W d A c B k
  sl : Sl W w.heap.size A d.n d.S
theorem sl_put4 {w : World} {base n b : Nat} {A : Option Addr} {S : Nat → ByteArray} {p q r s : Value} (hx : Bx w b p q r s) (h : Sl w base A n S) (p' q' r' s' : Value) : Sl (put4 w b p' q' r' s') base A n S := fun hn => by
  obtain ⟨g, e, hb, hh⟩ := h hn
  have hne : g ≠ b := hh.ne_ hx (by decide)
  exact ⟨g, e, hb, (((hh.setOther (a := ⟨b, 0, none⟩) hne _).setOther (a := ⟨b, 1, none⟩) hne _).setOther (a := ⟨b, 2, none⟩) hne _).setOther (a := ⟨b, 3, none⟩) hne _⟩
theorem sl_set {w : World} {base n b : Nat} {A : Option Addr} {S : Nat → ByteArray} {p q r s : Value} (hx : Bx w b p q r s) (h : Sl w base A n S) (o : Nat) (v : Value) : Sl (w.setCell ⟨b, o, none⟩ v) base A n S := fun hn => by
  obtain ⟨g, e, hb, hh⟩ := h hn
  exact ⟨g, e, hb, hh.setOther (a := ⟨b, o, none⟩) (hh.ne_ hx (by decide)) _⟩
/-- all is done, and none waits -/
theorem sz_done {d : Dk} (h : Sz d) {S : Nat → ByteArray} (hs : ∀ i, i < d.n → (S i).size ≤ 140737488351232) {f : Int} (f0 : -9223372036854775808 ≤ f) (f1 : f ≤ 9223372036854775807) (o : Bool) : Sz (doneD d S f o) :=
  ⟨h.bn, by show 0 * 24 ≤ _; omega, hs, fun i hi => absurd hi (Nat.not_lt_zero i), f0, f1⟩
theorem setS_size {S : Nat → ByteArray} {i : Int} {t : ByteArray} {n : Nat} (h : ∀ i, i < n → (S i).size ≤ 140737488351232) (ht : t.size ≤ 140737488351232) : ∀ j, j < n → (setS S i t j).size ≤ 140737488351232 := fun j hj => by
  unfold setS
  by_cases e : (j : Int) = i
  · rw [if_pos e]; exact ht
  · rw [if_neg e]; exact h j hj
theorem doS_size {I : Nat → Int} {T S : Nat → ByteArray} {n m : Nat} (h : ∀ i, i < n → (S i).size ≤ 140737488351232) (ht : ∀ i, i < m → (T i).size ≤ 140737488351232) : ∀ r, r ≤ m → ∀ j, j < n → (doS I T S r j).size ≤ 140737488351232
  | 0, _, j, hj => h j hj
  | r + 1, hr, j, hj => setS_size (doS_size h ht r (by omega)) (ht r (by omega)) j hj
section
variable {w W W' : World} {d : Dk} {A B : Option Addr} {c k : Nat} {S : Nat → ByteArray}
theorem Done.fin (h : Done w W (doneD d S d.fuse d.off) A c none 0) (hz : Sz (doneD d S d.fuse d.off)) (f : Int) (o : Bool) (hf : Sz (doneD d S f o)) :
    Bx (put4 W (w.heap.size + 1) (.slice A d.n c) (.slice none 0 0) (.int .i64 f) (.bool o)) (w.heap.size + 1) (.slice A d.n c) (.slice none 0 0) (.int .i64 f) (.bool o) ∧
    DOk (put4 W (w.heap.size + 1) (.slice A d.n c) (.slice none 0 0) (.int .i64 f) (.bool o)) A c none 0 (doneD d S f o) ∧ Below w.heap.size w (put4 W (w.heap.size + 1) (.slice A d.n c) (.slice none 0 0) (.int .i64 f) (.bool o)) := by
  have _ := hz
  have hp := D2.putz h.fr (.slice A d.n c) (.slice none 0 0) (.int .i64 f) (.bool o)
  have hs := sl_put4 h.fr.z h.sl (.slice A d.n c) (.slice none 0 0) (.int .i64 f) (.bool o)
  exact ⟨hp.z, ⟨hs.st, fun hh => absurd hh (Nat.lt_irrefl 0), h.fa, ⟨Nat.le_refl _, fun _ => rfl⟩, hf⟩, hp.below⟩
/-- what waits, whatever is written into the slots -/
theorem own_stays {base : Nat} {n m : Nat} {I : Nat → Int} {T : Nat → ByteArray} (ho : W.ownsRow base 102 2 (.slice B m k) m (pcs I T m)) (hs : Sl W base A n S) : ∀ W', W.grownBy W' (blk A n) → Pc W' W'.heap.size B m I T := fun W' hg => by
  refine own_pc (ho.kept hg ?_)
  cases hv : (Value.slice B m k).ownBlock with
  | none => exact .inl rfl
  | some g =>
    obtain ⟨c', fz, hh⟩ := own_kind ho g hv
    obtain ⟨lo, hi⟩ := fz
    have hx : Has W g 102 0 (fun _ => undef) := ⟨c', lo, hi, hh, .inr (Nat.zero_le _), fun i hi => absurd hi (Nat.not_lt_zero i)⟩
    exact .inr (hs.blk_ne hx (by decide))
/-- behind the writes -/
theorem Own.wrote (h : Own w W d A c B k) {S' : Nat → ByteArray} (hs : Sl W' w.heap.size A d.n S') (hg : W.grownBy W' (blk A d.n)) : Raw w W' d A c B k ∧ Sl W' w.heap.size A d.n S' ∧ Pc W' W'.heap.size B d.m d.I d.T :=
  have h1 := own_sl h.s
  ⟨h.fr.grown hg (fun g hg => (h1.blk g hg).1) (fun e => h1.blk_ne h.fr.x (by decide) e.symm) (fun e => h1.blk_ne h.fr.z (by decide) e.symm), hs, own_stays h.t h1 W' hg⟩
theorem flush_on (h : d.off = false) : flushD d = doneD d (doS d.I d.T d.S d.m) d.fuse false ∧ flushE d = 0 := by unfold flushD flushE; rw [h]; exact ⟨rfl, rfl⟩
theorem flush_off (h : d.off = true) : flushD d = d ∧ flushE d = 6 := by unfold flushD flushE; rw [if_pos h, if_pos h]; exact ⟨rfl, rfl⟩


theorem arm_eq (f : Int) : armD d f = { d with fuse := if f < 0 then -1 else f } := rfl
end
end Go.Proofs.Ytofafmjkjgiccaa.Mat


/- Crash: walked. -/
namespace Go.Proofs.Ytofafmjkjgiccaa.Mat
open Go.RowKit Fld

section
variable {w W W' : World} {d : Dk} {A B : Option Addr} {c k : Nat} {S : Nat → ByteArray}
theorem headS_size {s : ByteArray} {t : Int} {z : Nat} (h : s.size ≤ z) : (headS s t).size ≤ z := by
  unfold headS
  rw [ByteArray.size_extract]
  omega
theorem crash_size (h : Sz d) {r : Nat} (hr : r ≤ d.m) (tear : Int) : ∀ i, i < d.n → (crashS d r tear i).size ≤ 140737488351232 := fun i hi => by
  have h1 := doS_size (I := d.I) h.zs h.zt r hr
  unfold crashS
  by_cases e : r < d.m ∧ 0 ≤ tear
  · rw [if_pos e]; exact setS_size h1 (headS_size (h.zt r e.1)) i hi
  · rw [if_neg e]; exact h1 i hi
/-- behind what a crash has kept -/
structure Kept (w W : World) (d : Dk) (S : Nat → ByteArray) (A : Option Addr) (c : Nat) (B : Option Addr) (k : Nat) : Prop where
  fa : Fit A d.n c
  fr : Raw w W d A c B k
  sl : Sl W w.heap.size A d.n S
  pc : ∀ W', W.grownBy W' (blk A d.n) → Pc W' W'.heap.size B d.m d.I d.T
theorem Kept.more (h : Kept w W d S A c B k) {S' : Nat → ByteArray} (hs : Sl W' w.heap.size A d.n S') (hg : W.grownBy W' (blk A d.n)) : Kept w W' d S' A c B k :=
  ⟨h.fa, h.fr.grown hg (fun g hg => (h.sl.blk g hg).1) (fun e => h.sl.blk_ne h.fr.x (by decide) e.symm) (fun e => h.sl.blk_ne h.fr.z (by decide) e.symm), hs, fun W2 hg2 => h.pc W2 (hg.trans hg2)⟩
theorem Kept.fin (h : Kept w W d S A c B k) (hz : Sz (doneD d S (-1) false)) :
    Bx (put4 W (w.heap.size + 1) (.slice A d.n c) (.slice none 0 0) (.int .i64 (-1)) (.bool false)) (w.heap.size + 1) (.slice A d.n c) (.slice none 0 0) (.int .i64 (-1)) (.bool false) ∧
    DRet w (doneD d S (-1) false) (.returned (.agg #[.slice A d.n c, .slice none 0 0, .int .i64 (-1), .bool false])) (put4 W (w.heap.size + 1) (.slice A d.n c) (.slice none 0 0) (.int .i64 (-1)) (.bool false)) := by
  have hp := D2.putz h.fr (.slice A d.n c) (.slice none 0 0) (.int .i64 (-1)) (.bool false)
  have hs := sl_put4 h.fr.z h.sl (.slice A d.n c) (.slice none 0 0) (.int .i64 (-1)) (.bool false)
  exact ⟨hp.z, A, c, none, 0, rfl, ⟨hs.st, fun hh => absurd hh (Nat.lt_irrefl 0), h.fa, ⟨Nat.le_refl _, fun _ => rfl⟩, hz⟩, hp.below⟩
theorem crash_yes {r : Nat} {tear : Int} (h : r < d.m ∧ 0 ≤ tear) : crashS d r tear = setS (doS d.I d.T d.S r) (d.I r) (headS (d.T r) tear) := if_pos h
theorem crash_no {r : Nat} {tear : Int} (h : ¬ (r < d.m ∧ 0 ≤ tear)) : crashS d r tear = doS d.I d.T d.S r := if_neg h

end
end Go.Proofs.Ytofafmjkjgiccaa.Mat


/- The document's Flush and Arm, and what they call: walked. -/
namespace Go.Proofs.Ytofafmjkjgiccaa.Mat
open Go.RowKit Fld

/-- a call answers slots of its own -/
def SlotsRet (w : World) (n : Nat) (S : Nat → ByteArray) (e : Ending) (w' : World) : Prop :=
  ∃ A c, e = .returned (.slice A n c) ∧ Fit A n c ∧ Sl w' w.heap.size A n S ∧ Below w.heap.size w w'
def Copied (w : World) (n : Nat) (S : Nat → ByteArray) (p q r s : Value) (v : Value) (wx : World) : Prop :=
  ∃ A c, v = .slice A n c ∧ Fit A n c ∧ Sl wx w.heap.size A n S ∧ Below w.heap.size w wx ∧ Bx wx w.heap.size p q r s
section
variable {w W W' : World} {d : Dk} {A B : Option Addr} {c k : Nat} {S : Nat → ByteArray}
theorem doS_in {r : Nat} {j : Nat} (h : d.I r = (j : Int)) : doS d.I d.T S (r + 1) = setS (doS d.I d.T S r) (j : Int) (d.T r) := by
  show setS _ (d.I r) _ = _
  rw [h]
set_option maxRecDepth 100000 in
set_option maxHeartbeats 3200000 in
theorem refDone_any (h : DOk w A c B k d) (N : Nat) (hN : N ≤ d.m) : Calls Try.prog 58 #[.agg #[.slice A d.n c, .slice B d.m k, .int .i64 d.fuse, .bool d.off], .int .i64 (N : Int)] w (SlotsRet w d.n (doS d.I d.T d.S N)) := by
  obtain ⟨i0, hi0, hz0, hz1, hz2⟩ := info_parts infoStr
  have hx := bx_new w (.slice A d.n c) (.slice B d.m k) (.int .i64 d.fuse) (.bool d.off)
  have hb := (Below.refl w.heap.size w).alloc (Nat.le_refl _) (.cells #[.slice A d.n c, .slice B d.m k, .int .i64 d.fuse, .bool d.off] 39)
  have HD := Lib.hid h
  have HSZ := Lib.hid h.sz
  have HB := Lib.hid hb
  have HX := Lib.hid hx
  have hmm : d.m ≤ 9223372036854775807 := by have := h.sz.bm; omega
  have HMM := Lib.hid hmm
  clear h hx hb hmm
  go_enter Try.func58, Try.ntmps58
  go_upto_region 1 with fail
  generalize w.alloc (.cells #[.slice A d.n c, .slice B d.m k, .int .i64 d.fuse, .bool d.off] 39) = wb at *
  go_cut [5] from 8 to 11 (fun s wx => Copied w d.n d.S (.slice A d.n c) (.slice B d.m k) (.int .i64 d.fuse) (.bool d.off) s wx)
  case first =>
    have HL : Hid ((wb.alloc (.cells #[] 9)).ownsRow w.heap.size 9 1 (.slice (some ⟨wb.heap.size, 0, none⟩) 0 0) 0 []) := Lib.hid (lit_own wb w.heap.size HB.out.size 9 1)
    have x0 : (wb.alloc (.cells #[] 9)).cell? ⟨w.heap.size, 0, none⟩ = some (.slice A d.n c) := (HX.out.alloc _).c0
    have HBA : Hid (Below w.heap.size w (wb.alloc (.cells #[] 9))) := Lib.hid (HB.out.alloc HB.out.size _)
    cases A with
    | none =>
      have e1 := HD.out.fa.2 rfl
      have e0 : d.n = 0 := by have := HD.out.fa.1; omega
      have HCP : Hid (Copied w d.n d.S (.slice none d.n c) (.slice B d.m k) (.int .i64 d.fuse) (.bool d.off) (.slice (some ⟨wb.heap.size, 0, none⟩) 0 0) (wb.alloc (.cells #[] 9))) := Lib.hid ⟨some ⟨wb.heap.size, 0, none⟩, 0, by rw [e0], ⟨by omega, fun h => by cases h⟩, fun hn => absurd hn (by omega), HBA.out, HX.out.alloc _⟩
      rw [e0, e1] at x0
      clear e0 e1
      go_wp2_with (at_builtin; refine wpList_append_own_none rfl (.tmp 8) (.tmp 10) 36 rfl w.heap.size 9 i0 1 Try.underlying36 hi0 _ _ _ rfl HL.out rfl ?_)
      go_meet
      case rel => go_light; exact HCP.out
    | some ad =>
      have HS := Lib.hid (HD.out.st.below HBA.out HBA.out.size)
      go_wp2_with (at_builtin; refine wpList_append_own _ rfl (.tmp 8) (.tmp 10) 36 rfl w.heap.size 9 i0 (.string ByteArray.empty) 1 16 Try.underlying36 hi0 hz0 hz1 hz2 rfl (by decide) _ _ _ rfl HL.out ad d.n c (strs d.S d.n) rfl (by rw [strs_len]; omega) HS.out.news (strs_one _ _) (by have := HSZ.out.bn; unfold maxLen; omega) (by have := HSZ.out.bn; omega) (by rw [size_alloc]; have := HB.out.size; omega) ?_)
      intro v' w' hown hgrow _
      obtain ⟨A', c', rfl, hf⟩ := own_form hown
      have hbo : (Value.slice (some ⟨wb.heap.size, 0, none⟩) 0 0).ownBlock = some wb.heap.size := rfl
      rw [hbo] at hgrow
      have hlx := HX.out.lt_
      have HCP : Hid (Copied w d.n d.S (.slice (some ad) d.n c) (.slice B d.m k) (.int .i64 d.fuse) (.bool d.off) (.slice A' d.n c') w') := Lib.hid ⟨A', c', rfl, hf, own_sl hown, HBA.out.grown hgrow HBA.out.size (fun g hg => by injection hg with hg; have := HB.out.size; omega), (HX.out.alloc _).grown hgrow (fun e => by injection e with e; omega)⟩
      clear hown hgrow hf hbo hlx
      go_wp2_with fail
      go_meet
      case rel => go_light; exact HCP.out
  case rest =>
    obtain ⟨A1, c1, rfl, hf1, hs1, hb1, hx1⟩ := hcut
    have HF1 := Lib.hid hf1
    have HS1 := Lib.hid hs1
    have HB1 := Lib.hid hb1
    have HX1 := Lib.hid hx1
    have HNN := Lib.hid hN
    clear hf1 hs1 hb1 hx1 HB HX hN
    have hn63 : d.n ≤ 9223372036854775807 := by have := HSZ.out.bn; omega
    have hN63 : N ≤ 9223372036854775807 := by have := HMM.out; have := HNN.out; omega
    go_wp2
    go_loopg [6] N (fun gh v wr => ∃ r, r ≤ N ∧ gh = N - r ∧ v = .int .i64 (r : Nat) ∧ Sl wr w.heap.size A1 d.n (doS d.I d.T d.S r) ∧ Below w.heap.size w wr ∧ Bx wr w.heap.size (.slice A d.n c) (.slice B d.m k) (.int .i64 d.fuse) (.bool d.off))
    case atStart => exact ⟨0, Nat.zero_le _, rfl, rfl, HS1.out, HB1.out, HX1.out⟩
    case round =>
      obtain ⟨r, hr, rfl, rfl, hS, hB, hX⟩ := hrel
      by_cases hrn : r < N
      · have hrz : (r : Int) < (N : Int) := by omega
        have hrm : r < d.m := by have := HNN.out; omega
        have hrmz : (r : Int) < (d.m : Int) := by omega
        obtain ⟨ad, rfl, _, k0, k1⟩ := (HD.out.pc.below hB hB.size).at_ hrm
        obtain ⟨x0, x1, x2, x3⟩ := hX.cells
        have HB2 := Lib.hid (hB.alloc hB.size (.cells #[.int .i64 (d.I r), .string (d.T r)] 102))
        have HX2 := Lib.hid (hX.alloc (.cells #[.int .i64 (d.I r), .string (d.T r)] 102))
        have HS2 := Lib.hid (hS.up ((Below.refl _ _).alloc (Nat.le_refl _) (.cells #[.int .i64 (d.I r), .string (d.T r)] 102)))
        have HW2 := Lib.hid (has_write wr (d.I r) (d.T r))
        clear hS hB hX
        go_upto_region 6 with fail
        generalize wr.alloc (.cells #[.int .i64 (d.I r), .string (d.T r)] 102) = w2 at *
        generalize wr.heap.size = g at *
        have c0 : w2.cell? ⟨g, 0, none⟩ = some (.int .i64 (d.I r)) := HW2.out.cell (by omega)
        have c1 : w2.cell? ⟨g, 1, none⟩ = some (.string (d.T r)) := HW2.out.cell (by omega)
        clear k0 k1 x0 x1 x2 x3
        by_cases hh : 0 ≤ d.I r ∧ d.I r < d.n
        · obtain ⟨j, hj⟩ : ∃ j : Nat, d.I r = j := ⟨(d.I r).toNat, by omega⟩
          have HE := Lib.hid (doS_in hj (S := d.S))
          rw [hj] at c0
          have hjn : j < d.n := by omega
          have hjz : (j : Int) < (d.n : Int) := by omega
          have g1 : decide ((j : Int) ≥ 0) = true := decide_eq_true (by omega)
          obtain ⟨b, rfl, hb, hH⟩ := HS2.out (by omega)
          have hce := hH.cell hjn
          have hfr := hH.frozen hjn
          have hp := Sl.put (i := j) (t := d.T r) hH
          have HP : Hid (Sl (w2.setCell ⟨b, j, none⟩ (.string (d.T r))) w.heap.size (some ⟨b, 0, none⟩) d.n (doS d.I d.T d.S (r + 1))) := Lib.hid (fun _ => ⟨b, rfl, hb, by rw [HE.out]; exact hp⟩)
          have HB3 := Lib.hid (HB2.out.setCell (p := ⟨b, j, none⟩) hb (.string (d.T r)))
          have HX3 := Lib.hid (HX2.out.setOther (a := ⟨b, j, none⟩) (fun e => hH.ne_ HX2.out (by decide) e.symm) (.string (d.T r)))
          clear hh hj hp hH hb
          go_wp2
          go_roundg (N - (r + 1))
          case measure => go_light; omega
          case rel => go_light; exact ⟨r + 1, by omega, rfl, by simp, HP.out, HB3.out, HX3.out⟩
        · have HS3 : Hid (Sl w2 w.heap.size A1 d.n (doS d.I d.T d.S (r + 1))) := Lib.hid (HS2.out.congr (fun j hj => (setS_ne (fun e => hh ⟨by omega, by omega⟩)).symm))
          by_cases h0 : 0 ≤ d.I r
          · have g1 : decide (d.I r ≥ 0) = true := decide_eq_true h0
            have g2 : decide (d.I r < (d.n : Int)) = false := decide_eq_false (fun h => hh ⟨h0, h⟩)
            clear hh h0
            go_wp2
            go_roundg (N - (r + 1))
            case measure => go_light; omega
            case rel => go_light; exact ⟨r + 1, by omega, rfl, by simp, HS3.out, HB2.out, HX2.out⟩
          · have g1 : decide (d.I r ≥ 0) = false := decide_eq_false h0
            clear hh h0
            go_wp2
            go_roundg (N - (r + 1))
            case measure => go_light; omega
            case rel => go_light; exact ⟨r + 1, by omega, rfl, by simp, HS3.out, HB2.out, HX2.out⟩
      · have hrz : ¬ (r : Int) < (N : Int) := by omega
        obtain rfl : r = N := by omega
        have HS := Lib.hid hS
        have HB := Lib.hid hB
        clear hS hB hX
        go_wp2
        go_ret
        exact ⟨_, _, rfl, HF1.out, HS.out, HB.out⟩
end
end Go.Proofs.Ytofafmjkjgiccaa.Mat


/- The document's Flush, Arm and Crash: walked. -/
namespace Go.Proofs.Ytofafmjkjgiccaa.Mat
open Go.RowKit Fld

section
variable {w W W' : World} {d : Dk} {A B : Option Addr} {c k : Nat} {S : Nat → ByteArray}
/-- what lies in the result's box -/
def Laid (w W : World) (d : Dk) : Prop := ∃ A c B k, Bx W (w.heap.size + 1) (.slice A d.n c) (.slice B d.m k) (.int .i64 d.fuse) (.bool d.off) ∧ DOk W A c B k d ∧ Below w.heap.size w W
theorem Laid.err (h : Laid w W d) (E : Int) : ∃ A c B k, Bx W (w.heap.size + 1) (.slice A d.n c) (.slice B d.m k) (.int .i64 d.fuse) (.bool d.off) ∧ DErr w d E (.returned (.tuple #[.agg #[.slice A d.n c, .slice B d.m k, .int .i64 d.fuse, .bool d.off], .int .i64 E])) W := by
  obtain ⟨A, c, B, k, h1, h2, h3⟩ := h
  exact ⟨A, c, B, k, h1, A, c, B, k, rfl, h2, h3⟩
/-- slots of the call's own are laid into the result -/
theorem laid_slots (h : Raw w W d A c B k) {A' : Option Addr} {c' : Nat} (hf : Fit A' d.n c') (hs : Sl W w.heap.size A' d.n S) {f : Int} {o : Bool} (hz : Sz (doneD d S f o)) : Laid w (put4 W (w.heap.size + 1) (.slice A' d.n c') (.slice none 0 0) (.int .i64 f) (.bool o)) (doneD d S f o) := by
  have hp := D2.putz h (.slice A' d.n c') (.slice none 0 0) (.int .i64 f) (.bool o)
  have hs2 := sl_put4 h.z hs (.slice A' d.n c') (.slice none 0 0) (.int .i64 f) (.bool o)
  exact ⟨A', c', none, 0, hp.z, ⟨hs2.st, fun hh => absurd hh (Nat.lt_irrefl 0), hf, ⟨Nat.le_refl _, fun _ => rfl⟩, hz⟩, hp.below⟩
theorem Laid.drew (h : Laid w W d) : Laid w W.drew d := by
  obtain ⟨A, c, B, k, h1, h2, h3⟩ := h
  exact ⟨A, c, B, k, h1.drew, h2.drew, h3.drew⟩
set_option maxRecDepth 100000 in
set_option maxHeartbeats 1600000 in
theorem refFlush_any (h : DOk w A c B k d) : Calls Try.prog 33 #[.agg #[.slice A d.n c, .slice B d.m k, .int .i64 d.fuse, .bool d.off]] w (DErr w (flushD d) (flushE d)) := by
  have h0 : Raw w _ d A c B k := D2.start w (.slice A d.n c) (.slice B d.m k) (.int .i64 d.fuse) (.bool d.off) (.slice none 0 0) (.slice none 0 0) (.int .i64 0) (.bool false)
  have HD := Lib.hid h
  have HSZ := Lib.hid h.sz
  have H0 := Lib.hid h0
  clear h h0
  go_enter Try.func33, Try.ntmps33
  go_upto_region 1 with fail
  generalize (w.alloc (.cells #[.slice A d.n c, .slice B d.m k, .int .i64 d.fuse, .bool d.off] 39)).alloc (.cells #[.slice none 0 0, .slice none 0 0, .int .i64 0, .bool false] 39) = wb at *
  obtain ⟨x0, x1, x2, x3⟩ := H0.out.x.cells
  obtain ⟨z0, z1, z2, z3⟩ := H0.out.z.cells
  obtain ⟨u0, u1, u2, u3⟩ := H0.out.z.free
  have HDB := Lib.hid (HD.out.up H0.out.below)
  cases hoff : d.off
  rotate_left
  · have HE := Lib.hid (flush_off hoff)
    have HF := Lib.hid (raw_fin H0.out HD.out)
    rw [hoff] at x3
    go_wp2
    rw [← hoff]
    refine bodyPost_ret (results_disk_err rfl _ _ (w.heap.size + 1) rfl HF.out.1) rfl (by rw [HE.out.1, HE.out.2]; exact ⟨A, c, B, k, rfl, HF.out.2.1, HF.out.2.2⟩)
  · rw [hoff] at x3
    have HE := Lib.hid (flush_on hoff)
    have HOFF := Lib.hid hoff
    have hSZ2 := sz_done HSZ.out (doS_size HSZ.out.zs HSZ.out.zt d.m (Nat.le_refl _) (I := d.I)) HSZ.out.fl HSZ.out.fh false
    have HSZ2 := Lib.hid hSZ2
    have HDN : Hid (∀ W, DOk W A c B k d → Calls Try.prog 58 #[.agg #[.slice A d.n c, .slice B d.m k, .int .i64 d.fuse, .bool false], .int .i64 (d.m : Int)] W (SlotsRet W d.n (doS d.I d.T d.S d.m))) := Lib.hid (fun W hW => by
      have := refDone_any hW d.m (Nat.le_refl _)
      rwa [hoff] at this)
    have K : Hid (∀ W, Below wb.heap.size wb W → (W.cell? ⟨w.heap.size, 2, none⟩ = some (.int .i64 d.fuse)) ∧ (W.cell? ⟨w.heap.size + 1, 0, none⟩ = some (.slice none 0 0) ∧ W.cell? ⟨w.heap.size + 1, 1, none⟩ = some (.slice none 0 0) ∧ W.cell? ⟨w.heap.size + 1, 2, none⟩ = some (.int .i64 0) ∧ W.cell? ⟨w.heap.size + 1, 3, none⟩ = some (.bool false)) ∧
        (W.frozen? ⟨w.heap.size + 1, 0, none⟩ = false ∧ W.frozen? ⟨w.heap.size + 1, 1, none⟩ = false ∧ W.frozen? ⟨w.heap.size + 1, 2, none⟩ = false ∧ W.frozen? ⟨w.heap.size + 1, 3, none⟩ = false)) := Lib.hid (fun W hb =>
      have h1 := H0.out.up hb
      ⟨h1.x.c2, h1.z.cells, h1.z.free⟩)
    clear hoff hSZ2
    go_upto_region 3 with fail
    go_cut [3] from 7 to 14 (fun s wx => s = .int .i64 0 ∧ Laid w wx (doneD d (doS d.I d.T d.S d.m) d.fuse false))
    case first =>
      go_region_with
        ((go_at_call 58; (with_reducible refine Calls.mono (HDN.out _ HDB.out.drew) ?_); rintro e w3 ⟨A3, c3, rfl, hf3, hs3, hb3⟩; have B3 : Hid (Below wb.heap.size wb w3) := Lib.hid ⟨hb3.os, hb3.tape, hb3.output, hb3.size, hb3.block⟩; obtain ⟨q0, ⟨q1, q2, q3, q4⟩, q5, q6, q7, q8⟩ := K.out _ B3.out))
      all_goals
        have HL := Lib.hid (laid_slots (H0.out.up B3.out) hf3 (hs3.lower H0.out.below.size) HSZ2.out)
        go_wp2_with fail
        go_meet
        case rel =>
          go_light
          first | exact ⟨rfl, HL.out⟩ | exact ⟨rfl, HL.out.drew⟩
    case rest =>
      obtain ⟨rfl, hL⟩ := hcut
      obtain ⟨A3, c3, B3, k3, hx, hF⟩ := hL.err 0
      have HF := Lib.hid hF
      have HX := Lib.hid hx
      clear hL hF hx
      go_wp2
      refine bodyPost_ret (results_disk_err rfl _ _ (w.heap.size + 1) rfl HX.out) rfl (by rw [HE.out.1, HE.out.2]; exact HF.out)

end
end Go.Proofs.Ytofafmjkjgiccaa.Mat


/- The document's Crash; New of both sides: walked. -/
namespace Go.Proofs.Ytofafmjkjgiccaa.Mat
open Go.RowKit Fld

theorem headS_all {s : ByteArray} {x : Nat} (h : s.size ≤ x) : headS s (x : Int) = s := by
  unfold headS
  rw [show min (x : Int).toNat s.size = s.size by simp; omega]
  simp
theorem headS_some {s : ByteArray} {x : Nat} (h : x ≤ s.size) : headS s (x : Int) = s.extract 0 x := by
  unfold headS
  rw [show min (x : Int).toNat s.size = x by simp; omega]
theorem setS_twice {S : Nat → ByteArray} {i : Int} {t t' : ByteArray} (j : Nat) : setS (setS S i t) i t' j = setS S i t' j := by
  unfold setS
  by_cases e : (j : Int) = i
  · rw [if_pos e, if_pos e]
  · rw [if_neg e, if_neg e, if_neg e]
section
variable {w W W' : World} {d : Dk} {A B : Option Addr} {c k : Nat} {S : Nat → ByteArray}
theorem laid_ret (h : Raw w W d A c B k) {A' : Option Addr} {c' : Nat} (hf : Fit A' d.n c') (hs : Sl W w.heap.size A' d.n S) {f : Int} {o : Bool} (hz : Sz (doneD d S f o)) : Bx (put4 W (w.heap.size + 1) (.slice A' d.n c') (.slice none 0 0) (.int .i64 f) (.bool o)) (w.heap.size + 1) (.slice A' d.n c') (.slice none 0 0) (.int .i64 f) (.bool o) ∧
    DRet w (doneD d S f o) (.returned (.agg #[.slice A' d.n c', .slice none 0 0, .int .i64 f, .bool o])) (put4 W (w.heap.size + 1) (.slice A' d.n c') (.slice none 0 0) (.int .i64 f) (.bool o)) := by
  have hp := D2.putz h (.slice A' d.n c') (.slice none 0 0) (.int .i64 f) (.bool o)
  have hs2 := sl_put4 h.z hs (.slice A' d.n c') (.slice none 0 0) (.int .i64 f) (.bool o)
  exact ⟨hp.z, A', c', none, 0, rfl, ⟨hs2.st, fun hh => absurd hh (Nat.lt_irrefl 0), hf, ⟨Nat.le_refl _, fun _ => rfl⟩, hz⟩, hp.below⟩
set_option maxRecDepth 100000 in
set_option maxHeartbeats 3200000 in
theorem refCrash_any (h : DOk w A c B k d) (keep tear : Int) : Calls Try.prog 34 #[.agg #[.slice A d.n c, .slice B d.m k, .int .i64 d.fuse, .bool d.off], .int .i64 keep, .int .i64 tear] w (DRet w (crashD d keep tear)) := by
  have h0 : Raw w _ d A c B k := D2.start w (.slice A d.n c) (.slice B d.m k) (.int .i64 d.fuse) (.bool d.off) (.slice none 0 0) (.slice none 0 0) (.int .i64 0) (.bool false)
  have HD := Lib.hid h
  have HSZ := Lib.hid h.sz
  have H0 := Lib.hid h0
  have hmm : d.m ≤ 9223372036854775807 := by have := h.sz.bm; omega
  have hn63 : d.n ≤ 9223372036854775807 := by have := h.sz.bn; omega
  clear h h0
  go_enter Try.func34, Try.ntmps34
  go_upto_region 1 with fail
  generalize (w.alloc (.cells #[.slice A d.n c, .slice B d.m k, .int .i64 d.fuse, .bool d.off] 39)).alloc (.cells #[.slice none 0 0, .slice none 0 0, .int .i64 0, .bool false] 39) = wb at *
  obtain ⟨x0, x1, x2, x3⟩ := H0.out.x.cells
  have HDB := Lib.hid (HD.out.up H0.out.below)
  have hle := keepN_le d.m keep
  have HC : Hid (crashD d keep tear = doneD d (crashS d (keepN d.m keep) tear) (-1) false) := Lib.hid rfl
  have HKN : Hid (∀ i : Nat, i ≤ keepN d.m keep → (i < keepN d.m keep ↔ i < d.m ∧ (i : Int) < keep)) := Lib.hid (fun i hi => by unfold keepN at *; omega)
  generalize keepN d.m keep = R at *
  go_upto_block 0 with fail
  go_cut [7] from 10 (fun s wx => s = .int .i64 (R : Nat) ∧ wx = wb)
  case first =>
    go_wp2_with fail
    go_loopg [7] R (fun gh v wr => ∃ i, i ≤ R ∧ gh = R - i ∧ v = .int .i64 (i : Nat) ∧ wr = wb)
    case atStart => exact ⟨0, Nat.zero_le _, rfl, rfl, rfl⟩
    case round =>
      obtain ⟨i, hi, rfl, rfl, rfl⟩ := hrel
      by_cases hiR : i < R
      · obtain ⟨e1, e2⟩ := (HKN.out i hi).1 hiR
        have g1 : (i : Int) < (d.m : Int) := by omega
        have g2 : decide ((i : Int) < keep) = true := decide_eq_true e2
        clear e2
        go_wp2
        go_roundg (R - (i + 1))
        case measure => go_light; omega
        case rel => go_light; exact ⟨i + 1, by omega, rfl, by simp, rfl⟩
      · obtain rfl : i = R := by omega
        by_cases him : i < d.m
        · have g1 : (i : Int) < (d.m : Int) := by omega
          have g2 : decide ((i : Int) < keep) = false := decide_eq_false (fun h => hiR ((HKN.out i hi).2 ⟨him, h⟩))
          clear him
          go_wp2_with fail
          go_meet
          case rel => go_light; exact ⟨rfl, rfl⟩
        · have g1 : ¬ (i : Int) < (d.m : Int) := by omega
          clear him
          go_wp2_with fail
          go_meet
          case rel => go_light; exact ⟨rfl, rfl⟩
  case rest =>
    obtain ⟨rfl, rfl⟩ := hcut
    have HZ := Lib.hid (sz_done HSZ.out (crash_size HSZ.out hle tear) (show (-9223372036854775808 : Int) ≤ -1 by omega) (show (-1 : Int) ≤ 9223372036854775807 by omega) false)
    have HLE := Lib.hid hle
    clear HKN hle
    go_wp2_with fail
    clear x0 x1 x2 x3
    refine (refDone_any HDB.out R HLE.out).mono ?_; rintro e w2 ⟨A2, c2, rfl, hf2, hs2, hb2⟩
    have HF2 := Lib.hid hf2
    have HS2 := Lib.hid (hs2.lower H0.out.below.size)
    have HR2 := Lib.hid (H0.out.up hb2)
    have HD2 := Lib.hid (HDB.out.up hb2)
    clear hf2 hs2 hb2
    obtain ⟨x0, x1, x2, x3⟩ := HR2.out.x.cells
    by_cases ht : R < d.m ∧ 0 ≤ tear
    · obtain ⟨ht1, ht2⟩ := ht
      have HC2 := Lib.hid (crash_yes ⟨ht1, ht2⟩ (d := d))
      have g1 : (R : Int) < (d.m : Int) := by omega
      have g2 : decide (tear ≥ 0) = true := decide_eq_true ht2
      obtain ⟨ad, rfl, _, m0, m1⟩ := HD2.out.pc.at_ ht1
      have HT := Lib.hid (HSZ.out.zt R ht1)
      have HR3 := Lib.hid (D2.alloc HR2.out (.cells #[.int .i64 (d.I R), .string (d.T R)] 102))
      have HS3 := Lib.hid (HS2.out.up ((Below.refl _ _).alloc (Nat.le_refl _) (.cells #[.int .i64 (d.I R), .string (d.T R)] 102)))
      have HW3 := Lib.hid (has_write w2 (d.I R) (d.T R))
      go_upto_region 7 with fail
      generalize w2.alloc (.cells #[.int .i64 (d.I R), .string (d.T R)] 102) = w3 at *
      generalize w2.heap.size = g at *
      have c0 : w3.cell? ⟨g, 0, none⟩ = some (.int .i64 (d.I R)) := HW3.out.cell (by omega)
      have c1 : w3.cell? ⟨g, 1, none⟩ = some (.string (d.T R)) := HW3.out.cell (by omega)
      clear m0 m1 x0 x1 x2 x3 g1 g2
      by_cases hh : 0 ≤ d.I R ∧ d.I R < d.n
      · obtain ⟨j, hj⟩ : ∃ j : Nat, d.I R = j := ⟨(d.I R).toNat, by omega⟩
        have HJ := Lib.hid hj
        rw [hj] at c0
        have hjn : j < d.n := by omega
        have hjz : (j : Int) < (d.n : Int) := by omega
        have g1 : decide ((j : Int) ≥ 0) = true := decide_eq_true (by omega)
        obtain ⟨b, rfl, hb, hH⟩ := HS3.out (by omega)
        have hce := hH.cell hjn
        have hfr := hH.frozen hjn
        have hp := Sl.put (i := j) (t := d.T R) hH
        have hbz : b ≠ w.heap.size + 1 := hH.ne_ HR3.out.z (by decide)
        have hbx : b ≠ w.heap.size := hH.ne_ HR3.out.x (by decide)
        have hbg : b ≠ g := hH.ne_ HW3.out (by decide)
        have HH4 := Lib.hid hp
        have HR4 : Hid (Raw w (w3.setCell ⟨b, j, none⟩ (.string (d.T R))) d A c (some ad) k) := Lib.hid ⟨HR3.out.below.setCell (p := ⟨b, j, none⟩) hb _, HR3.out.x.setOther (a := ⟨b, j, none⟩) (fun e => hbx e.symm) _, HR3.out.z.setOther (a := ⟨b, j, none⟩) (fun e => hbz e.symm) _⟩
        have HW4 := Lib.hid (HW3.out.setOther (a := ⟨b, j, none⟩) (fun e => hbg e.symm) (.string (d.T R)))
        have HBB := Lib.hid hb
        obtain ⟨x, hx⟩ : ∃ x : Nat, tear = x := ⟨tear.toNat, by omega⟩
        subst hx
        clear hh hj hp hH hb hbg ht2
        go_upto_region 9 with fail
        generalize w3.setCell ⟨b, j, none⟩ (.string (d.T R)) = w4 at *
        clear c0 c1 hce hfr
        have c0 : w4.cell? ⟨g, 0, none⟩ = some (.int .i64 (j : Int)) := by have := HW4.out.cell (i := 0) (by omega); rw [this]; show some (Value.int .i64 (d.I R)) = _; rw [HJ.out]
        have c1 : w4.cell? ⟨g, 1, none⟩ = some (.string (d.T R)) := HW4.out.cell (by omega)
        have hce := HH4.out.cell hjn
        have hfr := HH4.out.frozen hjn
        by_cases hx : x < (d.T R).size
        · have g3 : (x : Int) < ((d.T R).size : Int) := by omega
          have hp5 := Sl.put (i := j) (t := (d.T R).extract 0 x) HH4.out
          have HS5 : Hid (Sl (w4.setCell ⟨b, j, none⟩ (.string ((d.T R).extract 0 x))) w.heap.size (some ⟨b, 0, none⟩) d.n (crashS d R (x : Int))) := Lib.hid (by
            rw [HC2.out]
            refine fun _ => ⟨b, rfl, HBB.out, hp5.congr (fun i _ => ?_)⟩
            show Value.string (setS (setS _ (j : Int) _) (j : Int) _ i) = _
            rw [setS_twice, HJ.out, headS_some (by omega)])
          have HR5 : Hid (Raw w (w4.setCell ⟨b, j, none⟩ (.string ((d.T R).extract 0 x))) d A c (some ad) k) := Lib.hid ⟨HR4.out.below.setCell (p := ⟨b, j, none⟩) HBB.out _, HR4.out.x.setOther (a := ⟨b, j, none⟩) (fun e => hbx e.symm) _, HR4.out.z.setOther (a := ⟨b, j, none⟩) (fun e => hbz e.symm) _⟩
          have hxs : (x : Int) ≤ ((d.T R).size : Int) := by omega
          clear hp5 hx
          go_upto_region 10 with fail
          go_cut [] from 61 to 67 (fun wx => Raw w wx d A c (some ad) k ∧ Sl wx w.heap.size (some ⟨b, 0, none⟩) d.n (crashS d R (x : Int)))
          case first =>
            go_region
            all_goals
              go_wp2_with fail
              go_meet
              case rel => go_light; exact ⟨HR5.out.drew, fun hn => (HS5.out hn)⟩
          case rest =>
            have HR6 := Lib.hid hcut.1
            have HS6 := Lib.hid hcut.2
            clear hcut c0 c1 hce hfr
            obtain ⟨z0, z1, z2, z3⟩ := HR6.out.z.cells
            obtain ⟨u0, u1, u2, u3⟩ := HR6.out.z.free
            have HL := Lib.hid (laid_ret HR6.out HF2.out HS6.out HZ.out)
            go_wp2
            refine bodyPost_ret (results_disk rfl _ _ (w.heap.size + 1) rfl HL.out.1) rfl (by rw [HC.out]; exact HL.out.2)
        · have g3 : ¬ (x : Int) < ((d.T R).size : Int) := by omega
          have HS5 : Hid (Sl w4 w.heap.size (some ⟨b, 0, none⟩) d.n (crashS d R (x : Int))) := Lib.hid (by
            rw [HC2.out]
            refine fun _ => ⟨b, rfl, HBB.out, HH4.out.congr (fun i _ => ?_)⟩
            rw [HJ.out, headS_all (by omega)])
          clear hx
          obtain ⟨z0, z1, z2, z3⟩ := HR4.out.z.cells
          obtain ⟨u0, u1, u2, u3⟩ := HR4.out.z.free
          have HL := Lib.hid (laid_ret HR4.out HF2.out HS5.out HZ.out)
          go_wp2
          refine bodyPost_ret (results_disk rfl _ _ (w.heap.size + 1) rfl HL.out.1) rfl (by rw [HC.out]; exact HL.out.2)
      · have HS5 : Hid (Sl w3 w.heap.size A2 d.n (crashS d R tear)) := Lib.hid (by
          rw [HC2.out]
          exact HS3.out.congr (fun j hj => (setS_ne (fun e => hh ⟨by omega, by omega⟩)).symm))
        by_cases h0 : 0 ≤ d.I R
        · have g1 : decide (d.I R ≥ 0) = true := decide_eq_true h0
          have g2 : decide (d.I R < (d.n : Int)) = false := decide_eq_false (fun h => hh ⟨h0, h⟩)
          clear hh h0
          obtain ⟨z0, z1, z2, z3⟩ := HR3.out.z.cells
          obtain ⟨u0, u1, u2, u3⟩ := HR3.out.z.free
          have HL := Lib.hid (laid_ret HR3.out HF2.out HS5.out HZ.out)
          go_wp2
          refine bodyPost_ret (results_disk rfl _ _ (w.heap.size + 1) rfl HL.out.1) rfl (by rw [HC.out]; exact HL.out.2)
        · have g1 : decide (d.I R ≥ 0) = false := decide_eq_false h0
          clear hh h0
          obtain ⟨z0, z1, z2, z3⟩ := HR3.out.z.cells
          obtain ⟨u0, u1, u2, u3⟩ := HR3.out.z.free
          have HL := Lib.hid (laid_ret HR3.out HF2.out HS5.out HZ.out)
          go_wp2
          refine bodyPost_ret (results_disk rfl _ _ (w.heap.size + 1) rfl HL.out.1) rfl (by rw [HC.out]; exact HL.out.2)
    · have HS5 : Hid (Sl w2 w.heap.size A2 d.n (crashS d R tear)) := Lib.hid (by rw [crash_no ht]; exact HS2.out)
      by_cases g : R < d.m
      · have g1 : (R : Int) < (d.m : Int) := by omega
        have g2 : decide (tear ≥ 0) = false := decide_eq_false (fun h => ht ⟨g, h⟩)
        clear ht
        obtain ⟨z0, z1, z2, z3⟩ := HR2.out.z.cells
        obtain ⟨u0, u1, u2, u3⟩ := HR2.out.z.free
        have HL := Lib.hid (laid_ret HR2.out HF2.out HS5.out HZ.out)
        go_wp2
        refine bodyPost_ret (results_disk rfl _ _ (w.heap.size + 1) rfl HL.out.1) rfl (by rw [HC.out]; exact HL.out.2)
      · have g1 : ¬ (R : Int) < (d.m : Int) := by omega
        clear ht
        obtain ⟨z0, z1, z2, z3⟩ := HR2.out.z.cells
        obtain ⟨u0, u1, u2, u3⟩ := HR2.out.z.free
        have HL := Lib.hid (laid_ret HR2.out HF2.out HS5.out HZ.out)
        go_wp2
        refine bodyPost_ret (results_disk rfl _ _ (w.heap.size + 1) rfl HL.out.1) rfl (by rw [HC.out]; exact HL.out.2)
end
end Go.Proofs.Ytofafmjkjgiccaa.Mat

