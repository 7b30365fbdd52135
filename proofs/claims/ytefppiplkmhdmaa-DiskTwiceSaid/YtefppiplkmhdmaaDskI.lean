/- Crash: walked. -/
import Derived.Test.YtefppiplkmhdmaaDskH
namespace Go.Proofs.Ytefppiplkmhdmaa.Mat
open Go.RowKit Fld

section
variable {w W W' : World} {d : Dk} {A B : Option Addr} {c k : Nat} {S : Nat → ByteArray}
theorem headS_size {s : ByteArray} {t : Int} {z : Nat} (h : s.size ≤ z) : (headS s t).size ≤ z := by
  unfold headS
  rw [ByteArray.size_extract]
  omega
theorem crash_size (h : Sz d) {r : Nat} (hr : r ≤ d.m) (tear : Int) : ∀ i, i < d.n → (crashS d r tear i).size ≤ 140737488351232 := fun i hi => by
  have h1 := doS_size (I := d.I) h.zs h.zt r hr
  unfold crashS
  by_cases e : r < d.m ∧ 0 ≤ tear
  · rw [if_pos e]; exact setS_size h1 (headS_size (h.zt r e.1)) i hi
  · rw [if_neg e]; exact h1 i hi
/-- behind what a crash has kept -/
structure Kept (w W : World) (d : Dk) (S : Nat → ByteArray) (A : Option Addr) (c : Nat) (B : Option Addr) (k : Nat) : Prop where
  fa : Fit A d.n c
  fr : Raw w W d A c B k
  sl : Sl W w.heap.size A d.n S
  pc : ∀ W', W.grownBy W' (blk A d.n) → Pc W' W'.heap.size B d.m d.I d.T
theorem Kept.more (h : Kept w W d S A c B k) {S' : Nat → ByteArray} (hs : Sl W' w.heap.size A d.n S') (hg : W.grownBy W' (blk A d.n)) : Kept w W' d S' A c B k :=
  ⟨h.fa, h.fr.grown hg (fun g hg => (h.sl.blk g hg).1) (fun e => h.sl.blk_ne h.fr.x (by decide) e.symm) (fun e => h.sl.blk_ne h.fr.z (by decide) e.symm), hs, fun W2 hg2 => h.pc W2 (hg.trans hg2)⟩
theorem Kept.fin (h : Kept w W d S A c B k) (hz : Sz (doneD d S (-1) false)) :
    Bx (put4 W (w.heap.size + 1) (.slice A d.n c) (.slice none 0 0) (.int .i64 (-1)) (.bool false)) (w.heap.size + 1) (.slice A d.n c) (.slice none 0 0) (.int .i64 (-1)) (.bool false) ∧
    DRet w (doneD d S (-1) false) (.returned (.agg #[.slice A d.n c, .slice none 0 0, .int .i64 (-1), .bool false])) (put4 W (w.heap.size + 1) (.slice A d.n c) (.slice none 0 0) (.int .i64 (-1)) (.bool false)) := by
  have hp := D2.putz h.fr (.slice A d.n c) (.slice none 0 0) (.int .i64 (-1)) (.bool false)
  have hs := sl_put4 h.fr.z h.sl (.slice A d.n c) (.slice none 0 0) (.int .i64 (-1)) (.bool false)
  exact ⟨hp.z, A, c, none, 0, rfl, ⟨hs.st, fun hh => absurd hh (Nat.lt_irrefl 0), h.fa, ⟨Nat.le_refl _, fun _ => rfl⟩, hz⟩, hp.below⟩
theorem crash_yes {r : Nat} {tear : Int} (h : r < d.m ∧ 0 ≤ tear) : crashS d r tear = setS (doS d.I d.T d.S r) (d.I r) (headS (d.T r) tear) := if_pos h
theorem crash_no {r : Nat} {tear : Int} (h : ¬ (r < d.m ∧ 0 ≤ tear)) : crashS d r tear = doS d.I d.T d.S r := if_neg h

set_option maxRecDepth 100000 in
set_option maxHeartbeats 3200000 in
theorem crash_any (h : DOk w A c B k d) (keep tear : Int) : Calls Try.prog 20 #[.agg #[.slice A d.n c, .slice B d.m k, .int .i64 d.fuse, .bool d.off], .int .i64 keep, .int .i64 tear] w (DRet w (crashD d keep tear)) := by
  have h0 := D2.start w (.slice A d.n c) (.slice B d.m k) (.int .i64 d.fuse) (.bool d.off) (.slice none 0 0) (.slice none 0 0) (.int .i64 0) (.bool false)
  have HD := Lib.hid (h.up h0.below)
  have HSZ := Lib.hid h.sz
  have H0 := Lib.hid h0
  clear h h0
  go_enter Try.func20, Try.ntmps20
  go_upto_region 1 with fail
  generalize (w.alloc (.cells #[.slice A d.n c, .slice B d.m k, .int .i64 d.fuse, .bool d.off] 25)).alloc (.cells #[.slice none 0 0, .slice none 0 0, .int .i64 0, .bool false] 25) = wb at *
  go_cut [] from 8 to 9 (fun wc => Owns w d wc)
  case first =>
    obtain ⟨x0, x1, x2, x3⟩ := H0.out.x.cells
    go_wp2_with fail
    clear x0 x1 x2 x3
    refine (apart_any HD.out).mono ?_; rintro e w1 ⟨A1, c1, B1, k1, rfl, hf1, hs1, ho1, hb1⟩
    obtain ⟨x0, x1, x2, x3⟩ := (H0.out.up hb1).x.cells
    obtain ⟨u0, u1, u2, u3⟩ := (H0.out.up hb1).x.free
    have HO := Lib.hid (own_fin2 H0.out hb1 hf1 hs1 ho1)
    clear hf1 hs1 ho1 hb1
    go_wp2_with fail
    go_meet
    case rel => go_light; exact HO.out
  case rest =>
    obtain ⟨A1, c1, B1, k1, hO⟩ := hcut
    obtain ⟨x0, x1, x2, x3⟩ := hO.fr.x.cells
    have HO := Lib.hid hO
    clear hO HD H0
    go_upto_region 2 with fail
    go_cut [7] from 10 to 15 (fun s wx => s = .int .i64 (keepN d.m keep : Nat) ∧ wx = wc)
    case first =>
      go_wp2_with fail
      all_goals
        go_meet
        case rel =>
          go_light
          refine ⟨?_, rfl⟩
          congr 1
          unfold keepN
          omega
    case rest =>
      obtain ⟨rfl, rfl⟩ := hcut
      have hle := keepN_le d.m keep
      have HC : Hid (crashD d keep tear = doneD d (crashS d (keepN d.m keep) tear) (-1) false) := Lib.hid rfl
      generalize keepN d.m keep = r at *
      have HR := Lib.hid hle
      go_wp2_with fail
      clear x0 x1 x2 x3
      refine (do_any (own_sl HO.out.s) (own_stays HO.out.t (own_sl HO.out.s)) (by have := HSZ.out.bn; omega) (by have := HSZ.out.bm; omega) _ _ r HR.out).mono ?_; rintro e w2 ⟨rfl, hs2, hg2⟩
      have hK : Kept w w2 d (doS d.I d.T d.S r) A1 c1 B1 k1 := by
        obtain ⟨h2, hs3, _⟩ := HO.out.wrote hs2 hg2
        exact ⟨HO.out.fa, h2, hs3, fun W hW => own_stays HO.out.t (own_sl HO.out.s) W (hg2.trans hW)⟩
      obtain ⟨x0, x1, x2, x3⟩ := hK.fr.x.cells
      have HK := Lib.hid hK
      clear hs2 hg2 hK HO
      by_cases ht : r < d.m ∧ 0 ≤ tear
      · obtain ⟨ht1, ht2⟩ := ht
        have g1 : (r : Int) < (d.m : Int) := by omega
        have g2 : decide (tear ≥ 0) = true := decide_eq_true ht2
        have HC2 := Lib.hid (crash_yes ⟨ht1, ht2⟩ (d := d))
        go_upto_region 5 with fail
        have hrr : (r : Int) < (d.m : Int) := g1
        obtain ⟨ad, rfl, _, m0, m1⟩ := (HK.out.pc _ (grownBy_of_below (Below.refl _ _) _)).at_ ht1
        have KK : Hid (∀ W, w2.grownBy W (blk A1 d.n) → W.cell? ⟨w.heap.size, 0, none⟩ = some (.slice A1 d.n c1) ∧ W.cell? ⟨w.heap.size, 1, none⟩ = some (.slice (some ad) d.m k1) ∧ W.cell? (ad.add (r * 2)) = some (.int .i64 (d.I r)) ∧ W.cell? ⟨(ad.add (r * 2)).block, (ad.add (r * 2)).off + 1, none⟩ = some (.string (d.T r))) := Lib.hid (fun W hW => by
          have h1 := HK.out.fr.grown hW (fun g hg => (HK.out.sl.blk g hg).1) (fun e => HK.out.sl.blk_ne HK.out.fr.x (by decide) e.symm) (fun e => HK.out.sl.blk_ne HK.out.fr.z (by decide) e.symm)
          obtain ⟨ad', e, _, q0, q1⟩ := (HK.out.pc W hW).at_ ht1
          injection e with e
          subst e
          exact ⟨h1.x.c0, h1.x.c1, q0, q1⟩)
        go_cut [] from 28 to 37 (fun wx => Kept w wx d (crashS d r tear) A1 c1 (some ad) k1)
        case first =>
          go_region_held3 (fun W => W.cell? ⟨w.heap.size, 0, none⟩ = some (.slice A1 d.n c1) ∧ W.cell? ⟨w.heap.size, 1, none⟩ = some (.slice (some ad) d.m k1) ∧ W.cell? (ad.add (r * 2)) = some (.int .i64 (d.I r)) ∧ W.cell? ⟨(ad.add (r * 2)).block, (ad.add (r * 2)).off + 1, none⟩ = some (.string (d.T r)))
            (first | exact ⟨x0, x1, m0, m1⟩ | exact KK.out _ G4.out | exact KK.out _ (grownBy_of_below B3.out _) | go_keep)
            (first
              | (go_at_call 33; (with_reducible refine Calls.mono (torn_any _ _ (HSZ.out.zt r ht1) _ ht2 _) ?_); rintro e w3 ⟨rfl, hb3⟩; have B3 : Hid (Below w2.heap.size w2 w3) := Lib.hid ⟨hb3.os, hb3.tape, hb3.output, hb3.size, hb3.block⟩)
              | (go_at_call 32; (with_reducible refine Calls.mono (write_any (HK.out.sl.up B3.out) (by have := HSZ.out.bn; omega) _ _) ?_); rintro e w4 ⟨rfl, hs4, hg4⟩; have G4 : Hid (w2.grownBy w4 (blk A1 d.n)) := Lib.hid ((grownBy_of_below B3.out _).trans hg4)))
          all_goals
            have HK4 := Lib.hid (HK.out.more hs4 G4.out)
            go_wp2_with fail
            go_meet
            case rel => go_light; rw [HC2.out]; exact HK4.out
        case rest =>
          obtain ⟨y0, y1, y2, y3⟩ := hcut.fr.z.free
          obtain ⟨v0, v1, v2, v3⟩ := hcut.fr.x.cells
          obtain ⟨z0, z1, z2, z3⟩ := hcut.fr.z.cells
          have HF := Lib.hid (hcut.fin (sz_done HSZ.out (crash_size HSZ.out HR.out tear) (by omega) (by omega) false))
          clear hcut
          go_wp2
          refine bodyPost_ret (results_disk rfl _ _ (w.heap.size + 1) rfl HF.out.1) rfl (by rw [HC.out]; exact HF.out.2)
      · have HC2 := Lib.hid (crash_no ht (d := d))
        have HF := Lib.hid (HK.out.fin (sz_done HSZ.out (doS_size HSZ.out.zs HSZ.out.zt r HR.out (I := d.I)) (by omega) (by omega) false))
        obtain ⟨y0, y1, y2, y3⟩ := HK.out.fr.z.free
        obtain ⟨z0, z1, z2, z3⟩ := HK.out.fr.z.cells
        by_cases g : r < d.m
        · have g1 : (r : Int) < (d.m : Int) := by omega
          have g2 : decide (tear ≥ 0) = false := decide_eq_false (fun h => ht ⟨g, h⟩)
          clear ht
          go_wp2
          refine bodyPost_ret (results_disk rfl _ _ (w.heap.size + 1) rfl HF.out.1) rfl (by rw [HC.out, HC2.out]; exact HF.out.2)
        · have g1 : ¬ (r : Int) < (d.m : Int) := by omega
          clear ht
          go_wp2
          refine bodyPost_ret (results_disk rfl _ _ (w.heap.size + 1) rfl HF.out.1) rfl (by rw [HC.out, HC2.out]; exact HF.out.2)
end
end Go.Proofs.Ytefppiplkmhdmaa.Mat
