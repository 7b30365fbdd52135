/- Burst: walked. -/
import Derived.Test.YtefppiplkmhdmaaDskO
namespace Go.Proofs.Ytefppiplkmhdmaa.Mat
open Go.RowKit Fld

/-- a box with a disk of rows of its own, whose slots have become S -/
structure Hit (w W : World) (d : Dk) (S : Nat → ByteArray) (A : Option Addr) (c : Nat) (B : Option Addr) (k : Nat) : Prop where
  fa : Fit A d.n c
  fr : Raw w W d A c B k
  sl : Sl W w.heap.size A d.n S
  t : W.ownsRow w.heap.size 55 2 (.slice B d.m k) d.m (pcs d.I d.T d.m)
def Hits (w : World) (d : Dk) (S : Nat → ByteArray) (wc : World) : Prop := ∃ A c B k, Hit w wc d S A c B k
def withS (d : Dk) (S : Nat → ByteArray) : Dk := { d with S := S }
theorem burst_yes {d : Dk} {slot at_ : Int} (h : mayBurst d slot at_ = true) (x : BitVec 32) : burstD d slot at_ x = withS d (setS d.S slot (turnS (d.S slot.toNat) x at_.toNat)) ∧ burstE d slot at_ = 0 := by
  unfold burstD burstE; rw [if_pos h, if_pos h]; exact ⟨rfl, rfl⟩
theorem burst_no {d : Dk} {slot at_ : Int} (h : mayBurst d slot at_ = false) (x : BitVec 32) : burstD d slot at_ x = d ∧ burstE d slot at_ = 1 := by
  unfold burstD burstE; rw [h]; exact ⟨rfl, rfl⟩
section
variable {w W W' : World} {d : Dk} {A B : Option Addr} {c k : Nat} {S : Nat → ByteArray}
theorem Own.hit (h : Own w W d A c B k) : Hit w W d d.S A c B k := ⟨h.fa, h.fr, own_sl h.s, h.t⟩
theorem Hit.up (h : Hit w W d S A c B k) (hb : Below W.heap.size W W') : Hit w W' d S A c B k := ⟨h.fa, h.fr.up hb, h.sl.up hb, own_up h.t hb⟩
theorem Hit.drew (h : Hit w W d S A c B k) : Hit w W.drew d S A c B k := ⟨h.fa, h.fr.drew, h.sl, h.t⟩
theorem Hit.set (h : Hit w W d S A c B k) {b j : Nat} {t : ByteArray} (hb : A = some ⟨b, 0, none⟩) (hj : j < d.n) : Hit w (W.setCell ⟨b, j, none⟩ (.string t)) d (setS S (j : Int) t) A c B k := by
  subst hb
  obtain ⟨b', e, hlo, hH⟩ := h.sl (by omega)
  injection e with e
  injection e with e
  subst e
  have hbx : b ≠ w.heap.size := hH.ne_ h.fr.x (by decide)
  have hbz : b ≠ w.heap.size + 1 := hH.ne_ h.fr.z (by decide)
  exact ⟨h.fa, ⟨h.fr.below.setCell (p := ⟨b, j, none⟩) hlo _, h.fr.x.setOther (a := ⟨b, j, none⟩) (fun e => hbx e.symm) _, h.fr.z.setOther (a := ⟨b, j, none⟩) (fun e => hbz e.symm) _⟩, fun _ => ⟨b, rfl, hlo, Sl.put hH⟩,
    ownsRow_setCell_other h.t (fun e => has_ne_own hH h.t (by decide) e.symm) _⟩
theorem Hit.fin (h : Hit w W d S A c B k) (hz : Sz (withS d S)) (E : Int) : Bx (put4 W (w.heap.size + 1) (.slice A d.n c) (.slice B d.m k) (.int .i64 d.fuse) (.bool d.off)) (w.heap.size + 1) (.slice A d.n c) (.slice B d.m k) (.int .i64 d.fuse) (.bool d.off) ∧
    DErr w (withS d S) E (.returned (.tuple #[.agg #[.slice A d.n c, .slice B d.m k, .int .i64 d.fuse, .bool d.off], .int .i64 E])) (put4 W (w.heap.size + 1) (.slice A d.n c) (.slice B d.m k) (.int .i64 d.fuse) (.bool d.off)) := by
  have hp := D2.putz h.fr (.slice A d.n c) (.slice B d.m k) (.int .i64 d.fuse) (.bool d.off)
  have hs := sl_put4 h.fr.z h.sl (.slice A d.n c) (.slice B d.m k) (.int .i64 d.fuse) (.bool d.off)
  have ht := own_put4 h.fr.z h.t (by decide) (.slice A d.n c) (.slice B d.m k) (.int .i64 d.fuse) (.bool d.off)
  exact ⟨hp.z, A, c, B, k, rfl, ⟨hs.st, own_pc ht, h.fa, own_fit ht, hz⟩, hp.below⟩
theorem sz_with (h : Sz d) (hs : ∀ i, i < d.n → (S i).size ≤ 140737488351232) : Sz (withS d S) := ⟨h.bn, h.bm, hs, h.zt, h.fl, h.fh⟩

set_option maxRecDepth 100000 in
set_option maxHeartbeats 3200000 in
theorem burst_any (h : DOk w A c B k d) (slot at_ : Int) (a1 : at_ ≤ 9223372036854775807) (x : BitVec 32) : Calls Try.prog 24 #[.agg #[.slice A d.n c, .slice B d.m k, .int .i64 d.fuse, .bool d.off], .int .i64 slot, .int .i64 at_, .int .u32 (V32 x)] w (DErr w (burstD d slot at_ x) (burstE d slot at_)) := by
  have h0 := D2.start w (.slice A d.n c) (.slice B d.m k) (.int .i64 d.fuse) (.bool d.off) (.slice none 0 0) (.slice none 0 0) (.int .i64 0) (.bool false)
  have HD := Lib.hid (h.up h0.below)
  have HSZ := Lib.hid h.sz
  have H0 := Lib.hid h0
  generalize hv : V32 x = v at *
  have HV := Lib.hid hv
  clear h h0 hv
  go_enter Try.func24, Try.ntmps24
  go_upto_region 1 with fail
  generalize (w.alloc (.cells #[.slice A d.n c, .slice B d.m k, .int .i64 d.fuse, .bool d.off] 25)).alloc (.cells #[.slice none 0 0, .slice none 0 0, .int .i64 0, .bool false] 25) = wb at *
  go_cut [] from 10 to 11 (fun wc => Owns w d wc)
  case first =>
    obtain ⟨x0, x1, x2, x3⟩ := H0.out.x.cells
    go_wp2_with fail
    clear x0 x1 x2 x3
    refine (apart_any HD.out).mono ?_; rintro e w1 ⟨A1, c1, B1, k1, rfl, hf1, hs1, ho1, hb1⟩
    obtain ⟨x0, x1, x2, x3⟩ := (H0.out.up hb1).x.cells
    obtain ⟨u0, u1, u2, u3⟩ := (H0.out.up hb1).x.free
    have HO := Lib.hid (own_fin2 H0.out hb1 hf1 hs1 ho1)
    clear hf1 hs1 ho1 hb1
    go_wp2_with fail
    go_meet
    case rel => go_light; exact HO.out
  case rest =>
    obtain ⟨A1, c1, B1, k1, hO⟩ := hcut
    obtain ⟨x0, x1, x2, x3⟩ := hO.fr.x.cells
    obtain ⟨z0, z1, z2, z3⟩ := hO.fr.z.cells
    obtain ⟨u0, u1, u2, u3⟩ := hO.fr.z.free
    have HO := Lib.hid hO
    have HF := Lib.hid (hO.fin HSZ.out)
    clear hO HD H0
    cases hh : hasB d.n slot
    · have HE := Lib.hid (burst_no (d := d) (slot := slot) (at_ := at_) (decide_eq_false (fun h => by rw [hh] at h; exact absurd h.1 (by decide))) x)
      have HH := Lib.hid hh
      clear hh
      go_wp2_with fail
      refine (has_any _ _ _ _ _).mono ?_; rintro e w1 ⟨rfl, rfl⟩
      rw [HH.out]
      go_wp2
      refine bodyPost_ret (results_disk_err rfl _ _ (w.heap.size + 1) rfl HF.out.1) rfl (by rw [HE.out.1, HE.out.2]; exact ⟨A1, c1, B1, k1, rfl, HF.out.2.1, HF.out.2.2⟩)
    · have HH := Lib.hid hh
      obtain ⟨s0, s1⟩ := hasB_iff.1 hh
      obtain ⟨j, rfl⟩ : ∃ j : Nat, slot = j := ⟨slot.toNat, by omega⟩
      clear hh s0
      have hjn : j < d.n := by omega
      have hz := HSZ.out.zs j hjn
      by_cases h0 : at_ < 0
      · have g1 : decide (at_ < 0) = true := decide_eq_true h0
        have HE := Lib.hid (burst_no (d := d) (slot := (j : Int)) (at_ := at_) (decide_eq_false (fun h => by omega)) x)
        clear h0 hz
        go_wp2_with fail
        refine (has_any _ _ _ _ _).mono ?_; rintro e w1 ⟨rfl, rfl⟩
        rw [HH.out]
        go_wp2
        refine bodyPost_ret (results_disk_err rfl _ _ (w.heap.size + 1) rfl HF.out.1) rfl (by rw [HE.out.1, HE.out.2]; exact ⟨A1, c1, B1, k1, rfl, HF.out.2.1, HF.out.2.2⟩)
      · have g1 : decide (at_ < 0) = false := decide_eq_false h0
        have hjz : (j : Int) < (d.n : Int) := by omega
        obtain ⟨b, rfl, hlo, hH⟩ := (own_sl HO.out.s) (by omega)
        have hce := hH.cell hjn
        have hfr := hH.frozen hjn
        have hbx : b ≠ w.heap.size := hH.ne_ HO.out.fr.x (by decide)
        by_cases h2 : at_ ≤ 8 * (d.S j).size - 32
        rotate_left
        · have HE := Lib.hid (burst_no (d := d) (slot := (j : Int)) (at_ := at_) (decide_eq_false (fun h => h2 (by have := h.2.2; rwa [Int.toNat_natCast] at this))) x)
          have g2 : decide (at_ > 8 * ((d.S j).size : Int) - 32) = true := decide_eq_true (by omega)
          clear h0 h2
          go_wp2_with fail
          refine (has_any _ _ _ _ _).mono ?_; rintro e w1 ⟨rfl, rfl⟩
          rw [HH.out]
          go_wp2
          refine bodyPost_ret (results_disk_err rfl _ _ (w.heap.size + 1) rfl HF.out.1) rfl (by rw [HE.out.1, HE.out.2]; exact ⟨_, c1, B1, k1, rfl, HF.out.2.1, HF.out.2.2⟩)
        · obtain ⟨P, rfl⟩ : ∃ P : Nat, at_ = P := ⟨at_.toNat, by omega⟩
          have hm : mayBurst d (j : Int) (P : Int) = true := decide_eq_true ⟨HH.out, by omega, by rw [Int.toNat_natCast]; exact h2⟩
          have he := burst_yes hm x
          rw [Int.toNat_natCast, Int.toNat_natCast] at he
          have HE := Lib.hid he
          have HT : Hid (∀ W, Calls Try.prog 34 #[.string (d.S j), .int .i64 (P : Int), .int .u32 v] W fun e w' => e = .returned (.string (turnS (d.S j) x P)) ∧ Below W.heap.size W w') := Lib.hid (fun W => by
            have := turned_any (d.S j) hz P (by omega) x W
            rwa [HV.out] at this)
          have g2 : decide ((P : Int) > 8 * ((d.S j).size : Int) - 32) = false := decide_eq_false (by omega)
          have HI : Hid (Hit w wc d d.S (some ⟨b, 0, none⟩) c1 B1 k1) := Lib.hid HO.out.hit
          have K : Hid (∀ W, Below wc.heap.size wc W → W.cell? ⟨w.heap.size, 0, none⟩ = some (.slice (some ⟨b, 0, none⟩) d.n c1) ∧ W.cell? ⟨b, j, none⟩ = some (.string (d.S j)) ∧ W.frozen? ⟨b, j, none⟩ = false) := Lib.hid (fun W hb => ⟨(HI.out.up hb).fr.x.c0, (hH.below hb hH.lt).cell hjn, (hH.below hb hH.lt).frozen hjn⟩)
          have HSZ2 := Lib.hid (sz_with HSZ.out (setS_size (i := (j : Int)) (t := turnS (d.S j) x P) HSZ.out.zs (by rw [turnS_size]; exact hz)))
          clear hm he h0 h2 hlo hH
          go_wp2_with fail
          refine (has_any _ _ _ _ _).mono ?_; rintro e w1 ⟨rfl, rfl⟩
          rw [HH.out]
          go_upto_region 4 with fail
          clear u0 u1 u2 u3 z0 z1 z2 z3
          go_cut [] from 34 to 45 (fun wx => Hit w wx d (setS d.S (j : Int) (turnS (d.S j) x P)) (some ⟨b, 0, none⟩) c1 B1 k1)
          case first =>
            go_region_with
              ((go_at_call 34; (with_reducible refine Calls.mono (HT.out _) ?_); rintro e w3 ⟨rfl, hb3⟩; have B3 : Hid (Below wc.heap.size wc w3) := Lib.hid ⟨hb3.os, hb3.tape, hb3.output, hb3.size, hb3.block⟩; obtain ⟨q0, q1, q2⟩ := K.out _ B3.out))
            all_goals
              have HI2 := Lib.hid ((HI.out.up B3.out).set (j := j) (t := turnS (d.S j) x P) rfl hjn)
              go_wp2_with fail
              go_meet
              case rel => go_light; first | exact HI2.out | exact HI2.out.drew
          case rest =>
            obtain ⟨v0, v1, v2, v3⟩ := hcut.fr.x.cells
            obtain ⟨z0, z1, z2, z3⟩ := hcut.fr.z.cells
            obtain ⟨u0, u1, u2, u3⟩ := hcut.fr.z.free
            have HF2 := Lib.hid (hcut.fin HSZ2.out 0)
            clear hcut
            go_wp2
            refine bodyPost_ret (results_disk_err rfl _ _ (w.heap.size + 1) rfl HF2.out.1) rfl (by rw [HE.out.1, HE.out.2]; exact HF2.out.2)
end
end Go.Proofs.Ytefppiplkmhdmaa.Mat
