/- Flush and Arm: walked. -/
import Derived.Test.YtefppiplkmhdmaaDskG
namespace Go.Proofs.Ytefppiplkmhdmaa.Mat
open Go.RowKit Fld

/-- a box with a disk whose slots are the call's own, and the result's box -/
structure Done (w W : World) (d : Dk) (A : Option Addr) (c : Nat) (B : Option Addr) (k : Nat) : Prop where
  fa : Fit A d.n c
  fr : Raw w W d A c B k
  sl : Sl W w.heap.size A d.n d.S
theorem sl_put4 {w : World} {base n b : Nat} {A : Option Addr} {S : Nat → ByteArray} {p q r s : Value} (hx : Bx w b p q r s) (h : Sl w base A n S) (p' q' r' s' : Value) : Sl (put4 w b p' q' r' s') base A n S := fun hn => by
  obtain ⟨g, e, hb, hh⟩ := h hn
  have hne : g ≠ b := hh.ne_ hx (by decide)
  exact ⟨g, e, hb, (((hh.setOther (a := ⟨b, 0, none⟩) hne _).setOther (a := ⟨b, 1, none⟩) hne _).setOther (a := ⟨b, 2, none⟩) hne _).setOther (a := ⟨b, 3, none⟩) hne _⟩
theorem sl_set {w : World} {base n b : Nat} {A : Option Addr} {S : Nat → ByteArray} {p q r s : Value} (hx : Bx w b p q r s) (h : Sl w base A n S) (o : Nat) (v : Value) : Sl (w.setCell ⟨b, o, none⟩ v) base A n S := fun hn => by
  obtain ⟨g, e, hb, hh⟩ := h hn
  exact ⟨g, e, hb, hh.setOther (a := ⟨b, o, none⟩) (hh.ne_ hx (by decide)) _⟩
/-- all is done, and none waits -/
theorem sz_done {d : Dk} (h : Sz d) {S : Nat → ByteArray} (hs : ∀ i, i < d.n → (S i).size ≤ 140737488351232) {f : Int} (f0 : -9223372036854775808 ≤ f) (f1 : f ≤ 9223372036854775807) (o : Bool) : Sz (doneD d S f o) :=
  ⟨h.bn, by show 0 * 24 ≤ _; omega, hs, fun i hi => absurd hi (Nat.not_lt_zero i), f0, f1⟩
theorem setS_size {S : Nat → ByteArray} {i : Int} {t : ByteArray} {n : Nat} (h : ∀ i, i < n → (S i).size ≤ 140737488351232) (ht : t.size ≤ 140737488351232) : ∀ j, j < n → (setS S i t j).size ≤ 140737488351232 := fun j hj => by
  unfold setS
  by_cases e : (j : Int) = i
  · rw [if_pos e]; exact ht
  · rw [if_neg e]; exact h j hj
theorem doS_size {I : Nat → Int} {T S : Nat → ByteArray} {n m : Nat} (h : ∀ i, i < n → (S i).size ≤ 140737488351232) (ht : ∀ i, i < m → (T i).size ≤ 140737488351232) : ∀ r, r ≤ m → ∀ j, j < n → (doS I T S r j).size ≤ 140737488351232
  | 0, _, j, hj => h j hj
  | r + 1, hr, j, hj => setS_size (doS_size h ht r (by omega)) (ht r (by omega)) j hj
section
variable {w W W' : World} {d : Dk} {A B : Option Addr} {c k : Nat} {S : Nat → ByteArray}
theorem Done.fin (h : Done w W (doneD d S d.fuse d.off) A c none 0) (hz : Sz (doneD d S d.fuse d.off)) (f : Int) (o : Bool) (hf : Sz (doneD d S f o)) :
    Bx (put4 W (w.heap.size + 1) (.slice A d.n c) (.slice none 0 0) (.int .i64 f) (.bool o)) (w.heap.size + 1) (.slice A d.n c) (.slice none 0 0) (.int .i64 f) (.bool o) ∧
    DOk (put4 W (w.heap.size + 1) (.slice A d.n c) (.slice none 0 0) (.int .i64 f) (.bool o)) A c none 0 (doneD d S f o) ∧ Below w.heap.size w (put4 W (w.heap.size + 1) (.slice A d.n c) (.slice none 0 0) (.int .i64 f) (.bool o)) := by
  have _ := hz
  have hp := D2.putz h.fr (.slice A d.n c) (.slice none 0 0) (.int .i64 f) (.bool o)
  have hs := sl_put4 h.fr.z h.sl (.slice A d.n c) (.slice none 0 0) (.int .i64 f) (.bool o)
  exact ⟨hp.z, ⟨hs.st, fun hh => absurd hh (Nat.lt_irrefl 0), h.fa, ⟨Nat.le_refl _, fun _ => rfl⟩, hf⟩, hp.below⟩
/-- what waits, whatever is written into the slots -/
theorem own_stays {base : Nat} {n m : Nat} {I : Nat → Int} {T : Nat → ByteArray} (ho : W.ownsRow base 55 2 (.slice B m k) m (pcs I T m)) (hs : Sl W base A n S) : ∀ W', W.grownBy W' (blk A n) → Pc W' W'.heap.size B m I T := fun W' hg => by
  refine own_pc (ho.kept hg ?_)
  cases hv : (Value.slice B m k).ownBlock with
  | none => exact .inl rfl
  | some g =>
    obtain ⟨c', fz, hh⟩ := own_kind ho g hv
    obtain ⟨lo, hi⟩ := fz
    have hx : Has W g 55 0 (fun _ => undef) := ⟨c', lo, hi, hh, .inr (Nat.zero_le _), fun i hi => absurd hi (Nat.not_lt_zero i)⟩
    exact .inr (hs.blk_ne hx (by decide))
/-- behind the writes -/
theorem Own.wrote (h : Own w W d A c B k) {S' : Nat → ByteArray} (hs : Sl W' w.heap.size A d.n S') (hg : W.grownBy W' (blk A d.n)) : Raw w W' d A c B k ∧ Sl W' w.heap.size A d.n S' ∧ Pc W' W'.heap.size B d.m d.I d.T :=
  have h1 := own_sl h.s
  ⟨h.fr.grown hg (fun g hg => (h1.blk g hg).1) (fun e => h1.blk_ne h.fr.x (by decide) e.symm) (fun e => h1.blk_ne h.fr.z (by decide) e.symm), hs, own_stays h.t h1 W' hg⟩
theorem flush_on (h : d.off = false) : flushD d = doneD d (doS d.I d.T d.S d.m) d.fuse false ∧ flushE d = 0 := by unfold flushD flushE; rw [h]; exact ⟨rfl, rfl⟩
theorem flush_off (h : d.off = true) : flushD d = d ∧ flushE d = 6 := by unfold flushD flushE; rw [if_pos h, if_pos h]; exact ⟨rfl, rfl⟩

set_option maxRecDepth 100000 in
set_option maxHeartbeats 1600000 in
theorem flush_any (h : DOk w A c B k d) : Calls Try.prog 15 #[.agg #[.slice A d.n c, .slice B d.m k, .int .i64 d.fuse, .bool d.off]] w (DErr w (flushD d) (flushE d)) := by
  have h0 := D2.start w (.slice A d.n c) (.slice B d.m k) (.int .i64 d.fuse) (.bool d.off) (.slice none 0 0) (.slice none 0 0) (.int .i64 0) (.bool false)
  have HD := Lib.hid (h.up h0.below)
  have HSZ := Lib.hid h.sz
  have H0 := Lib.hid h0
  clear h h0
  go_enter Try.func15, Try.ntmps15
  go_upto_region 1 with fail
  generalize (w.alloc (.cells #[.slice A d.n c, .slice B d.m k, .int .i64 d.fuse, .bool d.off] 25)).alloc (.cells #[.slice none 0 0, .slice none 0 0, .int .i64 0, .bool false] 25) = wb at *
  go_cut [] from 4 to 5 (fun wc => Owns w d wc)
  case first =>
    obtain ⟨x0, x1, x2, x3⟩ := H0.out.x.cells
    go_wp2_with fail
    clear x0 x1 x2 x3
    refine (apart_any HD.out).mono ?_; rintro e w1 ⟨A1, c1, B1, k1, rfl, hf1, hs1, ho1, hb1⟩
    obtain ⟨x0, x1, x2, x3⟩ := (H0.out.up hb1).x.cells
    obtain ⟨u0, u1, u2, u3⟩ := (H0.out.up hb1).x.free
    have HO := Lib.hid (own_fin2 H0.out hb1 hf1 hs1 ho1)
    clear hf1 hs1 ho1 hb1
    go_wp2_with fail
    go_meet
    case rel => go_light; exact HO.out
  case rest =>
    obtain ⟨A1, c1, B1, k1, hO⟩ := hcut
    obtain ⟨x0, x1, x2, x3⟩ := hO.fr.x.cells
    obtain ⟨y0, y1, y2, y3⟩ := hO.fr.x.free
    obtain ⟨z0, z1, z2, z3⟩ := hO.fr.z.cells
    obtain ⟨u0, u1, u2, u3⟩ := hO.fr.z.free
    have HO := Lib.hid hO
    clear hO
    cases hoff : d.off
    rotate_left
    · have HE := Lib.hid (flush_off hoff)
      have HF := Lib.hid (HO.out.fin HSZ.out)
      rw [hoff] at x3
      go_wp2
      rw [← hoff]
      refine bodyPost_ret (results_disk_err rfl _ _ (w.heap.size + 1) rfl HF.out.1) rfl (by rw [HE.out.1, HE.out.2]; exact ⟨A1, c1, B1, k1, rfl, HF.out.2.1, HF.out.2.2⟩)
    · rw [hoff] at x3
      have HE := Lib.hid (flush_on hoff)
      have HOFF := Lib.hid hoff
      clear hoff u0 u1 u2 u3 z0 z1 z2 z3 y0 y1 y2 y3
      go_wp2_with fail
      clear x0 x1 x2 x3
      refine (do_any (own_sl HO.out.s) (own_stays HO.out.t (own_sl HO.out.s)) (by have := HSZ.out.bn; omega) (by have := HSZ.out.bm; omega) _ _ d.m (Nat.le_refl _)).mono ?_; rintro e w2 ⟨rfl, hs2, hg2⟩
      obtain ⟨h2, hs3, _⟩ := HO.out.wrote hs2 hg2
      have HSZ2 := Lib.hid (doS_size HSZ.out.zs HSZ.out.zt d.m (Nat.le_refl _) (I := d.I))
      have hD2 : Done w (w2.setCell ⟨w.heap.size, 1, none⟩ (.slice none 0 0)) (doneD d (doS d.I d.T d.S d.m) d.fuse d.off) A1 c1 none 0 := ⟨HO.out.fa, h2.x1 _, sl_set h2.x hs3 1 _⟩
      have HF := Lib.hid (hD2.fin (sz_done HSZ.out HSZ2.out HSZ.out.fl HSZ.out.fh _) d.fuse false (sz_done HSZ.out HSZ2.out HSZ.out.fl HSZ.out.fh _))
      obtain ⟨x0, x1, x2, x3⟩ := h2.x.cells
      obtain ⟨y0, y1, y2, y3⟩ := h2.x.free
      obtain ⟨z0, z1, z2, z3⟩ := h2.z.cells
      obtain ⟨u0, u1, u2, u3⟩ := h2.z.free
      rw [HOFF.out] at x3
      clear h2 hs3 hs2 hg2 hD2 HSZ2
      go_wp2
      refine bodyPost_ret (results_disk_err rfl _ _ (w.heap.size + 1) rfl HF.out.1) rfl (by rw [HE.out.1, HE.out.2]; exact ⟨A1, c1, none, 0, rfl, HF.out.2.1, HF.out.2.2⟩)

theorem arm_eq (f : Int) : armD d f = { d with fuse := if f < 0 then -1 else f } := rfl
set_option maxRecDepth 100000 in
set_option maxHeartbeats 1600000 in
theorem arm_any (h : DOk w A c B k d) (f : Int) (f0 : -9223372036854775808 ≤ f) (f1 : f ≤ 9223372036854775807) : Calls Try.prog 22 #[.agg #[.slice A d.n c, .slice B d.m k, .int .i64 d.fuse, .bool d.off], .int .i64 f] w (DRet w (armD d f)) := by
  have h0 := D2.start w (.slice A d.n c) (.slice B d.m k) (.int .i64 d.fuse) (.bool d.off) (.slice none 0 0) (.slice none 0 0) (.int .i64 0) (.bool false)
  have HD := Lib.hid (h.up h0.below)
  have HSZ := Lib.hid h.sz
  have H0 := Lib.hid h0
  clear h h0
  go_enter Try.func22, Try.ntmps22
  go_upto_region 1 with fail
  generalize (w.alloc (.cells #[.slice A d.n c, .slice B d.m k, .int .i64 d.fuse, .bool d.off] 25)).alloc (.cells #[.slice none 0 0, .slice none 0 0, .int .i64 0, .bool false] 25) = wb at *
  go_cut [] from 5 to 6 (fun wc => Owns w d wc)
  case first =>
    obtain ⟨x0, x1, x2, x3⟩ := H0.out.x.cells
    go_wp2_with fail
    clear x0 x1 x2 x3
    refine (apart_any HD.out).mono ?_; rintro e w1 ⟨A1, c1, B1, k1, rfl, hf1, hs1, ho1, hb1⟩
    obtain ⟨x0, x1, x2, x3⟩ := (H0.out.up hb1).x.cells
    obtain ⟨u0, u1, u2, u3⟩ := (H0.out.up hb1).x.free
    have HO := Lib.hid (own_fin2 H0.out hb1 hf1 hs1 ho1)
    clear hf1 hs1 ho1 hb1
    go_wp2_with fail
    go_meet
    case rel => go_light; exact HO.out
  case rest =>
    obtain ⟨A1, c1, B1, k1, hO⟩ := hcut
    obtain ⟨x0, x1, x2, x3⟩ := hO.fr.x.cells
    obtain ⟨y0, y1, y2, y3⟩ := hO.fr.x.free
    obtain ⟨z0, z1, z2, z3⟩ := hO.fr.z.cells
    obtain ⟨u0, u1, u2, u3⟩ := hO.fr.z.free
    have HF : Hid (∀ g : Int, g = (if f < 0 then -1 else f) → Bx (put4 (wc.setCell ⟨w.heap.size, 2, none⟩ (.int .i64 g)) (w.heap.size + 1) (.slice A1 d.n c1) (.slice B1 d.m k1) (.int .i64 g) (.bool d.off)) (w.heap.size + 1) (.slice A1 d.n c1) (.slice B1 d.m k1) (.int .i64 g) (.bool d.off) ∧
        DRet w (armD d f) (.returned (.agg #[.slice A1 d.n c1, .slice B1 d.m k1, .int .i64 g, .bool d.off])) (put4 (wc.setCell ⟨w.heap.size, 2, none⟩ (.int .i64 g)) (w.heap.size + 1) (.slice A1 d.n c1) (.slice B1 d.m k1) (.int .i64 g) (.bool d.off))) := Lib.hid (fun g hg => by
      subst hg
      have hO2 : Own w _ (armD d f) A1 c1 B1 k1 := hO.x2 (if f < 0 then -1 else f)
      have hz : Sz (armD d f) := ⟨HSZ.out.bn, HSZ.out.bm, HSZ.out.zs, HSZ.out.zt, by show _ ≤ (if f < 0 then -1 else f); split <;> omega, by show (if f < 0 then -1 else f) ≤ _; split <;> omega⟩
      have hf := hO2.fin hz
      exact ⟨hf.1, A1, c1, B1, k1, rfl, hf.2.1, hf.2.2⟩)
    clear hO
    go_wp2
    all_goals
      first
        | (have hg : (-1 : Int) = (if f < 0 then -1 else f) := by split <;> omega
           refine bodyPost_ret (results_disk rfl _ _ (w.heap.size + 1) rfl (HF.out _ hg).1) rfl (HF.out _ hg).2)
        | (have hg : f = (if f < 0 then -1 else f) := by split <;> omega
           refine bodyPost_ret (results_disk rfl _ _ (w.heap.size + 1) rfl (HF.out _ hg).1) rfl (HF.out _ hg).2)
end
end Go.Proofs.Ytefppiplkmhdmaa.Mat
