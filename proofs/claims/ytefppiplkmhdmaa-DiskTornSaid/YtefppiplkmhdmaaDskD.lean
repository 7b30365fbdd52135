/- A disk with rows of its own: walked. -/
import Derived.Test.YtefppiplkmhdmaaDskC
namespace Go.Proofs.Ytefppiplkmhdmaa.Mat
open Go.RowKit Fld

theorem own_up {w w' : World} {base size n : Nat} {e : TypeId} {v : Value} {l : List Value} (h : w.ownsRow base e size v n l) (hb : Below w.heap.size w w') : w'.ownsRow base e size v n l :=
  h.kept (grownBy_of_below hb none) (by cases hv : v.ownBlock <;> simp)
theorem own_low {w : World} {base base' size n : Nat} {e : TypeId} {v : Value} {l : List Value} (h : w.ownsRow base e size v n l) (hb : base' ≤ base) : w.ownsRow base' e size v n l := Go.Joins.ownsRow_le h hb
/-- a box with a disk whose rows are the call's own, and the result's box -/
structure Own (w W : World) (d : Dk) (A : Option Addr) (c : Nat) (B : Option Addr) (k : Nat) : Prop where
  fa : Fit A d.n c
  fr : D2 w W (.slice A d.n c) (.slice B d.m k) (.int .i64 d.fuse) (.bool d.off) (.slice none 0 0) (.slice none 0 0) (.int .i64 0) (.bool false)
  s : W.ownsRow w.heap.size 9 1 (.slice A d.n c) d.n (strs d.S d.n)
  t : W.ownsRow w.heap.size 55 2 (.slice B d.m k) d.m (pcs d.I d.T d.m)
theorem own_fin {w wb W : World} {d : Dk} {A B A' B' : Option Addr} {c k c' k' : Nat} (h : D2 w wb (.slice A d.n c) (.slice B d.m k) (.int .i64 d.fuse) (.bool d.off) (.slice none 0 0) (.slice none 0 0) (.int .i64 0) (.bool false)) (hb : Below wb.heap.size wb W) (hf : Fit A' d.n c')
    (hs : W.ownsRow wb.heap.size 9 1 (.slice A' d.n c') d.n (strs d.S d.n)) (ht : W.ownsRow wb.heap.size 55 2 (.slice B' d.m k') d.m (pcs d.I d.T d.m)) :
    Own w ((W.setCell ⟨w.heap.size, 0, none⟩ (.slice A' d.n c')).setCell ⟨w.heap.size, 1, none⟩ (.slice B' d.m k')) d A' c' B' k' ∧ Own w ((W.setCell ⟨w.heap.size, 1, none⟩ (.slice B' d.m k')).setCell ⟨w.heap.size, 0, none⟩ (.slice A' d.n c')) d A' c' B' k' := by
  have h1 := h.up hb
  have hl := h.x.lt_
  have hz := h.below.size
  exact ⟨⟨hf, (h1.x0 _).x1 _, own_low (ownsRow_setCell_below (ownsRow_setCell_below hs (a := ⟨w.heap.size, 0, none⟩) hl _) (a := ⟨w.heap.size, 1, none⟩) hl _) hz, own_low (ownsRow_setCell_below (ownsRow_setCell_below ht (a := ⟨w.heap.size, 0, none⟩) hl _) (a := ⟨w.heap.size, 1, none⟩) hl _) hz⟩,
    ⟨hf, (h1.x1 _).x0 _, own_low (ownsRow_setCell_below (ownsRow_setCell_below hs (a := ⟨w.heap.size, 1, none⟩) hl _) (a := ⟨w.heap.size, 0, none⟩) hl _) hz, own_low (ownsRow_setCell_below (ownsRow_setCell_below ht (a := ⟨w.heap.size, 1, none⟩) hl _) (a := ⟨w.heap.size, 0, none⟩) hl _) hz⟩⟩
theorem own_put4 {w : World} {base size n b : Nat} {e : TypeId} {v p q r s : Value} {l : List Value} (hx : Bx w b p q r s) (h : w.ownsRow base e size v n l) (hne : 25 ≠ e) (p' q' r' s' : Value) : (put4 w b p' q' r' s').ownsRow base e size v n l := by
  have hb : v.ownBlock ≠ some b := fun e => has_ne_own hx h hne e.symm
  exact ownsRow_setCell_other (ownsRow_setCell_other (ownsRow_setCell_other (ownsRow_setCell_other h (a := ⟨b, 0, none⟩) hb _) (a := ⟨b, 1, none⟩) hb _) (a := ⟨b, 2, none⟩) hb _) (a := ⟨b, 3, none⟩) hb _
def Owns (w : World) (d : Dk) (wc : World) : Prop := ∃ A c B k, Own w wc d A c B k
theorem DOk.drewN {w : World} {A B : Option Addr} {c k : Nat} {d : Dk} (h : DOk w A c B k d) (q : Nat) : DOk (w.drewN q) A c B k d := ⟨h.st, h.pc, h.fa, h.fb, h.sz⟩
theorem DOk.drew {w : World} {A B : Option Addr} {c k : Nat} {d : Dk} (h : DOk w A c B k d) : DOk w.drew A c B k d := ⟨h.st, h.pc, h.fa, h.fb, h.sz⟩
/-- behind the copying -/
theorem own_fin2 {w wb W : World} {d : Dk} {A B A' B' : Option Addr} {c k c' k' : Nat} (h : D2 w wb (.slice A d.n c) (.slice B d.m k) (.int .i64 d.fuse) (.bool d.off) (.slice none 0 0) (.slice none 0 0) (.int .i64 0) (.bool false)) (hb : Below wb.heap.size wb W) (hf : Fit A' d.n c')
    (hs : W.ownsRow wb.heap.size 9 1 (.slice A' d.n c') d.n (strs d.S d.n)) (ht : W.ownsRow wb.heap.size 55 2 (.slice B' d.m k') d.m (pcs d.I d.T d.m)) :
    Owns w d (put4 W w.heap.size (.slice A' d.n c') (.slice B' d.m k') (.int .i64 d.fuse) (.bool d.off)) := by
  have h1 := h.up hb
  have hz := h.below.size
  exact ⟨A', c', B', k', hf, h1.putx _ _ _ _, own_low (own_put4 h1.x hs (by decide) _ _ _ _) hz, own_low (own_put4 h1.x ht (by decide) _ _ _ _) hz⟩
theorem own_kind {w : World} {base size n : Nat} {e : TypeId} {v : Value} {l : List Value} (h : w.ownsRow base e size v n l) (g : Nat) (hv : v.ownBlock = some g) : ∃ c fz, w.heap[g]? = some (.cells c e fz) := by
  rcases h.2 with ⟨rfl, _⟩ | ⟨g', cap, cur, rfl, _, hh, _⟩
  · cases hv
  · have e : g' = g := by simpa [Value.ownBlock] using hv
    subst e
    exact ⟨_, _, hh⟩
theorem own_ne {w : World} {base base' size size' n n' : Nat} {e e' : TypeId} {v v' : Value} {l l' : List Value} (h : w.ownsRow base e size v n l) (h' : w.ownsRow base' e' size' v' n' l') (hne : e ≠ e') : v.ownBlock = none ∨ v.ownBlock ≠ v'.ownBlock := by
  cases hv : v.ownBlock with
  | none => exact .inl rfl
  | some g =>
    refine .inr (fun hh => ?_)
    obtain ⟨c, fz, h1⟩ := own_kind h g hv
    obtain ⟨c', fz', h2⟩ := own_kind h' g hh.symm
    rw [h1] at h2
    injection h2 with h2
    injection h2 with _ h2 _
    exact hne h2
section
variable {w W W' : World} {d : Dk} {A B : Option Addr} {c k : Nat}
theorem Own.x2 (h : Own w W d A c B k) (f : Int) : Own w (W.setCell ⟨w.heap.size, 2, none⟩ (.int .i64 f)) { d with fuse := f } A c B k :=
  have hs : ∀ {size n : Nat} {e : TypeId} {v : Value} {l : List Value}, W.ownsRow w.heap.size e size v n l → 25 ≠ e → (W.setCell ⟨w.heap.size, 2, none⟩ (.int .i64 f)).ownsRow w.heap.size e size v n l := fun ho hne => ownsRow_setCell_other ho (fun e => has_ne_own h.fr.x ho hne e.symm) _
  ⟨h.fa, h.fr.x2 _, hs h.s (by decide), hs h.t (by decide)⟩
theorem Own.x3 (h : Own w W d A c B k) (o : Bool) : Own w (W.setCell ⟨w.heap.size, 3, none⟩ (.bool o)) { d with off := o } A c B k :=
  have hs : ∀ {size n : Nat} {e : TypeId} {v : Value} {l : List Value}, W.ownsRow w.heap.size e size v n l → 25 ≠ e → (W.setCell ⟨w.heap.size, 3, none⟩ (.bool o)).ownsRow w.heap.size e size v n l := fun ho hne => ownsRow_setCell_other ho (fun e => has_ne_own h.fr.x ho hne e.symm) _
  ⟨h.fa, h.fr.x3 _, hs h.s (by decide), hs h.t (by decide)⟩
/-- a write stands behind the others -/
theorem Own.append (h : Own w W d A c B k) (o : Obj) (slot : Int) (s : ByteArray) {v' : Value} (hown : W'.ownsRow w.heap.size 55 2 v' (d.m + 1) (pcs d.I d.T d.m ++ [.int .i64 slot, .string s])) (hgrow : (W.alloc o).grownBy W' (Value.slice B d.m k).ownBlock) :
    ∃ B' k', v' = .slice B' (d.m + 1) k' ∧ W'.cell? ⟨w.heap.size, 1, none⟩ = some (.slice B d.m k) ∧ W'.frozen? ⟨w.heap.size, 1, none⟩ = false ∧ Own w (W'.setCell ⟨w.heap.size, 1, none⟩ (.slice B' (d.m + 1) k')) (addD d slot s d.fuse d.off) A c B' k' := by
  obtain ⟨B', k', rfl, hf⟩ := own_form hown
  have hr : ∀ g, (Value.slice B d.m k).ownBlock = some g → w.heap.size ≤ g := fun g hg => (h.t.lt g hg).1
  have h1 := (h.fr.alloc o).grown hgrow hr (fun e => has_ne_own (h.fr.x.alloc o) (h.t.alloc o) (by decide) e.symm) (fun e => has_ne_own (h.fr.z.alloc o) (h.t.alloc o) (by decide) e.symm)
  have hs := (h.s.alloc o).kept hgrow (own_ne h.s h.t (by decide))
  have e1 : pcs d.I d.T d.m ++ [.int .i64 slot, .string s] = pcs (addD d slot s d.fuse d.off).I (addD d slot s d.fuse d.off).T (d.m + 1) := by
    show _ = pcs (addD d slot s d.fuse d.off).I (addD d slot s d.fuse d.off).T d.m ++ [.int .i64 (if d.m = d.m then slot else d.I d.m), .string (if d.m = d.m then s else d.T d.m)]
    rw [if_pos rfl, if_pos rfl]
    congr 1
    exact pcs_congr (fun i hi => ⟨(if_neg (by omega)).symm, (if_neg (by omega)).symm⟩)
  rw [e1] at hown
  exact ⟨B', k', rfl, h1.x.c1, h1.x.free.2.1, h.fa, h1.x1 _, ownsRow_setCell_other hs (fun e => has_ne_own h1.x hs (by decide) e.symm) _, ownsRow_setCell_other hown (fun e => has_ne_own h1.x hown (by decide) e.symm) _⟩
/-- .. and is answered -/
theorem Own.fin (h : Own w W d A c B k) (hz : Sz d) : Bx (put4 W (w.heap.size + 1) (.slice A d.n c) (.slice B d.m k) (.int .i64 d.fuse) (.bool d.off)) (w.heap.size + 1) (.slice A d.n c) (.slice B d.m k) (.int .i64 d.fuse) (.bool d.off) ∧
    DOk (put4 W (w.heap.size + 1) (.slice A d.n c) (.slice B d.m k) (.int .i64 d.fuse) (.bool d.off)) A c B k d ∧ Below w.heap.size w (put4 W (w.heap.size + 1) (.slice A d.n c) (.slice B d.m k) (.int .i64 d.fuse) (.bool d.off)) := by
  have hp := h.fr.putz (.slice A d.n c) (.slice B d.m k) (.int .i64 d.fuse) (.bool d.off)
  have hs := own_put4 h.fr.z h.s (by decide) (.slice A d.n c) (.slice B d.m k) (.int .i64 d.fuse) (.bool d.off)
  have ht := own_put4 h.fr.z h.t (by decide) (.slice A d.n c) (.slice B d.m k) (.int .i64 d.fuse) (.bool d.off)
  exact ⟨hp.z, ⟨(own_sl hs).st, own_pc ht, h.fa, own_fit ht, hz⟩, hp.below⟩
end
section
variable {A B : Option Addr} {c k : Nat} {d : Dk} {w : World}
set_option maxRecDepth 100000 in
set_option maxHeartbeats 1600000 in
theorem apart_any (h : DOk w A c B k d) : Calls Try.prog 27 #[.agg #[.slice A d.n c, .slice B d.m k, .int .i64 d.fuse, .bool d.off]] w (OwnRet w d) := by
  have h0 := D2.start w (.slice A d.n c) (.slice B d.m k) (.int .i64 d.fuse) (.bool d.off) (.slice none 0 0) (.slice none 0 0) (.int .i64 0) (.bool false)
  have hd := h.up h0.below
  have HD := Lib.hid hd
  have H0 := Lib.hid h0
  clear h h0 hd
  go_enter Try.func27, Try.ntmps27
  go_upto_region 1 with fail
  generalize (w.alloc (.cells #[.slice A d.n c, .slice B d.m k, .int .i64 d.fuse, .bool d.off] 25)).alloc (.cells #[.slice none 0 0, .slice none 0 0, .int .i64 0, .bool false] 25) = wb at *
  obtain ⟨x0, x1, x2, x3⟩ := H0.out.x.cells
  obtain ⟨y0, y1, y2, y3⟩ := H0.out.x.free
  obtain ⟨z0, z1, z2, z3⟩ := H0.out.z.cells
  obtain ⟨u0, u1, u2, u3⟩ := H0.out.z.free
  have K : Hid (∀ W, Below wb.heap.size wb W → W.cell? ⟨w.heap.size, 0, none⟩ = some (.slice A d.n c) ∧ W.cell? ⟨w.heap.size, 1, none⟩ = some (.slice B d.m k) ∧ W.frozen? ⟨w.heap.size, 0, none⟩ = false ∧ W.frozen? ⟨w.heap.size, 1, none⟩ = false) :=
    Lib.hid (fun W hb => ⟨(H0.out.up hb).x.c0, (H0.out.up hb).x.c1, (H0.out.up hb).x.free.1, (H0.out.up hb).x.free.2.1⟩)
  go_cut [] from 3 to 10 (fun wc => Owns w d wc)
  case first =>
    go_region_with
    (first
      | (go_at_call 37; (first | (with_reducible refine Calls.mono (cloneS_any (HD.out.drew).st HD.out.fa (by have := HD.out.sz.bn; omega)) ?_) | (with_reducible refine Calls.mono (cloneS_any ((HD.out.up b4.out).st) HD.out.fa (by have := HD.out.sz.bn; omega)) ?_)); rintro e w3 ⟨A3, c3, rfl, hf3, ho3, hb3⟩; have b3 : Hid (Below wb.heap.size wb w3) := Lib.hid (by first | exact up_trans b4.out hb3 | exact ⟨hb3.os, hb3.tape, hb3.output, hb3.size, hb3.block⟩); obtain ⟨q0, q1, q2, q3⟩ := K.out _ b3.out)
      | (go_at_call 38; (first | (with_reducible refine Calls.mono (cloneW_any (HD.out.drew).pc HD.out.fb HD.out.sz.bm) ?_) | (with_reducible refine Calls.mono (cloneW_any ((HD.out.up b3.out).pc) HD.out.fb HD.out.sz.bm) ?_)); rintro e w4 ⟨B4, k4, rfl, hf4, ho4, hb4⟩; have b4 : Hid (Below wb.heap.size wb w4) := Lib.hid (by first | exact up_trans b3.out hb4 | exact ⟨hb4.os, hb4.tape, hb4.output, hb4.size, hb4.block⟩); obtain ⟨q0, q1, q2, q3⟩ := K.out _ b4.out))
    all_goals
      go_wp2_with fail
      go_meet
      case rel =>
        go_light
        first
          | exact ⟨_, _, _, _, (own_fin H0.out b4.out hf3 (own_up ho3 hb4) (own_low ho4 b3.out.size)).1⟩
          | exact ⟨_, _, _, _, (own_fin H0.out b4.out hf3 (own_up ho3 hb4) (own_low ho4 b3.out.size)).2⟩
          | exact ⟨_, _, _, _, (own_fin H0.out b3.out hf3 (own_low ho3 b4.out.size) (own_up ho4 hb3)).1⟩
          | exact ⟨_, _, _, _, (own_fin H0.out b3.out hf3 (own_low ho3 b4.out.size) (own_up ho4 hb3)).2⟩
  case rest =>
    obtain ⟨A', c', B', k', hO⟩ := hcut
    obtain ⟨x0, x1, x2, x3⟩ := hO.fr.x.cells
    obtain ⟨z0, z1, z2, z3⟩ := hO.fr.z.cells
    obtain ⟨u0, u1, u2, u3⟩ := hO.fr.z.free
    have HO := Lib.hid hO
    clear hO
    go_wp2
    have hp := HO.out.fr.putz (.slice A' d.n c') (.slice B' d.m k') (.int .i64 d.fuse) (.bool d.off)
    refine bodyPost_ret (results_disk rfl _ _ (w.heap.size + 1) rfl hp.z) rfl ⟨A', c', B', k', rfl, HO.out.fa, own_put4 HO.out.fr.z HO.out.s (by decide) _ _ _ _, own_put4 HO.out.fr.z HO.out.t (by decide) _ _ _ _, hp.below⟩
end
end Go.Proofs.Ytefppiplkmhdmaa.Mat
