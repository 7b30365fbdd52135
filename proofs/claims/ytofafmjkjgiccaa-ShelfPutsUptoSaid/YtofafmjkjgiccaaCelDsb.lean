/- XDskD XDskE, as far as this dump goes. -/
import Derived.Test.YtofafmjkjgiccaaCelDsa
/- A disk with rows of its own: walked. -/
namespace Go.Proofs.Ytofafmjkjgiccaa.Mat
open Go.RowKit Fld

theorem own_up {w w' : World} {base size n : Nat} {e : TypeId} {v : Value} {l : List Value} (h : w.ownsRow base e size v n l) (hb : Below w.heap.size w w') : w'.ownsRow base e size v n l :=
  h.kept (grownBy_of_below hb none) (by cases hv : v.ownBlock <;> simp)
theorem own_low {w : World} {base base' size n : Nat} {e : TypeId} {v : Value} {l : List Value} (h : w.ownsRow base e size v n l) (hb : base' ≤ base) : w.ownsRow base' e size v n l := Go.Joins.ownsRow_le h hb
/-- a box with a disk whose rows are the call's own, and the result's box -/
structure Own (w W : World) (d : Dk) (A : Option Addr) (c : Nat) (B : Option Addr) (k : Nat) : Prop where
  fa : Fit A d.n c
  fr : D2 w W (.slice A d.n c) (.slice B d.m k) (.int .i64 d.fuse) (.bool d.off) (.slice none 0 0) (.slice none 0 0) (.int .i64 0) (.bool false)
  s : W.ownsRow w.heap.size 9 1 (.slice A d.n c) d.n (strs d.S d.n)
  t : W.ownsRow w.heap.size 102 2 (.slice B d.m k) d.m (pcs d.I d.T d.m)
theorem own_fin {w wb W : World} {d : Dk} {A B A' B' : Option Addr} {c k c' k' : Nat} (h : D2 w wb (.slice A d.n c) (.slice B d.m k) (.int .i64 d.fuse) (.bool d.off) (.slice none 0 0) (.slice none 0 0) (.int .i64 0) (.bool false)) (hb : Below wb.heap.size wb W) (hf : Fit A' d.n c')
    (hs : W.ownsRow wb.heap.size 9 1 (.slice A' d.n c') d.n (strs d.S d.n)) (ht : W.ownsRow wb.heap.size 102 2 (.slice B' d.m k') d.m (pcs d.I d.T d.m)) :
    Own w ((W.setCell ⟨w.heap.size, 0, none⟩ (.slice A' d.n c')).setCell ⟨w.heap.size, 1, none⟩ (.slice B' d.m k')) d A' c' B' k' ∧ Own w ((W.setCell ⟨w.heap.size, 1, none⟩ (.slice B' d.m k')).setCell ⟨w.heap.size, 0, none⟩ (.slice A' d.n c')) d A' c' B' k' := by
  have h1 := h.up hb
  have hl := h.x.lt_
  have hz := h.below.size
  exact ⟨⟨hf, (h1.x0 _).x1 _, own_low (ownsRow_setCell_below (ownsRow_setCell_below hs (a := ⟨w.heap.size, 0, none⟩) hl _) (a := ⟨w.heap.size, 1, none⟩) hl _) hz, own_low (ownsRow_setCell_below (ownsRow_setCell_below ht (a := ⟨w.heap.size, 0, none⟩) hl _) (a := ⟨w.heap.size, 1, none⟩) hl _) hz⟩,
    ⟨hf, (h1.x1 _).x0 _, own_low (ownsRow_setCell_below (ownsRow_setCell_below hs (a := ⟨w.heap.size, 1, none⟩) hl _) (a := ⟨w.heap.size, 0, none⟩) hl _) hz, own_low (ownsRow_setCell_below (ownsRow_setCell_below ht (a := ⟨w.heap.size, 1, none⟩) hl _) (a := ⟨w.heap.size, 0, none⟩) hl _) hz⟩⟩
theorem own_put4 {w : World} {base size n b : Nat} {e : TypeId} {v p q r s : Value} {l : List Value} (hx : Bx w b p q r s) (h : w.ownsRow base e size v n l) (hne : 39 ≠ e) (p' q' r' s' : Value) : (put4 w b p' q' r' s').ownsRow base e size v n l := by
  have hb : v.ownBlock ≠ some b := fun e => has_ne_own hx h hne e.symm
  exact ownsRow_setCell_other (ownsRow_setCell_other (ownsRow_setCell_other (ownsRow_setCell_other h (a := ⟨b, 0, none⟩) hb _) (a := ⟨b, 1, none⟩) hb _) (a := ⟨b, 2, none⟩) hb _) (a := ⟨b, 3, none⟩) hb _
def Owns (w : World) (d : Dk) (wc : World) : Prop := ∃ A c B k, Own w wc d A c B k
theorem DOk.drewN {w : World} {A B : Option Addr} {c k : Nat} {d : Dk} (h : DOk w A c B k d) (q : Nat) : DOk (w.drewN q) A c B k d := ⟨h.st, h.pc, h.fa, h.fb, h.sz⟩
theorem DOk.drew {w : World} {A B : Option Addr} {c k : Nat} {d : Dk} (h : DOk w A c B k d) : DOk w.drew A c B k d := ⟨h.st, h.pc, h.fa, h.fb, h.sz⟩
/-- behind the copying -/
theorem own_fin2 {w wb W : World} {d : Dk} {A B A' B' : Option Addr} {c k c' k' : Nat} (h : D2 w wb (.slice A d.n c) (.slice B d.m k) (.int .i64 d.fuse) (.bool d.off) (.slice none 0 0) (.slice none 0 0) (.int .i64 0) (.bool false)) (hb : Below wb.heap.size wb W) (hf : Fit A' d.n c')
    (hs : W.ownsRow wb.heap.size 9 1 (.slice A' d.n c') d.n (strs d.S d.n)) (ht : W.ownsRow wb.heap.size 102 2 (.slice B' d.m k') d.m (pcs d.I d.T d.m)) :
    Owns w d (put4 W w.heap.size (.slice A' d.n c') (.slice B' d.m k') (.int .i64 d.fuse) (.bool d.off)) := by
  have h1 := h.up hb
  have hz := h.below.size
  exact ⟨A', c', B', k', hf, h1.putx _ _ _ _, own_low (own_put4 h1.x hs (by decide) _ _ _ _) hz, own_low (own_put4 h1.x ht (by decide) _ _ _ _) hz⟩
theorem own_kind {w : World} {base size n : Nat} {e : TypeId} {v : Value} {l : List Value} (h : w.ownsRow base e size v n l) (g : Nat) (hv : v.ownBlock = some g) : ∃ c fz, w.heap[g]? = some (.cells c e fz) := by
  rcases h.2 with ⟨rfl, _⟩ | ⟨g', cap, cur, rfl, _, hh, _⟩
  · cases hv
  · have e : g' = g := by simpa [Value.ownBlock] using hv
    subst e
    exact ⟨_, _, hh⟩
theorem own_ne {w : World} {base base' size size' n n' : Nat} {e e' : TypeId} {v v' : Value} {l l' : List Value} (h : w.ownsRow base e size v n l) (h' : w.ownsRow base' e' size' v' n' l') (hne : e ≠ e') : v.ownBlock = none ∨ v.ownBlock ≠ v'.ownBlock := by
  cases hv : v.ownBlock with
  | none => exact .inl rfl
  | some g =>
    refine .inr (fun hh => ?_)
    obtain ⟨c, fz, h1⟩ := own_kind h g hv
    obtain ⟨c', fz', h2⟩ := own_kind h' g hh.symm
    rw [h1] at h2
    injection h2 with h2
    injection h2 with _ h2 _
    exact hne h2
section
variable {w W W' : World} {d : Dk} {A B : Option Addr} {c k : Nat}
theorem Own.x2 (h : Own w W d A c B k) (f : Int) : Own w (W.setCell ⟨w.heap.size, 2, none⟩ (.int .i64 f)) { d with fuse := f } A c B k :=
  have hs : ∀ {size n : Nat} {e : TypeId} {v : Value} {l : List Value}, W.ownsRow w.heap.size e size v n l → 39 ≠ e → (W.setCell ⟨w.heap.size, 2, none⟩ (.int .i64 f)).ownsRow w.heap.size e size v n l := fun ho hne => ownsRow_setCell_other ho (fun e => has_ne_own h.fr.x ho hne e.symm) _
  ⟨h.fa, h.fr.x2 _, hs h.s (by decide), hs h.t (by decide)⟩
theorem Own.x3 (h : Own w W d A c B k) (o : Bool) : Own w (W.setCell ⟨w.heap.size, 3, none⟩ (.bool o)) { d with off := o } A c B k :=
  have hs : ∀ {size n : Nat} {e : TypeId} {v : Value} {l : List Value}, W.ownsRow w.heap.size e size v n l → 39 ≠ e → (W.setCell ⟨w.heap.size, 3, none⟩ (.bool o)).ownsRow w.heap.size e size v n l := fun ho hne => ownsRow_setCell_other ho (fun e => has_ne_own h.fr.x ho hne e.symm) _
  ⟨h.fa, h.fr.x3 _, hs h.s (by decide), hs h.t (by decide)⟩
/-- a write stands behind the others -/
theorem Own.append (h : Own w W d A c B k) (o : Obj) (slot : Int) (s : ByteArray) {v' : Value} (hown : W'.ownsRow w.heap.size 102 2 v' (d.m + 1) (pcs d.I d.T d.m ++ [.int .i64 slot, .string s])) (hgrow : (W.alloc o).grownBy W' (Value.slice B d.m k).ownBlock) :
    ∃ B' k', v' = .slice B' (d.m + 1) k' ∧ W'.cell? ⟨w.heap.size, 1, none⟩ = some (.slice B d.m k) ∧ W'.frozen? ⟨w.heap.size, 1, none⟩ = false ∧ Own w (W'.setCell ⟨w.heap.size, 1, none⟩ (.slice B' (d.m + 1) k')) (addD d slot s d.fuse d.off) A c B' k' := by
  obtain ⟨B', k', rfl, hf⟩ := own_form hown
  have hr : ∀ g, (Value.slice B d.m k).ownBlock = some g → w.heap.size ≤ g := fun g hg => (h.t.lt g hg).1
  have h1 := (h.fr.alloc o).grown hgrow hr (fun e => has_ne_own (h.fr.x.alloc o) (h.t.alloc o) (by decide) e.symm) (fun e => has_ne_own (h.fr.z.alloc o) (h.t.alloc o) (by decide) e.symm)
  have hs := (h.s.alloc o).kept hgrow (own_ne h.s h.t (by decide))
  have e1 : pcs d.I d.T d.m ++ [.int .i64 slot, .string s] = pcs (addD d slot s d.fuse d.off).I (addD d slot s d.fuse d.off).T (d.m + 1) := by
    show _ = pcs (addD d slot s d.fuse d.off).I (addD d slot s d.fuse d.off).T d.m ++ [.int .i64 (if d.m = d.m then slot else d.I d.m), .string (if d.m = d.m then s else d.T d.m)]
    rw [if_pos rfl, if_pos rfl]
    congr 1
    exact pcs_congr (fun i hi => ⟨(if_neg (by omega)).symm, (if_neg (by omega)).symm⟩)
  rw [e1] at hown
  exact ⟨B', k', rfl, h1.x.c1, h1.x.free.2.1, h.fa, h1.x1 _, ownsRow_setCell_other hs (fun e => has_ne_own h1.x hs (by decide) e.symm) _, ownsRow_setCell_other hown (fun e => has_ne_own h1.x hown (by decide) e.symm) _⟩
/-- .. and is answered -/
theorem Own.fin (h : Own w W d A c B k) (hz : Sz d) : Bx (put4 W (w.heap.size + 1) (.slice A d.n c) (.slice B d.m k) (.int .i64 d.fuse) (.bool d.off)) (w.heap.size + 1) (.slice A d.n c) (.slice B d.m k) (.int .i64 d.fuse) (.bool d.off) ∧
    DOk (put4 W (w.heap.size + 1) (.slice A d.n c) (.slice B d.m k) (.int .i64 d.fuse) (.bool d.off)) A c B k d ∧ Below w.heap.size w (put4 W (w.heap.size + 1) (.slice A d.n c) (.slice B d.m k) (.int .i64 d.fuse) (.bool d.off)) := by
  have hp := h.fr.putz (.slice A d.n c) (.slice B d.m k) (.int .i64 d.fuse) (.bool d.off)
  have hs := own_put4 h.fr.z h.s (by decide) (.slice A d.n c) (.slice B d.m k) (.int .i64 d.fuse) (.bool d.off)
  have ht := own_put4 h.fr.z h.t (by decide) (.slice A d.n c) (.slice B d.m k) (.int .i64 d.fuse) (.bool d.off)
  exact ⟨hp.z, ⟨(own_sl hs).st, own_pc ht, h.fa, own_fit ht, hz⟩, hp.below⟩
end
section
variable {A B : Option Addr} {c k : Nat} {d : Dk} {w : World}
set_option maxRecDepth 100000 in
set_option maxHeartbeats 1600000 in
theorem apart_any (h : DOk w A c B k d) : Calls Try.prog 69 #[.agg #[.slice A d.n c, .slice B d.m k, .int .i64 d.fuse, .bool d.off]] w (OwnRet w d) := by
  have h0 := D2.start w (.slice A d.n c) (.slice B d.m k) (.int .i64 d.fuse) (.bool d.off) (.slice none 0 0) (.slice none 0 0) (.int .i64 0) (.bool false)
  have hd := h.up h0.below
  have HD := Lib.hid hd
  have H0 := Lib.hid h0
  clear h h0 hd
  go_enter Try.func69, Try.ntmps69
  go_upto_region 1 with fail
  generalize (w.alloc (.cells #[.slice A d.n c, .slice B d.m k, .int .i64 d.fuse, .bool d.off] 39)).alloc (.cells #[.slice none 0 0, .slice none 0 0, .int .i64 0, .bool false] 39) = wb at *
  obtain ⟨x0, x1, x2, x3⟩ := H0.out.x.cells
  obtain ⟨y0, y1, y2, y3⟩ := H0.out.x.free
  obtain ⟨z0, z1, z2, z3⟩ := H0.out.z.cells
  obtain ⟨u0, u1, u2, u3⟩ := H0.out.z.free
  have K : Hid (∀ W, Below wb.heap.size wb W → W.cell? ⟨w.heap.size, 0, none⟩ = some (.slice A d.n c) ∧ W.cell? ⟨w.heap.size, 1, none⟩ = some (.slice B d.m k) ∧ W.frozen? ⟨w.heap.size, 0, none⟩ = false ∧ W.frozen? ⟨w.heap.size, 1, none⟩ = false) :=
    Lib.hid (fun W hb => ⟨(H0.out.up hb).x.c0, (H0.out.up hb).x.c1, (H0.out.up hb).x.free.1, (H0.out.up hb).x.free.2.1⟩)
  go_cut [] from 3 to 10 (fun wc => Owns w d wc)
  case first =>
    go_region_with
    (first
      | (go_at_call 67; (first | (with_reducible refine Calls.mono (cloneS_any (HD.out.drew).st HD.out.fa (by have := HD.out.sz.bn; omega)) ?_) | (with_reducible refine Calls.mono (cloneS_any ((HD.out.up b4.out).st) HD.out.fa (by have := HD.out.sz.bn; omega)) ?_)); rintro e w3 ⟨A3, c3, rfl, hf3, ho3, hb3⟩; have b3 : Hid (Below wb.heap.size wb w3) := Lib.hid (by first | exact up_trans b4.out hb3 | exact ⟨hb3.os, hb3.tape, hb3.output, hb3.size, hb3.block⟩); obtain ⟨q0, q1, q2, q3⟩ := K.out _ b3.out)
      | (go_at_call 68; (first | (with_reducible refine Calls.mono (cloneW_any (HD.out.drew).pc HD.out.fb HD.out.sz.bm) ?_) | (with_reducible refine Calls.mono (cloneW_any ((HD.out.up b3.out).pc) HD.out.fb HD.out.sz.bm) ?_)); rintro e w4 ⟨B4, k4, rfl, hf4, ho4, hb4⟩; have b4 : Hid (Below wb.heap.size wb w4) := Lib.hid (by first | exact up_trans b3.out hb4 | exact ⟨hb4.os, hb4.tape, hb4.output, hb4.size, hb4.block⟩); obtain ⟨q0, q1, q2, q3⟩ := K.out _ b4.out))
    all_goals
      go_wp2_with fail
      go_meet
      case rel =>
        go_light
        first
          | exact ⟨_, _, _, _, (own_fin H0.out b4.out hf3 (own_up ho3 hb4) (own_low ho4 b3.out.size)).1⟩
          | exact ⟨_, _, _, _, (own_fin H0.out b4.out hf3 (own_up ho3 hb4) (own_low ho4 b3.out.size)).2⟩
          | exact ⟨_, _, _, _, (own_fin H0.out b3.out hf3 (own_low ho3 b4.out.size) (own_up ho4 hb3)).1⟩
          | exact ⟨_, _, _, _, (own_fin H0.out b3.out hf3 (own_low ho3 b4.out.size) (own_up ho4 hb3)).2⟩
  case rest =>
    obtain ⟨A', c', B', k', hO⟩ := hcut
    obtain ⟨x0, x1, x2, x3⟩ := hO.fr.x.cells
    obtain ⟨z0, z1, z2, z3⟩ := hO.fr.z.cells
    obtain ⟨u0, u1, u2, u3⟩ := hO.fr.z.free
    have HO := Lib.hid hO
    clear hO
    go_wp2
    have hp := HO.out.fr.putz (.slice A' d.n c') (.slice B' d.m k') (.int .i64 d.fuse) (.bool d.off)
    refine bodyPost_ret (results_disk rfl _ _ (w.heap.size + 1) rfl hp.z) rfl ⟨A', c', B', k', rfl, HO.out.fa, own_put4 HO.out.fr.z HO.out.s (by decide) _ _ _ _, own_put4 HO.out.fr.z HO.out.t (by decide) _ _ _ _, hp.below⟩
end
end Go.Proofs.Ytofafmjkjgiccaa.Mat


/- Put: walked. -/
namespace Go.Proofs.Ytofafmjkjgiccaa.Mat
open Go.RowKit Fld

theorem sz_add {d : Dk} (h : Sz d) (hm : (d.m + 1) * 24 ≤ 140737488355328) {slot : Int} {s : ByteArray} (hs : s.size ≤ 140737488351232) {f : Int} (f0 : -9223372036854775808 ≤ f) (f1 : f ≤ 9223372036854775807) (o : Bool) : Sz (addD d slot s f o) :=
  ⟨h.bn, hm, h.zs, fun i hi => by
    show (if i = d.m then s else d.T i).size ≤ _
    by_cases e : i = d.m
    · rw [if_pos e]; exact hs
    · rw [if_neg e]; exact h.zt i (by have : i < d.m + 1 := hi; omega), f0, f1⟩
theorem two_news {w : World} (x y : Value) (t : TypeId) : ∀ j u, ([x, y] : List Value)[j]? = some u → (w.alloc (.cells #[x, y] t)).cell? ((⟨w.heap.size, 0, none⟩ : Addr).add j) = some u := by
  intro j u hu
  have hj : j = 0 ∨ j = 1 := by
    rcases Nat.lt_or_ge j 2 with h | h
    · omega
    · rw [List.getElem?_eq_none (by simp; omega)] at hu; cases hu
  have hh := has_new (n := 2) (f := fun j => if j = 0 then x else y) w #[x, y] t (fun j hj => by
    have : j = 0 ∨ j = 1 := by omega
    rcases this with rfl | rfl <;> rfl)
  rw [add_lit]
  rcases hj with rfl | rfl
  · rw [hh.cell (by omega)]; simpa using hu
  · rw [hh.cell (by omega)]; simpa using hu
section
variable {A B : Option Addr} {c k : Nat} {d : Dk} {w : World}
set_option maxRecDepth 100000 in
set_option maxHeartbeats 1600000 in
theorem put_any (h : DOk w A c B k d) (hm : (d.m + 1) * 24 ≤ 140737488355328) (slot : Int) (s : ByteArray) (hs : s.size ≤ 140737488351232) :
    Calls Try.prog 56 #[.agg #[.slice A d.n c, .slice B d.m k, .int .i64 d.fuse, .bool d.off], .int .i64 slot, .string s] w (DErr w (putD d slot s) (putE d slot s)) := by
  obtain ⟨i0, hi0, hz0, hz1, hz2⟩ := info_parts infoWrite
  have h0 := D2.start w (.slice A d.n c) (.slice B d.m k) (.int .i64 d.fuse) (.bool d.off) (.slice none 0 0) (.slice none 0 0) (.int .i64 0) (.bool false)
  have HD := Lib.hid (h.up h0.below)
  have HSZ := Lib.hid h.sz
  have HM := Lib.hid hm
  have HS := Lib.hid hs
  have H0 := Lib.hid h0
  clear h h0 hm hs
  go_enter Try.func56, Try.ntmps56
  go_upto_region 1 with fail
  generalize (w.alloc (.cells #[.slice A d.n c, .slice B d.m k, .int .i64 d.fuse, .bool d.off] 39)).alloc (.cells #[.slice none 0 0, .slice none 0 0, .int .i64 0, .bool false] 39) = wb at *
  go_cut [] from 8 to 9 (fun wc => Owns w d wc)
  case first =>
    obtain ⟨x0, x1, x2, x3⟩ := H0.out.x.cells
    go_wp2_with fail
    clear x0 x1 x2 x3
    refine (apart_any HD.out).mono ?_; rintro e w1 ⟨A1, c1, B1, k1, rfl, hf1, hs1, ho1, hb1⟩
    obtain ⟨x0, x1, x2, x3⟩ := (H0.out.up hb1).x.cells
    obtain ⟨u0, u1, u2, u3⟩ := (H0.out.up hb1).x.free
    have HO := Lib.hid (own_fin2 H0.out hb1 hf1 hs1 ho1)
    clear hf1 hs1 ho1 hb1
    go_wp2_with fail
    go_meet
    case rel => go_light; exact HO.out
  case rest =>
    obtain ⟨A1, c1, B1, k1, hO⟩ := hcut
    obtain ⟨x0, x1, x2, x3⟩ := hO.fr.x.cells
    obtain ⟨y0, y1, y2, y3⟩ := hO.fr.x.free
    obtain ⟨z0, z1, z2, z3⟩ := hO.fr.z.cells
    obtain ⟨u0, u1, u2, u3⟩ := hO.fr.z.free
    have HO := Lib.hid hO
    clear hO
    cases hoff : d.off
    rotate_left
    · have HE : Hid (putD d slot s = d ∧ putE d slot s = 6) := Lib.hid (by unfold putD putE; rw [if_pos hoff, if_pos hoff]; exact ⟨rfl, rfl⟩)
      have HF := Lib.hid (HO.out.fin HSZ.out)
      rw [hoff] at x3
      go_wp2
      rw [← hoff]
      refine bodyPost_ret (results_disk_err rfl _ _ (w.heap.size + 1) rfl HF.out.1) rfl (by rw [HE.out.1, HE.out.2]; exact ⟨A1, c1, B1, k1, rfl, HF.out.2.1, HF.out.2.2⟩)
    · rw [hoff] at x3
      have HOFF := Lib.hid hoff
      clear hoff
      cases hh : hasB d.n slot
      · have HE : Hid (putD d slot s = d ∧ putE d slot s = 1) := Lib.hid (by unfold putD putE; rw [HOFF.out, hh]; exact ⟨rfl, rfl⟩)
        have HH := Lib.hid hh
        have HF := Lib.hid (HO.out.fin HSZ.out)
        clear hh
        go_wp2_with fail
        refine (has_any _ _ _ _ _).mono ?_; rintro e w1 ⟨rfl, rfl⟩
        rw [HH.out]
        go_wp2
        rw [← HOFF.out]
        refine bodyPost_ret (results_disk_err rfl _ _ (w.heap.size + 1) rfl HF.out.1) rfl (by rw [HE.out.1, HE.out.2]; exact ⟨A1, c1, B1, k1, rfl, HF.out.2.1, HF.out.2.2⟩)
      · have HH := Lib.hid hh
        clear hh
        by_cases hbig : 1024 < s.size
        · have HE : Hid (putD d slot s = d ∧ putE d slot s = 4) := Lib.hid (by unfold putD putE; rw [HOFF.out, HH.out, if_pos hbig, if_pos hbig]; exact ⟨rfl, rfl⟩)
          have g1 : decide ((s.size : Int) > 1024) = true := by simp; omega
          have HF := Lib.hid (HO.out.fin HSZ.out)
          clear hbig
          go_wp2_with fail
          refine (has_any _ _ _ _ _).mono ?_; rintro e w1 ⟨rfl, rfl⟩
          rw [HH.out]
          go_wp2
          rw [← HOFF.out]
          refine bodyPost_ret (results_disk_err rfl _ _ (w.heap.size + 1) rfl HF.out.1) rfl (by rw [HE.out.1, HE.out.2]; exact ⟨A1, c1, B1, k1, rfl, HF.out.2.1, HF.out.2.2⟩)
        · have g1 : decide ((s.size : Int) > 1024) = false := by simp; omega
          have HBIG := Lib.hid hbig
          clear hbig
          go_wp2_with fail
          refine (has_any _ _ _ _ _).mono ?_; rintro e w1 ⟨rfl, rfl⟩
          rw [HH.out]
          clear H0 HD
          have hlen := pcs_len d.I d.T d.m
          have HLN := Lib.hid hlen
          clear hlen
          go_upto_region 8 with fail
          go_cut [] from 26 to 33 (fun wc => Owns w (addD d slot s d.fuse d.off) wc)
          case first =>
            go_wp2_with (at_builtin; refine wpList_append_own _ rfl (.tmp 27) (.tmp 31) 37 rfl w.heap.size 102 i0 (.agg #[.int .i64 0, .string ByteArray.empty]) 2 24 Try.underlying37 hi0 hz0 hz1 hz2 rfl (by decide) _ _ _ rfl (HO.out.t.alloc _) ⟨wc.heap.size, 0, none⟩ 1 1 [.int .i64 slot, .string s] rfl rfl (two_news _ _ _) (by simp [Value.oneCell']) (by have := HM.out; unfold maxLen; omega) (by have := HM.out; omega) (by rw [size_alloc]; have := HO.out.fr.below.size; omega) ?_)
            intro v' w' hown hgrow _
            obtain ⟨B2, k2, rfl, q1, q2, hO2⟩ := HO.out.append _ slot s hown hgrow
            have HO2 := Lib.hid hO2
            clear hown hgrow hO2
            go_wp2_with fail
            go_meet
            case rel => go_light; exact ⟨_, _, _, _, HO2.out⟩
          case rest =>
            obtain ⟨A2, c2, B2, k2, hO2⟩ := hcut
            have x0 : wc.cell? ⟨w.heap.size, 0, none⟩ = some (.slice A2 d.n c2) := hO2.fr.x.c0
            have x1 : wc.cell? ⟨w.heap.size, 1, none⟩ = some (.slice B2 (d.m + 1) k2) := hO2.fr.x.c1
            have x2 : wc.cell? ⟨w.heap.size, 2, none⟩ = some (.int .i64 d.fuse) := hO2.fr.x.c2
            have x3 : wc.cell? ⟨w.heap.size, 3, none⟩ = some (.bool false) := by rw [← HOFF.out]; exact hO2.fr.x.c3
            obtain ⟨y0, y1, y2, y3⟩ := hO2.fr.x.free
            obtain ⟨z0, z1, z2, z3⟩ := hO2.fr.z.cells
            obtain ⟨u0, u1, u2, u3⟩ := hO2.fr.z.free
            have HO2 := Lib.hid hO2
            clear hO2 HO
            have hfl := HSZ.out.fl
            have hfh := HSZ.out.fh
            by_cases h0 : d.fuse = 0
            · have HE : Hid (putD d slot s = addD d slot s 0 true ∧ putE d slot s = 6) := Lib.hid (by unfold putD putE; rw [HOFF.out, HH.out, if_neg HBIG.out, if_neg HBIG.out, if_pos h0, if_pos h0]; exact ⟨rfl, rfl⟩)
              have hO3 := HO2.out.x3 true
              change Own w _ (addD d slot s d.fuse true) A2 c2 B2 k2 at hO3
              rw [h0] at hO3
              have HF := Lib.hid (hO3.fin (sz_add HSZ.out HM.out HS.out (by omega) (by omega) true))
              have g2 : (d.fuse == 0) = true := by rw [h0]; rfl
              rw [h0] at x2
              clear hO3 h0 HO2 hfl hfh g2
              go_wp2
              refine bodyPost_ret (results_disk_err rfl _ _ (w.heap.size + 1) rfl HF.out.1) rfl (by rw [HE.out.1, HE.out.2]; exact ⟨A2, c2, B2, k2, rfl, HF.out.2.1, HF.out.2.2⟩)
            · by_cases h1 : 0 < d.fuse
              · have HE : Hid (putD d slot s = addD d slot s (d.fuse - 1) false ∧ putE d slot s = 0) := Lib.hid (by unfold putD putE; rw [HOFF.out, HH.out, if_neg HBIG.out, if_neg HBIG.out, if_neg h0, if_neg h0, if_pos h1]; exact ⟨rfl, rfl⟩)
                have hO3 := HO2.out.x2 (d.fuse - 1)
                change Own w _ (addD d slot s (d.fuse - 1) d.off) A2 c2 B2 k2 at hO3
                rw [HOFF.out] at hO3
                have HF := Lib.hid (hO3.fin (sz_add HSZ.out HM.out HS.out (by omega) (by omega) false))
                have g2 : (d.fuse == 0) = false := by rw [beq_eq_false_iff_ne]; exact h0
                have g3 : decide (d.fuse > 0) = true := decide_eq_true h1
                clear hO3 HO2
                go_wp2
                refine bodyPost_ret (results_disk_err rfl _ _ (w.heap.size + 1) rfl HF.out.1) rfl (by rw [HE.out.1, HE.out.2]; exact ⟨A2, c2, B2, k2, rfl, HF.out.2.1, HF.out.2.2⟩)
              · have HE : Hid (putD d slot s = addD d slot s d.fuse false ∧ putE d slot s = 0) := Lib.hid (by unfold putD putE; rw [HOFF.out, HH.out, if_neg HBIG.out, if_neg HBIG.out, if_neg h0, if_neg h0, if_neg h1]; exact ⟨rfl, rfl⟩)
                have hO3 := HO2.out
                change Own w _ (addD d slot s d.fuse d.off) A2 c2 B2 k2 at hO3
                rw [HOFF.out] at hO3
                have HF := Lib.hid (hO3.fin (sz_add HSZ.out HM.out HS.out (by omega) (by omega) false))
                have g2 : (d.fuse == 0) = false := by rw [beq_eq_false_iff_ne]; exact h0
                have g3 : decide (d.fuse > 0) = false := decide_eq_false h1
                clear hO3 HO2
                go_wp2
                refine bodyPost_ret (results_disk_err rfl _ _ (w.heap.size + 1) rfl HF.out.1) rfl (by rw [HE.out.1, HE.out.2]; exact ⟨A2, c2, B2, k2, rfl, HF.out.2.1, HF.out.2.2⟩)
end
end Go.Proofs.Ytofafmjkjgiccaa.Mat

