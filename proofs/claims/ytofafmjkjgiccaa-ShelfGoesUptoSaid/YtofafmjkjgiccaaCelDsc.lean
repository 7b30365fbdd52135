/- XDskF XDskG, as far as this dump goes. -/
import Derived.Test.YtofafmjkjgiccaaCelDsb
import Derived.Laws.AppendOwnNone
import Derived.ScopeJumps
/- The document's Put: walked. -/
namespace Go.Proofs.Ytofafmjkjgiccaa.Mat
open Go.RowKit Fld

theorem two_news2 {w : World} {o : Obj} (x y : Value) (t : TypeId) : ∀ j u, ([x, y] : List Value)[j]? = some u → ((w.alloc o).alloc (.cells #[x, y] t)).cell? ((⟨w.heap.size + 1, 0, none⟩ : Addr).add j) = some u := by
  have := two_news (w := w.alloc o) x y t
  rwa [size_alloc] at this
/-- a box with the caller's disk, and the result's box -/
abbrev Raw (w W : World) (d : Dk) (A : Option Addr) (c : Nat) (B : Option Addr) (k : Nat) : Prop := D2 w W (.slice A d.n c) (.slice B d.m k) (.int .i64 d.fuse) (.bool d.off) (.slice none 0 0) (.slice none 0 0) (.int .i64 0) (.bool false)
section
variable {w W W' : World} {d : Dk} {A B : Option Addr} {c k : Nat}
theorem raw_fin (h : Raw w W d A c B k) (hd : DOk w A c B k d) : Bx (put4 W (w.heap.size + 1) (.slice A d.n c) (.slice B d.m k) (.int .i64 d.fuse) (.bool d.off)) (w.heap.size + 1) (.slice A d.n c) (.slice B d.m k) (.int .i64 d.fuse) (.bool d.off) ∧
    DOk (put4 W (w.heap.size + 1) (.slice A d.n c) (.slice B d.m k) (.int .i64 d.fuse) (.bool d.off)) A c B k d ∧ Below w.heap.size w (put4 W (w.heap.size + 1) (.slice A d.n c) (.slice B d.m k) (.int .i64 d.fuse) (.bool d.off)) :=
  have hp := D2.putz h (.slice A d.n c) (.slice B d.m k) (.int .i64 d.fuse) (.bool d.off)
  ⟨hp.z, hd.up hp.below, hp.below⟩
/-- .. whose writes are the call's own -/
structure Half (w W : World) (d : Dk) (A : Option Addr) (c : Nat) (B : Option Addr) (k : Nat) : Prop where
  fa : Fit A d.n c
  st : St w w.heap.size A d.n d.S
  fr : Raw w W d A c B k
  t : W.ownsRow w.heap.size 102 2 (.slice B d.m k) d.m (pcs d.I d.T d.m)
theorem Half.x2 (h : Half w W d A c B k) (f : Int) : Half w (W.setCell ⟨w.heap.size, 2, none⟩ (.int .i64 f)) { d with fuse := f } A c B k :=
  ⟨h.fa, h.st, h.fr.x2 _, ownsRow_setCell_other h.t (fun e => has_ne_own h.fr.x h.t (by decide) e.symm) _⟩
theorem Half.x3 (h : Half w W d A c B k) (o : Bool) : Half w (W.setCell ⟨w.heap.size, 3, none⟩ (.bool o)) { d with off := o } A c B k :=
  ⟨h.fa, h.st, h.fr.x3 _, ownsRow_setCell_other h.t (fun e => has_ne_own h.fr.x h.t (by decide) e.symm) _⟩
theorem Half.fin (h : Half w W d A c B k) (hz : Sz d) : Bx (put4 W (w.heap.size + 1) (.slice A d.n c) (.slice B d.m k) (.int .i64 d.fuse) (.bool d.off)) (w.heap.size + 1) (.slice A d.n c) (.slice B d.m k) (.int .i64 d.fuse) (.bool d.off) ∧
    DOk (put4 W (w.heap.size + 1) (.slice A d.n c) (.slice B d.m k) (.int .i64 d.fuse) (.bool d.off)) A c B k d ∧ Below w.heap.size w (put4 W (w.heap.size + 1) (.slice A d.n c) (.slice B d.m k) (.int .i64 d.fuse) (.bool d.off)) := by
  have hp := D2.putz h.fr (.slice A d.n c) (.slice B d.m k) (.int .i64 d.fuse) (.bool d.off)
  have ht := own_put4 h.fr.z h.t (by decide) (.slice A d.n c) (.slice B d.m k) (.int .i64 d.fuse) (.bool d.off)
  exact ⟨hp.z, ⟨h.st.up hp.below, own_pc ht, h.fa, own_fit ht, hz⟩, hp.below⟩
theorem pcs_add (d : Dk) (slot : Int) (s : ByteArray) (f : Int) (o : Bool) : pcs d.I d.T d.m ++ [.int .i64 slot, .string s] = pcs (addD d slot s f o).I (addD d slot s f o).T (d.m + 1) := by
  show _ = pcs (addD d slot s f o).I (addD d slot s f o).T d.m ++ [.int .i64 (if d.m = d.m then slot else d.I d.m), .string (if d.m = d.m then s else d.T d.m)]
  rw [if_pos rfl, if_pos rfl]
  congr 1
  exact pcs_congr (fun i hi => ⟨(if_neg (by omega)).symm, (if_neg (by omega)).symm⟩)
/-- the copy, and then the write behind it -/
theorem half_copy (h : Raw w W d A c B k) {W1 : World} (hgrow : (W.alloc (.cells #[] 102)).grownBy W1 (Value.slice (some ⟨W.heap.size, 0, none⟩) 0 0).ownBlock) : Raw w W1 d A c B k := by
  have hx := h.x.lt_
  have hz := h.z.lt_
  have hb : (Value.slice (some ⟨W.heap.size, 0, none⟩) 0 0).ownBlock = some W.heap.size := rfl
  rw [hb] at hgrow
  exact (h.alloc (.cells #[] 102)).grown hgrow (fun g hg => by injection hg with hg; have := h.below.size; omega) (fun e => by injection e with e; omega) (fun e => by injection e with e; omega)
theorem half_add (h : Raw w W d A c B k) (hd : DOk w A c B k d) {v1 v2 : Value} (hown : W.ownsRow w.heap.size 102 2 v1 d.m (pcs d.I d.T d.m)) (o : Obj) (slot : Int) (s : ByteArray) (hown2 : W'.ownsRow w.heap.size 102 2 v2 (d.m + 1) (pcs d.I d.T d.m ++ [.int .i64 slot, .string s]))
    (hgrow : (W.alloc o).grownBy W' v1.ownBlock) : ∃ B' k', v2 = .slice B' (d.m + 1) k' ∧ W'.cell? ⟨w.heap.size, 1, none⟩ = some (.slice B d.m k) ∧ W'.frozen? ⟨w.heap.size, 1, none⟩ = false ∧ Half w (W'.setCell ⟨w.heap.size, 1, none⟩ (.slice B' (d.m + 1) k')) (addD d slot s d.fuse d.off) A c B' k' := by
  obtain ⟨B', k', rfl, hf⟩ := own_form hown2
  have h1 := (h.alloc o).grown hgrow (fun g hg => (hown.lt g hg).1) (fun e => has_ne_own (h.x.alloc o) (hown.alloc o) (by decide) e.symm) (fun e => has_ne_own (h.z.alloc o) (hown.alloc o) (by decide) e.symm)
  rw [pcs_add d slot s d.fuse d.off] at hown2
  exact ⟨B', k', rfl, h1.x.c1, h1.x.free.2.1, hd.fa, hd.st, h1.x1 _, ownsRow_setCell_other hown2 (fun e => has_ne_own h1.x hown2 (by decide) e.symm) _⟩
end
def Halfs (w : World) (d : Dk) (A : Option Addr) (c : Nat) (wc : World) : Prop := ∃ B k, Half w wc d A c B k
section
variable {A B : Option Addr} {c k : Nat} {d : Dk} {w : World}
theorem putD_off (slot : Int) (s : ByteArray) (h : d.off = true) : putD d slot s = d ∧ putE d slot s = 6 := by unfold putD putE; rw [if_pos h, if_pos h]; exact ⟨rfl, rfl⟩
theorem putD_arg (slot : Int) (s : ByteArray) (h : d.off = false) (hh : hasB d.n slot = false) : putD d slot s = d ∧ putE d slot s = 1 := by unfold putD putE; rw [h, hh]; exact ⟨rfl, rfl⟩
theorem putD_big (slot : Int) (s : ByteArray) (h : d.off = false) (hh : hasB d.n slot = true) (hb : 1024 < s.size) : putD d slot s = d ∧ putE d slot s = 4 := by unfold putD putE; rw [h, hh, if_pos hb, if_pos hb]; exact ⟨rfl, rfl⟩
theorem putD_zero (slot : Int) (s : ByteArray) (h : d.off = false) (hh : hasB d.n slot = true) (hb : ¬ 1024 < s.size) (h0 : d.fuse = 0) : putD d slot s = addD d slot s 0 true ∧ putE d slot s = 6 := by
  unfold putD putE; rw [h, hh, if_neg hb, if_neg hb, if_pos h0, if_pos h0]; exact ⟨rfl, rfl⟩
theorem putD_pos (slot : Int) (s : ByteArray) (h : d.off = false) (hh : hasB d.n slot = true) (hb : ¬ 1024 < s.size) (h1 : 0 < d.fuse) : putD d slot s = addD d slot s (d.fuse - 1) false ∧ putE d slot s = 0 := by
  unfold putD putE; rw [h, hh, if_neg hb, if_neg hb, if_neg (show ¬ d.fuse = 0 by omega), if_neg (show ¬ d.fuse = 0 by omega), if_pos h1]; exact ⟨rfl, rfl⟩
theorem putD_neg (slot : Int) (s : ByteArray) (h : d.off = false) (hh : hasB d.n slot = true) (hb : ¬ 1024 < s.size) (h0 : d.fuse < 0) : putD d slot s = addD d slot s d.fuse false ∧ putE d slot s = 0 := by
  unfold putD putE; rw [h, hh, if_neg hb, if_neg hb, if_neg (show ¬ d.fuse = 0 by omega), if_neg (show ¬ d.fuse = 0 by omega), if_neg (show ¬ 0 < d.fuse by omega)]; exact ⟨rfl, rfl⟩

set_option maxRecDepth 100000 in
set_option maxHeartbeats 1600000 in
theorem refPut_any (h : DOk w A c B k d) (hm : (d.m + 1) * 24 ≤ 140737488355328) (slot : Int) (s : ByteArray) (hs : s.size ≤ 140737488351232) :
    Calls Try.prog 55 #[.agg #[.slice A d.n c, .slice B d.m k, .int .i64 d.fuse, .bool d.off], .int .i64 slot, .string s] w (DErr w (putD d slot s) (putE d slot s)) := by
  obtain ⟨i0, hi0, hz0, hz1, hz2⟩ := info_parts infoWrite
  have h0 : Raw w _ d A c B k := D2.start w (.slice A d.n c) (.slice B d.m k) (.int .i64 d.fuse) (.bool d.off) (.slice none 0 0) (.slice none 0 0) (.int .i64 0) (.bool false)
  have HD := Lib.hid h
  have HM := Lib.hid hm
  have HS := Lib.hid hs
  have H0 := Lib.hid h0
  clear h h0 hm hs
  go_enter Try.func55, Try.ntmps55
  go_upto_region 1 with fail
  generalize (w.alloc (.cells #[.slice A d.n c, .slice B d.m k, .int .i64 d.fuse, .bool d.off] 39)).alloc (.cells #[.slice none 0 0, .slice none 0 0, .int .i64 0, .bool false] 39) = wb at *
  obtain ⟨x0, x1, x2, x3⟩ := H0.out.x.cells
  obtain ⟨y0, y1, y2, y3⟩ := H0.out.x.free
  obtain ⟨z0, z1, z2, z3⟩ := H0.out.z.cells
  obtain ⟨u0, u1, u2, u3⟩ := H0.out.z.free
  have HF := Lib.hid (raw_fin H0.out HD.out)
  cases hoff : d.off
  rotate_left
  · have HE := Lib.hid (putD_off slot s hoff)
    rw [hoff] at x3
    go_wp2
    rw [← hoff]
    refine bodyPost_ret (results_disk_err rfl _ _ (w.heap.size + 1) rfl HF.out.1) rfl (by rw [HE.out.1, HE.out.2]; exact ⟨A, c, B, k, rfl, HF.out.2.1, HF.out.2.2⟩)
  · rw [hoff] at x3
    have HOFF := Lib.hid hoff
    clear hoff
    by_cases hh : 0 ≤ slot ∧ slot < d.n
    rotate_left
    · have HE := Lib.hid (putD_arg slot s HOFF.out (hasB_no hh))
      by_cases h1 : slot < 0
      · have g1 : decide (slot < 0) = true := decide_eq_true h1
        clear hh h1
        go_wp2
        rw [← HOFF.out]
        refine bodyPost_ret (results_disk_err rfl _ _ (w.heap.size + 1) rfl HF.out.1) rfl (by rw [HE.out.1, HE.out.2]; exact ⟨A, c, B, k, rfl, HF.out.2.1, HF.out.2.2⟩)
      · have g1 : decide (slot < 0) = false := decide_eq_false h1
        have g2 : decide (slot ≥ (d.n : Int)) = true := decide_eq_true (by omega)
        clear hh h1
        go_wp2
        rw [← HOFF.out]
        refine bodyPost_ret (results_disk_err rfl _ _ (w.heap.size + 1) rfl HF.out.1) rfl (by rw [HE.out.1, HE.out.2]; exact ⟨A, c, B, k, rfl, HF.out.2.1, HF.out.2.2⟩)
    · have HH := Lib.hid (hasB_yes hh)
      have g1 : decide (slot < 0) = false := decide_eq_false (by omega)
      have g2 : decide (slot ≥ (d.n : Int)) = false := decide_eq_false (by omega)
      clear hh
      by_cases hbig : 1024 < s.size
      · have HE := Lib.hid (putD_big slot s HOFF.out HH.out hbig)
        have g3 : decide ((s.size : Int) > 1024) = true := by simp; omega
        clear hbig
        go_wp2
        rw [← HOFF.out]
        refine bodyPost_ret (results_disk_err rfl _ _ (w.heap.size + 1) rfl HF.out.1) rfl (by rw [HE.out.1, HE.out.2]; exact ⟨A, c, B, k, rfl, HF.out.2.1, HF.out.2.2⟩)
      · have g3 : decide ((s.size : Int) > 1024) = false := by simp; omega
        have HBIG := Lib.hid hbig
        clear hbig
        have HC : Hid (DOk (wb.alloc (.cells #[] 102)) A c B k d) := Lib.hid ((HD.out.up H0.out.below).up ((Below.refl _ _).alloc (Nat.le_refl _) _))
        clear HF
        go_upto_region 7 with fail
        go_cut [] from 25 to 34 (fun wc => Halfs w (addD d slot s d.fuse d.off) A c wc)
        case first =>
          cases B with
          | none =>
            have e0 : d.m = 0 := by have := HD.out.fb.2 rfl; have := HD.out.fb.1; omega
            have e1 := HD.out.fb.2 rfl
            have e2 : pcs d.I d.T d.m = [] := by rw [e0]; rfl
            have x1a : (wb.alloc (.cells #[] 102)).cell? ⟨w.heap.size, 1, none⟩ = some (.slice none 0 0) := by
              have := (H0.out.alloc (.cells #[] 102)).x.c1
              rw [e0, e1] at this
              exact this
            have HO1 : Hid ((wb.alloc (.cells #[] 102)).ownsRow w.heap.size 102 2 (.slice (some ⟨wb.heap.size, 0, none⟩) 0 0) d.m (pcs d.I d.T d.m)) := Lib.hid (by
              rw [e2, e0]; exact lit_own wb w.heap.size H0.out.below.size 102 2)
            have HR1 : Hid (Raw w (wb.alloc (.cells #[] 102)) d A c none k) := Lib.hid (H0.out.alloc _)
            clear e0 e1 e2
            go_wp2_with (at_builtin; (first
              | refine wpList_append_own_none rfl (.tmp 25) (.tmp 27) 37 rfl w.heap.size 102 i0 2 Try.underlying37 hi0 _ _ _ rfl HO1.out rfl ?_
              | refine wpList_append_own _ rfl (.tmp 28) (.tmp 32) 37 rfl w.heap.size 102 i0 (.agg #[.int .i64 0, .string ByteArray.empty]) 2 24 Try.underlying37 hi0 hz0 hz1 hz2 rfl (by decide) _ _ _ rfl (HO1.out.alloc _) ⟨wb.heap.size + 1, 0, none⟩ 1 1 [.int .i64 slot, .string s] rfl rfl (two_news2 _ _ _) (by simp [Value.oneCell']) (by have := HM.out; unfold maxLen; omega) (by have := HM.out; omega) (by rw [size_alloc]; have := HR1.out.below.size; omega) ?_))
            intro v2 w2 hown2 hgrow2 _
            obtain ⟨B2, k2, rfl, q1, q2, hO2⟩ := half_add HR1.out HD.out HO1.out _ slot s hown2 hgrow2
            have HO2 := Lib.hid hO2
            clear hown2 hgrow2 hO2
            go_wp2_with fail
            go_meet
            case rel => go_light; exact ⟨_, _, HO2.out⟩
          | some ad =>
            have x1a : (wb.alloc (.cells #[] 102)).cell? ⟨w.heap.size, 1, none⟩ = some (.slice (some ad) d.m k) := (H0.out.alloc _).x.c1
            go_wp2_with (at_builtin; refine wpList_append_own _ rfl (.tmp 25) (.tmp 27) 37 rfl w.heap.size 102 i0 (.agg #[.int .i64 0, .string ByteArray.empty]) 2 24 Try.underlying37 hi0 hz0 hz1 hz2 rfl (by decide) _ _ _ rfl (lit_own wb w.heap.size H0.out.below.size _ _) ad d.m k (pcs d.I d.T d.m) rfl (by rw [pcs_len]) HC.out.pc.news (pcs_one _ _ _) (by have := HM.out; unfold maxLen; omega) (by have := HM.out; omega) (by rw [size_alloc]; have := H0.out.below.size; omega) ?_)
            intro v1 w1 hown1 hgrow1 _
            have HR1 := Lib.hid (half_copy H0.out hgrow1)
            have HO1 := Lib.hid hown1
            clear hown1 hgrow1
            go_wp2_with (at_builtin; refine wpList_append_own _ rfl (.tmp 28) (.tmp 32) 37 rfl w.heap.size 102 i0 (.agg #[.int .i64 0, .string ByteArray.empty]) 2 24 Try.underlying37 hi0 hz0 hz1 hz2 rfl (by decide) _ _ _ rfl (HO1.out.alloc _) ⟨w1.heap.size, 0, none⟩ 1 1 [.int .i64 slot, .string s] rfl rfl (two_news _ _ _) (by simp [Value.oneCell']) (by have := HM.out; unfold maxLen; omega) (by have := HM.out; omega) (by rw [size_alloc]; have := HR1.out.below.size; omega) ?_)
            intro v2 w2 hown2 hgrow2 _
            obtain ⟨B2, k2, rfl, q1, q2, hO2⟩ := half_add HR1.out HD.out HO1.out _ slot s hown2 hgrow2
            have HO2 := Lib.hid hO2
            clear hown2 hgrow2 hO2
            go_wp2_with fail
            go_meet
            case rel => go_light; exact ⟨_, _, HO2.out⟩
        case rest =>
          obtain ⟨B2, k2, hO2⟩ := hcut
          have x0 : wc.cell? ⟨w.heap.size, 0, none⟩ = some (.slice A d.n c) := hO2.fr.x.c0
          have x1 : wc.cell? ⟨w.heap.size, 1, none⟩ = some (.slice B2 (d.m + 1) k2) := hO2.fr.x.c1
          have x2 : wc.cell? ⟨w.heap.size, 2, none⟩ = some (.int .i64 d.fuse) := hO2.fr.x.c2
          have x3 : wc.cell? ⟨w.heap.size, 3, none⟩ = some (.bool false) := by rw [← HOFF.out]; exact hO2.fr.x.c3
          obtain ⟨y0, y1, y2, y3⟩ := hO2.fr.x.free
          obtain ⟨z0, z1, z2, z3⟩ := hO2.fr.z.cells
          obtain ⟨u0, u1, u2, u3⟩ := hO2.fr.z.free
          have HO2 := Lib.hid hO2
          have HSZ := Lib.hid HD.out.sz
          clear hO2
          have hfl := HSZ.out.fl
          have hfh := HSZ.out.fh
          by_cases h0 : d.fuse = 0
          · have HE := Lib.hid (putD_zero slot s HOFF.out HH.out HBIG.out h0)
            have hO3 := HO2.out.x3 true
            change Half w _ (addD d slot s d.fuse true) A c B2 k2 at hO3
            rw [h0] at hO3
            have HF := Lib.hid (hO3.fin (sz_add HSZ.out HM.out HS.out (by omega) (by omega) true))
            rw [h0] at x2
            clear hO3 h0 HO2 hfl hfh
            go_wp2
            refine bodyPost_ret (results_disk_err rfl _ _ (w.heap.size + 1) rfl HF.out.1) rfl (by rw [HE.out.1, HE.out.2]; exact ⟨A, c, B2, k2, rfl, HF.out.2.1, HF.out.2.2⟩)
          · by_cases h1 : 0 < d.fuse
            · have HE := Lib.hid (putD_pos slot s HOFF.out HH.out HBIG.out h1)
              have hO3 := HO2.out.x2 (d.fuse - 1)
              change Half w _ (addD d slot s (d.fuse - 1) d.off) A c B2 k2 at hO3
              rw [HOFF.out] at hO3
              have HF := Lib.hid (hO3.fin (sz_add HSZ.out HM.out HS.out (by omega) (by omega) false))
              have g5 : (d.fuse == 0) = false := by rw [beq_eq_false_iff_ne]; exact h0
              have g6 : decide (d.fuse > 0) = true := decide_eq_true h1
              clear hO3 HO2
              go_wp2
              refine bodyPost_ret (results_disk_err rfl _ _ (w.heap.size + 1) rfl HF.out.1) rfl (by rw [HE.out.1, HE.out.2]; exact ⟨A, c, B2, k2, rfl, HF.out.2.1, HF.out.2.2⟩)
            · have HE := Lib.hid (putD_neg slot s HOFF.out HH.out HBIG.out (by omega))
              have hO3 := HO2.out
              change Half w _ (addD d slot s d.fuse d.off) A c B2 k2 at hO3
              rw [HOFF.out] at hO3
              have HF := Lib.hid (hO3.fin (sz_add HSZ.out HM.out HS.out (by omega) (by omega) false))
              have g5 : (d.fuse == 0) = false := by rw [beq_eq_false_iff_ne]; exact h0
              have g6 : decide (d.fuse > 0) = false := decide_eq_false h1
              clear hO3 HO2
              go_wp2
              refine bodyPost_ret (results_disk_err rfl _ _ (w.heap.size + 1) rfl HF.out.1) rfl (by rw [HE.out.1, HE.out.2]; exact ⟨A, c, B2, k2, rfl, HF.out.2.1, HF.out.2.2⟩)
end
end Go.Proofs.Ytofafmjkjgiccaa.Mat


/- Get, of both sides: walked. -/
namespace Go.Proofs.Ytofafmjkjgiccaa.Mat
open Go.RowKit Fld

theorem lastT_skip {I : Nat → Int} {T : Nat → ByteArray} {slot : Int} {s : ByteArray} {i : Nat} : ∀ (m : Nat), i ≤ m → (∀ r, i ≤ r → r < m → I r ≠ slot) → lastT I T slot s m = lastT I T slot s i
  | 0, h, _ => by rw [show i = 0 by omega]
  | m + 1, h, hh => by
    by_cases e : i = m + 1
    · rw [e]
    · show (if I m = slot then T m else lastT I T slot s m) = _
      rw [if_neg (hh m (by omega) (by omega)), lastT_skip m (by omega) (fun r h1 h2 => hh r h1 (by omega))]
theorem lastT_hit {I : Nat → Int} {T : Nat → ByteArray} {slot : Int} {s : ByteArray} {i m : Nat} (h : i + 1 ≤ m) (hh : ∀ r, i + 1 ≤ r → r < m → I r ≠ slot) (e : I i = slot) : lastT I T slot s m = T i := by
  rw [lastT_skip m h hh]
  exact if_pos e
theorem get_in {d : Dk} {slot : Int} (h : hasB d.n slot = true) : getE d slot = 0 ∧ getS d slot = lastT d.I d.T slot (d.S slot.toNat) d.m := by unfold getE getS; rw [if_pos h, if_pos h]; exact ⟨rfl, rfl⟩
theorem get_out {d : Dk} {slot : Int} (h : hasB d.n slot = false) : getE d slot = 1 ∧ getS d slot = ByteArray.empty := by unfold getE getS; rw [h]; exact ⟨rfl, rfl⟩
section
variable {A B : Option Addr} {c k : Nat} {d : Dk} {w : World}
set_option maxRecDepth 100000 in
set_option maxHeartbeats 1600000 in
theorem refGet_any (h : DOk w A c B k d) (slot : Int) :
    Calls Try.prog 64 #[.agg #[.slice A d.n c, .slice B d.m k, .int .i64 d.fuse, .bool d.off], .int .i64 slot] w (TxtRet w (getE d slot) (getS d slot)) := by
  have hx := bx_new w (.slice A d.n c) (.slice B d.m k) (.int .i64 d.fuse) (.bool d.off)
  have hb := (Below.refl w.heap.size w).alloc (Nat.le_refl _) (.cells #[.slice A d.n c, .slice B d.m k, .int .i64 d.fuse, .bool d.off] 39)
  have HD := Lib.hid (h.up hb)
  have HB := Lib.hid hb
  have HX := Lib.hid hx
  have hmm : d.m ≤ 9223372036854775807 := by have := h.sz.bm; omega
  clear h hx hb
  go_enter Try.func64, Try.ntmps64
  go_upto_region 1 with fail
  generalize w.alloc (.cells #[.slice A d.n c, .slice B d.m k, .int .i64 d.fuse, .bool d.off] 39) = wb at *
  obtain ⟨x0, x1, x2, x3⟩ := HX.out.cells
  by_cases hh : 0 ≤ slot ∧ slot < d.n
  rotate_left
  · have HE := Lib.hid (get_out (hasB_no hh))
    by_cases h1 : slot < 0
    · have g1 : decide (slot < 0) = true := decide_eq_true h1
      clear hh h1
      go_wp2
      go_ret2
      exact ⟨by rw [HE.out.1, HE.out.2]; rfl, HB.out⟩
    · have g1 : decide (slot < 0) = false := decide_eq_false h1
      have g2 : decide (slot ≥ (d.n : Int)) = true := decide_eq_true (by omega)
      clear hh h1
      go_wp2
      go_ret2
      exact ⟨by rw [HE.out.1, HE.out.2]; rfl, HB.out⟩
  · obtain ⟨j, rfl⟩ : ∃ j : Nat, slot = j := ⟨slot.toNat, by omega⟩
    have HE := Lib.hid (get_in (hasB_yes hh))
    have g1 : decide ((j : Int) < 0) = false := decide_eq_false (by omega)
    have g2 : decide ((j : Int) ≥ (d.n : Int)) = false := decide_eq_false (by omega)
    have hjn : j < d.n := by omega
    have hjz : (j : Int) < (d.n : Int) := by omega
    obtain ⟨ad, rfl, _, hc⟩ := HD.out.st.at_ hjn
    clear hh
    go_wp2
    clear g1 g2
    go_loopg [6, 7] d.m (fun gh v i wr => ∃ r, r ≤ d.m ∧ gh = d.m - r ∧ i = .int .i64 (r : Nat) ∧ v = .string (lastT d.I d.T j (d.S j) r) ∧ wr = wb)
    case atStart => exact ⟨0, Nat.zero_le _, rfl, rfl, rfl, rfl⟩
    case round =>
      obtain ⟨r, hr, rfl, rfl, rfl, rfl⟩ := hrel
      by_cases hrm : r < d.m
      · have hrz : (r : Int) < (d.m : Int) := by omega
        obtain ⟨bd, rfl, _, k0, k1⟩ := HD.out.pc.at_ hrm
        by_cases he : d.I r = (j : Int)
        · have g3 : (d.I r == (j : Int)) = true := beq_iff_eq.2 he
          have hT : lastT d.I d.T j (d.S j) (r + 1) = d.T r := if_pos he
          have HT := Lib.hid hT
          clear hT he
          go_wp2
          go_roundg (d.m - (r + 1))
          case measure => go_light; omega
          case rel => go_light; exact ⟨r + 1, by omega, rfl, by simp, by rw [HT.out], rfl⟩
        · have g3 : (d.I r == (j : Int)) = false := beq_eq_false_iff_ne.2 he
          have hT : lastT d.I d.T j (d.S j) (r + 1) = lastT d.I d.T j (d.S j) r := if_neg he
          have HT := Lib.hid hT
          clear hT he
          go_wp2
          go_roundg (d.m - (r + 1))
          case measure => go_light; omega
          case rel => go_light; exact ⟨r + 1, by omega, rfl, by simp, by rw [HT.out], rfl⟩
      · have hrz : ¬ (r : Int) < (d.m : Int) := by omega
        obtain rfl : r = d.m := by omega
        go_wp2
        go_ret2
        exact ⟨by rw [HE.out.1, HE.out.2, Int.toNat_natCast]; rfl, HB.out⟩

/-- the frame at the label: no write behind the place i waits for the slot -/
def JG (w wb : World) (A : Option Addr) (c : Nat) (B : Option Addr) (k : Nat) (d : Dk) (j : Nat) (a' : Act) (w' : World) : Prop :=
  w' = wb ∧ ∃ i : Nat, i ≤ d.m ∧ (∀ r, i ≤ r → r < d.m → d.I r ≠ (j : Int)) ∧ ∃ u7 u8 u9 u10 u11 u12 u13 u14 u15 u16 u17 u18 u19 u20 u21 u22 u23 u24 u25 u26 u27 u28 u29 u30 u31 u32 u33 u34 u35 u36 u37 : Value,
    a' = { tmps := #[.agg #[.slice A d.n c, .slice B d.m k, .int .i64 d.fuse, .bool d.off], .int .i64 (j : Nat), .pointer (some ⟨w.heap.size, 0, none⟩), undef, .string ⟨#[]⟩, .int .i64 0, .int .i64 (i : Nat), u7, u8, u9, u10, u11, u12, u13, u14, u15, u16, u17, u18, u19, u20, u21, u22, u23, u24, u25, u26, u27, u28, u29, u30, u31, u32, u33, u34, u35, u36, u37], defers := [] }
set_option maxRecDepth 100000 in
set_option maxHeartbeats 1600000 in
theorem get_any (h : DOk w A c B k d) (slot : Int) :
    Calls Try.prog 66 #[.agg #[.slice A d.n c, .slice B d.m k, .int .i64 d.fuse, .bool d.off], .int .i64 slot] w (TxtRet w (getE d slot) (getS d slot)) := by
  have hx := bx_new w (.slice A d.n c) (.slice B d.m k) (.int .i64 d.fuse) (.bool d.off)
  have hb := (Below.refl w.heap.size w).alloc (Nat.le_refl _) (.cells #[.slice A d.n c, .slice B d.m k, .int .i64 d.fuse, .bool d.off] 39)
  have HD := Lib.hid (h.up hb)
  have HB := Lib.hid hb
  have HX := Lib.hid hx
  have hmm : d.m ≤ 9223372036854775807 := by have := h.sz.bm; omega
  clear h hx hb
  cases hh : hasB d.n slot
  · have HE := Lib.hid (get_out hh)
    have HH := Lib.hid hh
    clear hh
    go_enter Try.func66, Try.ntmps66
    go_wp2_with fail
    generalize w.alloc (.cells #[.slice A d.n c, .slice B d.m k, .int .i64 d.fuse, .bool d.off] 39) = wb at *
    obtain ⟨x0, x1, x2, x3⟩ := HX.out.cells
    refine wp_scope_jumps 0 (fun _ _ => False) (fun _ _ => 0) rfl ?_ (fun _ _ h => h.elim)
    go_wp2_with fail
    refine (has_any _ _ _ _ _).mono ?_; rintro e w1 ⟨rfl, rfl⟩
    rw [HH.out]
    go_wp2_with fail
    simp only [Exit.jump]
    go_ret2
    exact ⟨by rw [HE.out.1, HE.out.2]; rfl, HB.out⟩
  · have HE := Lib.hid (get_in hh)
    have HH := Lib.hid hh
    obtain ⟨s0, s1⟩ := hasB_iff.1 hh
    obtain ⟨j, rfl⟩ : ∃ j : Nat, slot = j := ⟨slot.toNat, by omega⟩
    have hjn : j < d.n := by omega
    have hjz : (j : Int) < (d.n : Int) := by omega
    clear hh s0 s1
    go_enter Try.func66, Try.ntmps66
    go_wp2_with fail
    generalize w.alloc (.cells #[.slice A d.n c, .slice B d.m k, .int .i64 d.fuse, .bool d.off] 39) = wb at *
    obtain ⟨ad, rfl, _, hc⟩ := HD.out.st.at_ hjn
    obtain ⟨x0, x1, x2, x3⟩ := HX.out.cells
    refine wp_scope_jumps 0 (JG w wb (some ad) c B k d j) (fun a' _ => (intOf (a'.tmps.getD 6 undef)).toNat) rfl ?_ ?_
    · go_wp2_with fail
      refine (has_any _ _ _ _ _).mono ?_; rintro e w1 ⟨rfl, rfl⟩
      rw [HH.out]
      rcases Nat.eq_zero_or_pos d.m with hm0 | hm0
      · have g1 : ((d.m : Int) == 0) = true := by rw [hm0]; rfl
        have HT : Hid (lastT d.I d.T j (d.S j) d.m = d.S j) := Lib.hid (by rw [hm0]; rfl)
        go_wp2_with fail
        go_step3
        go_wp2_with fail
        simp only [Exit.jump]
        go_ret2
        exact ⟨by rw [HE.out.1, HE.out.2, Int.toNat_natCast, HT.out]; rfl, HB.out⟩
      · have g1 : ((d.m : Int) == 0) = false := by rw [beq_eq_false_iff_ne]; omega
        have hrm : d.m - 1 < d.m := by omega
        obtain ⟨bd, rfl, _, k0, k1⟩ := HD.out.pc.at_ hrm
        have g2 : IntKind.i64.wrap ((d.m : Int) - 1) = ((d.m - 1 : Nat) : Int) := by rw [IntWalk.i64_in _ (by omega)]; omega
        have hrz : ((d.m - 1 : Nat) : Int) < (d.m : Int) := by omega
        by_cases he : d.I (d.m - 1) = (j : Int)
        · have g3 : (d.I (d.m - 1) != (j : Int)) = false := by simpa using he
          have HT : Hid (lastT d.I d.T j (d.S j) d.m = d.T (d.m - 1)) := Lib.hid (lastT_hit (by omega) (fun r h1 h2 => by omega) he)
          generalize d.m - 1 = i at *
          go_wp2_with fail
          go_step3
          go_wp2_with fail
          simp only [Exit.jump]
          go_ret2
          exact ⟨by rw [HE.out.1, HE.out.2, Int.toNat_natCast, HT.out]; rfl, HB.out⟩
        · have g3 : (d.I (d.m - 1) != (j : Int)) = true := by simpa using he
          have HN : Hid (d.m - 1 ≤ d.m ∧ ∀ r, d.m - 1 ≤ r → r < d.m → d.I r ≠ (j : Int)) := Lib.hid ⟨by omega, fun r h1 h2 => by rw [show r = d.m - 1 by omega]; exact he⟩
          generalize d.m - 1 = i at *
          go_wp2_with fail
          go_step3
          go_wp2_with fail
          go_step3
          exact ⟨rfl, ⟨rfl, i, HN.out.1, HN.out.2, _, _, _, _, _, _, _, _, _, _, _, _, _, _, _, _, _, _, _, _, _, _, _, _, _, _, _, _, _, _, _, rfl⟩⟩
    · rintro a' w' ⟨rfl, i, hi, hn, u7, u8, u9, u10, u11, u12, u13, u14, u15, u16, u17, u18, u19, u20, u21, u22, u23, u24, u25, u26, u27, u28, u29, u30, u31, u32, u33, u34, u35, u36, u37, rfl⟩
      rcases Nat.eq_zero_or_pos i with hm0 | hm0
      · subst hm0
        have HT : Hid (lastT d.I d.T j (d.S j) d.m = d.S j) := Lib.hid (lastT_skip d.m hi hn)
        clear hi hn
        go_wp2_with fail
        simp only [Exit.jump]
        go_ret2
        exact ⟨by rw [HE.out.1, HE.out.2, Int.toNat_natCast, HT.out]; rfl, HB.out⟩
      · have g1 : ((i : Int) == 0) = false := by rw [beq_eq_false_iff_ne]; omega
        have hrm : i - 1 < d.m := by omega
        obtain ⟨bd, rfl, _, k0, k1⟩ := HD.out.pc.at_ hrm
        have g2 : IntKind.i64.wrap ((i : Int) - 1) = ((i - 1 : Nat) : Int) := by rw [IntWalk.i64_in _ (by omega)]; omega
        have hrz : ((i - 1 : Nat) : Int) < (d.m : Int) := by omega
        by_cases he : d.I (i - 1) = (j : Int)
        · have g3 : (d.I (i - 1) != (j : Int)) = false := by simpa using he
          have HT : Hid (lastT d.I d.T j (d.S j) d.m = d.T (i - 1)) := Lib.hid (lastT_hit (by omega) (fun r h1 h2 => hn r (by omega) h2) he)
          clear hn
          generalize i - 1 = x at *
          go_wp2_with fail
          simp only [Exit.jump]
          go_ret2
          exact ⟨by rw [HE.out.1, HE.out.2, Int.toNat_natCast, HT.out]; rfl, HB.out⟩
        · have g3 : (d.I (i - 1) != (j : Int)) = true := by simpa using he
          have HN : Hid (i - 1 ≤ d.m ∧ i - 1 < i ∧ ∀ r, i - 1 ≤ r → r < d.m → d.I r ≠ (j : Int)) := Lib.hid ⟨by omega, by omega, fun r h1 h2 => by
            by_cases e : r = i - 1
            · rw [e]; exact he
            · exact hn r (by omega) h2⟩
          clear hn
          generalize i - 1 = x at *
          go_wp2_with fail
          go_step3
          refine ⟨rfl, ⟨rfl, x, HN.out.1, HN.out.2.2, _, _, _, _, _, _, _, _, _, _, _, _, _, _, _, _, _, _, _, _, _, _, _, _, _, _, _, _, _, _, _, rfl⟩, ?_⟩
          have := HN.out.2.1
          simp [intOf]; omega
end
end Go.Proofs.Ytofafmjkjgiccaa.Mat

