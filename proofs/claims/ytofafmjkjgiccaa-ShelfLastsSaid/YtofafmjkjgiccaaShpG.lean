/- The program's Drop of shards: walked (a range over a function that is left by a break). -/
import Derived.Test.YtofafmjkjgiccaaShpF
namespace Go.Proofs.Ytofafmjkjgiccaa.Mat
open Go.RowKit Go.Shelf Fld

attribute [local go_sem] Oper.semAt_some

/-- what was dropped so far, and the last error; it stands still behind an error -/
def dpA (v i : Int) (p : Dk × Int) (x : Sd) : Dk × Int := if (p.2 = 0 ∨ p.2 = 7) ∧ hasK v i x.1.s = true then (putD p.1 (x.1.i : Nat) ByteArray.empty, putE p.1 (x.1.i : Nat) ByteArray.empty) else p
def dpS (d : Dk) (v i : Int) (l : List Sd) : Dk × Int := l.foldl (dpA v i) (d, 7)
theorem dpS_snoc (d : Dk) (v i : Int) (l : List Sd) (x : Sd) : dpS d v i (l ++ [x]) = dpA v i (dpS d v i l) x := by unfold dpS; rw [List.foldl_append]; rfl
theorem putE_ne (d : Dk) (slot : Int) (s : ByteArray) : putE d slot s ≠ 7 := by
  unfold putE
  by_cases e1 : d.off = true
  · rw [if_pos e1]; decide
  · rw [if_neg e1]
    by_cases e2 : hasB d.n slot = false
    · rw [if_pos e2]; decide
    · rw [if_neg e2]
      by_cases e3 : 1024 < s.size
      · rw [if_pos e3]; decide
      · rw [if_neg e3]
        by_cases e4 : d.fuse = 0
        · rw [if_pos e4]; decide
        · rw [if_neg e4]; decide
/-- .. as the document's -/
theorem dp_dr {d : Dk} (hz : Sz d) (v i : Int) : ∀ n, (drS d v i n).1 = (dpS d v i (shs (slo (dsl d hz) n))).1 ∧
    (((dpS d v i (shs (slo (dsl d hz) n))).2 = 7 ∧ (drS d v i n).2 = 0 ∧ (dpS d v i (shs (slo (dsl d hz) n))).1 = d ∧ ∀ r, r < n → hasK v i (gs d r) = false) ∨
     ((dpS d v i (shs (slo (dsl d hz) n))).2 ≠ 7 ∧ (drS d v i n).2 = (dpS d v i (shs (slo (dsl d hz) n))).2 ∧ ∃ r, r < n ∧ hasK v i (gs d r) = true))
  | 0 => ⟨rfl, .inl ⟨rfl, rfl, rfl, fun r hr => absurd hr (Nat.not_lt_zero _)⟩⟩
  | n + 1 => by
    obtain ⟨h1, h2⟩ := dp_dr hz v i n
    have e : shs (slo (dsl d hz) (n + 1)) = shs (slo (dsl d hz) n ++ [dsl d hz n]) := rfl
    have es : (dsl d hz n).s = gs d n := rfl
    have ei : (dsl d hz n).i = n := rfl
    cases hk : hasK v i (gs d n)
    · have q : dpS d v i (shs (slo (dsl d hz) (n + 1))) = dpS d v i (shs (slo (dsl d hz) n)) := by
        rw [e]
        cases hb : shB (dsl d hz n).s
        · rw [shs_no _ hb]
        · rw [shs_yes _ hb, dpS_snoc]
          exact if_neg (fun r => by rw [es, hk] at r; cases r.2)
      rw [q, drS_no hk]
      refine ⟨h1, ?_⟩
      rcases h2 with ⟨a1, a2, a3, a4⟩ | ⟨a1, a2, r, a3, a4⟩
      · refine .inl ⟨a1, a2, a3, fun r hr => ?_⟩
        rcases Nat.lt_or_ge r n with q | q
        · exact a4 r q
        · rw [show r = n by omega]; exact hk
      · exact .inr ⟨a1, a2, r, by omega, a4⟩
    · have hb : shB (dsl d hz n).s = true := (hasK_iff.1 hk).1
      rw [e, shs_yes _ hb, dpS_snoc]
      by_cases hE : (dpS d v i (shs (slo (dsl d hz) n))).2 = 0 ∨ (dpS d v i (shs (slo (dsl d hz) n))).2 = 7
      · have q : dpA v i (dpS d v i (shs (slo (dsl d hz) n))) ⟨dsl d hz n, hb⟩ = (putD (dpS d v i (shs (slo (dsl d hz) n))).1 (n : Nat) ByteArray.empty, putE (dpS d v i (shs (slo (dsl d hz) n))).1 (n : Nat) ByteArray.empty) := if_pos ⟨hE, hk⟩
        have h0 : (drS d v i n).2 = 0 := by
          rcases h2 with ⟨a1, a2, _⟩ | ⟨a1, a2, _⟩
          · exact a2
          · rcases hE with hE | hE
            · rw [a2]; exact hE
            · exact absurd hE a1
        rw [q, drS_yes hk h0, h1]
        exact ⟨rfl, .inr ⟨putE_ne _ _ _, rfl, n, Nat.lt_succ_self n, hk⟩⟩
      · have q : dpA v i (dpS d v i (shs (slo (dsl d hz) n))) ⟨dsl d hz n, hb⟩ = dpS d v i (shs (slo (dsl d hz) n)) := if_neg (fun r => hE r.1)
        rw [q]
        rcases h2 with ⟨a1, _⟩ | ⟨a1, a2, r, a3, a4⟩
        · exact absurd (.inr a1) hE
        · have h0 : drS d v i (n + 1) = drS d v i n := drS_end (by rw [a2]; exact fun z => hE (.inl z)) (n + 1) (Nat.le_succ n)
          rw [h0]
          exact ⟨h1, .inr ⟨a1, a2, r, by omega, a4⟩⟩
/-- at the end, or behind an error -/
theorem dp_sd {d : Dk} (hz : Sz d) {v i : Int} {n : Nat} (hn : n ≤ d.n) (h : n = d.n ∨ ((dpS d v i (shs (slo (dsl d hz) n))).2 ≠ 0 ∧ (dpS d v i (shs (slo (dsl d hz) n))).2 ≠ 7)) :
    sdD d v i = (dpS d v i (shs (slo (dsl d hz) n))).1 ∧ sdE d v i = (dpS d v i (shs (slo (dsl d hz) n))).2 := by
  obtain ⟨h1, h2⟩ := dp_dr hz v i n
  rcases h2 with ⟨a1, a2, a3, a4⟩ | ⟨a1, a2, r, a3, a4⟩
  · have hnn : n = d.n := by
      rcases h with h | h
      · exact h
      · exact absurd a1 h.2
    subst hnn
    have := (fd_none a4).1
    obtain ⟨q1, q2⟩ := sd_no (d := d) (v := v) (i := i) (by rw [this]; decide)
    exact ⟨by rw [q2, a3], by rw [q1, a1]⟩
  · have hf : fdE d v i = 0 := by
      rcases fd_or d v i with ⟨_, _, _, _, e, _⟩ | ⟨hh, _⟩
      · exact e
      · have := hh r (by omega)
        rw [a4] at this; cases this
    obtain ⟨q1, q2⟩ := sd_yes hf
    have he : drS d v i d.n = drS d v i n := by
      rcases h with h | h
      · rw [h]
      · exact drS_end (by rw [a2]; exact h.1) d.n hn
    rw [q1, q2, he]
    exact ⟨h1, a2⟩

theorem kt_put4 {n₀ b₁ g : Nat} (W : World) (p q r s : Value) (h1 : n₀ ≤ g) (h2 : g < b₁) : Kt n₀ b₁ W (put4 W g p q r s) :=
  (((kt_set W ⟨g, 0, none⟩ p h1 h2).trans (kt_set _ ⟨g, 1, none⟩ q h1 h2)).trans (kt_set _ ⟨g, 2, none⟩ r h1 h2)).trans (kt_set _ ⟨g, 3, none⟩ s h1 h2)
theorem vr_own {W Y : World} {g : Nat} {D : Dk} {A B : Option Addr} {c k : Nat} {row : Option Nat} (h : Vr W g D A c B k) (hg : W.grownBy Y row) (hr : ∀ r, row = some r → ∃ o : Obj, W.heap[r]? = some o ∧ o.isCells = false) : Vr Y g D A c B k := ⟨bx_own _ _ _ _ _ h.bx hg hr, dok_own h.ok hg hr⟩
theorem vr_setB {W : World} {g g' : Nat} {D : Dk} {A B : Option Addr} {c k : Nat} {t : TypeId} {f : Int} (h : Vr W g D A c B k) (hb : Boxed W g' t (.int .i64 f)) (hne : g ≠ g') (u : Value) : Vr (W.setCell ⟨g', 0, none⟩ u) g D A c B k := ⟨Bx.setOther h.bx (a := ⟨g', 0, none⟩) hne u, ok_setB h.ok hb u⟩
/-- one that is dropped -/
theorem drop_step {w3 : World} {G n : Nat} {Dp DN : Dk} {A' B' A3 B3 : Option Addr} {c' k' c3 k3 : Nat} {Ep : Int} {v i : Int} (hT : Vr w3 G Dp A' c' B' k') (hE : Boxed w3 (G + 1) 25 (.int .i64 Ep)) (hZ : Vr w3 (n + 1 + 1) voidD none 0 none 0) (hk : Kx w3 (n + 1) v i) (hlt : n + 1 + 1 < G) (ok : DOk w3 A3 c3 B3 k3 DN) (EN : Int) :
    Vr ((put4 w3 G (.slice A3 DN.n c3) (.slice B3 DN.m k3) (.int .i64 DN.fuse) (.bool DN.off)).setCell ⟨G + 1, 0, none⟩ (.int .i64 EN)) G DN A3 c3 B3 k3 ∧ Boxed ((put4 w3 G (.slice A3 DN.n c3) (.slice B3 DN.m k3) (.int .i64 DN.fuse) (.bool DN.off)).setCell ⟨G + 1, 0, none⟩ (.int .i64 EN)) (G + 1) 25 (.int .i64 EN) ∧ Vr ((put4 w3 G (.slice A3 DN.n c3) (.slice B3 DN.m k3) (.int .i64 DN.fuse) (.bool DN.off)).setCell ⟨G + 1, 0, none⟩ (.int .i64 EN)) (n + 1 + 1) voidD none 0 none 0 ∧ Kx ((put4 w3 G (.slice A3 DN.n c3) (.slice B3 DN.m k3) (.int .i64 DN.fuse) (.bool DN.off)).setCell ⟨G + 1, 0, none⟩ (.int .i64 EN)) (n + 1) v i ∧ KeepsOthers w3 ((put4 w3 G (.slice A3 DN.n c3) (.slice B3 DN.m k3) (.int .i64 DN.fuse) (.bool DN.off)).setCell ⟨G + 1, 0, none⟩ (.int .i64 EN)) ∧ (∀ n₀ b₁, n₀ ≤ G → G + 1 < b₁ → Kt n₀ b₁ w3 ((put4 w3 G (.slice A3 DN.n c3) (.slice B3 DN.m k3) (.int .i64 DN.fuse) (.bool DN.off)).setCell ⟨G + 1, 0, none⟩ (.int .i64 EN))) ∧ (∀ w B, Below B w w3 → B ≤ G → Below B w ((put4 w3 G (.slice A3 DN.n c3) (.slice B3 DN.m k3) (.int .i64 DN.fuse) (.bool DN.off)).setCell ⟨G + 1, 0, none⟩ (.int .i64 EN))) := by
  have hE1 := boxed_put4 hE (show G + 1 ≠ G by omega) (.slice A3 DN.n c3) (.slice B3 DN.m k3) (.int .i64 DN.fuse) (.bool DN.off)
  refine ⟨vr_setB (hT.put ok) hE1 (by omega) _, hE1.set _, vr_setB (Vr.other hZ hT (by omega) _ _ _ _) hE1 (by omega) _, Has.setOther (Kx.put4 hk (by omega) _ _ _ _) (a := ⟨G + 1, 0, none⟩) (by show n + 1 ≠ G + 1; omega) _, (keeps_put4 _ _ _ _ _ _).trans (KeepsOthers.setCell _ _ _), fun n₀ b₁ h1 h2 => ?_, fun w B h1 h2 => ?_⟩
  · exact (kt_put4 w3 _ _ _ _ h1 (by omega)).trans (kt_set _ ⟨G + 1, 0, none⟩ _ (by show n₀ ≤ G + 1; omega) h2)
  · exact (put4_below h1 h2 _ _ _ _).setCell (p := ⟨G + 1, 0, none⟩) (by show B ≤ G + 1; omega) _
/-- what lies ahead of Drop's loop -/
theorem st_drop {w w5 : World} {d : Dk} (A B : Option Addr) {A5 B5 : Option Addr} (c k : Nat) {c5 k5 : Nat} {v i : Int} (hS : Kx w5 (w.heap.size + 1) v i) (hZ : Vr w5 (w.heap.size + 1 + 1) voidD none 0 none 0) (ok : DOk w5 A5 c5 B5 k5 d) (hB : Below w.heap.size w w5) :
    ∃ W0, W0 = ((w5.alloc (.cells #[.slice A5 d.n c5, .slice B5 d.m k5, .int .i64 d.fuse, .bool d.off] 39)).alloc (.cells #[.int .i64 7] 25)).alloc (.cells #[.slice A d.n c, .slice B d.m k, .int .i64 d.fuse, .bool d.off] 39) ∧
      Kx W0 (w.heap.size + 1) v i ∧ Vr W0 (w.heap.size + 1 + 1) voidD none 0 none 0 ∧ Vr W0 w5.heap.size d A5 c5 B5 k5 ∧ Boxed W0 (w5.heap.size + 1) 25 (.int .i64 7) ∧ Bx W0 (w5.heap.size + 1 + 1) (.slice A d.n c) (.slice B d.m k) (.int .i64 d.fuse) (.bool d.off) ∧ Below w.heap.size w W0 ∧ W0.heap.size = w5.heap.size + 1 + 1 + 1 ∧ w.heap.size + 1 + 1 < w5.heap.size := by
  have h1 := Vr.new ok
  have h2 := Boxed.new (w5.alloc (.cells #[.slice A5 d.n c5, .slice B5 d.m k5, .int .i64 d.fuse, .bool d.off] 39)) 25 (.int .i64 7)
  rw [size_alloc] at h2
  have h3 := bx_new ((w5.alloc (.cells #[.slice A5 d.n c5, .slice B5 d.m k5, .int .i64 d.fuse, .bool d.off] 39)).alloc (.cells #[.int .i64 7] 25)) (.slice A d.n c) (.slice B d.m k) (.int .i64 d.fuse) (.bool d.off)
  rw [size_alloc, size_alloc] at h3
  have b1 := hB.alloc hB.size (.cells #[.slice A5 d.n c5, .slice B5 d.m k5, .int .i64 d.fuse, .bool d.off] 39)
  have b2 := b1.alloc b1.size (.cells #[.int .i64 7] 25)
  exact ⟨_, rfl, ((hS.alloc _).alloc _).alloc _, ((hZ.alloc _).alloc _).alloc _, (h1.alloc _).alloc _, h2.alloc _, h3, b2.alloc b2.size _, by rw [size_alloc, size_alloc, size_alloc], hZ.bx.lt_⟩

section
variable {A B : Option Addr} {c k : Nat} {d : Dk} {w : World}
set_option maxRecDepth 100000 in
set_option maxHeartbeats 6400000 in
theorem shDrop_any (h : DOk w A c B k d) (hm : (d.m + d.n + 1) * 24 ≤ 140737488355328) (v i : Int) :
    Calls Try.prog 30 #[.agg #[.slice A d.n c, .slice B d.m k, .int .i64 d.fuse, .bool d.off], .agg #[.int .i64 v, .int .i64 i]] w (DErr w (sdD d v i) (sdE d v i)) := by
  obtain ⟨W1, hW1, hV, hS, hZ, hB1, _⟩ := drop_start h v i
  obtain ⟨s0, s1, s2, s3⟩ := hV.cells
  have hap := shApart_any hV.ok
  refine (callsIn_wide (n := 9)).1 ?_
  refine callsIn_of_wp_marks Try.func30 rfl trivial ?_ rfl
  simp only [Try.ntmps30, List.size_toArray, List.length_cons, List.length_nil, Nat.reduceAdd, Nat.reduceSub, Array.replicate_succ, Array.replicate_zero, List.push_toArray, List.append_toArray, List.nil_append, List.cons_append]
  rw [hW1] at s0 s1 s2 s3 hap
  gi_wp2_with fail
  refine ⟨trivial, (callsIn_wide.2 hap).mono ?_⟩
  rintro e w5 ho
  obtain ⟨A5, c5, B5, k5, rfl, ok5, hb5⟩ := own_ret ho h.sz
  rw [← hW1] at hb5
  clear s0 s1 s2 s3 hap ho hW1
  have hV5 := hV.up hb5
  have hS5 := hS.up hb5
  have hZ5 := hZ.up hb5
  have hB5 := up_trans hB1 hb5
  clear hV hS hZ hB1 hb5
  obtain ⟨s0, s1, s2, s3⟩ := ((hV5.alloc (.cells #[.slice A5 d.n c5, .slice B5 d.m k5, .int .i64 d.fuse, .bool d.off] 39)).alloc (.cells #[.int .i64 7] 25)).cells
  gi_wp2_with fail
  refine ⟨trivial, (shards_in _ _ _ _ _ _).mono ?_⟩
  rintro e w6 ⟨rfl, rfl⟩
  clear s0 s1 s2 s3
  gi_wp2_with fail
  obtain ⟨W0, hW0, hk1, hz1, ht1, he1, hx0, hB0, hz0, hlt0⟩ := st_drop A B c k hS5 hZ5 ok5 hB5
  rw [← hW0]
  clear hW0 hV5 hS5 hZ5 ok5
  have hfin : ∀ {V : World} {D' : Nat}, W0.heap.size ≤ D' → Below w.heap.size w V → V.heap[D']? = some (.deferred (some [])) → Below w.heap.size w (V.putObj D' (.deferred none)) := fun hD hB hK => hB.trans (belowK_b (w := w) (Nat.le_refl _) _ _ _ _ (Nat.le_trans hB0.size hD) hK rfl rfl)
  have hwle := hB5.size
  refine wpIn_rangeR (n := 9) (gf := 63) (lb := #[.pointer (some ⟨w5.heap.size + 1 + 1, 0, none⟩)]) rfl (enters_of Try.func63 (by kernel_rfl) rfl)
    (encs := enc2) (n₀ := w.heap.size) (b₁ := w5.heap.size + 1 + 1) (S := fun xs => xs = shs (slo (dsl d h.sz) d.n)) (Sp := fun pre => ∃ k, k < d.n ∧ pre = shs (slo (dsl d h.sz) (k + 1))) (N := d.n) (w0 := W0)
    (fun l' J' Jx' W' hW hJ' hJx' hY' h0' => shards1_in l' (w5.heap.size + 1 + 1) (w5.heap.size + 1 + 1) h J' Jx' W' (up_trans hB0 hW) (hx0.up hW) (Nat.le_refl _) hJ' hJx' hY' h0')
    hB0.size (Below.refl _ _) (fun _ => rfl)
    (fun pre V => ((∃ A' c' B' k', Vr V w5.heap.size (dpS d v i pre).1 A' c' B' k') ∧ Boxed V (w5.heap.size + 1) 25 (.int .i64 (dpS d v i pre).2) ∧ Vr V (w.heap.size + 1 + 1) voidD none 0 none 0 ∧ Kx V (w.heap.size + 1) v i ∧ (dpS d v i pre).1.m ≤ d.m + pre.length ∧ ((dpS d v i pre).2 = 0 ∨ (dpS d v i pre).2 = 7)) ∧ Below w.heap.size w V)
    (fun cd pre V => (cd = .exit 0 ∧ (∃ A' c' B' k', Vr V w5.heap.size (dpS d v i pre).1 A' c' B' k') ∧ Boxed V (w5.heap.size + 1) 25 (.int .i64 (dpS d v i pre).2) ∧ Vr V (w.heap.size + 1 + 1) voidD none 0 none 0 ∧ ((dpS d v i pre).2 ≠ 0 ∧ (dpS d v i pre).2 ≠ 7)) ∧ Below w.heap.size w V)
    (OwnFrom.and (fun pre X Y row hs hg hr => by
      obtain ⟨⟨A', c', B', k', h1⟩, h2, h3, h4, h5, h6⟩ := hs
      have hr' := fun r e => (hr r e).2
      exact ⟨⟨A', c', B', k', vr_own h1 hg hr'⟩, boxed_row h2 hg hr', vr_own h3 hg hr', has_any_own (β := Unit) _ _ _ _ () X Y row h4 hg hr', h5, h6⟩) (ownFrom_below (Nat.le_refl _) hB0.size))
    (fun cd => OwnFrom.and (fun pre X Y row hs hg hr => by
      obtain ⟨h0, ⟨A', c', B', k', h1⟩, h2, h3, h4⟩ := hs
      have hr' := fun r e => (hr r e).2
      exact ⟨h0, ⟨A', c', B', k', vr_own h1 hg hr'⟩, boxed_row h2 hg hr', vr_own h3 hg hr', h4⟩) (ownFrom_below (Nat.le_refl _) hB0.size))
    ⟨⟨⟨_, _, _, _, ht1⟩, he1, hz1, hk1, Nat.le_refl _, .inr rfl⟩, hB0⟩
    (fun x a' V => ∃ Bx, w5.heap.size + 1 < Bx ∧ Sx V Bx (shV x.1.s : Int) (shI x.1.s : Int) (shX x.1.s) ∧ a' = { tmps := #[.agg #[.slice A d.n c, .slice B d.m k, .int .i64 d.fuse, .bool d.off], .agg #[.int .i64 v, .int .i64 i], .pointer (some ⟨w.heap.size, 0, none⟩), .pointer (some ⟨w.heap.size + 1, 0, none⟩), .pointer (some ⟨w.heap.size + 1 + 1, 0, none⟩), .int .i64 0, .pointer (some ⟨w5.heap.size, 0, none⟩), .pointer (some ⟨w5.heap.size + 1, 0, none⟩), .int .i64 (x.1.i : Int), .pointer (some ⟨Bx, 0, none⟩), .agg #[.slice A d.n c, .slice B d.m k, .int .i64 d.fuse, .bool d.off], .agg #[.slice A5 d.n c5, .slice B5 d.m k5, .int .i64 d.fuse, .bool d.off], .agg #[.slice A d.n c, .slice B d.m k, .int .i64 d.fuse, .bool d.off], .func (.func 63) #[] #[.pointer (some ⟨w5.heap.size + 1 + 1, 0, none⟩)], .int .i64 (x.1.i : Int), .agg #[.int .i64 (shV x.1.s : Int), .int .i64 (shI x.1.s : Int), .string (shX x.1.s)], undef, undef, undef, undef, undef, undef, undef, undef, undef, undef, undef, undef, undef, undef], defers := [] })
    (fun x a' _ X Y row hs hg hr => by obtain ⟨Bx, h1, h2, h3⟩ := hs; exact ⟨Bx, h1, has_any_own (β := Unit) _ _ _ _ () X Y row h2 hg (fun r e => (hr r e).2), h3⟩)
    ?assign ?body ?done ?stop
  case assign =>
    rintro l' pre x V K ⟨⟨⟨A', c', B', k', h1⟩, h2, h3, h4, h5, h6⟩, hB⟩ hK
    have hlt := h2.lt
    have ha := (Below.refl V.heap.size V).alloc (Nat.le_refl _) (.cells #[.int .i64 (shV x.1.s : Int), .int .i64 (shI x.1.s : Int), .string (shX x.1.s)] 23)
    gi_wp2
    exact hK _ _ ((KeepsOthers.alloc _ _).from _) (kt_of_below ha hB.size) ⟨⟨⟨A', c', B', k', h1.alloc _⟩, h2.alloc _, h3.alloc _, h4.alloc _, h5, h6⟩, up_trans hB ha⟩ ⟨V.heap.size, hlt, sx_new _ _ _ _, rfl⟩
  case body =>
    rintro l' pre x a' V hl _ ⟨⟨⟨A', c', B', k', hT⟩, hE, hZ, hkx, hmm, hEE⟩, hB⟩ ⟨Bx, hBx, hX, rfl⟩ hlen
    have hmx : Try.prog.follows .mixedOrders = true := by kernel_rfl
    have hq := fun W => neqK (shV x.1.s : Int) (shI x.1.s : Int) v i W
    have hki := hasK_iff (v := v) (i := i) (s := x.1.s)
    have hkb : ((shV x.1.s : Int) == v && (shI x.1.s : Int) == i) = hasK v i x.1.s := by
      rw [Bool.eq_iff_iff, hki, Bool.and_eq_true, beq_iff_eq, beq_iff_eq]
      exact ⟨fun e => ⟨x.2, e.1, e.2⟩, fun e => ⟨e.2.1, e.2.2⟩⟩
    rw [hkb] at hq
    clear hki hkb
    have hsn := dpS_snoc d v i pre x
    have hbd := drop_bound hmm hlen hm
    have HMM := Lib.hid hmm
    obtain ⟨x0, x1, x2⟩ := hX.cells
    obtain ⟨k0, k1⟩ := hkx.cells
    have hkk := fun W (hb : Below V.heap.size V W) => (hkx.up hb).cells
    have hcc := fun W => key_any (shV x.1.s : Int) (shI x.1.s : Int) (shX x.1.s) W
    have HKK := Lib.hid hkk
    have HC := Lib.hid hcc
    clear hkk hcc hmm
    cases hb : hasK v i x.1.s
    · rw [hb] at hq
      have hsn : dpS d v i (pre ++ [x]) = dpS d v i pre := hsn.trans (if_neg (fun r => by rw [hb] at r; cases r.2))
      gi_wp2_with fail
      gi_region_with_o (refine ⟨trivial, ?_⟩; gi_at_call 49; refine (CallsIn.inRound l' (callsIn_wide.2 (HC.out _))).mono ?_; rintro e w2 ⟨rfl, hb2⟩; have b2 : Hid (Below V.heap.size V w2) := Lib.hid ⟨hb2.os, hb2.tape, hb2.output, hb2.size, hb2.block⟩; obtain ⟨q0, q1⟩ := HKK.out _ b2.out)
      all_goals
        gi_wp2_with fail
        exact ⟨keepsFrom_below b2.out, kt_of_below b2.out hB.size, by rw [hsn]; exact ⟨⟨A', c', B', k', hT.up b2.out⟩, boxed_up hE b2.out, hZ.up b2.out, hkx.up b2.out, by rw [List.length_append]; exact Nat.le_trans HMM.out (by simp), hEE⟩, up_trans hB b2.out⟩
    · rw [hb] at hq
      have hsn : dpS d v i (pre ++ [x]) = (putD (dpS d v i pre).1 (x.1.i : Nat) ByteArray.empty, putE (dpS d v i pre).1 (x.1.i : Nat) ByteArray.empty) := hsn.trans (if_pos ⟨hEE, hb⟩)
      have hne := putE_ne (dpS d v i pre).1 (x.1.i : Nat) ByteArray.empty
      have hmn := putD_m (dpS d v i pre).1 (x.1.i : Nat) ByteArray.empty
      have hput := fun W A c B k (ok : DOk W A c B k (dpS d v i pre).1) => put_any ok hbd (x.1.i : Int) ByteArray.empty (Nat.zero_le _)
      have HPUT := Lib.hid hput
      have HMN := Lib.hid hmn
      clear hput hmn hbd hEE
      generalize dpS d v i pre = p at *
      obtain ⟨Dp, Ep⟩ := p
      dsimp only at *
      gi_wp2_with fail
      gi_region_with_o (refine ⟨trivial, ?_⟩; gi_at_call 49; refine (CallsIn.inRound l' (callsIn_wide.2 (HC.out _))).mono ?_; rintro e w2 ⟨rfl, hb2⟩; have b2 : Hid (Below V.heap.size V w2) := Lib.hid ⟨hb2.os, hb2.tape, hb2.output, hb2.size, hb2.block⟩; obtain ⟨q0, q1⟩ := HKK.out _ b2.out)
      all_goals
        have hT2 := hT.up b2.out
        have hE2 := boxed_up hE b2.out
        have hZ2 := hZ.up b2.out
        have hk2 := hkx.up b2.out
        have hB2 := up_trans hB b2.out
        have k2 := keepsFrom_below (B := W0.heap.size) b2.out
        have t2 := kt_of_below (b₁ := w5.heap.size + 1 + 1) b2.out hB.size
        clear x0 x1 x2 k0 k1
        obtain ⟨x0, x1, x2, x3⟩ := hT2.cells
        gi_wp2_with fail
        refine ⟨trivial, (callsIn_wide.2 (HPUT.out _ _ _ _ _ hT2.ok)).mono ?_⟩
        rintro e w3 ⟨A3, c3, B3, k3, rfl, ok3, hb3⟩
        have hT3 := hT2.up hb3
        have hE3 := boxed_up hE2 hb3
        have hZ3 := hZ2.up hb3
        have hk3 := hk2.up hb3
        have hB3 := up_trans hB2 hb3
        have k3' := k2.trans (keepsFrom_below (B := W0.heap.size) hb3)
        have t3 := t2.trans (kt_of_below hb3 hB2.size)
        clear x0 x1 x2 x3
        obtain ⟨x0, x1, x2, x3⟩ := hT3.cells
        obtain ⟨f0, f1, f2, f3⟩ := hT3.bx.free
        have e0 := hE3.cell
        have e1 := hE3.frozen
        have HMN2 : Hid ((putD Dp (x.1.i : Nat) ByteArray.empty).m ≤ d.m + (pre ++ [x]).length) := Lib.hid (by have := HMN.out; have := HMM.out; rw [List.length_append]; simp only [List.length_cons, List.length_nil]; omega)
        generalize putD Dp (x.1.i : Nat) ByteArray.empty = DN at *
        generalize putE Dp (x.1.i : Nat) ByteArray.empty = EN at *
        obtain ⟨hVN, hEN, hZN, hkN, kN, tN, bN⟩ := drop_step hT3 hE3 hZ3 hk3 hlt0 ok3 EN
        have FIN := Lib.hid (And.intro (k3'.trans (kN.from W0.heap.size)) (And.intro (t3.trans (tN w.heap.size (w5.heap.size + 1 + 1) hwle (Nat.lt_succ_self _))) (bN w w.heap.size hB3 hwle)))
        have FIV := Lib.hid (And.intro hVN (And.intro hEN (And.intro hZN hkN)))
        clear hVN hEN hZN hkN kN tN bN hT3 hE3 hZ3 hk3 k3' t3 hT2 hE2 hZ2 hk2 k2 t2 ok3 hb3 HMM HMN HPUT hlt0
        have HSN := Lib.hid hsn
        have HNE := Lib.hid hne
        clear hsn hne hlen
        cases hz : (EN != 0)
        · gi_wp2_with fail
          exact ⟨FIN.out.1, FIN.out.2.1, by rw [HSN.out]; exact ⟨⟨A3, c3, B3, k3, FIV.out.1⟩, FIV.out.2.1, FIV.out.2.2.1, FIV.out.2.2.2, HMN2.out, .inl (by simpa using hz)⟩, FIN.out.2.2⟩
        · gi_wp2_with fail
          exact ⟨FIN.out.1, by rw [HSN.out]; exact ⟨rfl, ⟨A3, c3, B3, k3, FIV.out.1⟩, FIV.out.2.1, FIV.out.2.2.1, (by simpa using hz), HNE.out⟩, FIN.out.2.2⟩
  case done =>
    rintro D' ys V hD rfl ⟨⟨⟨A', c', B', k', hT⟩, hE, hZ, _, _, _⟩, hB⟩ hK
    have qd := dp_sd (v := v) (i := i) h.sz (Nat.le_refl _) (.inl rfl)
    obtain ⟨x0, x1, x2, x3⟩ := hT.cells
    obtain ⟨z0, z1, z2, z3⟩ := hZ.cells
    obtain ⟨f0, f1, f2, f3⟩ := hZ.bx.free
    have e0 := hE.cell
    generalize dpS d v i (shs (slo (dsl d h.sz) d.n)) = p at *
    obtain ⟨D, E⟩ := p
    dsimp only at hT hE x0 x1 x2 x3 e0 qd
    gi_wp2_with fail
    gi_region
    gi_wp2_with fail
    have hK3 := ((keeps_put4 V (w.heap.size + 1 + 1) (.slice A' D.n c') (.slice B' D.m k') (.int .i64 D.fuse) (.bool D.off)).trans (KeepsOthers.drew _)).same _ _ hK rfl
    have hg := grownBy_putObj' (put4 V (w.heap.size + 1 + 1) (.slice A' D.n c') (.slice B' D.m k') (.int .i64 D.fuse) (.bool D.off)).drew D' (.deferred none)
    have hgr : ∀ r, some D' = some r → ∃ o : Obj, (put4 V (w.heap.size + 1 + 1) (.slice A' D.n c') (.slice B' D.m k') (.int .i64 D.fuse) (.bool D.off)).drew.heap[r]? = some o ∧ o.isCells = false := fun r e => by cases e; exact ⟨_, hK3, rfl⟩
    have hV9 := vr_own (hZ.put hT.ok).drew hg hgr
    refine ⟨by simp, .inl ⟨_, _, rfl, run_takeDeferred hK3, ?_⟩⟩
    exact ⟨_, results_disk_err rfl _ _ (w.heap.size + 1 + 1) rfl hV9.bx, by rw [qd.1, qd.2]; exact ⟨A', c', B', k', rfl, hV9.ok, hfin hD (put4_below hB (by omega) _ _ _ _).drew hK3⟩⟩
  case stop =>
    rintro D' cd pre V hD ⟨k9, hk9, rfl⟩ ⟨⟨rfl, ⟨A', c', B', k', hT⟩, hE, hZ, hne⟩, hB⟩ hK
    have qd := dp_sd (v := v) (i := i) h.sz (n := k9 + 1) (by omega) (.inr hne)
    obtain ⟨x0, x1, x2, x3⟩ := hT.cells
    obtain ⟨z0, z1, z2, z3⟩ := hZ.cells
    obtain ⟨f0, f1, f2, f3⟩ := hZ.bx.free
    have e0 := hE.cell
    generalize dpS d v i (shs (slo (dsl d h.sz) (k9 + 1))) = p at *
    obtain ⟨D, E⟩ := p
    dsimp only at hT hE x0 x1 x2 x3 e0 qd
    gi_wp2_with fail
    gi_region
    gi_wp2_with fail
    have hK3 := ((keeps_put4 V (w.heap.size + 1 + 1) (.slice A' D.n c') (.slice B' D.m k') (.int .i64 D.fuse) (.bool D.off)).trans (KeepsOthers.drew _)).same _ _ hK rfl
    have hg := grownBy_putObj' (put4 V (w.heap.size + 1 + 1) (.slice A' D.n c') (.slice B' D.m k') (.int .i64 D.fuse) (.bool D.off)).drew D' (.deferred none)
    have hgr : ∀ r, some D' = some r → ∃ o : Obj, (put4 V (w.heap.size + 1 + 1) (.slice A' D.n c') (.slice B' D.m k') (.int .i64 D.fuse) (.bool D.off)).drew.heap[r]? = some o ∧ o.isCells = false := fun r e => by cases e; exact ⟨_, hK3, rfl⟩
    have hV9 := vr_own (hZ.put hT.ok).drew hg hgr
    refine ⟨by simp, .inl ⟨_, _, rfl, run_takeDeferred hK3, ?_⟩⟩
    exact ⟨_, results_disk_err rfl _ _ (w.heap.size + 1 + 1) rfl hV9.bx, by rw [qd.1, qd.2]; exact ⟨A', c', B', k', rfl, hV9.ok, hfin hD (put4_below hB (by omega) _ _ _ _).drew hK3⟩⟩
end
end Go.Proofs.Ytofafmjkjgiccaa.Mat
