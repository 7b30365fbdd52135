/- The program's Find: walked (a range over a function that is left by a return). -/
import Derived.Test.YtofafmjkjgiccaaShpD
namespace Go.Proofs.Ytofafmjkjgiccaa.Mat
open Go.RowKit Go.Shelf Fld

attribute [local go_sem] Oper.semAt_some

/-- a text and an error, in boxes -/
theorem results_txt_errB {fn : Func} {t u : Tmp} (h : fn.results = #[.cell t 9, .cell u 25]) (tmps : Array Value) (w : World) (g g' : Nat) {p v : Value} (hp : tmps.getD t undef = .pointer (some ⟨g, 0, none⟩)) (hp2 : tmps.getD u undef = .pointer (some ⟨g', 0, none⟩)) (hc : Boxed w g 9 p) (hb : Boxed w g' 25 v) :
    (results fn tmps).run Try.prog w = .ok (.tuple #[p, v]) w := by
  have hp' : tmps[t]?.getD undef = .pointer (some ⟨g, 0, none⟩) := by simpa using hp
  have hp2' : tmps[u]?.getD undef = .pointer (some ⟨g', 0, none⟩) := by simpa using hp2
  have c0 := hc.cell
  have e0 := hb.cell
  simp [results, h, hp', hp2', asAddr, go_sem, c0, e0]
/-- the shards among the first slots -/
theorem shs_mem {S : Nat → Sl1} : ∀ {n r : Nat} (_ : r < n) (h : shB (S r).s = true), (⟨S r, h⟩ : Sd) ∈ shs (slo S n)
  | n + 1, r, hr, h => by
    show (⟨S r, h⟩ : Sd) ∈ shs (slo S n ++ [S n])
    rcases Nat.lt_or_ge r n with q | q
    · have := shs_mem (n := n) q h
      cases hb : shB (S n).s
      · rw [shs_no _ hb]; exact this
      · rw [shs_yes _ hb]; exact List.mem_append.2 (.inl this)
    · obtain rfl : r = n := by omega
      rw [shs_yes _ h]; exact List.mem_append.2 (.inr (List.mem_singleton.2 rfl))
theorem no_key {d : Dk} (hz : Sz d) {v i : Int} {n : Nat} (h : ∀ y ∈ shs (slo (dsl d hz) n), hasK v i y.1.s = false) : ∀ r, r < n → hasK v i (gs d r) = false := fun r hr => by
  cases hb : shB (gs d r)
  · exact hasK_no hb
  · exact h ⟨dsl d hz r, hb⟩ (shs_mem hr hb)
/-- the last one that has come is slot k's -/
theorem shs_last {d : Dk} (hz : Sz d) {pre : List Sd} {x : Sd} : ∀ {n : Nat}, shs (slo (dsl d hz) n) = pre ++ [x] → ∃ k, k < n ∧ pre = shs (slo (dsl d hz) k) ∧ x.1 = dsl d hz k
  | 0, h => by
    have e : shs (slo (dsl d hz) 0) = [] := rfl
    rw [e] at h
    have := congrArg List.length h
    simp at this
  | n + 1, h => by
    have e : shs (slo (dsl d hz) (n + 1)) = shs (slo (dsl d hz) n ++ [dsl d hz n]) := rfl
    rw [e] at h
    cases hb : shB (dsl d hz n).s
    · rw [shs_no _ hb] at h
      obtain ⟨k, h1, h2, h3⟩ := shs_last hz h
      exact ⟨k, by omega, h2, h3⟩
    · rw [shs_yes _ hb] at h
      obtain ⟨e1, e2⟩ := List.append_inj' h rfl
      injection e2 with e2
      exact ⟨n, Nat.lt_succ_self n, e1.symm, by rw [← e2]⟩

section
variable {A B : Option Addr} {c k : Nat} {d : Dk} {w : World}
set_option maxRecDepth 100000 in
set_option maxHeartbeats 6400000 in
theorem shFind_any (h : DOk w A c B k d) (v i : Int) : Calls Try.prog 24 #[.agg #[.slice A d.n c, .slice B d.m k, .int .i64 d.fuse, .bool d.off], .agg #[.int .i64 v, .int .i64 i]] w (TxtRet w (fdE d v i) (fdX d v i)) := by
  obtain ⟨W1, W0, hW1, hW0, hx1, _, hk0, hr0, he0, hx0, hB0, hz0, _, _⟩ := st5 w (.slice A d.n c) (.slice B d.m k) (.int .i64 d.fuse) (.bool d.off) #[.int .i64 v, .int .i64 i] #[.string ⟨#[]⟩] #[.int .i64 0] 41 9 25
  have hk1 : Kx W0 (w.heap.size + 1) v i := ⟨_, 0, 0, hk0, .inl rfl, fun j hj => by
    rcases (show j = 0 ∨ j = 1 by omega) with rfl | rfl <;> rfl⟩
  have hr1 : Boxed W0 (w.heap.size + 1 + 1) 9 (.string ⟨#[]⟩) := hr0
  have he1 : Boxed W0 (w.heap.size + 1 + 1 + 1) 25 (.int .i64 0) := he0
  obtain ⟨s0, s1, s2, s3⟩ := hx1.cells
  clear hk0 hr0 he0
  refine (callsIn_wide (n := 9)).1 ?_
  refine callsIn_of_wp_marks Try.func24 rfl trivial ?_ rfl
  simp only [Try.ntmps24, List.size_toArray, List.length_cons, List.length_nil, Nat.reduceAdd, Nat.reduceSub, Array.replicate_succ, Array.replicate_zero, List.push_toArray, List.append_toArray, List.nil_append, List.cons_append]
  rw [hW1] at s0 s1 s2 s3
  gi_wp2_with fail
  refine ⟨trivial, (shards_in _ _ _ _ _ _).mono ?_⟩
  rintro e w5 ⟨rfl, rfl⟩
  clear s0 s1 s2 s3 hx1
  gi_wp2_with fail
  rw [← hW1, ← hW0]
  clear hW0 hW1
  have hfin : ∀ {V : World} {D' : Nat}, W0.heap.size ≤ D' → Below w.heap.size w V → V.heap[D']? = some (.deferred (some [])) → Below w.heap.size w (V.putObj D' (.deferred none)) := fun hD hB hK => hB.trans (belowK_b (w := w) (Nat.le_refl _) _ _ _ _ (Nat.le_trans hB0.size hD) hK rfl rfl)
  refine wpIn_rangeR (n := 9) (gf := 63) (lb := #[.pointer (some ⟨w.heap.size + 1 + 1 + 1 + 1, 0, none⟩)]) rfl (enters_of Try.func63 (by kernel_rfl) rfl)
    (encs := enc2) (n₀ := w.heap.size) (b₁ := w.heap.size + 1 + 1 + 1 + 1) (S := fun xs => xs = shs (slo (dsl d h.sz) d.n)) (Sp := fun pre => ∃ k, k < d.n ∧ pre = shs (slo (dsl d h.sz) (k + 1))) (N := d.n) (w0 := W0)
    (fun l' J' Jx' W' hW hJ' hJx' hY' h0' => shards1_in l' (w.heap.size + 1 + 1 + 1 + 1) (w.heap.size + 1 + 1 + 1 + 1) h J' Jx' W' (up_trans hB0 hW) (hx0.up hW) (Nat.le_refl _) hJ' hJx' hY' h0')
    hB0.size (Below.refl _ _) (fun _ => rfl)
    (fun pre V => ((∀ y ∈ pre, hasK v i y.1.s = false) ∧ Kx V (w.heap.size + 1) v i ∧ Boxed V (w.heap.size + 1 + 1) 9 (.string ⟨#[]⟩) ∧ Boxed V (w.heap.size + 1 + 1 + 1) 25 (.int .i64 0)) ∧ Below w.heap.size w V)
    (fun cd pre V => (cd = .ret ∧ ∃ pre0 x, pre = pre0 ++ [x] ∧ (∀ y ∈ pre0, hasK v i y.1.s = false) ∧ hasK v i x.1.s = true ∧ Boxed V (w.heap.size + 1 + 1) 9 (.string (shX x.1.s)) ∧ Boxed V (w.heap.size + 1 + 1 + 1) 25 (.int .i64 0)) ∧ Below w.heap.size w V)
    (OwnFrom.and (fun pre X Y row hs hg hr => by
      obtain ⟨h1, h2, h3, h4⟩ := hs
      have hr' := fun r e => (hr r e).2
      exact ⟨h1, has_any_own (β := Unit) _ _ _ _ () X Y row h2 hg hr', boxed_row h3 hg hr', boxed_row h4 hg hr'⟩) (ownFrom_below (Nat.le_refl _) hB0.size))
    (fun cd => OwnFrom.and (fun pre X Y row hs hg hr => by
      obtain ⟨h1, pre0, x, h2, h3, h4, h5, h6⟩ := hs
      have hr' := fun r e => (hr r e).2
      exact ⟨h1, pre0, x, h2, h3, h4, boxed_row h5 hg hr', boxed_row h6 hg hr'⟩) (ownFrom_below (Nat.le_refl _) hB0.size))
    ⟨⟨(fun y hy => by cases hy), hk1, hr1, he1⟩, hB0⟩
    (fun x a' V => ∃ Bx, w.heap.size + 1 + 1 + 1 < Bx ∧ Sx V Bx (shV x.1.s : Int) (shI x.1.s : Int) (shX x.1.s) ∧ a' = { tmps := #[.agg #[.slice A d.n c, .slice B d.m k, .int .i64 d.fuse, .bool d.off], .agg #[.int .i64 v, .int .i64 i], .pointer (some ⟨w.heap.size, 0, none⟩), .pointer (some ⟨w.heap.size + 1, 0, none⟩), .pointer (some ⟨w.heap.size + 1 + 1, 0, none⟩), .pointer (some ⟨w.heap.size + 1 + 1 + 1, 0, none⟩), undef, .pointer (some ⟨Bx, 0, none⟩), .agg #[.slice A d.n c, .slice B d.m k, .int .i64 d.fuse, .bool d.off], .func (.func 63) #[] #[.pointer (some ⟨w.heap.size + 1 + 1 + 1 + 1, 0, none⟩)], .int .i64 (x.1.i : Int), .agg #[.int .i64 (shV x.1.s : Int), .int .i64 (shI x.1.s : Int), .string (shX x.1.s)], undef, undef, undef, undef, undef, undef], defers := [] })
    (fun x a' _ X Y row hs hg hr => by obtain ⟨Bx, h1, h2, h3⟩ := hs; exact ⟨Bx, h1, has_any_own (β := Unit) _ _ _ _ () X Y row h2 hg (fun r e => (hr r e).2), h3⟩)
    ?assign ?body ?done ?stop
  case assign =>
    rintro l' pre x V K ⟨⟨h1, h2, h3, h4⟩, hB⟩ hK
    have hlt := h4.lt
    have ha := (Below.refl V.heap.size V).alloc (Nat.le_refl _) (.cells #[.int .i64 (shV x.1.s : Int), .int .i64 (shI x.1.s : Int), .string (shX x.1.s)] 23)
    gi_wp2
    exact hK _ _ ((KeepsOthers.alloc _ _).from _) (kt_of_below ha hB.size) ⟨⟨h1, h2.alloc _, h3.alloc _, h4.alloc _⟩, up_trans hB ha⟩ ⟨V.heap.size, hlt, sx_new _ _ _ _, rfl⟩
  case body =>
    rintro l' pre x a' V hl _ ⟨⟨hall, hkx, hrx, hex⟩, hB⟩ ⟨Bx, hBx, hX, rfl⟩ hlen
    have hmx : Try.prog.follows .mixedOrders = true := by kernel_rfl
    have hq := fun W => eqlK (shV x.1.s : Int) (shI x.1.s : Int) v i W
    have hki := hasK_iff (v := v) (i := i) (s := x.1.s)
    have hkb : ((shV x.1.s : Int) == v && (shI x.1.s : Int) == i) = hasK v i x.1.s := by
      rw [Bool.eq_iff_iff, hki, Bool.and_eq_true, beq_iff_eq, beq_iff_eq]
      exact ⟨fun e => ⟨x.2, e.1, e.2⟩, fun e => ⟨e.2.1, e.2.2⟩⟩
    rw [hkb] at hq
    clear hki hkb
    obtain ⟨x0, x1, x2⟩ := hX.cells
    obtain ⟨k0, k1⟩ := hkx.cells
    have hkk := fun W (hb : Below V.heap.size V W) => (hkx.up hb).cells
    have hcc := fun W => key_any (shV x.1.s : Int) (shI x.1.s : Int) (shX x.1.s) W
    have HKK := Lib.hid hkk
    have HC := Lib.hid hcc
    clear hkk hcc
    cases hb : hasK v i x.1.s
    · rw [hb] at hq
      gi_wp2_with fail
      gi_region_with_o (refine ⟨trivial, ?_⟩; gi_at_call 49; refine (CallsIn.inRound l' (callsIn_wide.2 (HC.out _))).mono ?_; rintro e w2 ⟨rfl, hb2⟩; have b2 : Hid (Below V.heap.size V w2) := Lib.hid ⟨hb2.os, hb2.tape, hb2.output, hb2.size, hb2.block⟩; obtain ⟨q0, q1⟩ := HKK.out _ b2.out)
      all_goals
        gi_wp2_with fail
        exact ⟨keepsFrom_below b2.out, kt_of_below b2.out hB.size, ⟨(fun y hy => by
          rcases List.mem_append.1 hy with hy | hy
          · exact hall y hy
          · rw [List.mem_singleton.1 hy]; exact hb), hkx.up b2.out, boxed_up hrx b2.out, boxed_up hex b2.out⟩, up_trans hB b2.out⟩
    · rw [hb] at hq
      gi_wp2_with fail
      gi_region_with_o (refine ⟨trivial, ?_⟩; gi_at_call 49; refine (CallsIn.inRound l' (callsIn_wide.2 (HC.out _))).mono ?_; rintro e w2 ⟨rfl, hb2⟩; have b2 : Hid (Below V.heap.size V w2) := Lib.hid ⟨hb2.os, hb2.tape, hb2.output, hb2.size, hb2.block⟩; obtain ⟨q0, q1⟩ := HKK.out _ b2.out)
      all_goals
        have hr3 := boxed_up hrx b2.out
        have he3 := boxed_up hex b2.out
        have hB3 := up_trans hB b2.out
        have k3 := keepsFrom_below (B := W0.heap.size) b2.out
        clear x0 x1 x2
        obtain ⟨x0, x1, x2⟩ := (hX.up b2.out).cells
        have z0 := hr3.cell
        have z1 := hr3.frozen
        have e0 := he3.cell
        have e1 := he3.frozen
        gi_wp2_with fail
        exact ⟨k3.trans (((KeepsOthers.setCell _ _ _).trans (KeepsOthers.setCell _ _ _)).from _), ⟨rfl, pre, x, rfl, hall, hb, boxed_set (hr3.set _) (by omega) _ _, (boxed_set he3 (by omega) _ _).set _⟩, (hB3.setCell (p := ⟨w.heap.size + 1 + 1, 0, none⟩) (by show w.heap.size ≤ w.heap.size + 1 + 1; omega) _).setCell (p := ⟨w.heap.size + 1 + 1 + 1, 0, none⟩) (by show w.heap.size ≤ w.heap.size + 1 + 1 + 1; omega) _⟩
  case done =>
    rintro D' ys V hD rfl ⟨⟨hall, hkx, hrx, hex⟩, hB⟩ hK
    obtain ⟨q1, q2⟩ := fd_none (no_key h.sz hall)
    have z0 := hrx.cell
    have z1 := hrx.frozen
    have e0 := hex.cell
    have e1 := hex.frozen
    gi_wp2_with fail
    have hK3 := ((KeepsOthers.setCell V ⟨w.heap.size + 1 + 1, 0, none⟩ (.string ⟨#[]⟩)).trans (KeepsOthers.setCell _ ⟨w.heap.size + 1 + 1 + 1, 0, none⟩ (.int .i64 7))).same _ _ hK rfl
    have hg := grownBy_putObj' ((V.setCell ⟨w.heap.size + 1 + 1, 0, none⟩ (.string ⟨#[]⟩)).setCell ⟨w.heap.size + 1 + 1 + 1, 0, none⟩ (.int .i64 7)) D' (.deferred none)
    have hgr : ∀ r, some D' = some r → ∃ o : Obj, ((V.setCell ⟨w.heap.size + 1 + 1, 0, none⟩ (.string ⟨#[]⟩)).setCell ⟨w.heap.size + 1 + 1 + 1, 0, none⟩ (.int .i64 7)).heap[r]? = some o ∧ o.isCells = false := fun r e => by cases e; exact ⟨_, hK3, rfl⟩
    refine ⟨by simp, .inl ⟨_, _, rfl, run_takeDeferred hK3, ?_⟩⟩
    exact ⟨_, results_txt_errB rfl _ _ (w.heap.size + 1 + 1) (w.heap.size + 1 + 1 + 1) rfl rfl (boxed_row (boxed_set (hrx.set _) (by omega) _ _) hg hgr) (boxed_row ((boxed_set hex (by omega) _ _).set _) hg hgr), by rw [q1, q2]; rfl, hfin hD ((hB.setCell (p := ⟨w.heap.size + 1 + 1, 0, none⟩) (by show w.heap.size ≤ w.heap.size + 1 + 1; omega) _).setCell (p := ⟨w.heap.size + 1 + 1 + 1, 0, none⟩) (by show w.heap.size ≤ w.heap.size + 1 + 1 + 1; omega) _) hK3⟩
  case stop =>
    rintro D' cd pre V hD ⟨k', hk', rfl⟩ ⟨⟨rfl, pre0, x, hpre, hall, hyes, hx9, he9⟩, hB⟩ hK
    obtain ⟨k2, hk2, rfl, hxx⟩ := shs_last h.sz hpre
    have e1 : x.1.s = gs d k2 := by rw [hxx]; rfl
    rw [e1] at hyes hx9
    obtain ⟨q1, q2⟩ := fd_at (by omega) hyes (no_key h.sz hall)
    rw [q1, q2]
    have hg := grownBy_putObj' V D' (.deferred none)
    have hgr : ∀ r, some D' = some r → ∃ o : Obj, V.heap[r]? = some o ∧ o.isCells = false := fun r e => by cases e; exact ⟨_, hK, rfl⟩
    gi_wp2_with fail
    refine ⟨by simp, .inl ⟨_, _, rfl, run_takeDeferred hK, ?_⟩⟩
    exact ⟨_, results_txt_errB rfl _ _ (w.heap.size + 1 + 1) (w.heap.size + 1 + 1 + 1) rfl rfl (boxed_row hx9 hg hgr) (boxed_row he9 hg hgr), rfl, hfin hD hB hK⟩
end
end Go.Proofs.Ytofafmjkjgiccaa.Mat
