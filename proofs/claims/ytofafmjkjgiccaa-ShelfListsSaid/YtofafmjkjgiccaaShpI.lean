/- The program's List: walked (a range over a function that reads and writes a map by structs). -/
import Derived.Test.YtofafmjkjgiccaaShpH
namespace Go.Proofs.Ytofafmjkjgiccaa.Mat
open Go.RowKit Go.Shelf Fld

attribute [local go_sem] Oper.semAt_some

section
variable {A B : Option Addr} {c k : Nat} {d : Dk} {w : World}
set_option maxRecDepth 100000 in
set_option maxHeartbeats 6400000 in
theorem shList_any (h : DOk w A c B k d) : Calls Try.prog 19 #[.agg #[.slice A d.n c, .slice B d.m k, .int .i64 d.fuse, .bool d.off]] w (KeysRet w (ks (gs d) d.n)) := by
  obtain ⟨i0, ii, iz0, iz1, iz2⟩ := info_parts infoKey
  have hbn := h.sz.bn
  have hmm := @run_makeMap Try.prog
  obtain ⟨W1, W0, hW1, hW0, hx1, hl0, hm0, ht0, hx0, hB0, hz0⟩ := st_list w (.slice A d.n c) (.slice B d.m k) (.int .i64 d.fuse) (.bool d.off)
  obtain ⟨s0, s1, s2, s3⟩ := hx1.cells
  refine (callsIn_wide (n := 9)).1 ?_
  refine callsIn_of_wp_marks Try.func19 rfl trivial ?_ rfl
  simp only [Try.ntmps19, List.size_toArray, List.length_cons, List.length_nil, Nat.reduceAdd, Nat.reduceSub, Array.replicate_succ, Array.replicate_zero, List.push_toArray, List.append_toArray, List.nil_append, List.cons_append]
  rw [hW1] at s0 s1 s2 s3
  gi_wp2_with fail
  refine ⟨trivial, (shards_in _ _ _ _ _ _).mono ?_⟩
  rintro e w5 ⟨rfl, rfl⟩
  clear s0 s1 s2 s3 hx1 hmm
  gi_wp2_with fail
  rw [← hW1, ← hW0]
  clear hW0 hW1
  have hfin : ∀ {V : World} {D' : Nat}, W0.heap.size ≤ D' → Below w.heap.size w V → V.heap[D']? = some (.deferred (some [])) → Below w.heap.size w (V.putObj D' (.deferred none)) := fun hD hB hK => hB.trans (belowK_b (w := w) (Nat.le_refl _) _ _ _ _ (Nat.le_trans hB0.size hD) hK rfl rfl)
  refine wpIn_rangeR (n := 9) (gf := 63) (lb := #[.pointer (some ⟨w.heap.size + 1 + 1 + 1 + 1, 0, none⟩)]) rfl (enters_of Try.func63 (by kernel_rfl) rfl)
    (encs := enc2) (n₀ := w.heap.size) (b₁ := w.heap.size + 1 + 1 + 1 + 1) (S := fun xs => xs = shs (slo (dsl d h.sz) d.n)) (Sp := fun pre => ∃ k, k < d.n ∧ pre = shs (slo (dsl d h.sz) (k + 1))) (N := d.n) (w0 := W0)
    (fun l' J' Jx' W' hW hJ' hJx' hY' h0' => shards1_in l' (w.heap.size + 1 + 1 + 1 + 1) (w.heap.size + 1 + 1 + 1 + 1) h J' Jx' W' (up_trans hB0 hW) (hx0.up hW) (Nat.le_refl _) hJ' hJx' hY' h0')
    hB0.size (Below.refl _ _) (fun _ => rfl)
    (fun pre V => ((∃ v, Boxed V (w.heap.size + 1) 43 v ∧ V.ownsRow w.heap.size 41 2 v (kyL pre).length (kcs (kyL pre))) ∧ V.ownsMap Try.prog 41 (unitElem (H := Unit)) (w.heap.size + 1 + 1) pre.length (kyM pre) ∧ Boxed V (w.heap.size + 1 + 1 + 1) 83 (.map (some (w.heap.size + 1 + 1)))) ∧ Below w.heap.size w V)
    (fun _ _ _ => False)
    (OwnFrom.and (fun pre X Y row hs hg hr => by
      obtain ⟨⟨v, h1, h2⟩, h3, h4⟩ := hs
      have hr' := fun r e => (hr r e).2
      exact ⟨⟨v, boxed_row h1 hg hr', row_own h2 hg hr'⟩, h3.kept hg (fun e => by have := (hr _ e.symm).1; omega), boxed_row h4 hg hr'⟩) (ownFrom_below (Nat.le_refl _) hB0.size))
    (fun _ _ _ _ _ hs _ _ => hs)
    ⟨⟨⟨_, hl0, World.ownsRow_nil _ _ _ _⟩, hm0, ht0⟩, hB0⟩
    (fun x a' V => ∃ Bx, w.heap.size + 1 + 1 + 1 < Bx ∧ Sx V Bx (shV x.1.s : Int) (shI x.1.s : Int) (shX x.1.s) ∧ a' = { tmps := #[.agg #[.slice A d.n c, .slice B d.m k, .int .i64 d.fuse, .bool d.off], .pointer (some ⟨w.heap.size, 0, none⟩), .slice none 0 0, .pointer (some ⟨w.heap.size + 1, 0, none⟩), .pointer (some ⟨w.heap.size + 1 + 1 + 1, 0, none⟩), undef, .pointer (some ⟨Bx, 0, none⟩), undef, undef, undef, .map (some (w.heap.size + 1 + 1)), .agg #[.slice A d.n c, .slice B d.m k, .int .i64 d.fuse, .bool d.off], .func (.func 63) #[] #[.pointer (some ⟨w.heap.size + 1 + 1 + 1 + 1, 0, none⟩)], .int .i64 (x.1.i : Int), .agg #[.int .i64 (shV x.1.s : Int), .int .i64 (shI x.1.s : Int), .string (shX x.1.s)], undef, undef, undef, undef, undef, undef, undef, undef, undef, undef, undef, undef, undef, undef, undef, undef, undef, undef], defers := [] })
    (fun x a' _ X Y row hs hg hr => by obtain ⟨Bx, h1, h2, h3⟩ := hs; exact ⟨Bx, h1, has_any_own (β := Unit) _ _ _ _ () X Y row h2 hg (fun r e => (hr r e).2), h3⟩)
    ?assign ?body ?done ?stop
  case assign =>
    rintro l' pre x V K ⟨⟨⟨v, h1, h2⟩, h3, h4⟩, hB⟩ hK
    have hlt := h4.lt
    have ha := (Below.refl V.heap.size V).alloc (Nat.le_refl _) (.cells #[.int .i64 (shV x.1.s : Int), .int .i64 (shI x.1.s : Int), .string (shX x.1.s)] 23)
    gi_wp2
    exact hK _ _ ((KeepsOthers.alloc _ _).from _) (kt_of_below ha hB.size) ⟨⟨⟨v, h1.alloc _, h2.alloc _⟩, h3.alloc _, h4.alloc _⟩, up_trans hB ha⟩ ⟨V.heap.size, hlt, sx_new _ _ _ _, rfl⟩
  case body =>
    rintro l' pre x a' V hl _ ⟨⟨⟨v, hv, hrow⟩, hmap, hmb⟩, hB⟩ ⟨Bx, hBx, hX, rfl⟩ hlen
    have hle := (kyL_le pre).1
    have hvl := shV_le x.1.s
    have hil : shI x.1.s ≤ 1048576 := by have := shI_le x.1.s; omega
    have hkey := keyOf_key hvl hil
    have hhas := kyM_has pre hvl hil
    have hnew := kyM_new (l := pre) (x := x)
    have hold := kyM_old (l := pre) (x := x)
    have hcc := fun W => key_any (shV x.1.s : Int) (shI x.1.s : Int) (shX x.1.s) W
    obtain ⟨x0, x1, x2⟩ := hX.cells
    generalize shV x.1.s = kv at *
    generalize shI x.1.s = ki at *
    generalize shX x.1.s = kx at *
    have HC := Lib.hid hcc
    have HLE : Hid ((kyL pre).length ≤ 140737488351232 / 16) := Lib.hid (by omega)
    have HHAS := Lib.hid hhas
    have HNEW := Lib.hid hnew
    have HOLD := Lib.hid hold
    have HKEY := Lib.hid hkey
    clear hcc hle hhas hnew hold hkey hvl hil
    gi_wp2_with fail
    refine ⟨trivial, (callsIn_wide.2 (HC.out _)).mono ?_⟩
    rintro e V2 ⟨rfl, hb2⟩
    have ha2 := hb2.alloc hb2.size (.cells #[.int .i64 (kv : Int), .int .i64 (ki : Int)] 41)
    have hv3 := boxed_up hv ha2
    have hrow3 := own_up hrow ha2
    have hmap3 := hmap.kept (grownBy_of_below ha2 none) (by simp)
    have hmb3 := boxed_up hmb ha2
    have hkx := kx_new V2 (kv : Int) (ki : Int)
    have hB3 := up_trans hB ha2
    have k3 := keepsFrom_below (B := W0.heap.size) ha2
    have t3 := kt_of_below (b₁ := w.heap.size + 1 + 1 + 1 + 1) ha2 hB.size
    have hlt2 : w.heap.size + 1 + 1 + 1 < V2.heap.size := Nat.lt_of_lt_of_le hmb.lt hb2.size
    clear hv hrow hmap hmb hB x0 x1 x2 hX hb2 ha2
    obtain ⟨y0, y1⟩ := hkx.cells
    have m0 := hmb3.cell
    generalize hV3 : V2.alloc (.cells #[.int .i64 (kv : Int), .int .i64 (ki : Int)] 41) = V3 at *
    by_cases hin : (kv, ki) ∈ kyL pre
    · have hh := HHAS.out
      rw [decide_eq_true hin] at hh
      obtain ⟨e1, e2⟩ := HOLD.out hin
      gi_wp2_with (gi_at_lookup; refine wpListIn_lookup_own_unit _ rfl _ _ 83 rfl 41 88 lawKey Try.underlying83 (zeroSt _) (w.heap.size + 1 + 1) pre.length _ rfl hmap3 _ _ rfl HKEY.out ?_)
      have ha := (Below.refl V3.heap.size V3).alloc (Nat.le_refl _) (.cells #[] 88)
      exact ⟨k3.trans (keepsFrom_below ha), t3.trans (kt_of_below ha hB3.size), ⟨⟨v, hv3.alloc _, by rw [e1]; exact hrow3.alloc _⟩, by rw [e2]; exact (hmap3.alloc _).mono (by rw [List.length_append]; omega), hmb3.alloc _⟩, up_trans hB3 ha⟩
    · have hh := HHAS.out
      rw [decide_eq_false hin] at hh
      obtain ⟨e1, e2⟩ := HNEW.out hin
      have ha := (Below.refl V3.heap.size V3).alloc (Nat.le_refl _) (.cells #[] 88)
      have hw1 : ∀ w1, (V3.alloc (.cells #[] 88)).grownBy w1 (some (w.heap.size + 1 + 1)) → Boxed w1 (w.heap.size + 1) 43 v ∧ w1.ownsRow w.heap.size 41 2 v (kyL pre).length (kcs (kyL pre)) ∧ Boxed w1 (w.heap.size + 1 + 1 + 1) 83 (.map (some (w.heap.size + 1 + 1))) ∧ Kx w1 V2.heap.size (kv : Int) (ki : Int) ∧ KeepsFrom W0.heap.size V w1 ∧ Kt w.heap.size (w.heap.size + 1 + 1 + 1 + 1) V w1 ∧ Below w.heap.size w w1 := fun w1 hg => by
        have hB4 := up_trans hB3 ha
        have hne : v.ownBlock = none ∨ v.ownBlock ≠ some (w.heap.size + 1 + 1) := by
          cases hvv : v.ownBlock with
          | none => exact .inl rfl
          | some g =>
            refine .inr (fun e => ?_)
            obtain ⟨cc, fz, q⟩ := own_kind (hrow3.alloc (.cells #[] 88)) g hvv
            obtain ⟨es, ck, hm, _⟩ := hmap3.alloc (.cells #[] 88)
            injection e with e
            rw [e, hm] at q
            cases q
        have t5 : Kt w.heap.size (w.heap.size + 1 + 1 + 1 + 1) (V3.alloc (.cells #[] 88)) w1 := kt_grown hg hB4.size (fun k e => by cases e; omega) (fun k _ _ _ e _ hk => by cases e; omega)
        exact ⟨(hv3.alloc _).kept hg (by simp), (hrow3.alloc _).kept hg hne, (hmb3.alloc _).kept hg (by simp), Has.grown (hkx.alloc _) hg (by simp; omega), (k3.trans (keepsFrom_below ha)).trans (KeepsFrom.of_grownBy hg (fun j e => by cases e; omega)), (t3.trans (kt_of_below ha hB3.size)).trans t5, hB4.trans t5.below⟩
      have HW1 := Lib.hid hw1
      have m4 := (hmb3.alloc (.cells #[] 88)).cell
      obtain ⟨y2, y3⟩ := (hkx.alloc (.cells #[] 88)).cells
      clear hw1
      gi_wp2_with (first
        | (gi_at_lookup; refine wpListIn_lookup_own_unit _ rfl _ _ 83 rfl 41 88 lawKey Try.underlying83 (zeroSt _) (w.heap.size + 1 + 1) pre.length _ rfl hmap3 _ _ rfl HKEY.out ?_)
        | (gi_at_mapUpdate; refine wpListIn_mapUpdate_own _ rfl _ _ _ 83 rfl 41 88 lawKey Try.underlying83 _ (w.heap.size + 1 + 1) pre.length _ rfl (hmap3.alloc _) (by unfold maxLen; omega) _ _ _ rfl rfl HKEY.out _ [] unitElem_mk ?_; intro w1 hown1 hgrow1; obtain ⟨hv5, hrow5, hmb5, hkx5, k5, t5, hB5⟩ := HW1.out w1 hgrow1; have c5 := hv5.cell; obtain ⟨q0, q1⟩ := hkx5.cells)
        | (gi_at_builtin; refine wpListIn_append_own _ rfl (.tmp 28) (.tmp 30) 43 rfl w.heap.size 41 i0 (.agg #[.int .i64 0, .int .i64 0]) 2 16 Try.underlying43 ii iz0 iz1 iz2 rfl (by decide) _ _ _ rfl (hrow5.alloc _) ⟨w1.heap.size, 0, none⟩ 1 1 [.int .i64 (kv : Int), .int .i64 (ki : Int)] rfl rfl (two_news10 _ _ _) (by simp [Value.oneCell']) (by have := HLE.out; unfold maxLen; omega) (by have := HLE.out; omega) (by rw [size_alloc]; have := hB5.size; omega) ?_))
      intro v' w' hown hgrow _
      obtain ⟨A', c', rfl, _⟩ := own_form hown
      have hne1 := hv5.not_row (by decide) hrow5
      have hne3 := hmb5.not_row (by decide) hrow5
      have hne2 : some (w.heap.size + 1 + 1) ≠ v.ownBlock := fun e => by
        obtain ⟨cc, fz, q⟩ := own_kind hrow5 _ e.symm
        obtain ⟨es, ck, hm, _⟩ := hown1
        rw [hm] at q
        cases q
      have ha6 := (Below.refl w1.heap.size w1).alloc (Nat.le_refl _) (.cells #[.int .i64 (kv : Int), .int .i64 (ki : Int)] 41)
      have hv6 := (hv5.alloc (.cells #[.int .i64 (kv : Int), .int .i64 (ki : Int)] 41)).kept hgrow hne1
      have hmb6 := (hmb5.alloc (.cells #[.int .i64 (kv : Int), .int .i64 (ki : Int)] 41)).kept hgrow hne3
      have hmap6 := (hown1.alloc (.cells #[.int .i64 (kv : Int), .int .i64 (ki : Int)] 41)).kept hgrow hne2
      obtain ⟨t6, k6⟩ := row_kt (b₁ := w.heap.size + 1 + 1 + 1 + 1) (hrow5.alloc (.cells #[.int .i64 (kv : Int), .int .i64 (ki : Int)] 41)) hgrow (Nat.le_refl _) (by rw [size_alloc]; have := hB5.size; omega) (by decide) (by decide)
      have t7 := t5.trans ((kt_of_below ha6 hB5.size).trans t6)
      have k7 := k5.trans ((keepsFrom_below ha6).trans (k6.from W0.heap.size))
      have hB6 := hB5.trans ((kt_of_below (b₁ := 0) ha6 hB5.size).below.trans t6.below)
      have c6 := hv6.cell
      have f6 := hv6.frozen
      clear c5 q0 q1
      gi_wp2_with fail
      refine ⟨k7.trans ((KeepsOthers.setCell _ _ _).from _), t7.trans (kt_set _ _ _ (Nat.le_succ _) (by show w.heap.size + 1 < w.heap.size + 1 + 1 + 1 + 1; omega)), ⟨⟨.slice A' ((kyL pre).length + 1) c', hv6.set _, ?_⟩, ?_, boxed_set hmb6 (by omega) _ _⟩, hB6.setCell (p := ⟨w.heap.size + 1, 0, none⟩) (Nat.le_succ _) _⟩
      · rw [e1, kcs_add, List.length_append]
        exact ownsRow_setCell_other hown (fun e => hv6.not_row (by decide) hown e.symm) _
      · rw [e2, List.length_append]
        exact hmap6.setCell (by show w.heap.size + 1 + 1 ≠ w.heap.size + 1; omega) _
  case done =>
    rintro D' ys V hD rfl ⟨⟨⟨v, hv, hrow⟩, hmap, hmb⟩, hB⟩ hK
    have c1 := hv.cell
    gi_wp2_with fail
    refine ⟨by simp, .inl ⟨_, _, rfl, run_takeDeferred hK, ?_⟩⟩
    have hB9 := hfin hD hB hK
    have hr9 := row_own hrow (grownBy_putObj' V D' (.deferred none)) (fun r e => by cases e; exact ⟨_, hK, rfl⟩)
    rw [kyL_slo] at hr9
    obtain ⟨A9, c9, rfl, hN⟩ := KRow.kr ⟨hr9, hB9⟩
    exact ⟨_, results_tmp rfl _ _ _, A9, c9, rfl, hN, hB9⟩
  case stop =>
    rintro D' cd pre V _ _ h _
    exact h.elim
end
end Go.Proofs.Ytofafmjkjgiccaa.Mat
