/- Collecting the ring; the program's Ring and Third: walked. -/
import Derived.Test.YthalaihpgjniiaaSipA
namespace Go.Proofs.Ythalaihpgjniiaa.Mat
open Go.RowKit Go.Shelf Fld

attribute [local go_sem] Oper.semAt_some

theorem has_any_own {β : Type} (b t n : Nat) (f : Nat → Value) : _root_.Go.Own (fun (_ : β) W => Has W b t n f) := fun s X Y row hs hg hrow =>
  Has.grown hs hg (fun e' => by
    obtain ⟨o, ho, hc⟩ := hrow b e'.symm
    obtain ⟨c, lo, hi', hb, _⟩ := hs
    rw [hb] at ho; cases ho; cases hc)
section
variable {W X : World} {row : Option Nat}
theorem own_kind_ {base size n : Nat} {e : TypeId} {v : Value} {l : List Value} (h : W.ownsRow base e size v n l) : ∀ k, v.ownBlock = some k → ∃ c z, W.heap[k]? = some (.cells c e z) := fun k hk => by
  rcases h.2 with ⟨rfl, _⟩ | ⟨g', cap, cur, rfl, _, hh, _⟩
  · cases hk
  · cases hk
    exact ⟨_, _, hh⟩
theorem row_own {base size n : Nat} {e : TypeId} {v : Value} {l : List Value} (h : W.ownsRow base e size v n l) (hg : W.grownBy X row) (hr : ∀ r, row = some r → ∃ o : Obj, W.heap[r]? = some o ∧ o.isCells = false) : X.ownsRow base e size v n l :=
  h.kept hg (by
    cases hv : v.ownBlock with
    | none => exact .inl rfl
    | some g =>
      refine .inr (fun e' => ?_)
      obtain ⟨o, ho, hc⟩ := hr g e'.symm
      obtain ⟨c, z, h1⟩ := own_kind_ h g hv
      rw [h1] at ho; cases ho; cases hc)
theorem own_form_ {w : World} {base n size : Nat} {e : TypeId} {v : Value} {l : List Value} (h : w.ownsRow base e size v n l) : ∃ A c, v = .slice A n c := ownP_form h
theorem own_up_ {base size n : Nat} {e : TypeId} {v : Value} {l : List Value} (h : W.ownsRow base e size v n l) (hb : Below W.heap.size W X) : X.ownsRow base e size v n l := h.kept (grownBy_of_below hb none) (by cases hv : v.ownBlock <;> simp)
theorem others_row {W' : World} {base size n : Nat} {e : TypeId} {v : Value} {l : List Value} (h : W.ownsRow base e size v n l) (hg : W.grownBy W' v.ownBlock) : KeepsOthers W W' := KeepsOthers.of_grownBy hg (fun j o hj ho => by
    obtain ⟨c', z, q⟩ := own_kind_ h j hj
    rw [ho] at q
    cases q
    rfl)
end

section
variable {w : World} {A : Option Addr} {N c : Nat}
theorem Ri.up {W W' : World} {g a n : Nat} (h : Ri W g a n A N c) (hb : Below W.heap.size W W') : Ri W' g a n A N c := ⟨boxed_past h.from_ hb, boxed_past h.nodes hb, boxed_past h.live hb⟩
set_option maxRecDepth 100000 in
set_option maxHeartbeats 4000000 in
theorem appendSeq_any (g a n : Nat) (f : Nat → Bool) (han : a < n) (hn2 : n ≤ 64) (hR : Ri w g a n A N c) (hf : Bl w w.heap.size A N f) :
    Calls Try.prog 29 #[.slice none 0 0, ring1 g] w (NumsRet w (ar (lv f N) a n n)) := by
  obtain ⟨i0, ii, iz0, iz1, iz2⟩ := info_parts infoNum
  have hg3 := hR.live.lt
  obtain ⟨W0, hW0, hi0, hR0, hB0⟩ : ∃ W0, W0 = w.alloc (.cells #[.slice none 0 0] 27) ∧ Has W0 w.heap.size 27 1 (fun _ => .slice none 0 0) ∧ Ri W0 g a n A N c ∧ Below w.heap.size w W0 :=
    ⟨_, rfl, has_box w _ _, ⟨hR.from_.alloc _, hR.nodes.alloc _, hR.live.alloc _⟩, (Below.refl _ _).alloc (Nat.le_refl _) _⟩
  refine (callsIn_wide (n := 6)).1 ?_
  refine callsIn_of_wp_marks Try.func29 rfl trivial ?_ rfl
  simp only [Try.ntmps29, List.size_toArray, List.length_cons, List.length_nil, Nat.reduceAdd, Nat.reduceSub, Array.replicate_succ, Array.replicate_zero, List.push_toArray, List.append_toArray, List.nil_append, List.cons_append]
  gi_wp2_with fail
  rw [← hW0]
  clear hW0
  refine wpIn_rangeFunc_ownH (F := Fence.wide) (n := 6) rfl (by omega) (gf := 30) (lb := #[.pointer (some ⟨g + 1, 0, none⟩), .pointer (some ⟨g, 0, none⟩), .pointer (some ⟨g + 2, 0, none⟩)]) rfl trivial (enters_of Try.func30 (by kernel_rfl) rfl)
    (encs := fun x => #[.int .i64 ((x : Nat) : Int)]) (Kp := Kg w.heap.size g) (S := fun xs => xs = ar (lv f N) a n n) (Sp := fun pre => (∃ k x, k < n ∧ pre = ar (lv f N) a n k ++ [x] ∧ pre = ar (lv f N) a n (k + 1))) (N := n) (w0 := W0)
    (fun l' J' Jx' W' hW hJ' _ hY' h0' => around1_in l' g a n w.heap.size f han hn2 J' Jx' W' (hR0.up hW) (hf.below (hB0.trans (hW.mono hB0.size)) (Nat.le_refl _)) hY' h0')
    Kg.trans (kg_put hB0.size (by have := hB0.size; omega)) (Below.refl _ _) (fun _ => rfl)
    (fun pre V => (∃ v, Has V w.heap.size 27 1 (fun _ => v) ∧ V.ownsRow w.heap.size 3 1 v (nums pre).length (nums pre)) ∧ Below w.heap.size w V) (fun _ _ _ => False)
    (OwnFrom.and (fun s X Y row hs hg hr => by
      obtain ⟨v, h1, h2⟩ := hs
      exact ⟨v, has_any_own (β := Unit) _ _ _ _ () X Y row h1 hg (fun r e => (hr r e).2), row_own h2 hg (fun r e => (hr r e).2)⟩) (ownFrom_below (Nat.le_refl _) hB0.size))
    (fun _ _ _ _ _ hs _ _ => hs) ⟨⟨_, hi0, World.ownsRow_nil _ _ _ _⟩, hB0⟩
    (fun x a' _ => a' = { tmps := #[.slice none 0 0, ring1 g, .pointer (some ⟨w.heap.size, 0, none⟩), undef, .slice none 0 0, .int .i64 ((x : Nat) : Int), ring1 g, .int .i64 ((x : Nat) : Int), undef, undef, undef, undef, undef], defers := [] })
    (fun _ _ _ _ _ _ hs _ _ => hs)
    ?assign ?body ?done ?stop
  case assign =>
    rintro l' pre x V K hi hK
    gi_wp2
    exact hK _ _ (KeepsFrom.refl _ _) (Kg.refl _ _ _) hi rfl
  case body =>
    rintro l' pre x a' V hl _ ⟨⟨v, hv, hrow⟩, hB⟩ rfl hlen
    have hnl := nums_len pre
    have HLEN : Hid ((nums pre).length ≤ 64) := Lib.hid (by omega)
    have c1 := hv.cell (show 0 < 1 by omega)
    have hzz := hB.size
    clear hnl
    gi_wp2_with (gi_at_builtin; refine wpListIn_append_own _ rfl (.tmp 8) (.tmp 10) 27 rfl w.heap.size 3 i0 (.int .i64 0) 1 8 Try.underlying27 ii iz0 iz1 iz2 rfl (by decide) _ _ _ rfl (hrow.alloc _) ⟨V.heap.size, 0, none⟩ 1 1 [.int .i64 (x : Int)] rfl rfl (one_news _ _) (by simp [Value.oneCell']) (by have := HLEN.out; unfold maxLen; omega) (by have := HLEN.out; omega) (by rw [size_alloc]; omega) ?_)
    intro v' w' hown hgrow _
    obtain ⟨A', c', rfl⟩ := own_form_ hown
    have hne : some w.heap.size ≠ v.ownBlock := has_ne_own hv hrow (by decide)
    have hv3 := Has.grown (hv.alloc (.cells #[.int .i64 (x : Int)] 3)) hgrow hne
    have c3 := hv3.cell (show 0 < 1 by omega)
    have f3 := hv3.frozen (show 0 < 1 by omega)
    have ha := (Below.refl V.heap.size V).alloc (Nat.le_refl _) (.cells #[.int .i64 (x : Int)] 3)
    have t3 : Kg w.heap.size g _ w' := kg_grown hgrow (by rw [size_alloc]; omega) (by rw [size_alloc]; omega) (fun k hk => by have := ((hrow.alloc (.cells #[.int .i64 (x : Int)] 3)).lt k hk).1; exact ⟨this, by omega⟩)
    have k3 := others_row (hrow.alloc (.cells #[.int .i64 (x : Int)] 3)) hgrow
    have t4 := (kg_of_below (g := g) ha hzz (by omega)).trans t3
    have k4 := (keepsFrom_below (B := W0.heap.size) ha).trans (k3.from W0.heap.size)
    have hB3 := hB.trans t4.below
    clear c1
    gi_wp2_with fail
    refine ⟨k4.trans ((KeepsOthers.setCell _ _ _).from _), t4.trans (kg_set _ _ _ (Nat.le_refl _) (.inr (by show g + 3 ≤ w.heap.size; omega))), ⟨.slice A' ((nums pre).length + 1) c', ?_, ?_⟩, hB3.setCell (p := ⟨w.heap.size, 0, none⟩) (Nat.le_refl _) _⟩
    · exact (hv3.set_ 0 _).congr (fun j hj => by rw [show j = 0 by omega]; rfl)
    · rw [nums_add, List.length_append]
      exact ownsRow_setCell_other hown (fun e => has_ne_own hv3 hown (by decide) e.symm) _
  case done =>
    rintro D ys V hD rfl ⟨⟨v, hv, hrow⟩, hB⟩ hK
    have c1 := hv.cell (show 0 < 1 by omega)
    gi_wp2_with fail
    refine ⟨by simp, .inl ⟨_, _, rfl, run_takeDeferred hK, ?_⟩⟩
    have hB9 := hB.trans (belowK_b (w := w) (Nat.le_refl _) V D _ (.deferred none) (Nat.le_trans hB0.size hD) hK rfl rfl)
    have hr9 := row_own hrow (grownBy_putObj' V D (.deferred none)) (fun r e => by cases e; exact ⟨_, hK, rfl⟩)
    obtain ⟨A9, c9, rfl, hN⟩ := nr_chosen ⟨hr9, hB9⟩
    exact ⟨_, results_tmp rfl _ _ _, A9, c9, rfl, hN, hB9⟩
  case stop =>
    rintro D cd pre V _ _ h _
    exact h.elim
set_option maxRecDepth 100000 in
set_option maxHeartbeats 1000000 in
theorem collect_any (g a n : Nat) (f : Nat → Bool) (han : a < n) (hn2 : n ≤ 64) (hR : Ri w g a n A N c) (hf : Bl w w.heap.size A N f) :
    Calls Try.prog 22 #[ring1 g] w (NumsRet w (ar (lv f N) a n n)) := by
  have h := appendSeq_any g a n f han hn2 hR hf
  go_enter Try.func22, Try.ntmps22
  go_wp2_with fail
  refine h.mono ?_
  rintro e w1 ⟨A1, c1, rfl, hN, hb⟩
  go_wp2
  go_ret
  exact ⟨A1, c1, rfl, hN, hb⟩
set_option maxRecDepth 100000 in
set_option maxHeartbeats 1600000 in
theorem ring_any (vol nodes : Int) (hv : I64 vol) (f : Nat → Bool) (hf : Bl w w.heap.size A N f) :
    Calls Try.prog 11 #[.int .i64 vol, .int .i64 nodes, .slice A N c] w (NumsRet w (rgL (lv f N) vol nodes)) := by
  have NO : Hid (∀ w' : World, Below w.heap.size w w' → (vol < 0 ∨ nodes < 1 ∨ 64 < nodes) → NumsRet w (rgL (lv f N) vol nodes) (.returned (.slice none 0 0)) w') := Lib.hid (fun w' hb q => by
    rw [rgL_no q]
    exact ⟨none, 0, rfl, fun hh => absurd hh (Nat.lt_irrefl _), hb⟩)
  by_cases b1 : vol < 0
  · clear hf
    go_enter Try.func11, Try.ntmps11
    go_wp2
    go_ret
    exact NO.out _ (Below.refl _ _) (.inl b1)
  have ha := fun W => areNodes_any nodes W
  by_cases b2 : nodes < 1 ∨ 64 < nodes
  · have hq : (decide (1 ≤ nodes) && decide (nodes ≤ 64)) = false := by
      rw [Bool.and_eq_false_iff, decide_eq_false_iff_not, decide_eq_false_iff_not]; omega
    rw [hq] at ha
    have HA := Lib.hid ha
    have B2 := Lib.hid b2
    clear hf hq ha b2
    go_enter Try.func11, Try.ntmps11
    go_wp2_with fail
    refine (HA.out _).mono ?_; rintro e w1 ⟨rfl, hb1⟩
    go_wp2
    go_ret
    exact NO.out _ hb1 (.inr B2.out)
  have hq : (decide (1 ≤ nodes) && decide (nodes ≤ 64)) = true := by
    rw [Bool.and_eq_true, decide_eq_true_iff, decide_eq_true_iff]; omega
  rw [hq] at ha
  have HA := Lib.hid ha
  obtain ⟨v, rfl⟩ := Int.eq_ofNat_of_zero_le (show 0 ≤ vol by omega)
  obtain ⟨n, rfl⟩ := Int.eq_ofNat_of_zero_le (show 0 ≤ nodes by omega)
  have hn1 : 1 ≤ n := by omega
  have hn2 : n ≤ 64 := by omega
  have hmod := Nat.mod_lt v hn1
  have hr : rgL (lv f N) (v : Int) (n : Int) = ar (lv f N) (v % n) n n := by rw [rgL_yes hn1 hn2, ar_rg hn1]
  have har := fun W => around_any (A := A) (N := N) (c := c) v n hn1 hn2 (by have := hv.2; omega) W
  have HR := Lib.hid hr
  have HAR := Lib.hid har
  have HC := Lib.hid (fun (W : World) (g : Nat) (h1 : Ri W g (v % n) n A N c) (h2 : Bl W W.heap.size A N f) => collect_any g (v % n) n f hmod hn2 h1 h2)
  have HF := Lib.hid hf
  clear hr har ha hq b2 NO hmod hf
  go_enter Try.func11, Try.ntmps11
  go_wp2_with fail
  refine (HA.out _).mono ?_; rintro e w1 ⟨rfl, hb1⟩
  go_wp2_with fail
  refine (HAR.out _).mono ?_; rintro e w2 ⟨rfl, hR, hb2, _⟩
  have hF2 := (HF.out.up hb1).up hb2
  go_wp2_with fail
  refine (HC.out _ _ hR hF2).mono ?_; rintro e w3 ⟨A1, c1, rfl, hN, hb3⟩
  have HB := Lib.hid (up_trans (up_trans hb1 hb2) hb3)
  have HN := Lib.hid hN
  clear hN hb1 hb2 hb3 hR hF2
  rw [← HR.out] at *
  go_wp2
  go_ret
  exact ⟨A1, c1, rfl, HN.out, HB.out⟩
end

set_option maxRecDepth 100000 in
set_option maxHeartbeats 1600000 in
theorem third_any (a b : Int) (w : World) : Calls Try.prog 16 #[.int .i64 a, .int .i64 b] w (IntErr w (thE a b) (thR a b)) := by
  have h1 := fun W => isRegion_any a W
  have h2 := fun W => isRegion_any b W
  by_cases b1 : 1 ≤ a ∧ a ≤ 3
  rotate_left
  · obtain ⟨e1, e2⟩ := th_no (a := a) (b := b) (thOk_niff.2 (fun q => b1 ⟨q.1, q.2.1⟩))
    rw [e1, e2]
    rw [show (decide (1 ≤ a) && decide (a ≤ 3)) = false by rw [Bool.and_eq_false_iff, decide_eq_false_iff_not, decide_eq_false_iff_not]; omega] at h1
    have H1 := Lib.hid h1
    clear h1 h2 e1 e2 b1
    go_enter Try.func16, Try.ntmps16
    go_wp2_with fail
    refine (H1.out _).mono ?_; rintro e w1 ⟨rfl, hb1⟩
    go_wp2
    go_ret2
    exact ⟨rfl, hb1⟩
  rw [show (decide (1 ≤ a) && decide (a ≤ 3)) = true by rw [Bool.and_eq_true, decide_eq_true_iff, decide_eq_true_iff]; exact b1] at h1
  have H1 := Lib.hid h1
  clear h1
  by_cases b2 : 1 ≤ b ∧ b ≤ 3
  rotate_left
  · obtain ⟨e1, e2⟩ := th_no (a := a) (b := b) (thOk_niff.2 (fun q => b2 ⟨q.2.2.1, q.2.2.2.1⟩))
    rw [e1, e2]
    rw [show (decide (1 ≤ b) && decide (b ≤ 3)) = false by rw [Bool.and_eq_false_iff, decide_eq_false_iff_not, decide_eq_false_iff_not]; omega] at h2
    have H2 := Lib.hid h2
    clear h2 e1 e2 b1 b2
    go_enter Try.func16, Try.ntmps16
    go_wp2_with fail
    refine (H1.out _).mono ?_; rintro e w1 ⟨rfl, hb1⟩
    have HB := Lib.hid hb1
    clear hb1
    go_wp2_with fail
    refine (H2.out _).mono ?_; rintro e w2 ⟨rfl, hb2⟩
    go_wp2
    go_ret2
    exact ⟨rfl, up_trans HB.out hb2⟩
  rw [show (decide (1 ≤ b) && decide (b ≤ 3)) = true by rw [Bool.and_eq_true, decide_eq_true_iff, decide_eq_true_iff]; exact b2] at h2
  have H2 := Lib.hid h2
  clear h2
  by_cases b3 : a = b
  · obtain ⟨e1, e2⟩ := th_no (a := a) (b := b) (thOk_niff.2 (fun q => q.2.2.2.2 b3))
    rw [e1, e2]
    subst b3
    clear e1 e2 b1 b2
    go_enter Try.func16, Try.ntmps16
    go_wp2_with fail
    refine (H1.out _).mono ?_; rintro e w1 ⟨rfl, hb1⟩
    have HB := Lib.hid hb1
    clear hb1
    go_wp2_with fail
    refine (H2.out _).mono ?_; rintro e w2 ⟨rfl, hb2⟩
    go_wp2
    go_ret2
    exact ⟨rfl, up_trans HB.out hb2⟩
  obtain ⟨e1, e2⟩ := th_yes (a := a) (b := b) (thOk_iff.2 ⟨b1.1, b1.2, b2.1, b2.2, b3⟩)
  rw [e1, e2]
  have g1 : (a == b) = false := beq_eq_false_iff_ne.2 b3
  have l1 := b1.1
  have l2 := b1.2
  have l3 := b2.1
  have l4 := b2.2
  clear e1 e2 b1 b2 b3
  go_enter Try.func16, Try.ntmps16
  go_wp2_with fail
  refine (H1.out _).mono ?_; rintro e w1 ⟨rfl, hb1⟩
  have HB := Lib.hid hb1
  clear hb1
  go_wp2_with fail
  refine (H2.out _).mono ?_; rintro e w2 ⟨rfl, hb2⟩
  have HB2 := Lib.hid (up_trans HB.out hb2)
  clear hb2
  go_wp2
  go_ret2
  exact ⟨rfl, HB2.out⟩
end Go.Proofs.Ythalaihpgjniiaa.Mat
