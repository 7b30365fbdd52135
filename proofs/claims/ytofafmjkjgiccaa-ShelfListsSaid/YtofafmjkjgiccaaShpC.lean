/- The program's Free and Bad: walked (ranges over a function). -/
import Derived.Test.YtofafmjkjgiccaaShpB
namespace Go.Proofs.Ytofafmjkjgiccaa.Mat
open Go.RowKit Go.Shelf Fld

attribute [local go_sem] Oper.semAt_some

theorem has_st_own {β : Type} (b t n : Nat) (f : β → Nat → Value) : _root_.Go.Own (fun s W => Has W b t n (f s)) := fun s X Y row hs hg hrow =>
  Has.grown hs hg (fun e' => by
    obtain ⟨o, ho, hc⟩ := hrow b e'.symm
    obtain ⟨c, lo, hi', hb, _⟩ := hs
    rw [hb] at ho; cases ho; cases hc)
section
variable {W X : World} {row : Option Nat}
theorem row_own {base size n : Nat} {e : TypeId} {v : Value} {l : List Value} (h : W.ownsRow base e size v n l) (hg : W.grownBy X row) (hr : ∀ r, row = some r → ∃ o : Obj, W.heap[r]? = some o ∧ o.isCells = false) : X.ownsRow base e size v n l :=
  h.kept hg (by
    cases hv : v.ownBlock with
    | none => exact .inl rfl
    | some g =>
      refine .inr (fun e' => ?_)
      obtain ⟨o, ho, hc⟩ := hr g e'.symm
      obtain ⟨c, fz, h1⟩ := own_kind h g hv
      rw [h1] at ho; cases ho; cases hc)
theorem dok_own {A B : Option Addr} {c k : Nat} {d : Dk} (h : DOk W A c B k d) (hg : W.grownBy X row) (hr : ∀ r, row = some r → ∃ o : Obj, W.heap[r]? = some o ∧ o.isCells = false) : DOk X A c B k d := by
  refine ⟨fun hn => ?_, fun hn => ?_, h.fa, h.fb, h.sz⟩
  · obtain ⟨ad, e, hl, hc⟩ := h.st hn
    exact ⟨ad, e, Nat.lt_of_lt_of_le hl hg.size, fun r hr' => cell_kept (hc r hr') hg hr⟩
  · obtain ⟨ad, e, hl, hc⟩ := h.pc hn
    exact ⟨ad, e, Nat.lt_of_lt_of_le hl hg.size, fun r hr' => ⟨cell_kept (hc r hr').1 hg hr, cell_kept (hc r hr').2 hg hr⟩⟩
theorem row_kt {W' : World} {base size n n₀ b₁ : Nat} {e : TypeId} {v : Value} {l : List Value} (h : W.ownsRow base e size v n l) (hg : W.grownBy W' v.ownBlock) (hb : n₀ ≤ base) (hn : n₀ ≤ W.heap.size) (h1 : e ≠ 39) (h2 : e ≠ 111) : Kt n₀ b₁ W W' ∧ KeepsOthers W W' :=
  ⟨kt_grown hg hn (fun k hk => Nat.le_trans hb (h.lt k hk).1) (fun k c t z hk hc _ => by
    obtain ⟨c', fz, q⟩ := own_kind h k hk
    rw [hc] at q
    cases q
    exact ⟨h1, h2⟩), KeepsOthers.of_grownBy hg (fun j o hj ho => by
    obtain ⟨c', fz, q⟩ := own_kind h j hj
    rw [ho] at q
    cases q
    rfl)⟩
end
/-- a disk's box, a box, a disk's box -/
theorem st3 (w : World) (p q r s y : Value) (t : TypeId) : ∃ W0, W0 = ((w.alloc (.cells #[p, q, r, s] 39)).alloc (.cells #[y] t)).alloc (.cells #[p, q, r, s] 39) ∧
    Bx ((w.alloc (.cells #[p, q, r, s] 39)).alloc (.cells #[y] t)) w.heap.size p q r s ∧ Has W0 (w.heap.size + 1) t 1 (fun _ => y) ∧ Bx W0 (w.heap.size + 1 + 1) p q r s ∧ Below w.heap.size w W0 ∧ W0.heap.size = w.heap.size + 1 + 1 + 1 := by
  have h1 := (bx_new w p q r s).alloc (.cells #[y] t)
  have h2 := has_box (w.alloc (.cells #[p, q, r, s] 39)) y t
  have h3 := bx_new ((w.alloc (.cells #[p, q, r, s] 39)).alloc (.cells #[y] t)) p q r s
  rw [size_alloc] at h2
  rw [size_alloc, size_alloc] at h3
  have hb1 := (Below.refl w.heap.size w).alloc (Nat.le_refl _) (.cells #[p, q, r, s] 39)
  have hb2 := hb1.alloc hb1.size (.cells #[y] t)
  exact ⟨_, rfl, h1, h2.alloc _, h3, hb2.alloc hb2.size _, by rw [size_alloc, size_alloc, size_alloc]⟩

/-- how many are empty, which are bad -/
def emL (l : List Sl1) : Nat := l.foldl (fun n x => if x.s.size = 0 then n + 1 else n) 0
theorem emL_snoc (l : List Sl1) (x : Sl1) : emL (l ++ [x]) = if x.s.size = 0 then emL l + 1 else emL l := by unfold emL; rw [List.foldl_append]; rfl
theorem emL_slo (d : Dk) (hz : Sz d) : ∀ n, emL (slo (dsl d hz) n) = em (gs d) n
  | 0 => rfl
  | n + 1 => by
    show emL (slo (dsl d hz) n ++ [dsl d hz n]) = if (gs d n).size = 0 then em (gs d) n + 1 else em (gs d) n
    rw [emL_snoc, emL_slo d hz n]; rfl
theorem emL_le : ∀ (l : List Sl1), emL l ≤ l.length := by
  have h : ∀ (l : List Sl1) (n : Nat), l.foldl (fun n x => if x.s.size = 0 then n + 1 else n) n ≤ n + l.length := by
    intro l
    induction l with
    | nil => intro n; exact Nat.le_refl _
    | cons x l ih =>
      intro n
      refine Nat.le_trans (ih _) ?_
      simp only [List.length_cons]
      by_cases e : x.s.size = 0
      · rw [if_pos e]; omega
      · rw [if_neg e]; omega
  intro l
  have := h l 0
  simpa [emL] using this
def bdL (l : List Sl1) : List Nat := l.foldl (fun acc x => if shB x.s = false ∧ ¬ x.s.size = 0 then acc ++ [x.i] else acc) []
theorem bdL_snoc (l : List Sl1) (x : Sl1) : bdL (l ++ [x]) = if shB x.s = false ∧ ¬ x.s.size = 0 then bdL l ++ [x.i] else bdL l := by unfold bdL; rw [List.foldl_append]; rfl
theorem bdL_slo (d : Dk) (hz : Sz d) : ∀ n, bdL (slo (dsl d hz) n) = bd (gs d) n
  | 0 => rfl
  | n + 1 => by
    show bdL (slo (dsl d hz) n ++ [dsl d hz n]) = if shB (gs d n) = false ∧ ¬ (gs d n).size = 0 then bd (gs d) n ++ [n] else bd (gs d) n
    rw [bdL_snoc, bdL_slo d hz n]; rfl
theorem bdL_le : ∀ (l : List Sl1), (bdL l).length ≤ l.length := by
  have h : ∀ (l : List Sl1) (acc : List Nat), (l.foldl (fun acc x => if shB x.s = false ∧ ¬ x.s.size = 0 then acc ++ [x.i] else acc) acc).length ≤ acc.length + l.length := by
    intro l
    induction l with
    | nil => intro n; exact Nat.le_refl _
    | cons x l ih =>
      intro acc
      refine Nat.le_trans (ih _) ?_
      simp only [List.length_cons]
      by_cases e : shB x.s = false ∧ ¬ x.s.size = 0
      · rw [if_pos e]; simp; omega
      · rw [if_neg e]; omega
  intro l
  have := h l []
  simpa [bdL] using this

section
variable {A B : Option Addr} {c k : Nat} {d : Dk} {w : World}
set_option maxRecDepth 100000 in
set_option maxHeartbeats 4000000 in
theorem shFree_any (h : DOk w A c B k d) : Calls Try.prog 26 #[.agg #[.slice A d.n c, .slice B d.m k, .int .i64 d.fuse, .bool d.off]] w (IntRet w (em (gs d) d.n : Nat)) := by
  have hbn := h.sz.bn
  obtain ⟨W0, hW0, hx1, hi0, hx0, hB0, hz0⟩ := st3 w (.slice A d.n c) (.slice B d.m k) (.int .i64 d.fuse) (.bool d.off) (.int .i64 0) 3
  obtain ⟨s0, s1, s2, s3⟩ := hx1.cells
  refine (callsIn_wide (n := 8)).1 ?_
  refine callsIn_of_wp_marks Try.func26 rfl trivial ?_ rfl
  simp only [Try.ntmps26, List.size_toArray, List.length_cons, List.length_nil, Nat.reduceAdd, Nat.reduceSub, Array.replicate_succ, Array.replicate_zero, List.push_toArray, List.append_toArray, List.nil_append, List.cons_append]
  gi_wp2_with fail
  refine ⟨trivial, (slots_in _ _ _ _ _ _).mono ?_⟩
  rintro e w5 ⟨rfl, rfl⟩
  clear s0 s1 s2 s3 hx1
  gi_wp2_with fail
  rw [← hW0]
  clear hW0
  refine wpIn_rangeFunc_ownH (F := Fence.wide) (n := 8) rfl (by omega) (gf := 65) (lb := #[.pointer (some ⟨w.heap.size + 1 + 1, 0, none⟩)]) rfl trivial (enters_of Try.func65 (by kernel_rfl) rfl)
    (encs := enc1) (Kp := Kt w.heap.size (w.heap.size + 1 + 1)) (S := fun xs => xs = slo (dsl d h.sz) d.n) (Sp := fun pre => ∃ k, k < d.n ∧ pre = slo (dsl d h.sz) (k + 1)) (N := d.n) (w0 := W0)
    (fun l' J' Jx' W' hW hJ' _ hY' h0' => slots1_in l' (w.heap.size + 1 + 1) (w.heap.size + 1 + 1) h J' Jx' W' (up_trans hB0 hW) (hx0.up hW) (Nat.le_refl _) hJ' hY' h0')
    Kt.trans (kt_put hB0.size) (Below.refl _ _) (fun _ => rfl)
    (fun pre V => Has V (w.heap.size + 1) 3 1 (fun _ => .int .i64 (emL pre : Int)) ∧ Below w.heap.size w V) (fun _ _ _ => False)
    (OwnFrom.and (_root_.Go.Own.from (has_st_own _ _ _ (fun (pre : List Sl1) _ => .int .i64 (emL pre : Int))) _) (ownFrom_below (Nat.le_refl _) hB0.size))
    (fun _ _ _ _ _ hs _ _ => hs) ⟨hi0, hB0⟩
    (fun x a' _ => a' = { tmps := #[.agg #[.slice A d.n c, .slice B d.m k, .int .i64 d.fuse, .bool d.off], .pointer (some ⟨w.heap.size, 0, none⟩), .int .i64 0, .pointer (some ⟨w.heap.size + 1, 0, none⟩), undef, .string x.s, .agg #[.slice A d.n c, .slice B d.m k, .int .i64 d.fuse, .bool d.off], .func (.func 65) #[] #[.pointer (some ⟨w.heap.size + 1 + 1, 0, none⟩)], .int .i64 (x.i : Int), .string x.s, undef, undef, undef, undef, undef], defers := [] })
    (fun _ _ _ _ _ _ hs _ _ => hs)
    ?assign ?body ?done ?stop
  case assign =>
    rintro l' pre x V K hi hK
    gi_wp2
    exact hK _ _ (KeepsFrom.refl _ _) (Kt.refl _ _ _) hi rfl
  case body =>
    rintro l' pre x a' V hl _ ⟨hi, hB⟩ rfl hlen
    have hle := emL_le pre
    have c1 := hi.cell (show 0 < 1 by omega)
    have f1 := hi.frozen (show 0 < 1 by omega)
    have hs := emL_snoc pre x
    by_cases hz : x.s.size = 0
    · rw [if_pos hz] at hs
      have g1 := list_none hz
      have hw : IntKind.i64.wrap ((emL pre : Int) + 1) = ((emL pre + 1 : Nat) : Int) := by rw [IntWalk.i64_in _ (by omega)]; omega
      rw [← hs] at hw
      have HL := Lib.hid hle
      clear hle hs
      gi_wp2_with fail
      exact ⟨(KeepsOthers.setCell _ _ _).from _, kt_set V _ _ (Nat.le_succ _) (Nat.lt_succ_self _), (hi.set_ 0 (.int .i64 (emL (pre ++ [x]) : Int))).congr (fun j hj => by rw [show j = 0 by omega]; rfl), hB.setCell (p := ⟨w.heap.size + 1, 0, none⟩) (Nat.le_succ _) _⟩
    · rw [if_neg hz] at hs
      have g1 := list_some hz
      gi_wp2_with fail
      exact ⟨KeepsFrom.refl _ _, Kt.refl _ _ _, by rw [hs]; exact hi, hB⟩
  case done =>
    rintro D ys V hD rfl ⟨hi, hB⟩ hK
    have c1 := hi.cell (show 0 < 1 by omega)
    rw [emL_slo] at c1
    gi_wp2_with fail
    refine ⟨by simp, .inl ⟨_, _, rfl, run_takeDeferred hK, ?_⟩⟩
    exact ⟨_, results_tmp rfl _ _ _, rfl, hB.trans (belowK_b (w := w) (Nat.le_refl _) V D _ _ (Nat.le_trans hB0.size hD) hK rfl rfl)⟩
  case stop =>
    rintro D cd pre V _ _ h _
    exact h.elim

set_option maxRecDepth 100000 in
set_option maxHeartbeats 4000000 in
theorem shBad_any (h : DOk w A c B k d) : Calls Try.prog 22 #[.agg #[.slice A d.n c, .slice B d.m k, .int .i64 d.fuse, .bool d.off]] w (NumsRet w (bd (gs d) d.n)) := by
  obtain ⟨i0, ii, iz0, iz1, iz2⟩ := info_parts infoNum
  have hbn := h.sz.bn
  obtain ⟨W0, hW0, hx1, hi0, hx0, hB0, hz0⟩ := st3 w (.slice A d.n c) (.slice B d.m k) (.int .i64 d.fuse) (.bool d.off) (.slice none 0 0) 46
  obtain ⟨s0, s1, s2, s3⟩ := hx1.cells
  refine (callsIn_wide (n := 8)).1 ?_
  refine callsIn_of_wp_marks Try.func22 rfl trivial ?_ rfl
  simp only [Try.ntmps22, List.size_toArray, List.length_cons, List.length_nil, Nat.reduceAdd, Nat.reduceSub, Array.replicate_succ, Array.replicate_zero, List.push_toArray, List.append_toArray, List.nil_append, List.cons_append]
  gi_wp2_with fail
  refine ⟨trivial, (slots_in _ _ _ _ _ _).mono ?_⟩
  rintro e w5 ⟨rfl, rfl⟩
  clear s0 s1 s2 s3 hx1
  gi_wp2_with fail
  rw [← hW0]
  clear hW0
  refine wpIn_rangeFunc_ownH (F := Fence.wide) (n := 8) rfl (by omega) (gf := 65) (lb := #[.pointer (some ⟨w.heap.size + 1 + 1, 0, none⟩)]) rfl trivial (enters_of Try.func65 (by kernel_rfl) rfl)
    (encs := enc1) (Kp := Kt w.heap.size (w.heap.size + 1 + 1)) (S := fun xs => xs = slo (dsl d h.sz) d.n) (Sp := fun pre => ∃ k, k < d.n ∧ pre = slo (dsl d h.sz) (k + 1)) (N := d.n) (w0 := W0)
    (fun l' J' Jx' W' hW hJ' _ hY' h0' => slots1_in l' (w.heap.size + 1 + 1) (w.heap.size + 1 + 1) h J' Jx' W' (up_trans hB0 hW) (hx0.up hW) (Nat.le_refl _) hJ' hY' h0')
    Kt.trans (kt_put hB0.size) (Below.refl _ _) (fun _ => rfl)
    (fun pre V => (∃ v, Has V (w.heap.size + 1) 46 1 (fun _ => v) ∧ V.ownsRow w.heap.size 3 1 v (nums (bdL pre)).length (nums (bdL pre))) ∧ Below w.heap.size w V) (fun _ _ _ => False)
    (OwnFrom.and (fun s X Y row hs hg hr => by
      obtain ⟨v, h1, h2⟩ := hs
      exact ⟨v, has_any_own (β := Unit) _ _ _ _ () X Y row h1 hg (fun r e => (hr r e).2), row_own h2 hg (fun r e => (hr r e).2)⟩) (ownFrom_below (Nat.le_refl _) hB0.size))
    (fun _ _ _ _ _ hs _ _ => hs) ⟨⟨_, hi0, World.ownsRow_nil _ _ _ _⟩, hB0⟩
    (fun x a' _ => a' = { tmps := #[.agg #[.slice A d.n c, .slice B d.m k, .int .i64 d.fuse, .bool d.off], .pointer (some ⟨w.heap.size, 0, none⟩), .slice none 0 0, .pointer (some ⟨w.heap.size + 1, 0, none⟩), .int .i64 (x.i : Int), .string x.s, .agg #[.slice A d.n c, .slice B d.m k, .int .i64 d.fuse, .bool d.off], .func (.func 65) #[] #[.pointer (some ⟨w.heap.size + 1 + 1, 0, none⟩)], .int .i64 (x.i : Int), .string x.s, undef, undef, undef, undef, undef, undef, undef, undef, undef, undef, undef, undef], defers := [] })
    (fun _ _ _ _ _ _ hs _ _ => hs)
    ?assign ?body ?done ?stop
  case assign =>
    rintro l' pre x V K hi hK
    gi_wp2
    exact hK _ _ (KeepsFrom.refl _ _) (Kt.refl _ _ _) hi rfl
  case body =>
    rintro l' pre x a' V hl _ ⟨⟨v, hv, hrow⟩, hB⟩ rfl hlen
    have hle := bdL_le pre
    have hnl : (nums (bdL pre)).length = (bdL pre).length := by unfold nums; simp
    have HLEN : Hid ((nums (bdL pre)).length ≤ 140737488351232 / 16) := Lib.hid (by omega)
    have hs := bdL_snoc pre x
    have ht := shHas_any x.s x.le V
    by_cases hz : x.s.size = 0
    · rw [if_neg (fun q => q.2 hz)] at hs
      have g1 := list_none hz
      clear ht hle hnl
      gi_wp2_with fail
      refine ⟨trivial, ?_⟩
      gi_wp2_with fail
      exact ⟨KeepsFrom.refl _ _, Kt.refl _ _ _, by rw [hs]; exact ⟨v, hv, hrow⟩, hB⟩
    have g1 := list_some hz
    cases hsb : shB x.s
    rotate_left
    · rw [if_neg (fun q => by rw [hsb] at q; cases q.1)] at hs
      rw [hsb] at ht
      clear hle hnl hsb hz
      gi_wp2_with fail
      refine ⟨trivial, (callsIn_wide.2 ht).mono ?_⟩
      rintro e V2 ⟨rfl, hb2⟩
      gi_wp2_with fail
      exact ⟨keepsFrom_below hb2, kt_of_below hb2 hB.size, by rw [hs]; exact ⟨v, Has.below hv hb2 hv.lt, own_up hrow hb2⟩, up_trans hB hb2⟩
    · rw [if_pos ⟨hsb, hz⟩] at hs
      rw [hsb] at ht
      clear hle hnl hsb hz
      gi_wp2_with fail
      refine ⟨trivial, (callsIn_wide.2 ht).mono ?_⟩
      rintro e V2 ⟨rfl, hb2⟩
      have hv2 := Has.below hv hb2 hv.lt
      have hrow2 := own_up hrow hb2
      have hB2 := up_trans hB hb2
      have k2 := keepsFrom_below (B := W0.heap.size) hb2
      have t2 := kt_of_below (b₁ := w.heap.size + 1 + 1) hb2 hB.size
      have c1 := hv2.cell (show 0 < 1 by omega)
      have hzz := hB2.size
      clear ht hb2
      gi_wp2_with (gi_at_builtin; refine wpListIn_append_own _ rfl (.tmp 17) (.tmp 19) 46 rfl w.heap.size 3 i0 (.int .i64 0) 1 8 Try.underlying46 ii iz0 iz1 iz2 rfl (by decide) _ _ _ rfl (hrow2.alloc _) ⟨V2.heap.size, 0, none⟩ 1 1 [.int .i64 (x.i : Int)] rfl rfl (one_news _ _) (by simp [Value.oneCell']) (by have := HLEN.out; unfold maxLen; omega) (by have := HLEN.out; omega) (by rw [size_alloc]; omega) ?_)
      intro v' w' hown hgrow _
      obtain ⟨A', c', rfl, _⟩ := own_form hown
      have hne : some (w.heap.size + 1) ≠ v.ownBlock := has_ne_own hv2 hrow2 (by decide)
      have hv3 := Has.grown (hv2.alloc (.cells #[.int .i64 (x.i : Int)] 3)) hgrow hne
      have c3 := hv3.cell (show 0 < 1 by omega)
      have f3 := hv3.frozen (show 0 < 1 by omega)
      have ha := (Below.refl V2.heap.size V2).alloc (Nat.le_refl _) (.cells #[.int .i64 (x.i : Int)] 3)
      obtain ⟨t3, k3⟩ := row_kt (b₁ := w.heap.size + 1 + 1) (hrow2.alloc (.cells #[.int .i64 (x.i : Int)] 3)) hgrow (Nat.le_refl _) (by rw [size_alloc]; omega) (by decide) (by decide)
      have t4 := t2.trans ((kt_of_below ha hzz).trans t3)
      have k4 := k2.trans ((keepsFrom_below ha).trans (k3.from W0.heap.size))
      have hB3 := hB2.trans (((kt_of_below (b₁ := 0) ha hzz).below).trans t3.below)
      clear c1
      gi_wp2_with fail
      refine ⟨k4.trans ((KeepsOthers.setCell _ _ _).from _), t4.trans (kt_set _ _ _ (Nat.le_succ _) (Nat.lt_succ_self _)), ⟨.slice A' ((nums (bdL pre)).length + 1) c', ?_, ?_⟩, hB3.setCell (p := ⟨w.heap.size + 1, 0, none⟩) (Nat.le_succ _) _⟩
      · exact (hv3.set_ 0 _).congr (fun j hj => by rw [show j = 0 by omega]; rfl)
      · rw [hs, nums_add, List.length_append]
        exact ownsRow_setCell_other hown (fun e => has_ne_own hv3 hown (by decide) e.symm) _
  case done =>
    rintro D ys V hD rfl ⟨⟨v, hv, hrow⟩, hB⟩ hK
    have c1 := hv.cell (show 0 < 1 by omega)
    gi_wp2_with fail
    refine ⟨by simp, .inl ⟨_, _, rfl, run_takeDeferred hK, ?_⟩⟩
    have hB9 := hB.trans (belowK_b (w := w) (Nat.le_refl _) V D _ (.deferred none) (Nat.le_trans hB0.size hD) hK rfl rfl)
    have hr9 := row_own hrow (grownBy_putObj' V D (.deferred none)) (fun r e => by cases e; exact ⟨_, hK, rfl⟩)
    rw [bdL_slo] at hr9
    obtain ⟨A9, c9, rfl, hN⟩ := nr_chosen ⟨hr9, hB9⟩
    exact ⟨_, results_tmp rfl _ _ _, A9, c9, rfl, hN, hB9⟩
  case stop =>
    rintro D cd pre V _ _ h _
    exact h.elim
end
end Go.Proofs.Ytofafmjkjgiccaa.Mat
