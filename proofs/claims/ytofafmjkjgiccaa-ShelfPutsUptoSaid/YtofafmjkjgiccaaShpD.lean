/- The program's lay: a record into the first slot that has no shard: walked (a range over a function that is left by a return). -/
import Derived.Test.YtofafmjkjgiccaaShpC
namespace Go.Proofs.Ytofafmjkjgiccaa.Mat
open Go.RowKit Go.Shelf Fld

attribute [local go_sem] Oper.semAt_some

section
variable {W X : World} {A B : Option Addr} {c k : Nat} {d : Dk} {g : Nat}
/-- a disk's rows aren't in a box -/
theorem ok_putB {a1 a2 : Option Addr} {n1 c1 n2 c2 : Nat} {f : Int} {o : Bool} (h : DOk W A c B k d) (hx : Bx W g (.slice a1 n1 c1) (.slice a2 n2 c2) (.int .i64 f) (.bool o)) (p q r s : Value) : DOk (put4 W g p q r s) A c B k d := by
  obtain ⟨x0, x1, x2, x3⟩ := hx.cells
  have hsz : (put4 W g p q r s).heap.size = W.heap.size := put4_size _ _ _ _ _ _
  refine ⟨fun hn => ?_, fun hn => ?_, h.fa, h.fb, h.sz⟩
  · obtain ⟨ad, e, hl, hc⟩ := h.st hn
    refine ⟨ad, e, by omega, fun i hi => ?_⟩
    have := hc i hi
    rw [put4_cell (cell_ne this x0 (fun e => by cases e)) (cell_ne this x1 (fun e => by cases e)) (cell_ne this x2 (fun e => by cases e)) (cell_ne this x3 (fun e => by cases e))]
    exact this
  · obtain ⟨ad, e, hl, hc⟩ := h.pc hn
    refine ⟨ad, e, by omega, fun i hi => ?_⟩
    obtain ⟨k0, k1⟩ := hc i hi
    have m3 := cell_ne k1 x3 (fun e => by cases e)
    have n2 : (⟨g, 2, none⟩ : Addr) ≠ ad.add (i * 2) := by
      intro e2
      apply m3
      rw [← add_add, ← e2]
      rfl
    rw [put4_cell (cell_ne k0 x0 (fun e => by cases e)) (cell_ne k0 x1 (fun e => by cases e)) n2 (cell_ne k0 x3 (fun e => by cases e)), put4_cell (cell_ne k1 x0 (fun e => by cases e)) (cell_ne k1 x1 (fun e => by cases e)) (cell_ne k1 x2 (fun e => by cases e)) m3]
    exact ⟨k0, k1⟩
theorem ok_setB {t : TypeId} {f : Int} (h : DOk W A c B k d) (hb : Boxed W g t (.int .i64 f)) (u : Value) : DOk (W.setCell ⟨g, 0, none⟩ u) A c B k d := by
  have x0 := hb.cell
  have x1 : W.cell? ⟨g, 1, none⟩ = none := by simp [World.cell?, show W.heap[g]? = _ from hb]
  have hsz : (W.setCell ⟨g, 0, none⟩ u).heap.size = W.heap.size := by simp [World.setCell]
  refine ⟨fun hn => ?_, fun hn => ?_, h.fa, h.fb, h.sz⟩
  · obtain ⟨ad, e, hl, hc⟩ := h.st hn
    refine ⟨ad, e, by omega, fun i hi => ?_⟩
    rw [World.cell?_setCell_other _ _ _ _ (cell_ne (hc i hi) x0 (fun e => by cases e))]
    exact hc i hi
  · obtain ⟨ad, e, hl, hc⟩ := h.pc hn
    refine ⟨ad, e, by omega, fun i hi => ?_⟩
    obtain ⟨k0, k1⟩ := hc i hi
    have n0 : (⟨g, 0, none⟩ : Addr) ≠ ad.add (i * 2) := by
      intro e2
      have : ad.add (i * 2 + 1) = ⟨g, 1, none⟩ := by rw [← add_add, ← e2]; rfl
      rw [this, x1] at k1
      cases k1
    rw [World.cell?_setCell_other _ _ _ _ n0, World.cell?_setCell_other _ _ _ _ (cell_ne k1 x0 (fun e => by cases e))]
    exact ⟨k0, k1⟩
theorem own_ret {w : World} {e : Ending} (h : OwnRet w d e X) (hz : Sz d) : DRet w d e X := by
  obtain ⟨A, c, B, k, he, hf, hs, ht, hb⟩ := h
  exact ⟨A, c, B, k, he, ⟨(own_sl hs).st, own_pc ht, hf, own_fit ht, hz⟩, hb⟩
theorem bx_own (b : Nat) (p q r s : Value) {Y : World} {row : Option Nat} (h : Bx W b p q r s) (hg : W.grownBy Y row) (hr : ∀ r, row = some r → ∃ o : Obj, W.heap[r]? = some o ∧ o.isCells = false) : Bx Y b p q r s := has_any_own (β := Unit) _ _ _ _ () W Y row h hg hr
theorem boxed_up {b : Nat} {t : TypeId} {v : Value} (h : Boxed W b t v) (hb : Below W.heap.size W X) : Boxed X b t v := (hb.block b h.lt).trans h
theorem boxed_row {b : Nat} {t : TypeId} {v : Value} {row : Option Nat} (h : Boxed W b t v) (hg : W.grownBy X row) (hr : ∀ r, row = some r → ∃ o : Obj, W.heap[r]? = some o ∧ o.isCells = false) : Boxed X b t v := boxed_own b t (fun (_ : Unit) => v) () W X row h hg hr
theorem boxed_set {b b' : Nat} {t : TypeId} {v : Value} (h : Boxed W b t v) (hne : b ≠ b') (j : Nat) (u : Value) : Boxed (W.setCell ⟨b', j, none⟩ u) b t v := (Below.heap_setCell _ _ _ _ hne).trans h
theorem boxed_put4 {b b' : Nat} {t : TypeId} {v : Value} (h : Boxed W b t v) (hne : b ≠ b') (p q r s : Value) : Boxed (put4 W b' p q r s) b t v := boxed_set (boxed_set (boxed_set (boxed_set h hne _ _) hne _ _) hne _ _) hne _ _
theorem keeps_put4 (W : World) (b : Nat) (p q r s : Value) : KeepsOthers W (put4 W b p q r s) := (((KeepsOthers.setCell W _ _).trans (KeepsOthers.setCell _ _ _)).trans (KeepsOthers.setCell _ _ _)).trans (KeepsOthers.setCell _ _ _)
end
theorem slo_mem {S : Nat → Sl1} : ∀ {n r : Nat}, r < n → S r ∈ slo S n
  | n + 1, r, h => by
    show S r ∈ slo S n ++ [S n]
    rcases Nat.lt_or_ge r n with q | q
    · exact List.mem_append.2 (.inl (slo_mem q))
    · rw [show r = n by omega]; exact List.mem_append.2 (.inr (List.mem_singleton.2 rfl))
/-- a result's boxes: a disk, an error -/
theorem results_disk_errB {fn : Func} {t u : Tmp} (h : fn.results = #[.cell t 39, .cell u 25]) (tmps : Array Value) (w : World) (g g' : Nat) {p q r s v : Value} (hp : tmps.getD t undef = .pointer (some ⟨g, 0, none⟩)) (hp2 : tmps.getD u undef = .pointer (some ⟨g', 0, none⟩)) (hc : Bx w g p q r s) (hb : Boxed w g' 25 v) :
    (results fn tmps).run Try.prog w = .ok (.tuple #[.agg #[p, q, r, s], v]) w := by
  have hp' : tmps[t]?.getD undef = .pointer (some ⟨g, 0, none⟩) := by simpa using hp
  have hp2' : tmps[u]?.getD undef = .pointer (some ⟨g', 0, none⟩) := by simpa using hp2
  obtain ⟨c0, c1, c2, c3⟩ := hc.cells
  have e0 := hb.cell
  simp [results, h, hp', hp2', asAddr, go_sem, c0, c1, c2, c3, e0]
/-- a disk's box, three blocks, a disk's box -/
theorem st5 (w : World) (p q r s : Value) (c1 c2 c3 : Array Value) (t1 t2 t3 : TypeId) : ∃ W1 W0, W1 = (((w.alloc (.cells #[p, q, r, s] 39)).alloc (.cells c1 t1)).alloc (.cells c2 t2)).alloc (.cells c3 t3) ∧ W0 = W1.alloc (.cells #[p, q, r, s] 39) ∧
    Bx W1 w.heap.size p q r s ∧ Bx W0 w.heap.size p q r s ∧ W0.heap[w.heap.size + 1]? = some (.cells c1 t1) ∧ W0.heap[w.heap.size + 1 + 1]? = some (.cells c2 t2) ∧ W0.heap[w.heap.size + 1 + 1 + 1]? = some (.cells c3 t3) ∧ Bx W0 (w.heap.size + 1 + 1 + 1 + 1) p q r s ∧ Below w.heap.size w W0 ∧ W0.heap.size = w.heap.size + 1 + 1 + 1 + 1 + 1 ∧ Below w.heap.size w W1 ∧ W1.heap.size = w.heap.size + 1 + 1 + 1 + 1 := by
  have hx := bx_new w p q r s
  have b1 := (Below.refl w.heap.size w).alloc (Nat.le_refl _) (.cells #[p, q, r, s] 39)
  have z1 : (w.alloc (.cells #[p, q, r, s] 39)).heap.size = w.heap.size + 1 := size_alloc _ _
  generalize w.alloc (.cells #[p, q, r, s] 39) = V1 at *
  have e1 := heap_alloc_new V1 (.cells c1 t1)
  have b2 := b1.alloc b1.size (.cells c1 t1)
  have z2 : (V1.alloc (.cells c1 t1)).heap.size = w.heap.size + 1 + 1 := by rw [size_alloc, z1]
  have hx := hx.alloc (.cells c1 t1)
  rw [z1] at e1
  generalize V1.alloc (.cells c1 t1) = V2 at *
  have e2 := heap_alloc_new V2 (.cells c2 t2)
  have b3 := b2.alloc b2.size (.cells c2 t2)
  have z3 : (V2.alloc (.cells c2 t2)).heap.size = w.heap.size + 1 + 1 + 1 := by rw [size_alloc, z2]
  have hx := hx.alloc (.cells c2 t2)
  have e1 := (Below.heap_alloc V2 (.cells c2 t2) (w.heap.size + 1) (by omega)).trans e1
  rw [z2] at e2
  generalize V2.alloc (.cells c2 t2) = V3 at *
  have e3 := heap_alloc_new V3 (.cells c3 t3)
  have b4 := b3.alloc b3.size (.cells c3 t3)
  have z4 : (V3.alloc (.cells c3 t3)).heap.size = w.heap.size + 1 + 1 + 1 + 1 := by rw [size_alloc, z3]
  have hx := hx.alloc (.cells c3 t3)
  have e1 := (Below.heap_alloc V3 (.cells c3 t3) (w.heap.size + 1) (by omega)).trans e1
  have e2 := (Below.heap_alloc V3 (.cells c3 t3) (w.heap.size + 1 + 1) (by omega)).trans e2
  rw [z3] at e3
  generalize V3.alloc (.cells c3 t3) = V4 at *
  have hz := bx_new V4 p q r s
  rw [z4] at hz
  exact ⟨V4, _, rfl, rfl, hx, hx.alloc _, (Below.heap_alloc V4 _ _ (by omega)).trans e1, (Below.heap_alloc V4 _ _ (by omega)).trans e2, (Below.heap_alloc V4 _ _ (by omega)).trans e3, hz, b4.alloc b4.size _, by rw [size_alloc, z4], b4, z4⟩

section
variable {A B : Option Addr} {c k : Nat} {d : Dk} {w : World}
set_option maxRecDepth 100000 in
set_option maxHeartbeats 6400000 in
theorem lay_any (h : DOk w A c B k d) (hm : (d.m + 1) * 24 ≤ 140737488355328) (s : ByteArray) (hs : s.size ≤ 140737488351232) (D : Dk) (E : Int)
    (hput : ∀ j, j < d.n → shB (gs d j) = false → (∀ r, r < j → shB (gs d r) = true) → D = putD d j s ∧ E = putE d j s) (hfull : (∀ r, r < d.n → shB (gs d r) = true) → D = d ∧ E = 5) :
    Calls Try.prog 54 #[.agg #[.slice A d.n c, .slice B d.m k, .int .i64 d.fuse, .bool d.off], .string s] w (DErr w D E) := by
  obtain ⟨W1, W0, hW1, hW0, hx1, hd0, hs0, hr0, he0, hx0, hB0, hz0, hB1, hz1⟩ := st5 w (.slice A d.n c) (.slice B d.m k) (.int .i64 d.fuse) (.bool d.off) #[.string s] #[.slice none 0 0, .slice none 0 0, .int .i64 0, .bool false] #[.int .i64 0] 9 39 25
  have hr1 : Bx W0 (w.heap.size + 1 + 1) (.slice none 0 0) (.slice none 0 0) (.int .i64 0) (.bool false) := ⟨_, 0, 0, hr0, .inl rfl, fun i hi => by
    rcases (show i = 0 ∨ i = 1 ∨ i = 2 ∨ i = 3 by omega) with rfl | rfl | rfl | rfl <;> rfl⟩
  have hs1 : Boxed W0 (w.heap.size + 1) 9 (.string s) := hs0
  have he1 : Boxed W0 (w.heap.size + 1 + 1 + 1) 25 (.int .i64 0) := he0
  obtain ⟨s0, s1, s2, s3⟩ := hx1.cells
  have H := Lib.hid h
  have HPUT := Lib.hid hput
  have HFULL := Lib.hid hfull
  clear hput hfull hs0 hr0 he0
  refine (callsIn_wide (n := 8)).1 ?_
  refine callsIn_of_wp_marks Try.func54 rfl trivial ?_ rfl
  simp only [Try.ntmps54, List.size_toArray, List.length_cons, List.length_nil, Nat.reduceAdd, Nat.reduceSub, Array.replicate_succ, Array.replicate_zero, List.push_toArray, List.append_toArray, List.nil_append, List.cons_append]
  rw [hW1] at s0 s1 s2 s3
  gi_wp2_with fail
  refine ⟨trivial, (slots_in _ _ _ _ _ _).mono ?_⟩
  rintro e w5 ⟨rfl, rfl⟩
  clear s0 s1 s2 s3 hx1
  gi_wp2_with fail
  rw [← hW1, ← hW0]
  clear hW0 hW1
  refine wpIn_rangeFunc_ownH (F := Fence.wide) (n := 8) rfl (by omega) (gf := 65) (lb := #[.pointer (some ⟨w.heap.size + 1 + 1 + 1 + 1, 0, none⟩)]) rfl trivial (enters_of Try.func65 (by kernel_rfl) rfl)
    (encs := enc1) (Kp := Kt w.heap.size (w.heap.size + 1 + 1 + 1 + 1)) (S := fun xs => xs = slo (dsl d h.sz) d.n) (Sp := fun pre => ∃ k, k < d.n ∧ pre = slo (dsl d h.sz) (k + 1)) (N := d.n) (w0 := W0)
    (fun l' J' Jx' W' hW hJ' _ hY' h0' => slots1_in l' (w.heap.size + 1 + 1 + 1 + 1) (w.heap.size + 1 + 1 + 1 + 1) h J' Jx' W' (up_trans hB0 hW) (hx0.up hW) (Nat.le_refl _) hJ' hY' h0')
    Kt.trans (kt_put hB0.size) (Below.refl _ _) (fun _ => rfl)
    (fun pre V => ((∀ y ∈ pre, shB y.s = true) ∧ Bx V w.heap.size (.slice A d.n c) (.slice B d.m k) (.int .i64 d.fuse) (.bool d.off) ∧ Boxed V (w.heap.size + 1) 9 (.string s) ∧ Bx V (w.heap.size + 1 + 1) (.slice none 0 0) (.slice none 0 0) (.int .i64 0) (.bool false) ∧ Boxed V (w.heap.size + 1 + 1 + 1) 25 (.int .i64 0)) ∧ Below w.heap.size w V)
    (fun cd pre V => (cd = .ret ∧ ∃ pre0 x A c B k, pre = pre0 ++ [x] ∧ (∀ y ∈ pre0, shB y.s = true) ∧ shB x.s = false ∧ Bx V (w.heap.size + 1 + 1) (.slice A (putD d (x.i : Nat) s).n c) (.slice B (putD d (x.i : Nat) s).m k) (.int .i64 (putD d (x.i : Nat) s).fuse) (.bool (putD d (x.i : Nat) s).off) ∧ Boxed V (w.heap.size + 1 + 1 + 1) 25 (.int .i64 (putE d (x.i : Nat) s)) ∧ DOk V A c B k (putD d (x.i : Nat) s)) ∧ Below w.heap.size w V)
    (OwnFrom.and (fun pre X Y row hs hg hr => by
      obtain ⟨h1, h2, h3, h4, h5⟩ := hs
      have hr' := fun r e => (hr r e).2
      exact ⟨h1, bx_own _ _ _ _ _ h2 hg hr', boxed_row h3 hg hr', bx_own _ _ _ _ _ h4 hg hr', boxed_row h5 hg hr'⟩) (ownFrom_below (Nat.le_refl _) hB0.size))
    (fun cd => OwnFrom.and (fun pre X Y row hs hg hr => by
      obtain ⟨h1, pre0, x, A, c, B, k, h2, h3, h4, h5, h6, h7⟩ := hs
      have hr' := fun r e => (hr r e).2
      exact ⟨h1, pre0, x, A, c, B, k, h2, h3, h4, bx_own _ _ _ _ _ h5 hg hr', boxed_row h6 hg hr', dok_own h7 hg hr'⟩) (ownFrom_below (Nat.le_refl _) hB0.size))
    ⟨⟨(fun y hy => by cases hy), hd0, hs1, hr1, he1⟩, hB0⟩
    (fun x a' _ => a' = { tmps := #[.agg #[.slice A d.n c, .slice B d.m k, .int .i64 d.fuse, .bool d.off], .string s, .pointer (some ⟨w.heap.size, 0, none⟩), .pointer (some ⟨w.heap.size + 1, 0, none⟩), .pointer (some ⟨w.heap.size + 1 + 1, 0, none⟩), .pointer (some ⟨w.heap.size + 1 + 1 + 1, 0, none⟩), .int .i64 (x.i : Int), .string x.s, .agg #[.slice A d.n c, .slice B d.m k, .int .i64 d.fuse, .bool d.off], .func (.func 65) #[] #[.pointer (some ⟨w.heap.size + 1 + 1 + 1 + 1, 0, none⟩)], .int .i64 (x.i : Int), .string x.s, undef, undef, undef, undef, undef, undef, undef, undef, undef, undef, undef], defers := [] })
    (fun _ _ _ _ _ _ hs _ _ => hs)
    ?assign ?body ?done ?stop
  case assign =>
    rintro l' pre x V K hi hK
    gi_wp2
    exact hK _ _ (KeepsFrom.refl _ _) (Kt.refl _ _ _) hi rfl
  case body =>
    rintro l' pre x a' V hl _ ⟨⟨hall, hdx, hsx, hrx, hex⟩, hB⟩ rfl hlen
    have ht := shHas_any x.s x.le V
    cases hsb : shB x.s
    rotate_left
    · rw [hsb] at ht
      gi_wp2_with fail
      refine ⟨trivial, (callsIn_wide.2 ht).mono ?_⟩
      rintro e V2 ⟨rfl, hb2⟩
      gi_wp2_with fail
      exact ⟨keepsFrom_below hb2, kt_of_below hb2 hB.size, ⟨(fun y hy => by
        rcases List.mem_append.1 hy with hy | hy
        · exact hall y hy
        · rw [List.mem_singleton.1 hy]; exact hsb), hdx.up hb2, boxed_up hsx hb2, hrx.up hb2, boxed_up hex hb2⟩, up_trans hB hb2⟩
    · rw [hsb] at ht
      gi_wp2_with fail
      refine ⟨trivial, (callsIn_wide.2 ht).mono ?_⟩
      rintro e V2 ⟨rfl, hb2⟩
      have hB2 := up_trans hB hb2
      obtain ⟨x0, x1, x2, x3⟩ := (hdx.up hb2).cells
      have y0 := (boxed_up hsx hb2).cell
      have hc := put_any (H.out.up hB2) hm (x.i : Int) s hs
      have hr2 := hrx.up hb2
      have he2 := boxed_up hex hb2
      have k2 := keepsFrom_below (B := W0.heap.size) hb2
      clear ht hdx hsx hrx hex hb2
      gi_wp2_with fail
      refine ⟨trivial, (callsIn_wide.2 hc).mono ?_⟩
      rintro e V3 ⟨A3, c3, B3, k3, rfl, hok, hb3⟩
      have hr3 := hr2.up hb3
      have he3 := boxed_up he2 hb3
      have hB3 := up_trans hB2 hb3
      have k3' := k2.trans (keepsFrom_below hb3)
      obtain ⟨z0, z1, z2, z3⟩ := hr3.cells
      obtain ⟨f0, f1, f2, f3⟩ := hr3.free
      have e0 := he3.cell
      have e1 := he3.frozen
      clear hc x0 x1 x2 x3 y0 hr2 he2
      gi_wp2_with fail
      refine ⟨k3'.trans (((keeps_put4 V3 (w.heap.size + 1 + 1) _ _ _ _).trans (KeepsOthers.setCell _ _ _)).from _), ⟨rfl, pre, x, A3, c3, B3, k3, rfl, hall, hsb, ?_, ?_, ?_⟩, ?_⟩
      · exact Bx.setOther (hr3.put _ _ _ _) (a := ⟨w.heap.size + 1 + 1 + 1, 0, none⟩) (by show w.heap.size + 1 + 1 ≠ w.heap.size + 1 + 1 + 1; omega) _
      · exact (boxed_put4 he3 (by omega) _ _ _ _).set _
      · exact ok_setB (ok_putB hok hr3 _ _ _ _) (boxed_put4 he3 (by omega) _ _ _ _) _
      · exact (put4_below hB3 (by omega) _ _ _ _).setCell (p := ⟨w.heap.size + 1 + 1 + 1, 0, none⟩) (by show w.heap.size ≤ w.heap.size + 1 + 1 + 1; omega) _
  case done =>
    rintro D' ys V hD rfl ⟨⟨hall, hdx, hsx, hrx, hex⟩, hB⟩ hK
    have hc := shApart_any (H.out.up hB)
    have hlD : D' < V.heap.size := (Array.getElem?_eq_some_iff.1 hK).1
    obtain ⟨x0, x1, x2, x3⟩ := hdx.cells
    gi_wp2_with fail
    refine ⟨trivial, (callsIn_wide.2 hc).mono ?_⟩
    rintro e V2 ho
    obtain ⟨A3, c3, B3, k3, rfl, hok, hb2⟩ := own_ret ho h.sz
    have hr3 := hrx.up hb2
    have he3 := boxed_up hex hb2
    have hB3 := up_trans hB hb2
    have hK2 := (hb2.block D' hlD).trans hK
    obtain ⟨z0, z1, z2, z3⟩ := hr3.cells
    obtain ⟨f0, f1, f2, f3⟩ := hr3.free
    have e0 := he3.cell
    have e1 := he3.frozen
    obtain ⟨rfl, rfl⟩ := HFULL.out (fun r hr => hall (dsl d h.sz r) (slo_mem hr))
    clear hc ho x0 x1 x2 x3
    gi_wp2_with fail
    have hK3 := ((keeps_put4 V2 (w.heap.size + 1 + 1) (.slice A3 D.n c3) (.slice B3 D.m k3) (.int .i64 D.fuse) (.bool D.off)).trans (KeepsOthers.setCell _ ⟨w.heap.size + 1 + 1 + 1, 0, none⟩ (.int .i64 5))).same _ _ hK2 rfl
    have hg := grownBy_putObj' ((put4 V2 (w.heap.size + 1 + 1) (.slice A3 D.n c3) (.slice B3 D.m k3) (.int .i64 D.fuse) (.bool D.off)).setCell ⟨w.heap.size + 1 + 1 + 1, 0, none⟩ (.int .i64 5)) D' (.deferred none)
    have hgr : ∀ r, some D' = some r → ∃ o : Obj, ((put4 V2 (w.heap.size + 1 + 1) (.slice A3 D.n c3) (.slice B3 D.m k3) (.int .i64 D.fuse) (.bool D.off)).setCell ⟨w.heap.size + 1 + 1 + 1, 0, none⟩ (.int .i64 5)).heap[r]? = some o ∧ o.isCells = false := fun r e => by cases e; exact ⟨_, hK3, rfl⟩
    refine ⟨by simp, .inl ⟨_, _, rfl, run_takeDeferred hK3, ?_⟩⟩
    refine ⟨_, results_disk_errB rfl _ _ (w.heap.size + 1 + 1) (w.heap.size + 1 + 1 + 1) rfl rfl (bx_own _ _ _ _ _ (Bx.setOther (hr3.put _ _ _ _) (a := ⟨w.heap.size + 1 + 1 + 1, 0, none⟩) (by show w.heap.size + 1 + 1 ≠ w.heap.size + 1 + 1 + 1; omega) _) hg hgr) (boxed_row ((boxed_put4 he3 (by omega) _ _ _ _).set _) hg hgr), A3, c3, B3, k3, rfl, dok_own (ok_setB (ok_putB hok hr3 _ _ _ _) (boxed_put4 he3 (by omega) _ _ _ _) _) hg hgr, ?_⟩
    exact ((put4_below hB3 (by omega) _ _ _ _).setCell (p := ⟨w.heap.size + 1 + 1 + 1, 0, none⟩) (by show w.heap.size ≤ w.heap.size + 1 + 1 + 1; omega) _).trans (belowK_b (w := w) (Nat.le_refl _) _ D' _ _ (Nat.le_trans hB0.size hD) hK3 rfl rfl)
  case stop =>
    rintro D' cd pre V hD ⟨k', hk', rfl⟩ ⟨⟨rfl, pre0, x, A9, c9, B9, k9, hpre, hall, hno, hx9, he9, hok⟩, hB⟩ hK
    gi_wp2_with fail
    obtain ⟨rfl, hxx⟩ := List.append_inj' hpre.symm rfl
    obtain rfl : x = dsl d h.sz k' := by injection hxx
    obtain ⟨rfl, rfl⟩ := HPUT.out k' hk' hno (fun r hr => hall (dsl d h.sz r) (slo_mem hr))
    have hg := grownBy_putObj' V D' (.deferred none)
    have hgr : ∀ r, some D' = some r → ∃ o : Obj, V.heap[r]? = some o ∧ o.isCells = false := fun r e => by cases e; exact ⟨_, hK, rfl⟩
    refine ⟨by simp, .inl ⟨_, _, rfl, run_takeDeferred hK, ?_⟩⟩
    exact ⟨_, results_disk_errB rfl _ _ (w.heap.size + 1 + 1) (w.heap.size + 1 + 1 + 1) rfl rfl (bx_own _ _ _ _ _ hx9 hg hgr) (boxed_row he9 hg hgr), A9, c9, B9, k9, rfl, dok_own hok hg hgr, hB.trans (belowK_b (w := w) (Nat.le_refl _) _ D' _ _ (Nat.le_trans hB0.size hD) hK rfl rfl)⟩
end
end Go.Proofs.Ytofafmjkjgiccaa.Mat
