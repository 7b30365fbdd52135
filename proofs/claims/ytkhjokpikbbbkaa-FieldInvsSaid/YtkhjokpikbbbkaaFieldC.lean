/- The tables, walked: a goto, and two whole arrays out of it. -/
import Derived.Test.YtkhjokpikbbbkaaFieldB
import Derived.Test.YtkhjokpikbbbkaaFieldTab
import Derived.Deep.WholeRow
import Derived.RegionTactic
import Derived.ScopeJumps
import Derived.WalkMore
namespace Go.Proofs.Ytkhjokpikbbbkaa.Fld
open Go.RowKit

theorem infoP : (Try.prog.info? 39).map (fun i => (i.zero, i.size)) = some (some (.agg powZ), 255) := by kernel_rfl
theorem infoL : (Try.prog.info? 40).map (fun i => (i.zero, i.size)) = some (some (.agg logZ), 256) := by kernel_rfl
theorem infoPs : (Try.prog.info? 39).map (·.size) = some 255 := (zero_of_info infoP).2
theorem infoLs : (Try.prog.info? 40).map (·.size) = some 256 := (zero_of_info infoL).2

/-- what stands when k rounds are through: the frame, the world -/
def wT (w : World) (k : Nat) : World := (((w.alloc (.cells powZ 39)).alloc (.cells logZ 40)).alloc (.cells (powA k) 39)).alloc (.cells (logA k) 40)
def J (w : World) (a' : Act) (w' : World) : Prop :=
  ∃ k : Nat, 1 ≤ k ∧ k < 255 ∧ w' = wT w k ∧ ∃ u6 u7 u8 u9 u10 u11 u12 u13 u14 u15 u16 u17 u18 : Value, a' = { tmps := #[.pointer (some ⟨w.heap.size, 0, none⟩), .pointer (some ⟨w.heap.size + 1, 0, none⟩), .pointer (some ⟨w.heap.size + 2, 0, none⟩), .pointer (some ⟨w.heap.size + 3, 0, none⟩), .int .i64 k, .int .u8 (V (E k)), u6, u7, u8, u9, u10, u11, u12, u13, u14, u15, u16, u17, u18, undef, undef], defers := [] }

theorem first_world (w : World) : (((w.alloc (.cells powZ 39)).alloc (.cells logZ 40)).alloc (.cells (powZ.setIfInBounds 0 (.int .u8 1)) 39)).alloc (.cells ((logZ.setIfInBounds 0 (.int .i64 (-1))).setIfInBounds 1 (.int .i64 0)) 40) = wT w 1 := by
  have e1 : powZ.setIfInBounds 0 (.int .u8 1) = powA 1 := by rw [powZ_eq]; exact powA_next 0 (by omega)
  have e2 : (logZ.setIfInBounds 0 (.int .i64 (-1))).setIfInBounds 1 (.int .i64 0) = logA 1 := by rw [logZ_eq]; exact logA_next 0 (by omega)
  rw [e1, e2]; rfl
theorem next_world (w : World) (k : Nat) (hk : k < 255) : (((w.alloc (.cells powZ 39)).alloc (.cells logZ 40)).alloc (.cells ((powA k).setIfInBounds k (.int .u8 (V (E k)))) 39)).alloc (.cells ((logA k).setIfInBounds (V (E k)).toNat (.int .i64 k)) 40) = wT w (k + 1) := by
  rw [V_toNat, powA_next k hk, logA_next k hk]; rfl
theorem wT_0 (w : World) : (wT w 255).drew.heap[w.heap.size]? = some (.cells powZ 39 (0, 0)) := by
  show ((((w.heap.push (.cells powZ 39)).push (.cells logZ 40)).push (.cells (powA 255) 39)).push (.cells (logA 255) 40))[w.heap.size]? = _; rw [Array.getElem?_push, if_neg (by simp only [Array.size_push]; omega), Array.getElem?_push, if_neg (by simp only [Array.size_push]; omega), Array.getElem?_push, if_neg (by simp only [Array.size_push]; omega), Array.getElem?_push, if_pos rfl]
theorem wT_1 (w : World) : (wT w 255).drew.heap[w.heap.size + 1]? = some (.cells logZ 40 (0, 0)) := by
  show ((((w.heap.push (.cells powZ 39)).push (.cells logZ 40)).push (.cells (powA 255) 39)).push (.cells (logA 255) 40))[w.heap.size + 1]? = _; rw [Array.getElem?_push, if_neg (by simp only [Array.size_push]; omega), Array.getElem?_push, if_neg (by simp only [Array.size_push]; omega), Array.getElem?_push, if_pos (by simp only [Array.size_push])]
theorem wT_2 (w : World) : (wT w 255).drew.heap[w.heap.size + 2]? = some (.cells powW 39 (0, 0)) := by
  show ((((w.heap.push (.cells powZ 39)).push (.cells logZ 40)).push (.cells (powA 255) 39)).push (.cells (logA 255) 40))[w.heap.size + 2]? = _; rw [Array.getElem?_push, if_neg (by simp only [Array.size_push]; omega), Array.getElem?_push, if_pos (by simp only [Array.size_push])]; rfl
theorem wT_3 (w : World) : (wT w 255).drew.heap[w.heap.size + 3]? = some (.cells logW 40 (0, 0)) := by
  show ((((w.heap.push (.cells powZ 39)).push (.cells logZ 40)).push (.cells (powA 255) 39)).push (.cells (logA 255) 40))[w.heap.size + 3]? = _; rw [Array.getElem?_push, if_pos (by simp only [Array.size_push])]; rfl
theorem below_setRow {B : Nat} {a w : World} (h : Below B a w) {g : Nat} (hg : B ≤ g) (cs : Array Value) : Below B a (w.setRow g cs) :=
  ⟨h.os, h.tape, h.output, by rw [setRow_size]; exact h.size, fun k hk => (setRow_other w g k cs (by omega)).trans (h.block k hk)⟩
theorem wT_below (w : World) : Below w.heap.size w (wT w 255).drew :=
  (((((Below.refl _ _).alloc (Nat.le_refl _) _).alloc (by simp) _).alloc (by simp; omega) _).alloc (by simp; omega) _).drew
theorem infoPw : (Try.prog.info? 39).map (·.size) = some powW.size := by rw [powW_size]; exact infoPs
theorem infoLw : (Try.prog.info? 40).map (·.size) = some logW.size := by rw [logW_size]; exact infoLs

/-! ### a whole array out of a block, and into one, as a step of a region that draws its order -/
theorem rstep_load {P : Program} {ops : Array Oper} {o : Oper} {a : Act} {w : World} {K : Act → World → Prop} {Q : Exit → Act → World → Prop} {X : Prop}
    (hgd : o.guard = none) (ty : TypeId) (x : Operand) (ho : o.op = .load ty x)
    (g : Nat) (hx : a.eval x = .pointer (some ⟨g, 0, none⟩)) (t : TypeId) (cs : Array Value) (fr : Nat × Nat) (d : TypeDesc) (hg : w.heap[g]? = some (.cells cs t fr))
    (hu : P.underlying ty = some d) (hd : (match d with | .struct _ | .array _ _ => true | _ => false) = true) (hi : (P.info? ty).map (·.size) = some cs.size)
    (h : K (a.put o.dst (.agg cs)) w) : if Region.wanted o (yielded ops a.tmps) = true then Oper.wp P o a w K Q else X := by
  rw [if_pos (by simp [Region.wanted, hgd])]
  exact wp_load_row ty x ho g hx t cs fr d hg hu hd hi h
theorem rstep_store {P : Program} {ops : Array Oper} {o : Oper} {a : Act} {w : World} {K : Act → World → Prop} {Q : Exit → Act → World → Prop} {X : Prop}
    (hgd : o.guard = none) (ty : TypeId) (x y : Operand) (ho : o.op = .store ty x y)
    (g : Nat) (cells : Array Value) (hx : a.eval x = .pointer (some ⟨g, 0, none⟩)) (hy : a.eval y = .agg cells)
    (t : TypeId) (old : Array Value) (hg : w.heap[g]? = some (.cells old t (0, 0))) (hi : (P.info? ty).map (·.size) = some cells.size)
    (hold : old.size = cells.size) (h1 : cells.all (·.oneCell') = true)
    (h : K (a.put o.dst undef) (w.setRow g cells)) : if Region.wanted o (yielded ops a.tmps) = true then Oper.wp P o a w K Q else X := by
  rw [if_pos (by simp [Region.wanted, hgd])]
  exact wp_store_row ty x y ho g cells hx hy t old hg hi hold h1 h
/-- two whole arrays as results -/
theorem results_cell_row2 {P : Program} {fn : Func} {p q : Tmp} {ty tz : TypeId} (h : fn.results = #[.cell p ty, .cell q tz]) (tmps : Array Value) (w : World)
    (g : Nat) (t : TypeId) (cs : Array Value) (fr : Nat × Nat) (d : TypeDesc) (hp : tmps.getD p undef = .pointer (some ⟨g, 0, none⟩)) (hg : w.heap[g]? = some (.cells cs t fr))
    (hu : P.underlying ty = some d) (hd : (match d with | .struct _ | .array _ _ => true | _ => false) = true) (hi : (P.info? ty).map (·.size) = some cs.size)
    (k : Nat) (u : TypeId) (ds : Array Value) (fs : Nat × Nat) (e : TypeDesc) (hq : tmps.getD q undef = .pointer (some ⟨k, 0, none⟩)) (hk : w.heap[k]? = some (.cells ds u fs))
    (hv : P.underlying tz = some e) (he : (match e with | .struct _ | .array _ _ => true | _ => false) = true) (hj : (P.info? tz).map (·.size) = some ds.size) :
    (results fn tmps).run P w = .ok (.tuple #[.agg cs, .agg ds]) w := by
  have hp' : tmps[p]?.getD undef = .pointer (some ⟨g, 0, none⟩) := by simpa using hp
  have hq' : tmps[q]?.getD undef = .pointer (some ⟨k, 0, none⟩) := by simpa using hq
  simp [results, h, hp', hq', asAddr, run_loadVar_row w g t ty cs fr d hg hu hd hi, run_loadVar_row w k u tz ds fs e hk hv he hj]
theorem E_first : V (gm (B 1) (B 2)) = V (E 1) := by decide +kernel

set_option maxRecDepth 100000 in
set_option maxHeartbeats 400000 in
theorem tables_any (w : World) :
    Calls Try.prog 23 #[] w fun e w' => e = .returned (.tuple #[.agg powW, .agg logW]) ∧ Below w.heap.size w w' := by
  have hzP := (zero_of_info infoP).1
  have hzL := (zero_of_info infoL).1
  go_enter Try.func23, Try.ntmps23
  go_wp2
  have l0 : logZ[0]? = some (.int .i64 0) := by rw [logZ, Array.getElem?_replicate, if_pos (by omega)]
  have l1 : logZ[1]? = some (.int .i64 0) := by rw [logZ, Array.getElem?_replicate, if_pos (by omega)]
  have p0 : powZ[0]? = some (.int .u8 0) := by rw [powZ, Array.getElem?_replicate, if_pos (by omega)]
  refine wp_scope_jumps 0 (J w) (fun a' _ => 255 - (intOf (a'.tmps.getD 4 undef)).toNat) rfl ?_ ?_
  · go_wp2
    go_step3
    go_wp2_with (go_at_call 13; refine (mul_any _ _ (by omega) (by omega) (by omega) (by omega) _).mono ?_; rintro e w' ⟨rfl, rfl⟩)
    go_step3
    refine ⟨rfl, 1, by omega, by omega, first_world w, ?_⟩
    rw [E_first]
    exact ⟨_, _, _, _, _, _, _, _, _, _, _, _, _, rfl⟩
  · rintro a' w' ⟨k, hk0, hk, rfl, u6, u7, u8, u9, u10, u11, u12, u13, u14, u15, u16, u17, u18, rfl⟩
    have pk := powA_get k k hk
    have x0 := V_lo (E k)
    have x1 := V_hi (E k)
    have lk := logA_get k (V (E k)).toNat (by omega)
    have nw := next_world w k hk
    generalize powE k k = c at pk
    generalize logE k (V (E k)).toNat = d at lk
    have ne := E_two k
    generalize V (E k) = X at *
    have NW := Lib.hid nw; clear nw
    have NE := Lib.hid ne; clear ne
    unfold wT
    by_cases hlt : k + 1 < 255
    · have t : decide ((k : Int) + 1 < 255) = true := by simp; omega
      go_wp2_with (go_at_call 13; refine (mul_any _ _ x0 x1 (by omega) (by omega) _).mono ?_; rintro e w' ⟨rfl, rfl⟩)
      go_step3
      rw [NE.out]
      refine ⟨rfl, ⟨k + 1, by omega, hlt, NW.out, ?_⟩, ?_⟩
      · exact ⟨_, _, _, _, _, _, _, _, _, _, _, _, _, rfl⟩
      · simp [intOf]; omega
    · have t : decide ((k : Int) + 1 < 255) = false := by simp; omega
      go_wp2_with (go_at_call 13; refine (mul_any _ _ x0 x1 (by omega) (by omega) _).mono ?_; rintro e w' ⟨rfl, rfl⟩)
      rw [NW.out]
      obtain rfl : k = 254 := by omega
      refine wp_region_any (by kernel_rfl) ?_
      change wpAny _ _ _ _ _ _ _ (World.drew (wT w 255))
      have h0 := wT_0 w
      have h1 := wT_1 w
      have h2 := wT_2 w
      have h3 := wT_3 w
      have hb := wT_below w
      generalize (wT w 255).drew = W at *
      have k0 := (setRow_other W w.heap.size (w.heap.size + 1) powW (by omega)).trans h1
      have k2 := (setRow_other W w.heap.size (w.heap.size + 3) powW (by omega)).trans h3
      have m0 := (setRow_other (W.setRow w.heap.size powW) (w.heap.size + 1) w.heap.size logW (by omega)).trans (setRow_heap W w.heap.size powZ powW _ _ h0)
      have m1 := setRow_heap (W.setRow w.heap.size powW) (w.heap.size + 1) logZ logW _ _ k0
      have bel := below_setRow (below_setRow hb (Nat.le_refl _) powW) (Nat.le_succ _) logW
      have szP : powZ.size = powW.size := by rw [powZ_size, powW_size]
      have szL : logZ.size = logW.size := by rw [logZ_size, logW_size]
      have allP : powW.all (·.oneCell') = true := powA_all 255
      have allL : logW.all (·.oneCell') = true := logA_all 255
      refine wpAny_ready (rs := [0, 1]) (by kernel_rfl) (by simp) (AllReady.cons rfl (fun K hK => ?_) (AllReady.cons rfl (fun K hK => ?_) AllReady.nil))
      · refine rstep_load rfl 39 _ rfl (w.heap.size + 2) rfl _ powW (0, 0) _ h2 Try.underlying39 rfl infoPw (hK _ _ ?_)
        clear hK K
        refine wpAny_ready (rs := [1, 2]) (by kernel_rfl) (by simp) (AllReady.cons rfl (fun K hK => ?_) (AllReady.cons rfl (fun K hK => ?_) AllReady.nil))
        · refine rstep_load rfl 40 _ rfl (w.heap.size + 3) rfl _ logW (0, 0) _ h3 Try.underlying40 rfl infoLw (hK _ _ ?_)
          clear hK K
          refine wpAny_ready (rs := [2]) (by kernel_rfl) (by simp) (AllReady.cons rfl (fun K hK => ?_) AllReady.nil)
          · refine rstep_store rfl 39 _ _ rfl w.heap.size powW rfl rfl _ powZ h0 infoPw szP allP (hK _ _ ?_)
            clear hK K
            refine wpAny_ready (rs := [3]) (by kernel_rfl) (by simp) (AllReady.cons rfl (fun K hK => ?_) AllReady.nil)
            · refine rstep_store rfl 40 _ _ rfl (w.heap.size + 1) logW rfl rfl _ logZ k0 infoLw szL allL (hK _ _ ?_)
              clear hK K
              refine wpAny_done (by kernel_rfl) ?_ _
              go_wp2
              simp only [Exit.jump]
              refine bodyPost_ret (v := .tuple #[.agg powW, .agg logW]) (results_cell_row2 rfl _ _ w.heap.size _ powW _ _ rfl m0 Try.underlying39 rfl infoPw (w.heap.size + 1) _ logW _ _ rfl m1 Try.underlying40 rfl infoLw) rfl ⟨rfl, bel⟩
        · refine rstep_store rfl 39 _ _ rfl w.heap.size powW rfl rfl _ powZ h0 infoPw szP allP (hK _ _ ?_)
          clear hK K
          refine wpAny_ready (rs := [1]) (by kernel_rfl) (by simp) (AllReady.cons rfl (fun K hK => ?_) AllReady.nil)
          · refine rstep_load rfl 40 _ rfl (w.heap.size + 3) rfl _ logW (0, 0) _ k2 Try.underlying40 rfl infoLw (hK _ _ ?_)
            clear hK K
            refine wpAny_ready (rs := [3]) (by kernel_rfl) (by simp) (AllReady.cons rfl (fun K hK => ?_) AllReady.nil)
            · refine rstep_store rfl 40 _ _ rfl (w.heap.size + 1) logW rfl rfl _ logZ k0 infoLw szL allL (hK _ _ ?_)
              clear hK K
              refine wpAny_done (by kernel_rfl) ?_ _
              go_wp2
              simp only [Exit.jump]
              refine bodyPost_ret (v := .tuple #[.agg powW, .agg logW]) (results_cell_row2 rfl _ _ w.heap.size _ powW _ _ rfl m0 Try.underlying39 rfl infoPw (w.heap.size + 1) _ logW _ _ rfl m1 Try.underlying40 rfl infoLw) rfl ⟨rfl, bel⟩
      · refine rstep_load rfl 40 _ rfl (w.heap.size + 3) rfl _ logW (0, 0) _ h3 Try.underlying40 rfl infoLw (hK _ _ ?_)
        clear hK K
        refine wpAny_ready (rs := [0]) (by kernel_rfl) (by simp) (AllReady.cons rfl (fun K hK => ?_) AllReady.nil)
        · refine rstep_load rfl 39 _ rfl (w.heap.size + 2) rfl _ powW (0, 0) _ h2 Try.underlying39 rfl infoPw (hK _ _ ?_)
          clear hK K
          refine wpAny_ready (rs := [2]) (by kernel_rfl) (by simp) (AllReady.cons rfl (fun K hK => ?_) AllReady.nil)
          · refine rstep_store rfl 39 _ _ rfl w.heap.size powW rfl rfl _ powZ h0 infoPw szP allP (hK _ _ ?_)
            clear hK K
            refine wpAny_ready (rs := [3]) (by kernel_rfl) (by simp) (AllReady.cons rfl (fun K hK => ?_) AllReady.nil)
            · refine rstep_store rfl 40 _ _ rfl (w.heap.size + 1) logW rfl rfl _ logZ k0 infoLw szL allL (hK _ _ ?_)
              clear hK K
              refine wpAny_done (by kernel_rfl) ?_ _
              go_wp2
              simp only [Exit.jump]
              refine bodyPost_ret (v := .tuple #[.agg powW, .agg logW]) (results_cell_row2 rfl _ _ w.heap.size _ powW _ _ rfl m0 Try.underlying39 rfl infoPw (w.heap.size + 1) _ logW _ _ rfl m1 Try.underlying40 rfl infoLw) rfl ⟨rfl, bel⟩
end Go.Proofs.Ytkhjokpikbbbkaa.Fld
