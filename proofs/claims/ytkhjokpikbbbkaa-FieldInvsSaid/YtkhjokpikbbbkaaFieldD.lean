/- The logarithm out of the tables, and the laws of package field, walked. -/
import Derived.Test.YtkhjokpikbbbkaaFieldC
namespace Go.Proofs.Ytkhjokpikbbbkaa.Fld
open Go.RowKit

theorem setRow_alloc_old (w : World) (c c' : Array Value) (t : TypeId) (o : Obj) : ((w.alloc (.cells c t)).alloc o).setRow w.heap.size c' = (w.alloc (.cells c' t)).alloc o := by
  simp only [World.setRow, World.alloc]
  congr 1
  apply Array.ext_getElem?
  intro i
  rw [Array.getElem?_modify]
  by_cases h : w.heap.size = i
  · subst h
    rw [if_pos rfl, Array.getElem?_push, if_neg (by simp only [Array.size_push]; omega), Array.getElem?_push, if_pos rfl, Array.getElem?_push, if_neg (by simp only [Array.size_push]; omega), Array.getElem?_push, if_pos rfl]
    rfl
  · rw [if_neg h, Array.getElem?_push, Array.getElem?_push, Array.getElem?_push, Array.getElem?_push]
    simp only [Array.size_push, if_neg (fun e : i = w.heap.size => h e.symm)]

theorem setRow_alloc2_new (w : World) (A : Obj) (c c' : Array Value) (t : TypeId) : ((w.alloc A).alloc (.cells c t)).setRow (w.heap.size + 1) c' = (w.alloc A).alloc (.cells c' t) := by
  have h := World.setRow_alloc_new (w.alloc A) c c' t
  rwa [show (w.alloc A).heap.size = w.heap.size + 1 by simp] at h

set_option maxRecDepth 100000 in
set_option maxHeartbeats 400000 in
theorem log_any (a : Int) (h0 : 0 ≤ a) (h1 : a < 256) (w : World) :
    Calls Try.prog 21 #[.int .u8 a] w fun e w' => e = .returned (.tuple #[.int .i64 (lgV a), .int .i64 (ivE a)]) ∧ Below w.heap.size w w' := by
  by_cases hz : a = 0
  · subst hz
    go_enter Try.func21, Try.ntmps21
    go_wp2
    go_ret2
    exact ⟨rfl, Below.refl _ _⟩
  · have hv : lgV a = (L (B a) : Int) := by unfold lgV; rw [if_neg hz]
    have he : ivE a = 0 := by unfold ivE; rw [if_neg hz]
    have hb : (a == 0) = false := by simpa using hz
    have hx := B_nz a h0 h1 hz
    have hl : logW[a.toNat]? = some (.int .i64 (L (B a))) := by
      have := logW_get (B a) hx
      have e : (B a).toNat = a.toNat := by rw [← V_toNat, V_B a h0 h1]
      rwa [e] at this
    rw [hv, he]
    generalize (L (B a) : Int) = l at hl ⊢
    clear hv he hz hx
    have hzP := (zero_of_info infoP).1
    have hzL := (zero_of_info infoL).1
    have szP : powZ.size = powW.size := by rw [powZ_size, powW_size]
    have szL : logZ.size = logW.size := by rw [logZ_size, logW_size]
    have allP : powW.all (·.oneCell') = true := powA_all 255
    have allL : logW.all (·.oneCell') = true := logA_all 255
    have P1 := Lib.hid szP
    have P2 := Lib.hid szL
    have P3 := Lib.hid allP
    have P4 := Lib.hid allL
    clear szP szL allP allL
    go_enter Try.func21, Try.ntmps21
    go_wp2_with fail
    refine (tables_any _).mono ?_; rintro e w1 ⟨rfl, hb1⟩
    go_wp2_with (first | (refine wpList_store_row rfl 39 _ _ rfl w1.heap.size powW rfl rfl 39 powZ (heap_alloc2_old _ _ _) infoPw P1.out P3.out ?_; rw [setRow_alloc_old]) | (refine wpList_store_row rfl 40 _ _ rfl (w1.heap.size + 1) logW rfl rfl 40 logZ (heap_alloc2_new _ _ _) infoLw P2.out P4.out ?_; rw [setRow_alloc2_new]))
    go_ret2
    exact ⟨rfl, (hb1.alloc hb1.size _).alloc (by have := hb1.size; simp; omega) _⟩
end Go.Proofs.Ytkhjokpikbbbkaa.Fld
