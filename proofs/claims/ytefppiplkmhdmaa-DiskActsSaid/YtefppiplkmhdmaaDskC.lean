/- Rows of texts and of writes, copied: walked. -/
import Derived.Test.YtefppiplkmhdmaaDskB
import Derived.Lib.SliceRun
namespace Go.Proofs.Ytefppiplkmhdmaa.Mat
open Go.RowKit Fld

/-- a row of a call's own, in its form -/
def RowRet (w : World) (e : TypeId) (size n : Nat) (l : List Value) (x : Ending) (w' : World) : Prop :=
  ∃ A c, x = .returned (.slice A n c) ∧ Fit A n c ∧ w'.ownsRow w.heap.size e size (.slice A n c) n l ∧ Below w.heap.size w w'
theorem own_form {w : World} {base n size : Nat} {e : TypeId} {v : Value} {l : List Value} (h : w.ownsRow base e size v n l) : ∃ A c, v = .slice A n c ∧ Fit A n c := by
  rcases Go.Joins.ownsRow_forms h with ⟨rfl, rfl⟩ | ⟨g, cap, rfl⟩
  · exact ⟨none, 0, rfl, own_fit h⟩
  · exact ⟨_, cap, rfl, own_fit h⟩
section
variable {A : Option Addr} {n c B : Nat} {S T : Nat → ByteArray} {I : Nat → Int} {w : World}
theorem lit_own (w : World) (base : Nat) (hb : base ≤ w.heap.size) (e : TypeId) (size : Nat) : (w.alloc (.cells #[] e)).ownsRow base e size (.slice (some ⟨w.heap.size, 0, none⟩) 0 0) 0 [] := World.ownsRow_lit w #[] 0 hb (Nat.zero_le _) (by simp)
set_option maxRecDepth 100000 in
set_option maxHeartbeats 800000 in
theorem cloneS_any (h : St w w.heap.size A n S) (hf : Fit A n c) (hn : n * 16 ≤ 140737488355328) : Calls Try.prog 37 #[.slice A n c] w (RowRet w 9 1 n (strs S n)) := by
  obtain ⟨i0, hi0, hz0, hz1, hz2⟩ := info_parts infoStr
  have qT : ∀ (w : World) (a : Option Addr) (n c n' c' : Nat), (binOp .eql 22 (.slice a n c) (.slice none n' c')).run Try.prog w = .ok (.bool a.isNone) w := fun w a n c n' c' => Lib.run_eql_slice_nil w _ _ a n c n' c' Try.underlying22
  cases A with
  | none =>
    obtain ⟨f1, f2⟩ := hf
    have hc0 := f2 rfl
    obtain rfl : c = 0 := hc0
    obtain rfl : n = 0 := by omega
    clear h f1 f2
    go_enter Try.func37, Try.ntmps37
    go_wp2
    go_ret
    exact ⟨none, 0, rfl, ⟨Nat.le_refl _, fun _ => rfl⟩, World.ownsRow_nil _ _ _ _, Below.refl _ _⟩
  | some ad =>
    have hb := (Below.refl w.heap.size w).alloc (Nat.le_refl _) (.cells #[] 9)
    have hs := h.up hb
    have HS := Lib.hid hs
    have HB := Lib.hid hb
    have HNN := Lib.hid hn
    clear h hb hs hf hn
    go_enter Try.func37, Try.ntmps37
    go_wp2_with (at_builtin; refine wpList_append_own _ rfl (.tmp 5) (.tmp 6) 22 rfl w.heap.size 9 i0 (.string ByteArray.empty) 1 16 Try.underlying22 hi0 hz0 hz1 hz2 rfl (by decide) _ _ _ rfl (lit_own w w.heap.size (Nat.le_refl _) _ _) ad n c (strs S n) rfl (by rw [strs_len]; omega) HS.out.news (strs_one _ _) (by have := HNN.out; unfold maxLen; omega) (by have := HNN.out; omega) (by rw [size_alloc]; omega) ?_)
    intro v' w' hown hgrow _
    obtain ⟨A', c', rfl, hf⟩ := own_form hown
    have HO := Lib.hid hown
    have HF := Lib.hid hf
    have HBB : Hid (Below w.heap.size w w') := Lib.hid (HB.out.grown hgrow HB.out.size (fun k hk => by
      injection hk with hk
      subst hk
      exact Nat.le_refl _))
    clear hown hgrow hf
    go_wp2
    go_ret
    exact ⟨_, _, rfl, HF.out, HO.out, HBB.out⟩
set_option maxRecDepth 100000 in
set_option maxHeartbeats 800000 in
theorem cloneW_any (h : Pc w w.heap.size A n I T) (hf : Fit A n c) (hn : n * 24 ≤ 140737488355328) : Calls Try.prog 38 #[.slice A n c] w (RowRet w 55 2 n (pcs I T n)) := by
  obtain ⟨i0, hi0, hz0, hz1, hz2⟩ := info_parts infoWrite
  have qT : ∀ (w : World) (a : Option Addr) (n c n' c' : Nat), (binOp .eql 23 (.slice a n c) (.slice none n' c')).run Try.prog w = .ok (.bool a.isNone) w := fun w a n c n' c' => Lib.run_eql_slice_nil w _ _ a n c n' c' Try.underlying23
  cases A with
  | none =>
    obtain ⟨f1, f2⟩ := hf
    have hc0 := f2 rfl
    obtain rfl : c = 0 := hc0
    obtain rfl : n = 0 := by omega
    clear h f1 f2
    go_enter Try.func38, Try.ntmps38
    go_wp2
    go_ret
    exact ⟨none, 0, rfl, ⟨Nat.le_refl _, fun _ => rfl⟩, World.ownsRow_nil _ _ _ _, Below.refl _ _⟩
  | some ad =>
    have hb := (Below.refl w.heap.size w).alloc (Nat.le_refl _) (.cells #[] 55)
    have hs := h.up hb
    have HS := Lib.hid hs
    have HB := Lib.hid hb
    have HNN := Lib.hid hn
    clear h hb hs hf hn
    go_enter Try.func38, Try.ntmps38
    go_wp2_with (at_builtin; refine wpList_append_own _ rfl (.tmp 5) (.tmp 6) 23 rfl w.heap.size 55 i0 (.agg #[.int .i64 0, .string ByteArray.empty]) 2 24 Try.underlying23 hi0 hz0 hz1 hz2 rfl (by decide) _ _ _ rfl (lit_own w w.heap.size (Nat.le_refl _) _ _) ad n c (pcs I T n) rfl (by rw [pcs_len]) HS.out.news (pcs_one _ _ _) (by have := HNN.out; unfold maxLen; omega) (by have := HNN.out; omega) (by rw [size_alloc]; omega) ?_)
    intro v' w' hown hgrow _
    obtain ⟨A', c', rfl, hf⟩ := own_form hown
    have HO := Lib.hid hown
    have HF := Lib.hid hf
    have HBB : Hid (Below w.heap.size w w') := Lib.hid (HB.out.grown hgrow HB.out.size (fun k hk => by
      injection hk with hk
      subst hk
      exact Nat.le_refl _))
    clear hown hgrow hf
    go_wp2
    go_ret
    exact ⟨_, _, rfl, HF.out, HO.out, HBB.out⟩
end
end Go.Proofs.Ytefppiplkmhdmaa.Mat
