/- Rows put together: walked. -/
import Derived.Test.YtohbijjkkadbaaaMatE
import Derived.OwnWalk
import Derived.Deep.AppendLies
import Derived.LoopN
namespace Go.Proofs.Ytohbijjkkadbaaa.Mat
open Go.RowKit Fld

/-- a row as values -/
def vals (n : Nat) (f : Nat → BitVec 8) : List Value := (List.range n).map (fun c => .int .u8 (V (f c)))
theorem vals_length (n : Nat) (f : Nat → BitVec 8) : (vals n f).length = n := by unfold vals; simp
theorem vals_get {n : Nat} {f : Nat → BitVec 8} {i : Nat} (h : i < n) : (vals n f)[i]? = some (.int .u8 (V (f i))) := by unfold vals; simp [h]
theorem vals_one (n : Nat) (f : Nat → BitVec 8) : ∀ u ∈ vals n f, u.oneCell' = true := by
  intro u hu
  unfold vals at hu
  obtain ⟨c, _, rfl⟩ := List.mem_map.1 hu
  rfl
theorem vals_news {w : World} {ad : Addr} {n : Nat} {f : Nat → BitVec 8} (h : ∀ c, c < n → w.cell? (ad.add c) = some (.int .u8 (V (f c)))) : ∀ j u, (vals n f)[j]? = some u → w.cell? (ad.add j) = some u := by
  intro j u hu
  have hj : j < n := by
    rcases Nat.lt_or_ge j n with h | h
    · exact h
    · rw [List.getElem?_eq_none (by rw [vals_length]; exact h)] at hu; cases hu
  rw [vals_get hj] at hu
  rw [h j hj]; exact hu

/-- two rows, one behind the other -/
def cat (n : Nat) (f f' : Nat → BitVec 8) (c : Nat) : BitVec 8 := if c < n then f c else f' (c - n)
theorem cat_get {n n' : Nat} {f f' : Nat → BitVec 8} {i : Nat} (h : i < n + n') : (vals n f ++ vals n' f')[i]? = some (.int .u8 (V (cat n f f' i))) := by
  unfold cat
  by_cases e : i < n
  · rw [List.getElem?_append_left (by rw [vals_length]; exact e), vals_get e, if_pos e]
  · rw [List.getElem?_append_right (by rw [vals_length]; omega), vals_length, vals_get (by omega), if_neg e]

def Tog (w : World) (n : Nat) (f : Nat → BitVec 8) (e : Ending) (w' : World) : Prop :=
  ∃ g cap, e = .returned (.slice (some ⟨g, 0, none⟩) n cap) ∧ w.heap.size ≤ g ∧ n ≤ cap ∧ Has w' g 5 n (fun c => .int .u8 (V (f c))) ∧ Below w.heap.size w w'

set_option maxRecDepth 100000 in
set_option maxHeartbeats 800000 in
theorem together_any (p n n' c c' cap : Nat) (ad ad' : Addr) (f f' : Nat → BitVec 8) (w : World) (h0 : 0 < n) (hn : n ≤ 32) (hn' : n' ≤ 32)
    (hp : p < w.heap.size) (p0 : w.cell? ⟨p, 0, none⟩ = some (.slice (some ad) n c)) (p1 : w.cell? ⟨p, 1, none⟩ = some (.slice (some ad') n' c'))
    (hb' : ad'.block < w.heap.size)
    (r0 : ∀ c, c < n → w.cell? (ad.add c) = some (.int .u8 (V (f c)))) (r1 : ∀ c, c < n' → w.cell? (ad'.add c) = some (.int .u8 (V (f' c)))) :
    Calls Try.prog 49 #[.slice (some ⟨p, 0, none⟩) 2 cap] w (Tog w (n + n') (cat n f f')) := by
  obtain ⟨i0, hi, hz0, hz1, hz2⟩ := info_parts infoByte
  have R0 := Lib.hid (vals_news r0)
  have R1 := Lib.hid r1
  clear r0 r1
  go_enter Try.func49, Try.ntmps49
  go_wp2
  refine wp_loop_rounds 3 ?_
  rw [rounds_succ]
  go_wp2_with (at_builtin; refine wpList_append_own _ rfl (.tmp 12) (.tmp 13) 55 rfl w.heap.size 5 i0 (.int .u8 0) 1 1 Try.underlying55 hi hz0 hz1 hz2 rfl (by decide) _ _ _ rfl (World.ownsRow_nil _ _ _ _) ad n c (vals n f) rfl (by rw [vals_length, Nat.mul_one]) R0.out (vals_one n f) (by unfold maxLen; omega) (by omega) (Nat.le_refl _) ?_)
  intro v1 w1 hown1 hgrow1 _
  have B1 : Hid (Below w.heap.size w w1) := Lib.hid ((Below.refl _ _).grown hgrow1 (Nat.le_refl _) (fun k hk => by cases hk))
  have H1 := Lib.hid hown1
  have q1 : w1.cell? ⟨p, 1, none⟩ = some (.slice (some ad') n' c') := by rw [B1.out.cell (p := ⟨p, 1, none⟩) hp]; exact p1
  have R1' := Lib.hid (vals_news (f := f') (n := n') (ad := ad') (w := w1) (fun c hc => by rw [B1.out.cell (by rw [block_of_add]; exact hb')]; exact R1.out c hc))
  clear hown1 hgrow1
  go_wp2
  rw [rounds_succ]
  go_wp2_with (at_builtin; refine wpList_append_own _ rfl (.tmp 12) (.tmp 13) 55 rfl w.heap.size 5 i0 (.int .u8 0) 1 1 Try.underlying55 hi hz0 hz1 hz2 rfl (by decide) _ _ _ rfl H1.out ad' n' c' (vals n' f') rfl (by rw [vals_length, Nat.mul_one]) R1'.out (vals_one n' f') (by unfold maxLen; omega) (by omega) B1.out.size ?_)
  intro v2 w2 hown2 hgrow2 _
  have B2 : Hid (Below w.heap.size w w2) := Lib.hid (B1.out.grown hgrow2 B1.out.size (fun k hk => (H1.out.lt k hk).1))
  obtain ⟨g, cp, rfl, hg, _⟩ := hown2.form (by omega)
  obtain ⟨b, hb, hb1, hb2, _, hb3⟩ := Has.of_owns hown2 (by omega) (fun i hi => cat_get hi)
  have H2 := Lib.hid hb3
  injection hb with hb
  injection hb with hb _
  subst hb
  clear hown2 hgrow2 hb3 H1 q1
  go_wp2
  rw [rounds_succ]
  go_wp2
  go_ret
  exact ⟨_, _, rfl, hb1, hb2, H2.out, B2.out⟩
end Go.Proofs.Ytohbijjkkadbaaa.Mat
