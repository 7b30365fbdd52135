/- The program's List: walked (a range over a function that reads and writes a map by structs). -/
import Derived.Test.YtofafmjkjgiccaaShpG
import Derived.Maps.OwnIn
import Derived.DeepKeys4
namespace Go.Proofs.Ytofafmjkjgiccaa.Mat
open Go.RowKit Go.Shelf Fld

attribute [local go_sem] Oper.semAt_some

/-! ### keys of maps -/
theorem wideKey : (match Try.prog.underlying 41 with | some (.array _ _) | some (.struct _) => true | _ => false) = true := by kernel_rfl
theorem rowKey : (41 : TypeId) < Try.prog.types.size := of_decide_eq_true (by kernel_rfl)
theorem laidOutK : laidOutB Try.prog = true := by kernel_rfl
set_option maxRecDepth 100000 in
theorem lawKey : Maps.Keyed Try.prog 41 := Maps.Keyed.of_law (deep_law_laid laidOutK (m := 2) (by omega) rowKey (by kernel_rfl) wideKey)
def klit (p : Nat × Nat) : Lit := .string (keyBytes [.int .i64 (p.1 : Int), .int .i64 (p.2 : Int)])
theorem wf64 {v : Nat} (h : v ≤ 1048576) : (Lit.int .i64 (v : Int)).wf = true := by
  simp [Lit.wf, IntKind.min, IntKind.max, IntKind.signed, IntKind.bits]; omega
theorem keyOf_key {v i : Nat} (hv : v ≤ 1048576) (hi : i ≤ 1048576) : keyOf Try.prog 41 (.agg #[.int .i64 (v : Int), .int .i64 (i : Int)]) = some (klit (v, i)) := by
  have u := Try.underlying41
  have u0 := Try.underlying3
  have hkt : Try.prog.keyType 41 = true := by kernel_rfl
  have hc : Try.prog.cellsOf 41 = 2 := by kernel_rfl
  have hc0 : Try.prog.cellsOf 3 = 1 := by kernel_rfl
  have wv := wf64 hv
  have wi := wf64 hi
  obtain ⟨m, hm⟩ : ∃ m, Try.prog.types.size = m + 1 := ⟨Try.prog.types.size - 1, by have h : (41 : Nat) < Try.prog.types.size := rowKey; omega⟩
  unfold keyOf
  simp only [u]
  rw [if_pos (by simp [hkt, Value.formed, u, hc]), hm]
  unfold Program.keyLits
  simp only [u, Value.cells]
  simp [hc, hc0, Program.keyLits, u0, wv, wi, klit]
theorem klit_inj {p q : Nat × Nat} (hp : p.1 ≤ 1048576 ∧ p.2 ≤ 1048576) (hq : q.1 ≤ 1048576 ∧ q.2 ≤ 1048576) (h : klit p = klit q) : p = q := by
  have h1 := keyOf_key hp.1 hp.2
  have h2 := keyOf_key hq.1 hq.2
  rw [show klit (p.1, p.2) = klit (q.1, q.2) from h] at h1
  have := lawKey.inj h1 h2
  simp at this
  exact Prod.ext (by omega) (by omega)
theorem zeroSt (w : World) : (zeroValue 88).run Try.prog w = .ok (.agg #[]) w := by kernel_rfl

/-- the keys that have come -/
def kyA (acc : List (Nat × Nat)) (x : Sd) : List (Nat × Nat) := if (shV x.1.s, shI x.1.s) ∈ acc then acc else acc ++ [(shV x.1.s, shI x.1.s)]
def kyL (l : List Sd) : List (Nat × Nat) := l.foldl kyA []
theorem kyL_snoc (l : List Sd) (x : Sd) : kyL (l ++ [x]) = kyA (kyL l) x := by unfold kyL; rw [List.foldl_append]; rfl
theorem kyL_le : ∀ (l : List Sd), (kyL l).length ≤ l.length ∧ ∀ p ∈ kyL l, p.1 ≤ 1048576 ∧ p.2 ≤ 1048576 := by
  have h : ∀ (l : List Sd) (acc : List (Nat × Nat)), (∀ p ∈ acc, p.1 ≤ 1048576 ∧ p.2 ≤ 1048576) → (l.foldl kyA acc).length ≤ acc.length + l.length ∧ ∀ p ∈ l.foldl kyA acc, p.1 ≤ 1048576 ∧ p.2 ≤ 1048576 := by
    intro l
    induction l with
    | nil => intro acc ha; exact ⟨Nat.le_refl _, ha⟩
    | cons x l ih =>
      intro acc ha
      have hx : (kyA acc x).length ≤ acc.length + 1 ∧ ∀ p ∈ kyA acc x, p.1 ≤ 1048576 ∧ p.2 ≤ 1048576 := by
        unfold kyA
        by_cases e : (shV x.1.s, shI x.1.s) ∈ acc
        · rw [if_pos e]; exact ⟨by omega, ha⟩
        · rw [if_neg e]
          refine ⟨by simp, fun p hp => ?_⟩
          rcases List.mem_append.1 hp with hp | hp
          · exact ha p hp
          · rw [List.mem_singleton.1 hp]
            have := shI_le x.1.s
            exact ⟨shV_le x.1.s, by show shI x.1.s ≤ 1048576; omega⟩
      obtain ⟨q1, q2⟩ := ih (kyA acc x) hx.2
      refine ⟨Nat.le_trans q1 ?_, q2⟩
      simp only [List.length_cons]
      omega
  intro l
  have := h l [] (fun p hp => by cases hp)
  exact ⟨by simpa [kyL] using this.1, this.2⟩
theorem kyL_slo (d : Dk) (hz : Sz d) : ∀ n, kyL (shs (slo (dsl d hz) n)) = ks (gs d) n
  | 0 => rfl
  | n + 1 => by
    have ih := kyL_slo d hz n
    have e : shs (slo (dsl d hz) (n + 1)) = shs (slo (dsl d hz) n ++ [dsl d hz n]) := rfl
    have es : (dsl d hz n).s = gs d n := rfl
    rw [e]
    cases hb : shB (dsl d hz n).s
    · rw [shs_no _ hb, ih, ks_no (fun q => by rw [es] at hb; rw [hb] at q; cases q.1)]
    · rw [shs_yes _ hb, kyL_snoc, ih]
      unfold kyA
      by_cases q : (shV (gs d n), shI (gs d n)) ∈ ks (gs d) n
      · rw [ks_no (fun r => r.2 q)]
        exact if_pos q
      · rw [ks_yes (by rw [← es]; exact hb) q]
        exact if_neg q
/-- .. as a map -/
def kyM (l : List Sd) : DataW Unit := Maps.setOf (.agg []) ((kyL l).map klit)
theorem kyM_has (l : List Sd) {v i : Nat} (hv : v ≤ 1048576) (hi : i ≤ 1048576) : Maps.has (kyM l) (klit (v, i)) = decide ((v, i) ∈ kyL l) := by
  unfold kyM
  rw [Maps.has_setOf _ _ _ (fun x hx => by
    obtain ⟨p, _, rfl⟩ := List.mem_map.1 hx
    trivial), Bool.eq_iff_iff, List.any_eq_true, decide_eq_true_iff]
  constructor
  · rintro ⟨x, hx, hs⟩
    obtain ⟨p, hp, rfl⟩ := List.mem_map.1 hx
    have := klit_inj ((kyL_le l).2 p hp) ⟨hv, hi⟩ (WideAt.sameKey_eq hs)
    rw [← this]; exact hp
  · intro h
    exact ⟨klit (v, i), List.mem_map.2 ⟨_, h, rfl⟩, WideAt.sameKey_self trivial⟩
theorem kyM_new {l : List Sd} {x : Sd} (h : (shV x.1.s, shI x.1.s) ∉ kyL l) : kyL (l ++ [x]) = kyL l ++ [(shV x.1.s, shI x.1.s)] ∧ kyM (l ++ [x]) = (kyM l).put (klit (shV x.1.s, shI x.1.s)) (.agg []) := by
  have e : kyL (l ++ [x]) = kyL l ++ [(shV x.1.s, shI x.1.s)] := by rw [kyL_snoc]; exact if_neg h
  refine ⟨e, ?_⟩
  unfold kyM
  rw [e, List.map_append]
  exact Maps.setOf_snoc _ _ _
theorem kyM_old {l : List Sd} {x : Sd} (h : (shV x.1.s, shI x.1.s) ∈ kyL l) : kyL (l ++ [x]) = kyL l ∧ kyM (l ++ [x]) = kyM l := by
  have e : kyL (l ++ [x]) = kyL l := by rw [kyL_snoc]; exact if_pos h
  exact ⟨e, by unfold kyM; rw [e]⟩
/-- what lies ahead of the loop -/
theorem st_list (w : World) (p q r s : Value) : ∃ W1 W0, W1 = (((w.alloc (.cells #[p, q, r, s] 39)).alloc (.cells #[.slice none 0 0] 43)).alloc (.map #[] 0)).alloc (.cells #[.map (some (w.heap.size + 1 + 1))] 83) ∧ W0 = W1.alloc (.cells #[p, q, r, s] 39) ∧
    Bx W1 w.heap.size p q r s ∧ Boxed W0 (w.heap.size + 1) 43 (.slice none 0 0) ∧ W0.ownsMap Try.prog 41 (unitElem (H := Unit)) (w.heap.size + 1 + 1) 0 (.map []) ∧ Boxed W0 (w.heap.size + 1 + 1 + 1) 83 (.map (some (w.heap.size + 1 + 1))) ∧ Bx W0 (w.heap.size + 1 + 1 + 1 + 1) p q r s ∧ Below w.heap.size w W0 ∧ W0.heap.size = w.heap.size + 1 + 1 + 1 + 1 + 1 := by
  have hx := bx_new w p q r s
  have b1 := (Below.refl w.heap.size w).alloc (Nat.le_refl _) (.cells #[p, q, r, s] 39)
  have z1 : (w.alloc (.cells #[p, q, r, s] 39)).heap.size = w.heap.size + 1 := size_alloc _ _
  generalize w.alloc (.cells #[p, q, r, s] 39) = V1 at *
  have e1 := Boxed.new V1 43 (.slice none 0 0)
  have b2 := b1.alloc b1.size (.cells #[.slice none 0 0] 43)
  have z2 : (V1.alloc (.cells #[.slice none 0 0] 43)).heap.size = w.heap.size + 1 + 1 := by rw [size_alloc, z1]
  have hx := hx.alloc (.cells #[.slice none 0 0] 43)
  rw [z1] at e1
  generalize V1.alloc (.cells #[.slice none 0 0] 43) = V2 at *
  have e2 := World.ownsMap_made V2 Try.prog 41 (unitElem (H := Unit))
  have b3 := b2.alloc b2.size (.map #[] 0)
  have z3 : (V2.alloc (.map #[] 0)).heap.size = w.heap.size + 1 + 1 + 1 := by rw [size_alloc, z2]
  have hx := hx.alloc (.map #[] 0)
  have e1 := e1.alloc (.map #[] 0)
  rw [z2] at e2
  generalize V2.alloc (.map #[] 0) = V3 at *
  have e3 := Boxed.new V3 83 (.map (some (w.heap.size + 1 + 1)))
  have b4 := b3.alloc b3.size (.cells #[.map (some (w.heap.size + 1 + 1))] 83)
  have z4 : (V3.alloc (.cells #[.map (some (w.heap.size + 1 + 1))] 83)).heap.size = w.heap.size + 1 + 1 + 1 + 1 := by rw [size_alloc, z3]
  have hx := hx.alloc (.cells #[.map (some (w.heap.size + 1 + 1))] 83)
  have e1 := e1.alloc (.cells #[.map (some (w.heap.size + 1 + 1))] 83)
  have e2 := e2.alloc (.cells #[.map (some (w.heap.size + 1 + 1))] 83)
  rw [z3] at e3
  generalize V3.alloc (.cells #[.map (some (w.heap.size + 1 + 1))] 83) = V4 at *
  have hz := bx_new V4 p q r s
  rw [z4] at hz
  exact ⟨V4, _, rfl, rfl, hx, e1.alloc _, e2.alloc _, e3.alloc _, hz, b4.alloc b4.size _, by rw [size_alloc, z4]⟩
end Go.Proofs.Ytofafmjkjgiccaa.Mat
