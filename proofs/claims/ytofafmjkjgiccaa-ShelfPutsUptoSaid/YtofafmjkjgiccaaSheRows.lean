/- Rows of keys and of numbers, that grow and that are read; Keys and Ints: walked. -/
import Derived.Test.YtofafmjkjgiccaaSheFind
namespace Go.Proofs.Ytofafmjkjgiccaa.Mat
open Go.RowKit Fld

theorem infoKey : (Try.prog.info? 41).map (fun i => (i.zero, i.size, i.bytes)) = some (some (.agg #[.int .i64 0, .int .i64 0]), 2, 16) := by kernel_rfl
theorem infoNum : (Try.prog.info? 3).map (fun i => (i.zero, i.size, i.bytes)) = some (some (.int .i64 0), 1, 8) := by kernel_rfl

/-! ### keys -/
/-- the cells of keys -/
def kcs : List (Nat × Nat) → List Value
  | [] => []
  | p :: l => .int .i64 (p.1 : Int) :: .int .i64 (p.2 : Int) :: kcs l
theorem kcs_len : ∀ l, (kcs l).length = l.length * 2
  | [] => rfl
  | p :: l => by
    have := kcs_len l
    simp only [kcs, List.length_cons, this]; omega
theorem kcs_add (p : Nat × Nat) : ∀ l, kcs (l ++ [p]) = kcs l ++ [.int .i64 (p.1 : Int), .int .i64 (p.2 : Int)]
  | [] => rfl
  | q :: l => by
    show _ :: _ :: kcs (l ++ [p]) = _
    rw [kcs_add p l]; rfl
theorem kcs_at : ∀ {l : List (Nat × Nat)} {r : Nat} (h : r < l.length), (kcs l)[r * 2]? = some (.int .i64 ((l[r].1 : Nat) : Int)) ∧ (kcs l)[r * 2 + 1]? = some (.int .i64 ((l[r].2 : Nat) : Int))
  | p :: l, 0, _ => ⟨rfl, rfl⟩
  | p :: l, r + 1, h => by
    have := kcs_at (l := l) (r := r) (by simpa using h)
    simp only [List.getElem_cons_succ]
    rw [show (r + 1) * 2 = r * 2 + 1 + 1 by omega, show r * 2 + 1 + 1 + 1 = (r * 2 + 1) + 1 + 1 by omega]
    exact this
/-- keys that are read -/
def Kr (w : World) (B : Nat) (A : Option Addr) (l : List (Nat × Nat)) : Prop :=
  0 < l.length → ∃ ad, A = some ad ∧ ad.block < B ∧ ∀ r (h : r < l.length), w.cell? (ad.add (r * 2)) = some (.int .i64 ((l[r].1 : Nat) : Int)) ∧ w.cell? (ad.add (r * 2 + 1)) = some (.int .i64 ((l[r].2 : Nat) : Int))
section
variable {w a b w' : World} {v v' : Value} {l : List (Nat × Nat)} {B B' : Nat} {A : Option Addr}
theorem Kr.below (h : Kr w B A l) (hb : Below B w w') (hB : B ≤ B') : Kr w' B' A l := fun hn => by
  obtain ⟨ad, e, hl, hc⟩ := h hn
  exact ⟨ad, e, by omega, fun r hr => ⟨(hb.cell (by rw [block_of_add]; exact hl)).trans (hc r hr).1, (hb.cell (by rw [block_of_add]; exact hl)).trans (hc r hr).2⟩⟩
theorem Kr.up (h : Kr w w.heap.size A l) (hb : Below w.heap.size w w') : Kr w' w'.heap.size A l := h.below hb hb.size
theorem Kr.at_ (h : Kr w B A l) {r : Nat} (hr : r < l.length) :
    ∃ ad, A = some ad ∧ ad.block < B ∧ w.cell? (ad.add (r * 2)) = some (.int .i64 ((l[r].1 : Nat) : Int)) ∧ w.cell? ⟨(ad.add (r * 2)).block, (ad.add (r * 2)).off + 1, none⟩ = some (.int .i64 ((l[r].2 : Nat) : Int)) := by
  obtain ⟨ad, e, hl, hc⟩ := h (by omega)
  exact ⟨ad, e, hl, (hc r hr).1, by rw [← add_pos _ _ (by omega), add_add]; exact (hc r hr).2⟩
theorem Kr.drewN (h : Kr w B A l) (k : Nat) : Kr (w.drewN k) B A l := h
/-- a row of the call's own -/
structure KRow (w a : World) (v : Value) (l : List (Nat × Nat)) : Prop where
  own : a.ownsRow w.heap.size 41 2 v l.length (kcs l)
  below : Below w.heap.size w a
theorem KRow.start (w : World) : KRow w w (.slice none 0 0) [] := ⟨World.ownsRow_nil _ _ _ _, Below.refl _ _⟩
theorem KRow.under (h : KRow w a v l) (hb : Below a.heap.size a b) : KRow w b v l := ⟨h.own.kept (grownBy_of_below hb none) (by cases hv : v.ownBlock <;> simp), h.below.trans (hb.mono h.below.size)⟩
theorem KRow.next {o : Obj} {p : Nat × Nat} (h : KRow w a v l) (hown : w'.ownsRow w.heap.size 41 2 v' (l.length + 1) (kcs l ++ [.int .i64 (p.1 : Int), .int .i64 (p.2 : Int)])) (hgrow : (a.alloc o).grownBy w' v.ownBlock) : KRow w w' v' (l ++ [p]) :=
  ⟨by rw [kcs_add, List.length_append]; exact hown, (h.below.alloc h.below.size o).grown hgrow (by rw [size_alloc]; have := h.below.size; omega) (fun k hk => (h.own.lt k hk).1)⟩
theorem KRow.kr (h : KRow w a v l) : ∃ A cap, v = .slice A l.length cap ∧ Kr a a.heap.size A l := by
  rcases Nat.eq_zero_or_pos l.length with h0 | h0
  · have ho := h.own
    rw [h0] at ho
    obtain ⟨_, h1 | ⟨g, c, cur, hv, _⟩⟩ := ho
    · exact ⟨none, 0, by rw [h0]; exact h1.1, fun hh => absurd hh (by omega)⟩
    · exact ⟨_, c, by rw [h0]; exact hv, fun hh => absurd hh (by omega)⟩
  · obtain ⟨g, cap, rfl, hg, hlt⟩ := h.own.form h0
    refine ⟨_, cap, rfl, fun _ => ⟨_, rfl, hlt, fun r hr => ?_⟩⟩
    obtain ⟨q0, q1⟩ := kcs_at hr
    rw [add_lit, add_lit, h.own.cellAt _ (by omega), h.own.cellAt _ (by omega), q0, q1]
    exact ⟨rfl, rfl⟩
end
/-- is the key among the first ones? -/
def inK (l : List (Nat × Nat)) (p : Nat × Nat) : Nat → Bool
  | 0 => false
  | q + 1 => inK l p q || decide (l[q]? = some p)
theorem inK_mem {l : List (Nat × Nat)} {p : Nat × Nat} : ∀ {q : Nat}, inK l p q = true ↔ ∃ r, r < q ∧ l[r]? = some p
  | 0 => by simp [inK]
  | q + 1 => by
    unfold inK
    rw [Bool.or_eq_true, inK_mem, decide_eq_true_iff]
    constructor
    · rintro (⟨r, h1, h2⟩ | h)
      · exact ⟨r, by omega, h2⟩
      · exact ⟨q, by omega, h⟩
    · rintro ⟨r, h1, h2⟩
      rcases Nat.lt_or_ge r q with e | e
      · exact .inl ⟨r, e, h2⟩
      · rw [show r = q by omega] at h2; exact .inr h2
theorem inK_all {l : List (Nat × Nat)} {p : Nat × Nat} : inK l p l.length = decide (p ∈ l) := by
  rw [Bool.eq_iff_iff, inK_mem, decide_eq_true_iff, List.mem_iff_getElem?]
  constructor
  · rintro ⟨r, _, h⟩; exact ⟨r, h⟩
  · rintro ⟨r, h⟩
    exact ⟨r, (List.getElem?_eq_some_iff.1 h).1, h⟩
theorem inK_yes {l : List (Nat × Nat)} {p : Nat × Nat} {q : Nat} (hq : q < l.length) (h : l[q] = p) : inK l p (q + 1) = true := by
  unfold inK
  rw [List.getElem?_eq_getElem hq, h]; simp
theorem inK_no {l : List (Nat × Nat)} {p : Nat × Nat} {q : Nat} (hq : q < l.length) (h : ¬ l[q] = p) (h2 : inK l p q = false) : inK l p (q + 1) = false := by
  unfold inK
  rw [List.getElem?_eq_getElem hq, h2]; simp [h]
theorem inK_on {l : List (Nat × Nat)} {p : Nat × Nat} {q : Nat} (h2 : inK l p q = true) : inK l p (q + 1) = true := by
  unfold inK; rw [h2]; rfl
/-- two keys compared -/
theorem eqlK (a b c d : Int) (w : World) : (binOp .eql 41 (.agg #[.int .i64 a, .int .i64 b]) (.agg #[.int .i64 c, .int .i64 d])).run Try.prog w = .ok (.bool (a == c && b == d)) w := by
  have ht : Try.prog.underlying 41 = some (.struct (Try.prog.fieldsOf 41)) := by kernel_rfl
  have hs : Try.prog.stoodInHeld 41 = false := by kernel_rfl
  have u := Try.underlying41
  have u0 := Try.underlying3
  rw [run_eql_struct, run_equalIn_agg w 9999 _ _ _ ht hs]
  unfold Program.fieldsOf
  rw [u]
  simp [Op.eqFields, go_sem, u0]
  by_cases h1 : a = c
  · by_cases h2 : b = d
    · simp [h1, h2]
    · simp [h1, h2]
  · simp [h1]
theorem neqK (a b c d : Int) (w : World) : (binOp .neq 41 (.agg #[.int .i64 a, .int .i64 b]) (.agg #[.int .i64 c, .int .i64 d])).run Try.prog w = .ok (.bool (!(a == c && b == d))) w := by
  have ht : Try.prog.underlying 41 = some (.struct (Try.prog.fieldsOf 41)) := by kernel_rfl
  have hs : Try.prog.stoodInHeld 41 = false := by kernel_rfl
  have u := Try.underlying41
  have u0 := Try.underlying3
  rw [run_neq_struct, run_equalIn_agg w 9999 _ _ _ ht hs]
  unfold Program.fieldsOf
  rw [u]
  simp [Op.eqFields, go_sem, u0]
  by_cases h1 : a = c
  · by_cases h2 : b = d
    · simp [h1, h2]
    · simp [h1, h2]
  · simp [h1]

/-! ### numbers -/
def nums (l : List Nat) : List Value := l.map (fun (n : Nat) => Value.int .i64 (n : Int))
/-- numbers that are read -/
def Nr (w : World) (B : Nat) (A : Option Addr) (l : List Nat) : Prop :=
  0 < l.length → ∃ ad, A = some ad ∧ ad.block < B ∧ ∀ r (h : r < l.length), w.cell? (ad.add r) = some (.int .i64 ((l[r] : Nat) : Int))
section
variable {w a b w' : World} {v v' : Value} {l : List Nat} {B B' : Nat} {A : Option Addr}
theorem Nr.below (h : Nr w B A l) (hb : Below B w w') (hB : B ≤ B') : Nr w' B' A l := fun hn => by
  obtain ⟨ad, e, hl, hc⟩ := h hn
  exact ⟨ad, e, by omega, fun r hr => (hb.cell (by rw [block_of_add]; exact hl)).trans (hc r hr)⟩
theorem Nr.up (h : Nr w w.heap.size A l) (hb : Below w.heap.size w w') : Nr w' w'.heap.size A l := h.below hb hb.size
theorem Nr.at_ (h : Nr w B A l) {r : Nat} (hr : r < l.length) : ∃ ad, A = some ad ∧ ad.block < B ∧ w.cell? (ad.add r) = some (.int .i64 ((l[r] : Nat) : Int)) := by
  obtain ⟨ad, e, hl, hc⟩ := h (by omega)
  exact ⟨ad, e, hl, hc r hr⟩
theorem nr_chosen (h : Chosen w a 3 v (nums l)) : ∃ A cap, v = .slice A l.length cap ∧ Nr a a.heap.size A l := by
  have hlen : (nums l).length = l.length := by unfold nums; simp
  obtain ⟨A, cap, hv, _, _, hc⟩ := h.has (n := l.length) (f := fun i => .int .i64 ((l[i]?.getD 0 : Nat) : Int)) hlen (fun i hi => by
    unfold nums
    rw [List.getElem?_map, List.getElem?_eq_getElem hi]; rfl)
  refine ⟨A, cap, hv, fun hn => ?_⟩
  obtain ⟨g, rfl, _, hlt, hh⟩ := hc hn
  refine ⟨_, rfl, hlt, fun r hr => ?_⟩
  rw [add_lit, hh.cell hr, List.getElem?_eq_getElem hr]; rfl
end
/-- a call answers keys, numbers -/
def KeysRet (w : World) (l : List (Nat × Nat)) (e : Ending) (w' : World) : Prop := ∃ A cap, e = .returned (.slice A l.length cap) ∧ Kr w' w'.heap.size A l ∧ Below w.heap.size w w'
def NumsRet (w : World) (l : List Nat) (e : Ending) (w' : World) : Prop := ∃ A cap, e = .returned (.slice A l.length cap) ∧ Nr w' w'.heap.size A l ∧ Below w.heap.size w w'
end Go.Proofs.Ytofafmjkjgiccaa.Mat
