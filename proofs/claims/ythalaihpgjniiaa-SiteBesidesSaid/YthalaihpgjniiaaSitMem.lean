/- Bools and places in memory; who lives; two rows of places compared: walked. -/
import Derived.Test.YthalaihpgjniiaaSitMath
namespace Go.Proofs.Ythalaihpgjniiaa.Mat
open Go.RowKit Fld

theorem addP (a : Addr) (n : Nat) (h : n ≠ 0) : a.add n = ⟨a.block, a.off + n, none⟩ := if_neg h
theorem ownP_form {w : World} {base n size : Nat} {e : TypeId} {v : Value} {l : List Value} (h : w.ownsRow base e size v n l) : ∃ A c, v = .slice A n c := by
  obtain ⟨_, h1 | ⟨g, c, cur, hv, _⟩⟩ := h
  · exact ⟨none, 0, by rw [h1.1, h1.2]⟩
  · exact ⟨_, c, hv⟩
/-! ### bools that are read -/
def Bl (w : World) (B : Nat) (A : Option Addr) (N : Nat) (f : Nat → Bool) : Prop := 0 < N → ∃ ad, A = some ad ∧ ad.block < B ∧ ∀ r, r < N → w.cell? (ad.add r) = some (.bool (f r))
section
variable {w w' : World} {B B' N : Nat} {A : Option Addr} {f : Nat → Bool}
theorem Bl.below (h : Bl w B A N f) (hb : Below B w w') (hB : B ≤ B') : Bl w' B' A N f := fun hn => by
  obtain ⟨ad, e, hl, hc⟩ := h hn
  exact ⟨ad, e, by omega, fun r hr => (hb.cell (by rw [block_of_add]; exact hl)).trans (hc r hr)⟩
theorem Bl.up (h : Bl w w.heap.size A N f) (hb : Below w.heap.size w w') : Bl w' w'.heap.size A N f := h.below hb hb.size
theorem Bl.at_ (h : Bl w B A N f) {r : Nat} (hr : r < N) : ∃ ad, A = some ad ∧ ad.block < B ∧ w.cell? (ad.add r) = some (.bool (f r)) := by
  obtain ⟨ad, e, hl, hc⟩ := h (by omega)
  exact ⟨ad, e, hl, hc r hr⟩
end
/-! ### places -/
abbrev pq (l : List (Int × Int)) (r : Nat) : Int × Int := l[r]?.getD (0, 0)
/-- places that are read -/
def Pl (w : World) (B : Nat) (A : Option Addr) (l : List (Int × Int)) : Prop := 0 < l.length → ∃ ad, A = some ad ∧ ad.block < B ∧ ∀ r, r < l.length → w.cell? (ad.add (r * 2)) = some (.int .i64 (pq l r).1) ∧ w.cell? (ad.add (r * 2 + 1)) = some (.int .i64 (pq l r).2)
section
variable {w w' : World} {B B' : Nat} {A : Option Addr} {l : List (Int × Int)}
theorem Pl.below (h : Pl w B A l) (hb : Below B w w') (hB : B ≤ B') : Pl w' B' A l := fun hn => by
  obtain ⟨ad, e, hl, hc⟩ := h hn
  exact ⟨ad, e, by omega, fun r hr => ⟨(hb.cell (by rw [block_of_add]; exact hl)).trans (hc r hr).1, (hb.cell (by rw [block_of_add]; exact hl)).trans (hc r hr).2⟩⟩
theorem Pl.up (h : Pl w w.heap.size A l) (hb : Below w.heap.size w w') : Pl w' w'.heap.size A l := h.below hb hb.size
theorem Pl.drewN (h : Pl w B A l) (k : Nat) : Pl (w.drewN k) B A l := h
theorem Pl.at_ (h : Pl w B A l) {r : Nat} (hr : r < l.length) :
    ∃ ad, A = some ad ∧ ad.block < B ∧ w.cell? (ad.add (r * 2)) = some (.int .i64 (pq l r).1) ∧ w.cell? ⟨(ad.add (r * 2)).block, (ad.add (r * 2)).off + 1, none⟩ = some (.int .i64 (pq l r).2) := by
  obtain ⟨ad, e, hl, hc⟩ := h (by omega)
  exact ⟨ad, e, hl, (hc r hr).1, by rw [← addP _ _ (by omega), add_add]; exact (hc r hr).2⟩
end
/-- the cells of places -/
def pls : List (Int × Int) → List Value
  | [] => []
  | p :: l => .int .i64 p.1 :: .int .i64 p.2 :: pls l
theorem pls_len : ∀ l, (pls l).length = l.length * 2
  | [] => rfl
  | p :: l => by
    have := pls_len l
    simp only [pls, List.length_cons, this]; omega
theorem pls_add (p : Int × Int) : ∀ l, pls (l ++ [p]) = pls l ++ [.int .i64 p.1, .int .i64 p.2]
  | [] => rfl
  | q :: l => by
    show _ :: _ :: pls (l ++ [p]) = _
    rw [pls_add p l]; rfl
theorem pls_at : ∀ {l : List (Int × Int)} {r : Nat} (_ : r < l.length), (pls l)[r * 2]? = some (.int .i64 (pq l r).1) ∧ (pls l)[r * 2 + 1]? = some (.int .i64 (pq l r).2)
  | p :: l, 0, _ => ⟨rfl, rfl⟩
  | p :: l, r + 1, h => by
    have := pls_at (l := l) (r := r) (by simpa using h)
    have e : pq (p :: l) (r + 1) = pq l r := by unfold pq; simp
    rw [e, show (r + 1) * 2 = r * 2 + 1 + 1 by omega, show r * 2 + 1 + 1 + 1 = (r * 2 + 1) + 1 + 1 by omega]
    exact this
theorem infoPlace : (Try.prog.info? 44).map (fun i => (i.zero, i.size, i.bytes)) = some (some (.agg #[.int .i64 0, .int .i64 0]), 2, 16) := by kernel_rfl
/-- a row of the call's own -/
structure PRow (w a : World) (v : Value) (l : List (Int × Int)) : Prop where
  own : a.ownsRow w.heap.size 44 2 v l.length (pls l)
  below : Below w.heap.size w a
section
variable {w a b w' : World} {v v' : Value} {l : List (Int × Int)}
theorem PRow.start (w : World) : PRow w w (.slice none 0 0) [] := ⟨World.ownsRow_nil _ _ _ _, Below.refl _ _⟩
theorem PRow.under (h : PRow w a v l) (hb : Below a.heap.size a b) : PRow w b v l := ⟨h.own.kept (grownBy_of_below hb none) (by cases hv : v.ownBlock <;> simp), h.below.trans (hb.mono h.below.size)⟩
theorem PRow.next {o : Obj} {p : Int × Int} (h : PRow w a v l) (hown : w'.ownsRow w.heap.size 44 2 v' (l.length + 1) (pls l ++ [.int .i64 p.1, .int .i64 p.2])) (hgrow : (a.alloc o).grownBy w' v.ownBlock) : PRow w w' v' (l ++ [p]) :=
  ⟨by rw [pls_add, List.length_append]; exact hown, (h.below.alloc h.below.size o).grown hgrow (by rw [size_alloc]; have := h.below.size; omega) (fun k hk => (h.own.lt k hk).1)⟩
theorem PRow.pl (h : PRow w a v l) : ∃ A cap, v = .slice A l.length cap ∧ Pl a a.heap.size A l := by
  rcases Nat.eq_zero_or_pos l.length with h0 | h0
  · obtain ⟨A, c, hv⟩ := ownP_form h.own
    exact ⟨A, c, hv, fun hh => absurd hh (by omega)⟩
  · obtain ⟨g, cap, rfl, hg, hlt⟩ := h.own.form h0
    refine ⟨_, cap, rfl, fun _ => ⟨_, rfl, hlt, fun r hr => ?_⟩⟩
    obtain ⟨q0, q1⟩ := pls_at hr
    rw [add_lit, add_lit, h.own.cellAt _ (by omega), h.own.cellAt _ (by omega), q0, q1]
    exact ⟨rfl, rfl⟩
end
/-- a call answers places and an error; a number and an error; a place and an error -/
def PlsRet (w : World) (E : Int) (l : List (Int × Int)) (e : Ending) (w' : World) : Prop := ∃ A cap, e = .returned (.tuple #[.slice A l.length cap, .int .i64 E]) ∧ Pl w' w'.heap.size A l ∧ Below w.heap.size w w'
def IntErr (w : World) (E v : Int) (e : Ending) (w' : World) : Prop := e = .returned (.tuple #[.int .i64 v, .int .i64 E]) ∧ Below w.heap.size w w'
def PlErr (w : World) (E r n : Int) (e : Ending) (w' : World) : Prop := e = .returned (.tuple #[.agg #[.int .i64 r, .int .i64 n], .int .i64 E]) ∧ Below w.heap.size w w'
/-- two places compared -/
theorem eqlP (a b c d : Int) (w : World) : (binOp .eql 44 (.agg #[.int .i64 a, .int .i64 b]) (.agg #[.int .i64 c, .int .i64 d])).run Try.prog w = .ok (.bool (a == c && b == d)) w := by
  have ht : Try.prog.underlying 44 = some (.struct (Try.prog.fieldsOf 44)) := by kernel_rfl
  have hs : Try.prog.stoodInHeld 44 = false := by kernel_rfl
  have u := Try.underlying44
  have u0 := Try.underlying3
  rw [run_eql_struct, run_equalIn_agg w 9999 _ _ _ ht hs]
  unfold Program.fieldsOf
  rw [u]
  simp [Op.eqFields, go_sem, u0]
  by_cases h1 : a = c
  · by_cases h2 : b = d
    · simp [h1, h2]
    · simp [h1, h2]
  · simp [h1]
theorem neqP (a b c d : Int) (w : World) : (binOp .neq 44 (.agg #[.int .i64 a, .int .i64 b]) (.agg #[.int .i64 c, .int .i64 d])).run Try.prog w = .ok (.bool (!(a == c && b == d))) w := by
  have ht : Try.prog.underlying 44 = some (.struct (Try.prog.fieldsOf 44)) := by kernel_rfl
  have hs : Try.prog.stoodInHeld 44 = false := by kernel_rfl
  have u := Try.underlying44
  have u0 := Try.underlying3
  rw [run_neq_struct, run_equalIn_agg w 9999 _ _ _ ht hs]
  unfold Program.fieldsOf
  rw [u]
  simp [Op.eqFields, go_sem, u0]
  by_cases h1 : a = c
  · by_cases h2 : b = d
    · simp [h1, h2]
    · simp [h1, h2]
  · simp [h1]

section
variable {w : World} {A B : Option Addr} {c k : Nat}
set_option maxRecDepth 100000 in
set_option maxHeartbeats 800000 in
/-- does a node live? -/
theorem lives_any (n : Int) (N : Nat) (f : Nat → Bool) (h : Bl w w.heap.size A N f) :
    Calls Try.prog 20 #[.int .i64 n, .slice A N c] w (BoolRet w (decide (0 ≤ n) && lv f N n.toNat)) := by
  by_cases h0 : 0 ≤ n
  · obtain ⟨m, rfl⟩ := Int.eq_ofNat_of_zero_le h0
    rw [decide_eq_true h0, Bool.true_and, Int.toNat_natCast]
    by_cases h1 : m < N
    · rw [lv_yes h1]
      obtain ⟨ad, rfl, _, k0⟩ := h.at_ h1
      have g1 : (m : Int) < (N : Int) := by omega
      clear h
      go_enter Try.func20, Try.ntmps20
      go_wp2
      go_ret
      exact ⟨rfl, Below.refl _ _⟩
    · rw [lv_no h1]
      have g1 : ¬ (m : Int) < (N : Int) := by omega
      clear h
      go_enter Try.func20, Try.ntmps20
      go_wp2
      go_ret
      exact ⟨rfl, Below.refl _ _⟩
  · rw [decide_eq_false h0]
    clear h
    go_enter Try.func20, Try.ntmps20
    go_wp2
    go_ret
    exact ⟨rfl, Below.refl _ _⟩
end
end Go.Proofs.Ythalaihpgjniiaa.Mat
