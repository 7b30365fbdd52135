/- The program's ring of living nodes as an iterator; who makes it; which numbers may be: walked. -/
import Derived.Test.YthalaihpgjniiaaSitOk
import Derived.RangeFuncNested
import Derived.RangeFuncBound
import Derived.RangeFuncCalls
import Derived.RangeFuncLeaves
import Derived.Shelf.Abstract
import Derived.Shelf.RegionOpen
import Derived.OwnWalkIn
import Derived.TacticsInMore
import Derived.LoopNIn
import Derived.LoopIn
namespace Go.Proofs.Ythalaihpgjniiaa.Mat
open Go.RowKit Go.Shelf Fld

attribute [local go_sem] Oper.semAt_some

/-! ### the ring, step by step -/
def ar (p : Nat → Bool) (a n : Nat) : Nat → List Nat
  | 0 => []
  | k + 1 => if p ((a + k) % n) = true then ar p a n k ++ [(a + k) % n] else ar p a n k
section
variable {p : Nat → Bool} {a n : Nat}
theorem ar_yes {k : Nat} (h : p ((a + k) % n) = true) : ar p a n (k + 1) = ar p a n k ++ [(a + k) % n] := if_pos h
theorem ar_no {k : Nat} (h : p ((a + k) % n) = false) : ar p a n (k + 1) = ar p a n k := if_neg (by rw [h]; exact Bool.false_ne_true)
theorem ar_len (p : Nat → Bool) (a n : Nat) : ∀ k, (ar p a n k).length ≤ k
  | 0 => Nat.le_refl _
  | k + 1 => by
    have := ar_len p a n k
    cases h : p ((a + k) % n)
    · rw [ar_no h]; omega
    · rw [ar_yes h]; simp; omega
theorem ar_up (hn : a < n) : ∀ k, a + k ≤ n → ar p a n k = rup p a k
  | 0, _ => rfl
  | k + 1, h => by
    have ih := ar_up hn k (by omega)
    have e : (a + k) % n = a + k := Nat.mod_eq_of_lt (by omega)
    cases hp : p (a + k)
    · rw [ar_no (by rw [e]; exact hp), rup_no hp, ih]
    · rw [ar_yes (by rw [e]; exact hp), rup_yes hp, ih, e]
theorem ar_round (hn : a < n) : ∀ j, j ≤ a → ar p a n (n - a + j) = rup p a (n - a) ++ rup p 0 j
  | 0, _ => by rw [Nat.add_zero, ar_up hn _ (by omega)]; simp [rup]
  | j + 1, h => by
    have ih := ar_round hn j (by omega)
    have e : (a + (n - a + j)) % n = 0 + j := by
      rw [show a + (n - a + j) = j + n by omega, Nat.add_mod_right, Nat.mod_eq_of_lt (by omega)]; omega
    rw [← Nat.add_assoc]
    cases hp : p (0 + j)
    · rw [ar_no (by rw [e]; exact hp), rup_no hp, ih]
    · rw [ar_yes (by rw [e]; exact hp), rup_yes hp, ih, e, List.append_assoc]
theorem ar_rg {v : Nat} (hn : 0 < n) : ar p (v % n) n n = rg p v n := by
  have := Nat.mod_lt v hn
  have q := ar_round (p := p) this (v % n) (Nat.le_refl _)
  rw [show n - v % n + v % n = n by omega] at q
  exact q
/-- what has come is a beginning -/
theorem ar_pre {k : Nat} : ∀ {m : Nat}, k ≤ m → ∃ l, ar p a n m = ar p a n k ++ l
  | 0, h => ⟨[], by rw [show k = 0 by omega]; simp⟩
  | m + 1, h => by
    rcases Nat.lt_or_ge m k with q | q
    · exact ⟨[], by rw [show k = m + 1 by omega]; simp⟩
    · obtain ⟨l, e⟩ := ar_pre (k := k) q
      cases hp : p ((a + m) % n)
      · exact ⟨l, by rw [ar_no hp, e]⟩
      · exact ⟨l ++ [(a + m) % n], by rw [ar_yes hp, e, List.append_assoc]⟩
end

/-! ### what a round keeps -/
section
variable {n₀ g : Nat} {W W' X Y : World}
/-- all that lay below n₀, and three boxes -/
structure Kg (n₀ g : Nat) (W W' : World) : Prop where
  below : Below n₀ W W'
  boxes : ∀ k, g ≤ k → k < g + 3 → W'.heap[k]? = W.heap[k]?
theorem Kg.refl (n₀ g : Nat) (W : World) : Kg n₀ g W W := ⟨Below.refl _ _, fun _ _ _ => rfl⟩
theorem Kg.trans (h : Kg n₀ g W X) (k : Kg n₀ g X Y) : Kg n₀ g W Y := ⟨h.below.trans k.below, fun i h1 h2 => (k.boxes i h1 h2).trans (h.boxes i h1 h2)⟩
theorem kg_put {w : World} (hn : n₀ ≤ w.heap.size) (hg : g + 3 ≤ w.heap.size) (W : World) (l : Nat) (o o' : Obj) (hl : w.heap.size ≤ l) (h : W.heap[l]? = some o) (hc : o.isCells = false) (hw : o.isWalk = false) : Kg n₀ g W (W.putObj l o') :=
  ⟨belowK_b hn W l o o' hl h hc hw, fun k _ h2 => World.putObj_heap_other (by omega)⟩
theorem kg_of_below (h : Below W.heap.size W X) (hn : n₀ ≤ W.heap.size) (hg : g + 3 ≤ W.heap.size) : Kg n₀ g W X := ⟨h.mono hn, fun k _ h2 => h.block k (by omega)⟩
theorem kg_set (W : World) (a : Addr) (v : Value) (h1 : n₀ ≤ a.block) (h2 : a.block < g ∨ g + 3 ≤ a.block) : Kg n₀ g W (W.setCell a v) :=
  ⟨(Below.refl _ W).setCell h1 v, fun k h3 h4 => Below.heap_setCell W a v k (by omega)⟩
theorem kg_grown {row : Option Nat} (hg : W.grownBy X row) (hn : n₀ ≤ W.heap.size) (hs : g + 3 ≤ W.heap.size) (hr : ∀ k, row = some k → n₀ ≤ k ∧ g + 3 ≤ k) : Kg n₀ g W X :=
  ⟨(Below.refl _ W).grown hg hn (fun k e => (hr k e).1), fun k _ h2 => hg.block k (by omega) (fun e => by have := (hr k e.symm).2; omega)⟩
theorem Kg.boxed {b : Nat} {t : TypeId} {v : Value} (h : Kg n₀ g W W') (hb : Boxed W b t v) (h1 : g ≤ b) (h2 : b < g + 3) : Boxed W' b t v := (h.boxes b h1 h2).trans hb
theorem below_boxed {b B : Nat} {t : TypeId} {v : Value} (h : Below B W W') (hb : Boxed W b t v) (h1 : b < B) : Boxed W' b t v := (h.block b h1).trans hb
theorem boxed_past {b : Nat} {t : TypeId} {v : Value} (h : Boxed W b t v) (hb : Below W.heap.size W W') : Boxed W' b t v := (hb.block b h.lt).trans h
end
theorem keepsFrom_up {B B' : Nat} {W W' : World} (h : KeepsFrom B W W') (hb : B ≤ B') : KeepsFrom B' W W' := ⟨h.size, fun k o hk => h.same k o (Nat.le_trans hb hk)⟩
theorem keepsFrom_below {B : Nat} {W W' : World} (h : Below W.heap.size W W') : KeepsFrom B W W' := ⟨h.size, fun k _ _ hk _ => (h.block k (Array.getElem?_eq_some_iff.1 hk).1).trans hk⟩

/-! ### which numbers may be -/
set_option maxRecDepth 100000 in
set_option maxHeartbeats 400000 in
theorem isRegion_any (r : Int) (w : World) : Calls Try.prog 24 #[.int .i64 r] w (BoolRet w (decide (1 ≤ r) && decide (r ≤ 3))) := by
  by_cases h1 : 1 ≤ r
  · by_cases h2 : r ≤ 3
    all_goals
      go_enter Try.func24, Try.ntmps24
      go_wp2
      go_ret
      exact ⟨by simp [h1, h2], Below.refl _ _⟩
  · go_enter Try.func24, Try.ntmps24
    go_wp2
    go_ret
    exact ⟨by rw [decide_eq_false (show ¬ 1 ≤ r by omega)]; rfl, Below.refl _ _⟩
set_option maxRecDepth 100000 in
set_option maxHeartbeats 400000 in
theorem areNodes_any (r : Int) (w : World) : Calls Try.prog 21 #[.int .i64 r] w (BoolRet w (decide (1 ≤ r) && decide (r ≤ 64))) := by
  by_cases h1 : 1 ≤ r
  · by_cases h2 : r ≤ 64
    all_goals
      go_enter Try.func21, Try.ntmps21
      go_wp2
      go_ret
      exact ⟨by simp [h1, h2], Below.refl _ _⟩
  · go_enter Try.func21, Try.ntmps21
    go_wp2
    go_ret
    exact ⟨by rw [decide_eq_false (show ¬ 1 ≤ r by omega)]; rfl, Below.refl _ _⟩

/-! ### who makes the ring -/
/-- the three boxes of a ring -/
structure Ri (W : World) (g a n : Nat) (A : Option Addr) (N c : Nat) : Prop where
  from_ : Boxed W g 3 (.int .i64 (a : Int))
  nodes : Boxed W (g + 1) 3 (.int .i64 (n : Int))
  live : Boxed W (g + 2) 22 (.slice A N c)
abbrev ring1 (g : Nat) : Value := .func (.func 30) #[] #[.pointer (some ⟨g + 1, 0, none⟩), .pointer (some ⟨g, 0, none⟩), .pointer (some ⟨g + 2, 0, none⟩)]
def RingRet (w : World) (a n : Nat) (A : Option Addr) (N c : Nat) (e : Ending) (w' : World) : Prop :=
  e = .returned (ring1 w.heap.size) ∧ Ri w' w.heap.size a n A N c ∧ Below w.heap.size w w' ∧ w'.heap.size = w.heap.size + 3
section
variable {A : Option Addr} {N c : Nat}
set_option maxRecDepth 100000 in
set_option maxHeartbeats 1000000 in
theorem around_any (v n : Nat) (hn : 1 ≤ n) (hn2 : n ≤ 64) (hv : v ≤ 9223372036854775807) (w : World) :
    Calls Try.prog 23 #[.int .i64 (v : Int), .int .i64 (n : Int), .slice A N c] w (RingRet w (v % n) n A N c) := by
  have hnz : ¬ n = 0 := by omega
  have hlt := Nat.mod_lt v hn
  have hm : ((v : Int) % (n : Int)) = ((v % n : Nat) : Int) := rfl
  have HM := Lib.hid hm
  clear hm
  go_enter Try.func23, Try.ntmps23
  go_wp2
  rw [HM.out]
  go_ret
  generalize v % n = a at *
  have b1 := Boxed.new w 3 (.int .i64 (a : Int))
  have b2 := Boxed.new (w.alloc (.cells #[.int .i64 (a : Int)] 3)) 3 (.int .i64 (n : Int))
  have b3 := Boxed.new ((w.alloc (.cells #[.int .i64 (a : Int)] 3)).alloc (.cells #[.int .i64 (n : Int)] 3)) 22 (.slice A N c)
  rw [size_alloc] at b2
  rw [size_alloc, size_alloc] at b3
  have hb := (((Below.refl w.heap.size w).alloc (Nat.le_refl _) (.cells #[.int .i64 (a : Int)] 3)).alloc (by rw [size_alloc]; omega) (.cells #[.int .i64 (n : Int)] 3)).alloc (by rw [size_alloc, size_alloc]; omega) (.cells #[.slice A N c] 22)
  exact ⟨rfl, ⟨(b1.alloc _).alloc _, b2.alloc _, b3⟩, hb, by rw [size_alloc, size_alloc, size_alloc]⟩

/-! ### the ring -/
set_option maxRecDepth 100000 in
set_option maxHeartbeats 4000000 in
theorem around1_in (l g a n n₀ : Nat) (f : Nat → Bool) (han : a < n) (hn2 : n ≤ 64) (J Jx : List Nat → World → Prop) (W : World)
    (hR : Ri W g a n A N c) (hf : Bl W n₀ A N f)
    (hY : ∀ pre x W1, J pre W1 → pre.length < n → YieldAt Fence.wide 4 Try.prog l #[.int .i64 ((x : Nat) : Int)] W1 fun e W' =>
      (e = .returned (.bool true) ∧ J (pre ++ [x]) W' ∧ Kg n₀ g W1 W') ∨ (e = .returned (.bool false) ∧ Jx (pre ++ [x]) W')) (h0 : J [] W) :
    CallsIn Fence.wide 5 Try.prog 30 #[.func (.yield l) #[] #[], .pointer (some ⟨g + 1, 0, none⟩), .pointer (some ⟨g, 0, none⟩), .pointer (some ⟨g + 2, 0, none⟩)] W fun e W' => (∃ v, e = .returned v) ∧
      ((∃ xs, xs = ar (lv f N) a n n ∧ J xs W') ∨ (∃ pre, (∃ k x, k < n ∧ pre = ar (lv f N) a n k ++ [x] ∧ pre = ar (lv f N) a n (k + 1)) ∧ Jx pre W')) := by
  have hg3 := hR.live.lt
  have x1 := hR.nodes.cell
  have hnz : ¬ n = 0 := by omega
  refine callsIn_of_wp Try.func30 rfl trivial ?_ rfl
  simp only [Try.ntmps30, List.size_toArray, List.length_cons, List.length_nil, Nat.reduceAdd, Nat.reduceSub, Array.replicate_succ, Array.replicate_zero, List.push_toArray, List.append_toArray, List.nil_append, List.cons_append]
  gi_wp2
  clear x1
  gi_loopw [8] (fun i wr => ∃ k : Nat, k ≤ n ∧ i = .int .i64 k ∧ J (ar (lv f N) a n k) wr ∧ Kg n₀ g W wr)
    (fun i _ => n - (intOf i).toNat)
  case atStart => exact ⟨0, Nat.zero_le _, rfl, h0, Kg.refl _ _ _⟩
  case round =>
    obtain ⟨k, hk, rfl, hJs, hnx⟩ := hrel
    by_cases hlt : k < n
    · have x0 := (hnx.boxed hR.from_ (Nat.le_refl _) (by omega)).cell
      have x1 := (hnx.boxed hR.nodes (by omega) (by omega)).cell
      have x2 := (hnx.boxed hR.live (by omega) (by omega)).cell
      have hkz : (k : Int) < (n : Int) := by omega
      obtain ⟨r, hr⟩ : ∃ r, r = (a + k) % n := ⟨_, rfl⟩
      have hm : ((a : Int) + (k : Int)) % (n : Int) = (r : Int) := by rw [hr]; rfl
      have HR := Lib.hid hr
      have hln := ar_len (lv f N) a n k
      have hz := hnx.below.size
      clear hr
      by_cases hrN : r < N
      rotate_left
      · have hT := ar_no (p := lv f N) (a := a) (n := n) (k := k) (by rw [← HR.out]; exact lv_no hrN)
        have hrNz : ¬ (r : Int) < (N : Int) := by omega
        clear hrN
        gi_wp2_with fail
        refine ⟨fun _ h => (by cases h), ?_⟩
        gi_wp2_with fail
        go_roundw
        case rel => exact ⟨k + 1, by omega, by go_num, by rw [hT]; exact hJs, hnx⟩
        case measure => simp [intOf]; omega
      have hrNz : (r : Int) < (N : Int) := by omega
      obtain ⟨ad, e, _, k0⟩ := (hf.below hnx.below (Nat.le_refl _)).at_ hrN
      subst e
      cases hfr : f r
      · rw [hfr] at k0
        have hT := ar_no (p := lv f N) (a := a) (n := n) (k := k) (by rw [← HR.out, lv_yes hrN]; exact hfr)
        clear hrN hfr
        gi_wp2_with fail
        refine ⟨fun _ h => (by cases h), ?_⟩
        gi_wp2_with fail
        go_roundw
        case rel => exact ⟨k + 1, by omega, by go_num, by rw [hT]; exact hJs, hnx⟩
        case measure => simp [intOf]; omega
      · rw [hfr] at k0
        have hT := ar_yes (p := lv f N) (a := a) (n := n) (k := k) (by rw [← HR.out, lv_yes hrN]; exact hfr)
        rw [← HR.out] at hT
        clear hrN hfr
        obtain ⟨fn, tmps, assign, body, hy, hR4⟩ := hY _ r wr hJs (by omega)
        gi_wp2_with fail
        refine hR4.mono ?_
        rintro e W3 (⟨rfl, hJ3, hk3⟩ | ⟨rfl, hJx3⟩)
        · gi_wp2_with fail
          go_roundw
          case rel => exact ⟨k + 1, by omega, by go_num, by rw [hT]; exact hJ3, hnx.trans hk3⟩
          case measure => simp [intOf]; omega
        · gi_wp2_with fail
          refine bodyPost_ret (results_none rfl _ _ _) rfl ?_
          exact ⟨⟨_, rfl⟩, .inr ⟨_, ⟨k, r, hlt, rfl, hT.symm⟩, hJx3⟩⟩
    · obtain rfl : k = n := by omega
      gi_wp2
      go_end0
      exact ⟨⟨_, rfl⟩, .inl ⟨_, rfl, hJs⟩⟩
end
end Go.Proofs.Ythalaihpgjniiaa.Mat
