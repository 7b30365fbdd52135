/- A range over a function whose iterator itself ranges over another, and calls yield in those rounds: what it asks of a round, and the law for who ranges over it. -/
import Derived.Test.YtofafmjkjgiccaaSheOk
import Derived.RangeFuncNested
import Derived.RangeFuncBound
import Derived.RangeFuncCalls
import Derived.RangeFuncLeaves
import Derived.Shelf.Abstract
import Derived.Shelf.RegionOpen
import Derived.OwnWalkIn
import Derived.TacticsInMore
import Derived.LoopNIn
import Derived.LoopIn
namespace Go.Proofs.Ytofafmjkjgiccaa.Mat
open Go.RowKit Go.Shelf Fld

section
variable {B B' n₀ b₁ : Nat} {W W' X Y : World}
theorem keepsFrom_up (h : KeepsFrom B W W') (hb : B ≤ B') : KeepsFrom B' W W' := ⟨h.size, fun k o hk => h.same k o (Nat.le_trans hb hk)⟩
theorem keepsFrom_put (W : World) (l : Nat) (o : Obj) (h : l < B) : KeepsFrom B W (W.putObj l o) := KeepsFrom.of_grownBy (grownBy_putObj' W l o) (fun j e => by cases e; exact h)
theorem ownFrom_up {β : Type} {I : β → World → Prop} (h : OwnFrom B I) (hb : B ≤ B') : OwnFrom B' I := fun s X Y row hs hg hr => h s X Y row hs hg (fun r e => ⟨Nat.le_trans hb (hr r e).1, (hr r e).2⟩)

/-- what a round keeps: all that lay below n₀; and, at or above b₁, the boxes of disks and of yields -/
structure Kt (n₀ b₁ : Nat) (W W' : World) : Prop where
  below : Below n₀ W W'
  boxes : ∀ (k : Nat) (c : Array Value) (t : TypeId) (z : Nat × Nat), b₁ ≤ k → (t = 39 ∨ t = 111) → W.heap[k]? = some (.cells c t z) → W'.heap[k]? = some (.cells c t z)
theorem Kt.refl (n₀ b₁ : Nat) (W : World) : Kt n₀ b₁ W W := ⟨Below.refl _ _, fun _ _ _ _ _ _ h => h⟩
theorem Kt.trans (h : Kt n₀ b₁ W X) (k : Kt n₀ b₁ X Y) : Kt n₀ b₁ W Y := ⟨h.below.trans k.below, fun i c t z hb ht hc => k.boxes i c t z hb ht (h.boxes i c t z hb ht hc)⟩
theorem Kt.up {b₂ : Nat} (h : Kt n₀ b₁ W X) (hb : b₁ ≤ b₂) : Kt n₀ b₂ W X := ⟨h.below, fun i c t z hi => h.boxes i c t z (Nat.le_trans hb hi)⟩
theorem kt_put {w : World} (hn : n₀ ≤ w.heap.size) (W : World) (l : Nat) (o o' : Obj) (hl : w.heap.size ≤ l) (h : W.heap[l]? = some o) (hc : o.isCells = false) (hw : o.isWalk = false) : Kt n₀ b₁ W (W.putObj l o') :=
  ⟨belowK_b hn W l o o' hl h hc hw, fun k c t z _ _ hk => by
    have : k ≠ l := fun e => by subst e; rw [h] at hk; cases hk; cases hc
    exact (World.putObj_heap_other this).trans hk⟩
/-- .. where all that lay is kept -/
theorem kt_of_below (h : Below W.heap.size W X) (hn : n₀ ≤ W.heap.size) : Kt n₀ b₁ W X := ⟨h.mono hn, fun k _ _ _ _ _ hk => (h.block k (Array.getElem?_eq_some_iff.1 hk).1).trans hk⟩
theorem kt_drew (W : World) : Kt n₀ b₁ W W.drew := ⟨(Below.refl _ W).drew, fun _ _ _ _ _ _ h => h⟩
/-- .. a store below b₁ -/
theorem kt_set (W : World) (a : Addr) (v : Value) (h1 : n₀ ≤ a.block) (h2 : a.block < b₁) : Kt n₀ b₁ W (W.setCell a v) :=
  ⟨(Below.refl _ W).setCell h1 v, fun k _ _ _ hk _ hc => (Below.heap_setCell W a v k (by omega)).trans hc⟩
/-- .. a step that turns one block -/
theorem kt_grown {row : Option Nat} (hg : W.grownBy X row) (hn : n₀ ≤ W.heap.size) (hr : ∀ k, row = some k → n₀ ≤ k) (ht : ∀ (k : Nat) (c : Array Value) (t : TypeId) (z : Nat × Nat), row = some k → W.heap[k]? = some (.cells c t z) → b₁ ≤ k → t ≠ 39 ∧ t ≠ 111) : Kt n₀ b₁ W X :=
  ⟨(Below.refl _ W).grown hg hn hr, fun k c t z hk hc h => by
    refine (hg.block k (Array.getElem?_eq_some_iff.1 h).1 (fun e => ?_)).trans h
    obtain ⟨q1, q2⟩ := ht k c t z e.symm h hk
    rcases hc with e | e
    · exact q1 e
    · exact q2 e⟩
end

/-- the two blocks that a loop lays -/
def Bk (B : Nat) (r : Loop) (W : World) : Prop := W.heap[B + 1]? = some (.loop r) ∧ W.heap[B]? = some (.deferred (some []))
section
variable {B B' : Nat} {r r' : Loop} {W W' : World} {row : Option Nat}
theorem Bk.put (h : Bk B r W) (r' : Loop) : Bk B r' (W.putObj (B + 1) (.loop r')) := ⟨World.putObj_heap_same (Array.getElem?_eq_some_iff.1 h.1).1, (World.putObj_heap_other (by omega)).trans h.2⟩
theorem Bk.keep (h : Bk B r W) (k : KeepsFrom B W W') : Bk B r W' := ⟨k.same _ _ (by omega) h.1 rfl, k.same _ _ (Nat.le_refl _) h.2 rfl⟩
theorem Bk.grown (h : Bk B r W) (hg : W.grownBy W' row) (hr : ∀ k, row = some k → B + 2 ≤ k) : Bk B r W' :=
  ⟨(hg.block _ (Array.getElem?_eq_some_iff.1 h.1).1 (fun e => by have := hr _ e.symm; omega)).trans h.1, (hg.block _ (Array.getElem?_eq_some_iff.1 h.2).1 (fun e => by have := hr _ e.symm; omega)).trans h.2⟩
end

/-- what an iterator promises; of a round it asks 'Kt', and that no loop's record since its own beginning is touched -/
def SeqR {α : Type} (P : Program) (m : Nat) (g : Nat) (lb : Array Value) (encs : α → Array Value) (n₀ b₁ : Nat) (S Sp : List α → Prop) (N : Nat) (w : World) : Prop :=
  ∀ (l : Nat) (J Jx : List α → World → Prop) (W : World), Below w.heap.size w W → OwnFrom W.heap.size J → OwnFrom W.heap.size Jx →
    (∀ pre x W1, J pre W1 → pre.length < N → YieldAt Fence.wide (m - 1) P l (encs x) W1 fun e W' =>
      (e = .returned (.bool true) ∧ J (pre ++ [x]) W' ∧ Kt n₀ b₁ W1 W' ∧ KeepsFrom W.heap.size W1 W') ∨ (e = .returned (.bool false) ∧ Jx (pre ++ [x]) W' ∧ KeepsFrom W.heap.size W1 W')) →
    J [] W →
    CallsIn Fence.wide m P g (#[.func (.yield l) #[] #[]] ++ lb) W fun e W' => (∃ v, e = .returned v) ∧ ((∃ xs, S xs ∧ J xs W') ∨ (∃ pre, Sp pre ∧ Jx pre W'))

/-- the law -/
theorem wpIn_rangeR {α : Type} {P : Program} {n : Nat} {g : Operand} {ps : Array Tmp} {assign body : Code} {Q : Exit → Act → World → Prop} {a : Act} {w w0 : World} {gf : Nat} {lb : Array Value} {encs : α → Array Value} {n₀ b₁ : Nat} {S Sp : List α → Prop} {N : Nat}
    (hg : a.eval g = .func (.func gf) #[] lb) (eg : ∀ args w, (callFunc gf args).run P w = .ok (.enter gf args) w)
    (hseq : SeqR P (n - 1) gf lb encs n₀ b₁ S Sp N w0) (hn : n₀ ≤ w.heap.size) (hb0 : Below w0.heap.size w0 w) (hps : ∀ x, (encs x).size = ps.size)
    (I : List α → World → Prop) (Ix : Code → List α → World → Prop) (hI : OwnFrom w.heap.size I) (hIx : ∀ c, OwnFrom w.heap.size (Ix c)) (h0 : I [] w)
    (Ax : α → Act → World → Prop) (hAx : ∀ x a', OwnFrom w.heap.size (fun (_ : Unit) W => Ax x a' W))
    (hassign : ∀ (l : Nat) (pre : List α) (x : α) (W : World) (K : Act → World → Prop), I pre W → (∀ a' W', KeepsFrom w.heap.size W W' → Kt n₀ b₁ W W' → I pre W' → Ax x a' W' → K a' W') →
      assign.wpIn (Fence.wide.inRound l) (n - 1 - 1) P (Exit.then K (fun _ _ _ => False)) { tmps := (ps.zip (encs x)).foldl (fun t (p, v) => t.setIfInBounds p v) a.tmps, defers := [] } W)
    (hbody : ∀ (l : Nat) (pre : List α) (x : α) (a' : Act) (W : World), w.heap.size ≤ l → (∃ r, W.heap[l]? = some (.loop r)) → I pre W → Ax x a' W → pre.length < N →
      body.wpIn (Fence.wide.inRound l) (n - 1 - 1) P (ownPostG w.heap.size (Kt n₀ b₁) I Ix (pre ++ [x]) W) a' W)
    (hdone : ∀ (D : Nat) (xs : List α) (W : World), w.heap.size ≤ D → S xs → I xs W → W.heap[D]? = some (.deferred (some [])) → Q .normal { a with defers := { target := .collected D, args := #[] } :: a.defers } W)
    (hstop : ∀ (D : Nat) (c : Code) (pre : List α) (W : World), w.heap.size ≤ D → Sp pre → Ix c pre W → W.heap[D]? = some (.deferred (some [])) → c.wpIn Fence.wide n P Q { a with defers := { target := .collected D, args := #[] } :: a.defers } W) :
    (Code.rangeFunc g ps assign body).wpIn Fence.wide n P Q a w := by
  refine wpIn_rangeFunc fun fn hfn => ?_
  obtain ⟨R, hR⟩ : ∃ R : LoopState → Option Code → Loop, R = fun st pe => { state := st, pending := pe, fn := fn, tmps := a.tmps, params := ps, assign := assign, body := body, defers := w.heap.size } := ⟨_, rfl⟩
  have hR1 : ∀ st pe, (R st pe).state = st := fun st pe => by rw [hR]
  have hR2 : ∀ st pe, (R st pe).pending = pe := fun st pe => by rw [hR]
  obtain ⟨V, hV⟩ : ∃ V, (w.alloc (.deferred (some []))).alloc (.loop (R .ready none)) = V := ⟨_, rfl⟩
  have hz : V.heap.size = w.heap.size + 2 := by rw [← hV, size_alloc, size_alloc]
  have k0 : Bk w.heap.size (R .ready none) V := by
    have e := World.alloc_heap_new (w.alloc (.deferred (some []))) (.loop (R .ready none))
    rw [size_alloc, hV] at e
    refine ⟨e, ?_⟩
    rw [← hV]
    exact (Below.heap_alloc _ _ _ (by rw [size_alloc]; omega)).trans (World.alloc_heap_new w _)
  have i0 : I [] V := by rw [← hV]; exact hI.alloc _ (hI.alloc _ h0)
  have b0 : Below w0.heap.size w0 V := by
    have q := (Below.refl w.heap.size w).alloc (Nat.le_refl _) (.deferred (some []))
    rw [← hV]
    exact hb0.trans ((q.alloc q.size _).mono hb0.size)
  refine ⟨w.heap.size + 1, [{ target := .collected w.heap.size, args := #[] }], V, { target := .fn (.func gf) lb, args := #[.func (.yield (w.heap.size + 1)) #[] #[]] }, V, gf, #[.func (.yield (w.heap.size + 1)) #[] #[]] ++ lb, V, ?_, ?_, fun _ _ => trivial, ?_, (fun h => (by cases h)), ?_⟩
  · rw [← hV, hR]; exact run_enterLoop_outer fn a.tmps ps assign body
  · simp only [resolve, hg]; simp [go_sem]
  · simp [invoke, go_sem, eg]
  refine (hseq (w.heap.size + 1) (fun pre W => I pre W ∧ Bk w.heap.size (R .ready none) W) (fun pre W => ∃ c, Ix c pre W ∧ Bk w.heap.size (R .done (some c)) W) V b0 ?ownJ ?ownX ?round ⟨i0, k0⟩).mono ?behind
  case ownJ =>
    rintro s X Y row ⟨h1, h2⟩ hg' hr
    exact ⟨hI s X Y row h1 hg' (fun r e => ⟨by have := (hr r e).1; omega, (hr r e).2⟩), h2.grown hg' (fun r e => by have := (hr r e).1; omega)⟩
  case ownX =>
    rintro s X Y row ⟨c, h1, h2⟩ hg' hr
    exact ⟨c, hIx c s X Y row h1 hg' (fun r e => ⟨by have := (hr r e).1; omega, (hr r e).2⟩), h2.grown hg' (fun r e => by have := (hr r e).1; omega)⟩
  case round =>
    rintro pre x W ⟨hi, hk⟩ hlen
    have hy := run_yield (P := P) (args := encs x) hk.1 (by rw [hR]; exact hps x)
    rw [show (R .ready none).fn = fn by rw [hR], show (R .ready none).assign = assign by rw [hR], show (R .ready none).body = body by rw [hR], show (R .ready none).params = ps by rw [hR], show (R .ready none).tmps = a.tmps by rw [hR]] at hy
    refine ⟨fn, _, assign, body, hy, roundIn_of_wpIn hfn (hassign _ pre x W _ hi (fun a' Wa ka ta ia xa => ?_))⟩
    have hka := hk.keep ka
    refine ⟨_, run_beginRound hka.1 (hR1 _ _), ?_⟩
    have hkb := hka.put { R .ready none with state := .busy }
    have hib := hI.putObj (.loop { R .ready none with state := .busy }) ia (by omega) hka.1 rfl
    have hxb := (hAx x a').putObj (s := ()) (.loop { R .ready none with state := .busy }) xa (by omega) hka.1 rfl
    have tb : Kt n₀ b₁ W (Wa.putObj (w.heap.size + 1) (.loop { R .ready none with state := .busy })) := ta.trans (kt_put hn Wa _ _ _ (Nat.le_succ _) hka.1 rfl rfl)
    have kb : KeepsFrom V.heap.size W (Wa.putObj (w.heap.size + 1) (.loop { R .ready none with state := .busy })) := (keepsFrom_up ka (by omega)).trans (keepsFrom_put Wa _ _ (by omega))
    generalize Wa.putObj (w.heap.size + 1) (.loop { R .ready none with state := .busy }) = Wb at *
    refine wpIn_mono (hbody _ pre x a' Wb (Nat.le_succ _) ⟨_, hkb.1⟩ hib hxb hlen) ?_
    intro e a3 W3 hp
    have fin : ∀ (jump : Option Code), KeepsFrom w.heap.size Wb W3 → ∃ W4, (Instr.endRound (w.heap.size + 1) jump).run P W3 = .ok (.bool jump.isNone) W4 ∧ Bk w.heap.size (R (if jump.isNone then .ready else .done) jump) W4 ∧ KeepsFrom V.heap.size W W4 ∧ Kt n₀ b₁ W3 W4 ∧
        (∀ {I' : List α → World → Prop}, OwnFrom w.heap.size I' → ∀ l, I' l W3 → I' l W4) := fun jump hq => by
      have h3 := hkb.keep hq
      refine ⟨_, run_endRound jump h3.1, ?_, kb.trans ((keepsFrom_up hq (by omega)).trans (keepsFrom_put W3 _ _ (by omega))), kt_put hn W3 _ _ _ (Nat.le_succ _) h3.1 rfl rfl, fun hI' l hl => hI'.putObj _ hl (Nat.le_succ _) h3.1 rfl⟩
      have := h3.put { ({ R .ready none with state := .busy } : Loop) with state := if jump.isNone then .ready else .done, pending := jump }
      have e : ({ ({ R .ready none with state := .busy } : Loop) with state := if jump.isNone then .ready else .done, pending := jump } : Loop) = R (if jump.isNone then .ready else .done) jump := by rw [hR]
      rw [e] at this ⊢
      exact this
    cases e with
    | normal =>
      obtain ⟨h1, h2, h3⟩ := hp
      obtain ⟨W4, r1, r2, r3, r4, r5⟩ := fin none h1
      exact ⟨_, W4, r1, .inl ⟨rfl, ⟨r5 hI _ h3, r2⟩, tb.trans (h2.trans r4), r3⟩⟩
    | ret =>
      obtain ⟨h1, h3⟩ := hp
      obtain ⟨W4, r1, r2, r3, r4, r5⟩ := fin (some .ret) h1
      exact ⟨_, W4, r1, .inr ⟨rfl, ⟨.ret, r5 (hIx .ret) _ h3, r2⟩, r3⟩⟩
    | exit id =>
      obtain ⟨h1, h3⟩ := hp
      obtain ⟨W4, r1, r2, r3, r4, r5⟩ := fin (some (.exit id)) h1
      exact ⟨_, W4, r1, .inr ⟨rfl, ⟨.exit id, r5 (hIx (.exit id)) _ h3, r2⟩, r3⟩⟩
    | goto t =>
      obtain ⟨h1, h3⟩ := hp
      obtain ⟨W4, r1, r2, r3, r4, r5⟩ := fin (some (.goto t)) h1
      exact ⟨_, W4, r1, .inr ⟨rfl, ⟨.goto t, r5 (hIx (.goto t)) _ h3, r2⟩, r3⟩⟩
    | panic ch => exact hp.elim
    | outgrown => exact hp.elim
  case behind =>
    rintro e W2 ⟨⟨v, rfl⟩, (⟨xs, hS, hi, hk⟩ | ⟨pre, hSp, c, hi, hk⟩)⟩
    · have e := run_endLoop (P := P) hk.1 (by rw [hR1]; simp)
      rw [hR2] at e
      exact ⟨none, _, e, hdone _ xs _ (Nat.le_refl _) hS (hI.putObj _ hi (Nat.le_succ _) hk.1 rfl) (hk.put _).2⟩
    · have e := run_endLoop (P := P) hk.1 (by rw [hR1]; simp)
      rw [hR2] at e
      exact ⟨some c, _, e, hstop _ c pre _ (Nat.le_refl _) hSp ((hIx c).putObj _ hi (Nat.le_succ _) hk.1 rfl) (hk.put _).2⟩
end Go.Proofs.Ytofafmjkjgiccaa.Mat
