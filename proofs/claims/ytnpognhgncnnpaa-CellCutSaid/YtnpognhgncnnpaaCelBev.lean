/- The better record of two slots: walked (a range over a function). -/
import Derived.Test.YtnpognhgncnnpaaCelBet
namespace Go.Proofs.Ytnpognhgncnnpaa.Mat
open Go.RowKit Go.Shelf Fld

attribute [local go_sem] Oper.semAt_some

/-- what has come -/
structure Bst where
  at_ : Nat
  t : Nat
  v : ByteArray
  e : Int
def bst0 : Bst := ⟨1, 0, ByteArray.empty, 7⟩
def bstep (b : Bst) (x : Rc) : Bst := if b.e ≠ 0 ∨ b.t < x.2.1 then ⟨x.1, x.2.1, x.2.2, 0⟩ else b
def bst (l : List Rc) : Bst := l.foldl bstep bst0
theorem bst_snoc (l : List Rc) (x : Rc) : bst (l ++ [x]) = bstep (bst l) x := by unfold bst; rw [List.foldl_append]; rfl
theorem bstep_yes {b : Bst} {x : Rc} (h : b.e ≠ 0 ∨ b.t < x.2.1) : bstep b x = ⟨x.1, x.2.1, x.2.2, 0⟩ := if_pos h
theorem bstep_no {b : Bst} {x : Rc} (h : ¬ (b.e ≠ 0 ∨ b.t < x.2.1)) : bstep b x = b := if_neg h
/-- a record's two cells -/
def rc2 (t : Nat) (v : ByteArray) (i : Nat) : Value := if i = 0 then .int .u64 (t : Int) else .string v
theorem has_rc (w : World) (t : Nat) (v : ByteArray) : Has (w.alloc (.cells #[.int .u64 (t : Int), .string v] 69)) w.heap.size 69 2 (rc2 t v) :=
  has_new w _ _ (fun j hj => by
    have : j = 0 ∨ j = 1 := by omega
    rcases this with rfl | rfl <;> rfl)
theorem has_int (w : World) (i : Int) (t : TypeId) : Has (w.alloc (.cells #[.int .i64 i] t)) w.heap.size t 1 (fun _ => .int .i64 i) := has_box w _ t
theorem has_own {β : Type} (b : Nat) (t : TypeId) (n : Nat) (f : β → Nat → Value) : _root_.Go.Own (fun s W => Has W b t n (f s)) := fun s X Y row hs hg hrow =>
  Has.grown hs hg (fun e' => by
    obtain ⟨o, ho, hc⟩ := hrow b e'.symm
    obtain ⟨c, lo, hi', hb, _⟩ := hs
    rw [hb] at ho; cases ho; cases hc)
/-- the cells, between two rounds -/
def BI (w : World) (l : List Rc) (W : World) : Prop :=
  Has W (w.heap.size + 1) 3 1 (fun _ => .int .i64 ((bst l).at_ : Int)) ∧ Has W (w.heap.size + 1 + 1) 69 2 (rc2 (bst l).t (bst l).v) ∧ Has W (w.heap.size + 1 + 1 + 1) 24 1 (fun _ => .int .i64 (bst l).e) ∧ Has W w.heap.size 69 2 (rc2 0 ByteArray.empty)
theorem bi_own (w : World) : _root_.Go.Own (BI w) := fun s A B row hs hg hr =>
  ⟨has_own _ _ _ (fun (l : List Rc) _ => .int .i64 ((bst l).at_ : Int)) s A B row hs.1 hg hr, has_own _ _ _ (fun (l : List Rc) => rc2 (bst l).t (bst l).v) s A B row hs.2.1 hg hr,
   has_own _ _ _ (fun (l : List Rc) _ => .int .i64 (bst l).e) s A B row hs.2.2.1 hg hr, has_own _ _ _ (fun (_ : List Rc) => rc2 0 ByteArray.empty) s A B row hs.2.2.2 hg hr⟩
/-- a call answers a place, a record, and an error -/
def BetRet (w : World) (E : Int) (at_ t : Nat) (v : ByteArray) (e : Ending) (w' : World) : Prop :=
  e = .returned (.tuple #[.int .i64 (at_ : Int), .agg #[.int .u64 (t : Int), .string v], .int .i64 E]) ∧ Below w.heap.size w w'

/-- the cells ahead of the loop -/
def bw0 (w : World) : World := w.alloc (.cells #[.int .u64 0, .string ⟨#[]⟩] 69)
def bw1 (w : World) : World := (bw0 w).alloc (.cells #[.int .i64 1] 3)
def bw2 (w : World) : World := (bw1 w).alloc (.cells #[.int .u64 0, .string ⟨#[]⟩] 69)
def bw3 (w : World) : World := (bw2 w).alloc (.cells #[.int .i64 7] 24)
def bw4 (w : World) (v : Value) : World := (bw3 w).alloc (.cells #[v] 34)
theorem bw_sizes (w : World) (v : Value) : (bw0 w).heap.size = w.heap.size + 1 ∧ (bw1 w).heap.size = w.heap.size + 1 + 1 ∧ (bw2 w).heap.size = w.heap.size + 1 + 1 + 1 ∧ (bw3 w).heap.size = w.heap.size + 1 + 1 + 1 + 1 ∧ (bw4 w v).heap.size = w.heap.size + 1 + 1 + 1 + 1 + 1 := by
  refine ⟨size_alloc _ _, ?_, ?_, ?_, ?_⟩ <;> simp [bw0, bw1, bw2, bw3, bw4]
theorem bw_start (w : World) (v : Value) : BI w [] (bw4 w v) ∧ Has (bw4 w v) (w.heap.size + 1 + 1 + 1 + 1) 34 1 (fun _ => v) ∧ Below w.heap.size w (bw4 w v) := by
  obtain ⟨s0, s1, s2, s3, s4⟩ := bw_sizes w v
  have r0 : Has (bw0 w) w.heap.size 69 2 (rc2 0 ByteArray.empty) := has_rc w 0 ByteArray.empty
  have r1 : Has (bw1 w) (w.heap.size + 1) 3 1 (fun _ => .int .i64 1) := by rw [← s0]; exact has_int (bw0 w) 1 _
  have r2 : Has (bw2 w) (w.heap.size + 1 + 1) 69 2 (rc2 0 ByteArray.empty) := by rw [← s1]; exact has_rc (bw1 w) 0 ByteArray.empty
  have r3 : Has (bw3 w) (w.heap.size + 1 + 1 + 1) 24 1 (fun _ => .int .i64 7) := by rw [← s2]; exact has_int (bw2 w) 7 _
  have r4 : Has (bw4 w v) (w.heap.size + 1 + 1 + 1 + 1) 34 1 (fun _ => v) := by rw [← s3]; exact has_box (bw3 w) v _
  exact ⟨⟨((r1.alloc _).alloc _).alloc _, (r2.alloc _).alloc _, r3.alloc _, (((r0.alloc _).alloc _).alloc _).alloc _⟩, r4,
    (((((Below.refl _ _).alloc (Nat.le_refl _) _).alloc (by show w.heap.size ≤ (bw0 w).heap.size; omega) _).alloc (by show w.heap.size ≤ (bw1 w).heap.size; omega) _).alloc (by show w.heap.size ≤ (bw2 w).heap.size; omega) _).alloc (by show w.heap.size ≤ (bw3 w).heap.size; omega) _⟩

/-- a better one has come -/
def bput (w W : World) (x : Rc) : World :=
  ((((W.setCell ⟨w.heap.size + 1, 0, none⟩ (.int .i64 (x.1 : Int))).setCell ⟨w.heap.size + 1 + 1, 0, none⟩ (.int .u64 (x.2.1 : Int))).setCell ⟨w.heap.size + 1 + 1, 1, none⟩ (.string x.2.2)).setCell ⟨w.heap.size + 1 + 1 + 1, 0, none⟩ (.int .i64 0)).drew
theorem bput_far {w W : World} {x : Rc} {g t n : Nat} {f : Nat → Value} (h : Has W g t n f) (h1 : g ≠ w.heap.size + 1) (h2 : g ≠ w.heap.size + 1 + 1) (h3 : g ≠ w.heap.size + 1 + 1 + 1) : Has (bput w W x) g t n f := by
  unfold bput
  refine Has.drew ?_
  refine Has.setOther ?_ (by exact h3) _
  refine Has.setOther ?_ (by exact h2) _
  refine Has.setOther ?_ (by exact h2) _
  exact Has.setOther h (by exact h1) _
theorem bput_at {w W : World} {x : Rc} {i : Int} (h : Has W (w.heap.size + 1) 3 1 (fun _ => .int .i64 i)) : Has (bput w W x) (w.heap.size + 1) 3 1 (fun _ => .int .i64 (x.1 : Int)) := by
  unfold bput
  refine Has.drew ?_
  refine Has.setOther ?_ (by show w.heap.size + 1 ≠ w.heap.size + 1 + 1 + 1; omega) _
  refine Has.setOther ?_ (by show w.heap.size + 1 ≠ w.heap.size + 1 + 1; omega) _
  refine Has.setOther ?_ (by show w.heap.size + 1 ≠ w.heap.size + 1 + 1; omega) _
  refine Has.congr (h.set_ 0 (.int .i64 (x.1 : Int))) (fun i hi => ?_)
  rw [show i = 0 by omega]; rfl
theorem bput_rec {w W : World} {x : Rc} {t : Nat} {v : ByteArray} (h : Has W (w.heap.size + 1 + 1) 69 2 (rc2 t v)) : Has (bput w W x) (w.heap.size + 1 + 1) 69 2 (rc2 x.2.1 x.2.2) := by
  unfold bput
  refine Has.drew ?_
  refine Has.setOther ?_ (by show w.heap.size + 1 + 1 ≠ w.heap.size + 1 + 1 + 1; omega) _
  have h1 : Has (W.setCell ⟨w.heap.size + 1, 0, none⟩ (.int .i64 (x.1 : Int))) (w.heap.size + 1 + 1) 69 2 (rc2 t v) := Has.setOther h (by show w.heap.size + 1 + 1 ≠ w.heap.size + 1; omega) _
  refine Has.congr ((h1.set_ 0 (.int .u64 (x.2.1 : Int))).set_ 1 (.string x.2.2)) (fun i hi => ?_)
  rcases (show i = 0 ∨ i = 1 by omega) with rfl | rfl <;> rfl
theorem bput_err {w W : World} {x : Rc} {i : Int} (h : Has W (w.heap.size + 1 + 1 + 1) 24 1 (fun _ => .int .i64 i)) : Has (bput w W x) (w.heap.size + 1 + 1 + 1) 24 1 (fun _ => .int .i64 0) := by
  unfold bput
  refine Has.drew ?_
  have h1 : Has (W.setCell ⟨w.heap.size + 1, 0, none⟩ (.int .i64 (x.1 : Int))) (w.heap.size + 1 + 1 + 1) 24 1 (fun _ => .int .i64 i) := Has.setOther h (by show w.heap.size + 1 + 1 + 1 ≠ w.heap.size + 1; omega) _
  have h2 := Has.setOther h1 (a := ⟨w.heap.size + 1 + 1, 0, none⟩) (by show w.heap.size + 1 + 1 + 1 ≠ w.heap.size + 1 + 1; omega) (.int .u64 (x.2.1 : Int))
  have h3 := Has.setOther h2 (a := ⟨w.heap.size + 1 + 1, 1, none⟩) (by show w.heap.size + 1 + 1 + 1 ≠ w.heap.size + 1 + 1; omega) (.string x.2.2)
  refine Has.congr (h3.set_ 0 (.int .i64 0)) (fun i hi => ?_)
  rw [show i = 0 by omega]; rfl
theorem bput_all {w W : World} {b : Bst} {l : List Rc} {x : Rc} (i1 : Has W (w.heap.size + 1) 3 1 (fun _ => .int .i64 (b.at_ : Int))) (i2 : Has W (w.heap.size + 1 + 1) 69 2 (rc2 b.t b.v))
    (i3 : Has W (w.heap.size + 1 + 1 + 1) 24 1 (fun _ => .int .i64 b.e)) (i4 : Has W w.heap.size 69 2 (rc2 0 ByteArray.empty)) (hB : Below w.heap.size w W) (hst : bst l = ⟨x.1, x.2.1, x.2.2, 0⟩) :
    KeepsOthers W (bput w W x) ∧ Below w.heap.size W (bput w W x) ∧ BI w l (bput w W x) ∧ Below w.heap.size w (bput w W x) := by
  have k1 := (Below.refl w.heap.size W).setCell (p := ⟨w.heap.size + 1, 0, none⟩) (Nat.le_succ _) (.int .i64 (x.1 : Int))
  have k2 := k1.setCell (p := ⟨w.heap.size + 1 + 1, 0, none⟩) (by show w.heap.size ≤ w.heap.size + 1 + 1; omega) (.int .u64 (x.2.1 : Int))
  have k3 := k2.setCell (p := ⟨w.heap.size + 1 + 1, 1, none⟩) (by show w.heap.size ≤ w.heap.size + 1 + 1; omega) (.string x.2.2)
  have k4 := k3.setCell (p := ⟨w.heap.size + 1 + 1 + 1, 0, none⟩) (by show w.heap.size ≤ w.heap.size + 1 + 1 + 1; omega) (.int .i64 0)
  have hk : Below w.heap.size W (bput w W x) := k4.drew
  refine ⟨((((KeepsOthers.setCell _ _ _).trans (KeepsOthers.setCell _ _ _)).trans (KeepsOthers.setCell _ _ _)).trans (KeepsOthers.setCell _ _ _)).trans (KeepsOthers.drew _), hk, ⟨?_, ?_, ?_, ?_⟩, hB.trans hk⟩
  · rw [hst]; exact bput_at i1
  · rw [hst]; exact bput_rec i2
  · rw [hst]; exact bput_err i3
  · exact bput_far i4 (by omega) (by omega) (by omega)

set_option maxRecDepth 100000 in
set_option maxHeartbeats 4000000 in
theorem better_any (A : Option Addr) (n c : Nat) (S : Nat → ByteArray) (w : World) (hc : St w w.heap.size A n S) (hn : n * 16 ≤ 140737488351232) (hS : ∀ i, i < n → (S i).size ≤ 140737488351232) :
    Calls Try.prog 48 #[.slice A n c] w (BetRet w (bst (recs S n)).e (bst (recs S n)).at_ (bst (recs S n)).t (bst (recs S n)).v) := by
  refine (callsIn_wide (n := 6)).1 ?_
  refine callsIn_of_wp_marks Try.func48 rfl trivial ?_ rfl
  simp only [Try.ntmps48, List.size_toArray, List.length_cons, List.length_nil, Nat.reduceAdd, Nat.reduceSub, Array.replicate_succ, Array.replicate_zero, List.push_toArray, List.append_toArray, List.nil_append, List.cons_append]
  gi_wp2_with fail
  refine ⟨trivial, (records_in A n c _ 5).mono ?_⟩
  rintro e w5 ⟨rfl, rfl⟩
  obtain ⟨hI, hs, hB⟩ := bw_start w (.slice A n c)
  obtain ⟨s0, s1, s2, s3, s4⟩ := bw_sizes w (.slice A n c)
  gi_wp2_with fail
  have hW0 : ((((w.alloc (.cells #[.int .u64 0, .string ⟨#[]⟩] 69)).alloc (.cells #[.int .i64 1] 3)).alloc (.cells #[.int .u64 0, .string ⟨#[]⟩] 69)).alloc (.cells #[.int .i64 7] 24)).alloc (.cells #[.slice A n c] 34) = bw4 w (.slice A n c) := rfl
  rw [hW0]
  clear hW0
  generalize bw4 w (.slice A n c) = W0 at *
  refine wpIn_rangeFunc_ownH (F := Fence.wide) (n := 6) rfl (by omega) (gf := 58) (lb := #[.pointer (some ⟨w.heap.size + 1 + 1 + 1 + 1, 0, none⟩)]) rfl trivial (enters_of Try.func58 (by kernel_rfl) rfl)
    (encs := rcs) (Kp := Below w.heap.size) (S := fun xs => xs = recs S n) (Sp := fun _ => True) (N := n) (w0 := W0)
    (fun l J Jx W hW hJ hJx hY h0 => rec1_in l (w.heap.size + 1 + 1 + 1 + 1) w.heap.size n c A S hn hS J Jx W hJ hY ((hW.cell (p := ⟨w.heap.size + 1 + 1 + 1 + 1, 0, none⟩) hs.lt).trans (hs.cell (by omega))) ((hc.below hB (Nat.le_refl _)).below (hW.mono hB.size) (Nat.le_refl _)) (Nat.le_trans hB.size hW.size) h0)
    belowK_t (belowK_b hB.size) (Below.refl _ _) (fun _ => rfl)
    (fun pre W => BI w pre W ∧ Below w.heap.size w W) (fun _ _ _ => False)
    (OwnFrom.and (_root_.Go.Own.from (bi_own w) _) (ownFrom_below (Nat.le_refl _) hB.size)) (fun _ _ _ _ _ hs _ _ => hs) ⟨hI, hB⟩
    (fun x a' W => ∃ Bx, w.heap.size + 1 + 1 + 1 < Bx ∧ Has W Bx 69 2 (rc2 x.2.1 x.2.2) ∧ a' = { tmps := #[.slice A n c, undef, .int .i64 0, .pointer (some ⟨w.heap.size, 0, none⟩), .int .i64 0, .pointer (some ⟨w.heap.size + 1, 0, none⟩), .pointer (some ⟨w.heap.size + 1 + 1, 0, none⟩), .pointer (some ⟨w.heap.size + 1 + 1 + 1, 0, none⟩), .int .i64 (x.1 : Int), .pointer (some ⟨Bx, 0, none⟩), .agg #[.int .u64 0, .string ⟨#[]⟩], .slice A n c, .func (.func 58) #[] #[.pointer (some ⟨w.heap.size + 1 + 1 + 1 + 1, 0, none⟩)], .int .i64 (x.1 : Int), .agg #[.int .u64 (x.2.1 : Int), .string x.2.2], undef, undef, undef, undef, undef, undef, undef, undef, undef, undef, undef, undef, undef, undef], defers := [] })
    (fun x a' _ X Y row hs hg hr => by obtain ⟨Bx, h1, h2, h3⟩ := hs; exact ⟨Bx, h1, has_own Bx _ 2 (fun (_ : Unit) => rc2 x.2.1 x.2.2) () X Y row h2 hg (fun r e => (hr r e).2), h3⟩)
    ?assign ?body ?done ?stop
  case assign =>
    rintro l pre x W K ⟨⟨i1, i2, i3, i4⟩, hB1⟩ hK
    have hlt := i3.lt
    gi_wp2
    exact hK _ _ ((KeepsOthers.alloc _ _).from _) ((Below.refl _ W).alloc hB1.size _) ⟨⟨i1.alloc _, i2.alloc _, i3.alloc _, i4.alloc _⟩, hB1.alloc hB1.size _⟩ ⟨W.heap.size, hlt, has_rc W _ _, rfl⟩
  case body =>
    rintro l pre x a' W hl ⟨r, hr⟩ ⟨⟨i1, i2, i3, i4⟩, hB1⟩ ⟨Bx, hBx, bX, rfl⟩ hlt
    have c1 := i1.cell (show 0 < 1 by omega)
    have f1 := i1.frozen (show 0 < 1 by omega)
    have c2 : W.cell? ⟨w.heap.size + 1 + 1, 0, none⟩ = some (.int .u64 ((bst pre).t : Int)) := i2.cell (show 0 < 2 by omega)
    have c2b : W.cell? ⟨w.heap.size + 1 + 1, 1, none⟩ = some (.string (bst pre).v) := i2.cell (show 1 < 2 by omega)
    have f2 := i2.frozen (show 0 < 2 by omega)
    have f2b := i2.frozen (show 1 < 2 by omega)
    have c3 := i3.cell (show 0 < 1 by omega)
    have f3 := i3.frozen (show 0 < 1 by omega)
    have x0 : W.cell? ⟨Bx, 0, none⟩ = some (.int .u64 (x.2.1 : Int)) := bX.cell (show 0 < 2 by omega)
    have x1 : W.cell? ⟨Bx, 1, none⟩ = some (.string x.2.2) := bX.cell (show 1 < 2 by omega)
    have hmx : Try.prog.follows .mixedOrders = true := by kernel_rfl
    by_cases he : (bst pre).e = 0
    · have g1 : ((bst pre).e != 0) = false := by rw [he]; rfl
      by_cases ht : (bst pre).t < x.2.1
      · have hst : Hid (bst (pre ++ [x]) = ⟨x.1, x.2.1, x.2.2, 0⟩) := Lib.hid (by rw [bst_snoc, bstep_yes (.inr ht)])
        generalize bst pre = b at *
        gi_wp2_with fail
        have n1 : ¬ Bx = w.heap.size + 1 := by omega
        have n2 : ¬ Bx = w.heap.size + 1 + 1 := by omega
        have n3 : ¬ Bx = w.heap.size + 1 + 1 + 1 := by omega
        gi_region_with_o (fail)
        all_goals
          gi_wp2_with fail
          obtain ⟨k1, k2, k3, k4⟩ := bput_all i1 i2 i3 i4 hB1 hst.out
          exact ⟨k1.from _, k2, k3, k4⟩
      · have hst : Hid (bst (pre ++ [x]) = bst pre) := Lib.hid (by rw [bst_snoc, bstep_no (by rintro (h | h); exact h he; exact ht h)])
        gi_wp2_with fail
        exact ⟨(KeepsOthers.refl _).from _, Below.refl _ _, ⟨by rw [hst.out]; exact i1, by rw [hst.out]; exact i2, by rw [hst.out]; exact i3, i4⟩, hB1⟩
    · have g1 : ((bst pre).e != 0) = true := bne_iff_ne.2 he
      have hst : Hid (bst (pre ++ [x]) = ⟨x.1, x.2.1, x.2.2, 0⟩) := Lib.hid (by rw [bst_snoc, bstep_yes (.inl he)])
      generalize bst pre = b at *
      gi_wp2_with fail
      have n1 : ¬ Bx = w.heap.size + 1 := by omega
      have n2 : ¬ Bx = w.heap.size + 1 + 1 := by omega
      have n3 : ¬ Bx = w.heap.size + 1 + 1 + 1 := by omega
      gi_region_with_o (fail)
      all_goals
        gi_wp2_with fail
        obtain ⟨k1, k2, k3, k4⟩ := bput_all i1 i2 i3 i4 hB1 hst.out
        exact ⟨k1.from _, k2, k3, k4⟩
  case done =>
    rintro D ys W hD rfl ⟨⟨i1, i2, i3, i4⟩, hB1⟩ hK
    have c1 := i1.cell (show 0 < 1 by omega)
    have c2 : W.cell? ⟨w.heap.size + 1 + 1, 0, none⟩ = some (.int .u64 ((bst (recs S n)).t : Int)) := i2.cell (show 0 < 2 by omega)
    have c2b : W.cell? ⟨w.heap.size + 1 + 1, 1, none⟩ = some (.string (bst (recs S n)).v) := i2.cell (show 1 < 2 by omega)
    have c3 := i3.cell (show 0 < 1 by omega)
    have d0 : W.cell? ⟨w.heap.size, 0, none⟩ = some (.int .u64 ((0 : Nat) : Int)) := i4.cell (show 0 < 2 by omega)
    have d1 : W.cell? ⟨w.heap.size, 1, none⟩ = some (.string ByteArray.empty) := i4.cell (show 1 < 2 by omega)
    have g0 := i4.frozen (show 0 < 2 by omega)
    have g1 := i4.frozen (show 1 < 2 by omega)
    generalize bst (recs S n) = b at *
    have hmx : Try.prog.follows .mixedOrders = true := by kernel_rfl
    gi_wp2_with fail
    gi_region
    gi_wp2_with fail
    have k0 := (KeepsOthers.setCell W ⟨w.heap.size, 0, none⟩ (.int .u64 (b.t : Int))).trans (KeepsOthers.setCell _ ⟨w.heap.size, 1, none⟩ (.string b.v))
    have hW : Has ((W.setCell ⟨w.heap.size, 0, none⟩ (.int .u64 (b.t : Int))).setCell ⟨w.heap.size, 1, none⟩ (.string b.v)).drew w.heap.size 69 2 (rc2 b.t b.v) :=
      Has.drew (((i4.set_ 0 (.int .u64 (b.t : Int))).set_ 1 (.string b.v)).congr (fun i hi => by rcases (show i = 0 ∨ i = 1 by omega) with rfl | rfl <;> rfl))
    have hBW : Below w.heap.size w ((W.setCell ⟨w.heap.size, 0, none⟩ (.int .u64 (b.t : Int))).setCell ⟨w.heap.size, 1, none⟩ (.string b.v)).drew :=
      ((hB1.setCell (p := ⟨w.heap.size, 0, none⟩) (Nat.le_refl _) _).setCell (p := ⟨w.heap.size, 1, none⟩) (Nat.le_refl _) _).drew
    have hK' : ((W.setCell ⟨w.heap.size, 0, none⟩ (.int .u64 (b.t : Int))).setCell ⟨w.heap.size, 1, none⟩ (.string b.v)).drew.heap[D]? = some (.deferred (some [])) := k0.same D _ hK rfl
    generalize ((W.setCell ⟨w.heap.size, 0, none⟩ (.int .u64 (b.t : Int))).setCell ⟨w.heap.size, 1, none⟩ (.string b.v)).drew = W2 at *
    refine ⟨by simp, .inl ⟨_, _, rfl, run_takeDeferred hK', ?_⟩⟩
    have hp : Has (W2.putObj D (.deferred none)) w.heap.size 69 2 (rc2 b.t b.v) := Has.grown hW (grownBy_putObj' _ D (.deferred none)) (fun e => by injection e with e; omega)
    have q0 : (W2.putObj D (.deferred none)).cell? ⟨w.heap.size, 0, none⟩ = some (.int .u64 (b.t : Int)) := hp.cell (show 0 < 2 by omega)
    have q1 : (W2.putObj D (.deferred none)).cell? ⟨w.heap.size, 1, none⟩ = some (.string b.v) := hp.cell (show 1 < 2 by omega)
    refine ⟨_, ?_, rfl, hBW.trans (belowK_b (w := w) (Nat.le_refl _) _ D _ _ (by omega) hK' rfl rfl)⟩
    simp [results, Try.f48, go_sem, q0, q1]
  case stop =>
    rintro D c pre W _ _ h _
    exact h.elim
end Go.Proofs.Ytnpognhgncnnpaa.Mat
