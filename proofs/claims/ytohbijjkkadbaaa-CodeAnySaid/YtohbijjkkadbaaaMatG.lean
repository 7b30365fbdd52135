/- Inverses: walked. -/
import Derived.Test.YtohbijjkkadbaaaMatF
import Derived.Deep.Cut
import Derived.ScopeJumps
import Derived.IntWalk
namespace Go.Proofs.Ytohbijjkkadbaaa.Mat
open Go.RowKit Fld

set_option maxRecDepth 100000 in
set_option maxHeartbeats 800000 in
/-- the closure of an inverse -/
theorem invPlace_any {w : World} {A : Option Addr} {n cap p q g gr gc m : Nat} (r c : Nat) (x : BitVec 8) (hn : n ≤ 32) (hr : r < n) (hc : n + c < m) (hm : m ≤ 64)
    (h1 : w.cell? ⟨p, 0, none⟩ = some (.slice (some ⟨g, 0, none⟩) n n)) (h2 : w.cell? ⟨g, r, none⟩ = some (.slice (some ⟨gr, 0, none⟩) m gc))
    (h3 : w.cell? ⟨q, 0, none⟩ = some (.slice A n cap)) (h4 : w.cell? ⟨gr, n + c, none⟩ = some (.int .u8 (V x))) :
    Calls Try.prog 51 #[.int .i64 (r : Int), .int .i64 (c : Int), .pointer (some ⟨p, 0, none⟩), .pointer (some ⟨q, 0, none⟩)] w fun e w' => e = .returned (.int .u8 (V x)) ∧ ∃ k, w' = w.drewN k := by
  have hrz : (r : Int) < (n : Int) := by omega
  have hcz : (n : Int) + (c : Int) < (m : Int) := by omega
  have w1 : IntKind.i64.wrap ((n : Int) + (c : Int)) = (n : Int) + (c : Int) := IntWalk.i64_in _ (by omega)
  have w2 : (0 : Int) ≤ (n : Int) + (c : Int) := by omega
  have w3 : ((n : Int) + (c : Int)).toNat = n + c := by omega
  go_enter Try.func51, Try.ntmps51
  go_wp2_with fail
  go_quiet (fail)
  go_wp2
  go_ret
  exact ⟨rfl, _, rfl⟩

section
variable {A : Option Addr} {n cap B : Nat} {L RC : Nat → Nat} {RA : Nat → Option Addr} {F : Nat → Nat → BitVec 8} {w : World}
set_option maxRecDepth 100000 in
set_option maxHeartbeats 800000 in
theorem inverse_no1 (h : Mt w w.heap.size A n L RA RC F) (hn : n ≤ 9223372036854775807) (o : ¬ Ok n L) :
    Calls Try.prog 27 #[.slice A n cap] w (FailRet w 1) := by
  have H := Lib.hid h
  have O := Lib.hid o
  clear h o
  go_enter Try.func27, Try.ntmps27
  go_wp2_with fail
  go_step3
  go_wp2_with fail
  go_quiet ((go_at_call 47; exact quiet_left (may_no (B := w.heap.size) (L := L) (RA := RA) (RC := RC) (F := F) ((H.out.below ((Below.refl _ _).alloc (Nat.le_refl _) _) (Nat.le_refl _)).drewN _) hn O.out)))
  go_wp2
  rw [Exit.noGoto_ret]
  go_ret2
  exact ⟨rfl, below_drewN ((Below.refl _ _).alloc (Nat.le_refl _) _) _⟩
set_option maxRecDepth 100000 in
set_option maxHeartbeats 800000 in
theorem inverse_no2 (h : Mt w w.heap.size A n L RA RC F) (o : Ok n L) (e : L 0 ≠ n) :
    Calls Try.prog 27 #[.slice A n cap] w (FailRet w 1) := by
  have H := Lib.hid h
  have O := Lib.hid o
  obtain ⟨ad, rfl, hb, hc0, _, _⟩ := h.row (r := 0) o.1
  rw [add_zero] at hc0
  have n1 := o.1
  have p0 : 0 < n := o.1
  have e1 : ((L 0 : Int) != (n : Int)) = true := by rw [bne_iff_ne]; omega
  clear h o e
  go_enter Try.func27, Try.ntmps27
  go_wp2_with fail
  go_step3
  go_wp2_with fail
  go_quiet ((go_at_call 47; exact quiet_left (may_yes (B := w.heap.size) (L := L) (RA := RA) (RC := RC) (F := F) ((H.out.below ((Below.refl _ _).alloc (Nat.le_refl _) _) (Nat.le_refl _)).drewN _) O.out)))
  go_wp2
  rw [Exit.noGoto_ret]
  go_ret2
  exact ⟨rfl, below_drewN ((Below.refl _ _).alloc (Nat.le_refl _) _) _⟩

theorem bcell {W w1 : World} (hb : Below W.heap.size W w1) : (∀ b o, b < W.heap.size → w1.cell? ⟨b, o, none⟩ = W.cell? ⟨b, o, none⟩) ∧ (∀ b o, b < W.heap.size → w1.frozen? ⟨b, o, none⟩ = W.frozen? ⟨b, o, none⟩) :=
  ⟨fun b o h => hb.cell (p := ⟨b, o, none⟩) h, fun b o h => hb.frozen (p := ⟨b, o, none⟩) h⟩
/-- the identity's rows -/
def Ones (w : World) (o n : Nat) : Prop := Has w o 55 n (fun r => .slice (some ⟨o + 1 + r, 0, none⟩) n n) ∧ ∀ r, r < n → Has w (o + 1 + r) 5 n (fun c => .int .u8 (V (idm r c)))
/-- what stands where the rows are to be filled -/
def Start (w : World) (A : Option Addr) (n cap : Nat) (s4 s5 : Value) (wc : World) : Prop :=
  ∃ p g o, s4 = .pointer (some ⟨p, 0, none⟩) ∧ s5 = .slice (some ⟨o, 0, none⟩) n n ∧ w.heap.size ≤ p ∧ w.heap.size ≤ g ∧ g ≠ o ∧
    Has wc p 23 1 (fun _ => .slice (some ⟨g, 0, none⟩) n n) ∧ Has wc g 55 n (fun _ => .slice none 0 0) ∧
    Ones wc o n ∧ Has wc w.heap.size 23 1 (fun _ => .slice A n cap) ∧ Below w.heap.size w wc

section
variable {W w' : World} {n o b : Nat}
theorem ones_of (h : Outer W w' n n n idm) (e : W.heap.size = o) : Ones w' o n := by
  subst e
  exact ⟨(Has.of_is h.top).congr (fun i hi => by simp [tops, hi]), fun r hr => .of_is (h.done r hr)⟩
theorem Ones.alloc (h : Ones W o n) (x : Obj) : Ones (W.alloc x) o n := ⟨h.1.alloc _, fun r hr => (h.2 r hr).alloc _⟩
/-- a store to a block of another type, or another one -/
theorem Ones.setOther (h : Ones W o n) {a : Addr} (h1 : o ≠ a.block) (h2 : ∀ r, r < n → o + 1 + r ≠ a.block) (v : Value) : Ones (W.setCell a v) o n := ⟨h.1.setOther h1 _, fun r hr => (h.2 r hr).setOther (h2 r hr) _⟩
theorem Ones.below {B : Nat} (h : Ones W o n) (hb : Below B W w') (h1 : o + n < B) : Ones w' o n := ⟨h.1.below hb (by omega), fun r hr => (h.2 r hr).below hb (by omega)⟩
theorem has_box' (w : World) (v : Value) (t : TypeId) (e : w.heap.size = b) : Has (w.alloc (.cells #[v] t)) b t 1 (fun _ => v) := by subst e; exact has_box w v t
theorem has_made' (w : World) (n : Nat) (e : w.heap.size = b) : Has (w.alloc (.cells (madeCells #[.slice none 0 0] n) 55)) b 55 n (fun _ => .slice none 0 0) := by
  subst e; exact .of_is (World.rowIs_made w _ n _)
end
section
variable {w w1 w' : World} {A : Option Addr} {n cap : Nat}
theorem start1 (hB : Below w.heap.size w w1) (hQ : Has w1 w.heap.size 23 1 (fun _ => .slice A n cap))
    (hO : Outer (w1.alloc (.cells (madeCells #[.slice none 0 0] n) 55)).drew w' n n n idm) :
    Start w A n cap (.pointer (some ⟨w'.heap.size, 0, none⟩)) (.slice (some ⟨w1.heap.size + 1, 0, none⟩) n n) (w'.alloc (.cells #[.slice (some ⟨w1.heap.size, 0, none⟩) n n] 23)) := by
  have e := size_alloc w1 (.cells (madeCells #[.slice none 0 0] n) 55)
  have es : (w1.alloc (.cells (madeCells #[.slice none 0 0] n) 55)).drew.heap.size = w1.heap.size + 1 := e
  have z := hQ.lt
  have s := hO.size
  refine ⟨_, _, _, rfl, rfl, by omega, by omega, by omega, has_box _ _ _, ((has_made' w1 n rfl).drew.below hO.below (by omega)).alloc _, (ones_of hO es).alloc _, ((hQ.alloc _).drew.below hO.below (by omega)).alloc _, ?_⟩
  exact (((hB.alloc (by omega) _).drew).trans (hO.below.mono (by omega))).alloc (by omega) _
theorem start2 (hB : Below w.heap.size w w1) (hQ : Has w1 w.heap.size 23 1 (fun _ => .slice A n cap))
    (hO : Outer ((w1.alloc (.cells (madeCells #[.slice none 0 0] n) 55)).alloc (.cells #[.slice none 0 0] 23)).drew w' n n n idm) :
    Start w A n cap (.pointer (some ⟨w1.heap.size + 1, 0, none⟩)) (.slice (some ⟨w1.heap.size + 1 + 1, 0, none⟩) n n) (w'.setCell ⟨w1.heap.size + 1, 0, none⟩ (.slice (some ⟨w1.heap.size, 0, none⟩) n n)) := by
  have e := size_alloc w1 (.cells (madeCells #[.slice none 0 0] n) 55)
  have e2 := size_alloc (w1.alloc (.cells (madeCells #[.slice none 0 0] n) 55)) (.cells #[.slice none 0 0] 23)
  have es : ((w1.alloc (.cells (madeCells #[.slice none 0 0] n) 55)).alloc (.cells #[.slice none 0 0] 23)).drew.heap.size = w1.heap.size + 1 + 1 := by rw [e] at e2; exact e2
  have z := hQ.lt
  have s := hO.size
  refine ⟨_, _, _, rfl, rfl, by omega, by omega, by omega, ?_, (((has_made' w1 n rfl).alloc _).drew.below hO.below (by omega)).setOther (by show w1.heap.size ≠ w1.heap.size + 1; omega) _,
    (ones_of hO es).setOther (by show w1.heap.size + 1 + 1 ≠ w1.heap.size + 1; omega) (fun r _ => by show w1.heap.size + 1 + 1 + 1 + r ≠ w1.heap.size + 1; omega) _,
    (((hQ.alloc _).alloc _).drew.below hO.below (by omega)).setOther (by show w.heap.size ≠ w1.heap.size + 1; omega) _, ?_⟩
  · exact (((has_box' (w1.alloc _) _ _ e).drew.below hO.below (by omega)).set_ 0 _).congr (fun i hi => by rw [if_pos (by omega)])
  · exact ((((hB.alloc (by omega) _).alloc (by omega) _).drew).trans (hO.below.mono (by omega))).setCell (p := ⟨w1.heap.size + 1, 0, none⟩) (by show w.heap.size ≤ w1.heap.size + 1; omega) _
theorem start3 (hB : Below w.heap.size w w1) (hQ : Has w1 w.heap.size 23 1 (fun _ => .slice A n cap)) (hO : Outer w1.drew w' n n n idm) :
    Start w A n cap (.pointer (some ⟨w'.heap.size + 1, 0, none⟩)) (.slice (some ⟨w1.heap.size, 0, none⟩) n n) ((w'.alloc (.cells (madeCells #[.slice none 0 0] n) 55)).alloc (.cells #[.slice (some ⟨w'.heap.size, 0, none⟩) n n] 23)) := by
  have e := size_alloc w' (.cells (madeCells #[.slice none 0 0] n) 55)
  have es : w1.drew.heap.size = w1.heap.size := rfl
  have z := hQ.lt
  have s := hO.size
  refine ⟨_, _, _, rfl, rfl, by omega, by omega, by omega, has_box' _ _ _ e, (has_made' w' n rfl).alloc _, ((ones_of hO es).alloc _).alloc _, ((hQ.drew.below hO.below (by omega)).alloc _).alloc _, ?_⟩
  exact (((hB.drew).trans (hO.below.mono (by omega))).alloc (by omega) _).alloc (by omega) _
theorem start4 (hB : Below w.heap.size w w1) (hQ : Has w1 w.heap.size 23 1 (fun _ => .slice A n cap)) (hO : Outer w1.drew w' n n n idm) :
    Start w A n cap (.pointer (some ⟨w'.heap.size, 0, none⟩)) (.slice (some ⟨w1.heap.size, 0, none⟩) n n) ((w'.alloc (.cells #[.slice (some ⟨w'.heap.size + 1, 0, none⟩) n n] 23)).alloc (.cells (madeCells #[.slice none 0 0] n) 55)) := by
  have e := size_alloc w' (.cells #[.slice (some ⟨w'.heap.size + 1, 0, none⟩) n n] 23)
  have es : w1.drew.heap.size = w1.heap.size := rfl
  have z := hQ.lt
  have s := hO.size
  refine ⟨_, _, _, rfl, rfl, by omega, by omega, by omega, (has_box w' _ _).alloc _, has_made' _ n e, ((ones_of hO es).alloc _).alloc _, ((hQ.drew.below hO.below (by omega)).alloc _).alloc _, ?_⟩
  exact (((hB.drew).trans (hO.below.mono (by omega))).alloc (by omega) _).alloc (by omega) _
theorem start5 (hB : Below w.heap.size w w1) (hQ : Has w1 w.heap.size 23 1 (fun _ => .slice A n cap))
    (hO : Outer ((w1.alloc (.cells #[.slice none 0 0] 23)).alloc (.cells (madeCells #[.slice none 0 0] n) 55)).drew w' n n n idm) :
    Start w A n cap (.pointer (some ⟨w1.heap.size, 0, none⟩)) (.slice (some ⟨w1.heap.size + 1 + 1, 0, none⟩) n n) (w'.setCell ⟨w1.heap.size, 0, none⟩ (.slice (some ⟨w1.heap.size + 1, 0, none⟩) n n)) := by
  have e := size_alloc w1 (.cells #[.slice none 0 0] 23)
  have e2 := size_alloc (w1.alloc (.cells #[.slice none 0 0] 23)) (.cells (madeCells #[.slice none 0 0] n) 55)
  have es : ((w1.alloc (.cells #[.slice none 0 0] 23)).alloc (.cells (madeCells #[.slice none 0 0] n) 55)).drew.heap.size = w1.heap.size + 1 + 1 := by rw [e] at e2; exact e2
  have z := hQ.lt
  have s := hO.size
  refine ⟨_, _, _, rfl, rfl, by omega, by omega, by omega, ?_, ((has_made' _ n e).drew.below hO.below (by omega)).setOther (by show w1.heap.size + 1 ≠ w1.heap.size; omega) _,
    (ones_of hO es).setOther (by show w1.heap.size + 1 + 1 ≠ w1.heap.size; omega) (fun r _ => by show w1.heap.size + 1 + 1 + 1 + r ≠ w1.heap.size; omega) _,
    (((hQ.alloc _).alloc _).drew.below hO.below (by omega)).setOther (by show w.heap.size ≠ w1.heap.size; omega) _, ?_⟩
  · exact ((((has_box w1 _ _).alloc _).drew.below hO.below (by omega)).set_ 0 _).congr (fun i hi => by rw [if_pos (by omega)])
  · exact ((((hB.alloc (by omega) _).alloc (by omega) _).drew).trans (hO.below.mono (by omega))).setCell (p := ⟨w1.heap.size, 0, none⟩) (by show w.heap.size ≤ w1.heap.size; omega) _
theorem start6 (hB : Below w.heap.size w w1) (hQ : Has w1 w.heap.size 23 1 (fun _ => .slice A n cap))
    (hO : Outer (w1.alloc (.cells #[.slice none 0 0] 23)).drew w' n n n idm) :
    Start w A n cap (.pointer (some ⟨w1.heap.size, 0, none⟩)) (.slice (some ⟨w1.heap.size + 1, 0, none⟩) n n)
      ((w'.setCell ⟨w1.heap.size, 0, none⟩ (.slice (some ⟨w'.heap.size, 0, none⟩) n n)).alloc (.cells (madeCells #[.slice none 0 0] n) 55)) := by
  have e := size_alloc w1 (.cells #[.slice none 0 0] 23)
  have es : (w1.alloc (.cells #[.slice none 0 0] 23)).drew.heap.size = w1.heap.size + 1 := e
  have e3 : (w'.setCell ⟨w1.heap.size, 0, none⟩ (.slice (some ⟨w'.heap.size, 0, none⟩) n n)).heap.size = w'.heap.size := by simp [World.setCell]
  have z := hQ.lt
  have s := hO.size
  refine ⟨_, _, _, rfl, rfl, by omega, by omega, by omega, ?_, has_made' _ n e3,
    ((ones_of hO es).setOther (by show w1.heap.size + 1 ≠ w1.heap.size; omega) (fun r _ => by show w1.heap.size + 1 + 1 + r ≠ w1.heap.size; omega) _).alloc _,
    (((hQ.alloc _).drew.below hO.below (by omega)).setOther (by show w.heap.size ≠ w1.heap.size; omega) _).alloc _, ?_⟩
  · exact ((((has_box w1 _ _).drew.below hO.below (by omega)).set_ 0 _).congr (fun i hi => by rw [if_pos (by omega)])).alloc _
  · exact (((((hB.alloc (by omega) _).drew).trans (hO.below.mono (by omega))).setCell (p := ⟨w1.heap.size, 0, none⟩) (by show w.heap.size ≤ w1.heap.size; omega) _).alloc (by rw [e3]; omega) _)
end
/-- r rows are put together -/
structure Fill (w : World) (A : Option Addr) (n cap p g o r : Nat) (G C : Nat → Nat) (F : Nat → Nat → BitVec 8) (wr : World) : Prop where
  top : Has wr g 55 n (fun j => if j < r then .slice (some ⟨G j, 0, none⟩) (n + n) (C j) else .slice none 0 0)
  row : ∀ j, j < r → w.heap.size ≤ G j ∧ n + n ≤ C j ∧ Has wr (G j) 5 (n + n) (fun c => .int .u8 (V (aug n F j c)))
  inj : ∀ i j, i < r → j < r → G i = G j → i = j
  ones : Ones wr o n
  var : Has wr p 23 1 (fun _ => .slice (some ⟨g, 0, none⟩) n n)
  box : Has wr w.heap.size 23 1 (fun _ => .slice A n cap)
  below : Below w.heap.size w wr
theorem fill_next {w wr w2 w' : World} {A : Option Addr} {n cap p g o r G' cap' : Nat} {G C : Nat → Nat} {F : Nat → Nat → BitVec 8} (h : Fill w A n cap p g o r G C F wr)
    (hg : w.heap.size ≤ g) (hgo : g ≠ o) (hb2 : Below wr.heap.size wr w2) (hb : Below w2.heap.size w2 w') (h1 : w2.heap.size ≤ G') (h2 : n + n ≤ cap')
    (h3 : Has w' G' 5 (n + n) (fun c => .int .u8 (V (cat n (F r) (idm r) c)))) :
    Fill w A n cap p g o (r + 1) (fun j => if j = r then G' else G j) (fun j => if j = r then cap' else C j) F (w'.setCell ⟨g, r, none⟩ (.slice (some ⟨G', 0, none⟩) (n + n) cap')) := by
  have hB : Below wr.heap.size wr w' := hb2.trans (hb.mono hb2.size)
  have glt := h.top.lt
  have gne : ∀ {b t m f}, Has wr b t m f → t ≠ 55 → b ≠ g := fun hh ht => hh.ne_ h.top ht
  refine ⟨((h.top.below hB glt).set_ r _).congr (fun j hj => ?_), fun j hj => ?_, fun i j hi hj e => ?_, ?_, ?_, ?_, ?_⟩
  · by_cases e : j = r
    · subst e; simp
    · by_cases hlt : j < r
      · rw [if_neg e, if_pos hlt, if_pos (by omega), if_neg e, if_neg e]
      · rw [if_neg e, if_neg hlt, if_neg (by omega)]
  · by_cases e : j = r
    · subst e
      simp only [if_true]
      have g1 := hb2.size
      have g2 := h.below.size
      exact ⟨by omega, h2, (h3.setOther (a := ⟨g, j, none⟩) (by show G' ≠ g; omega) _).congr (fun c _ => rfl)⟩
    · simp only [if_neg e]
      obtain ⟨q1, q2, q3⟩ := h.row j (by omega)
      exact ⟨q1, q2, (q3.below hB q3.lt).setOther (a := ⟨g, r, none⟩) (gne q3 (by decide)) _⟩
  · have far : ∀ i, i < r → G i ≠ G' := fun i hi e => by have := (h.row i hi).2.2.lt; have := hb2.size; omega
    by_cases e1 : i = r <;> by_cases e2 : j = r
    · omega
    · rw [if_pos e1, if_neg e2] at e; exact absurd e.symm (far j (by omega))
    · rw [if_neg e1, if_pos e2] at e; exact absurd e (far i (by omega))
    · rw [if_neg e1, if_neg e2] at e; exact h.inj i j (by omega) (by omega) e
  · refine Ones.setOther ⟨h.ones.1.below hB h.ones.1.lt, fun q hq => (h.ones.2 q hq).below hB (h.ones.2 q hq).lt⟩ (fun e => hgo e.symm) (fun q hq => gne (h.ones.2 q hq) (by decide)) _
  · exact (h.var.below hB h.var.lt).setOther (a := ⟨g, r, none⟩) (gne h.var (by decide)) _
  · exact (h.box.below hB h.box.lt).setOther (a := ⟨g, r, none⟩) (gne h.box (by decide)) _
  · exact (h.below.trans (hB.mono h.below.size)).setCell (p := ⟨g, r, none⟩) hg _
/-- four cells that are read, and one that is to be written, behind a call that makes memory alone -/
theorem five {wr w' : World} {q1 q2 q3 q4 q5 : Addr} {u1 u2 u3 u4 u5 : Value} (hB : Below wr.heap.size wr w')
    (v1 : wr.cell? q1 = some u1) (v2 : wr.cell? q2 = some u2) (v3 : wr.cell? q3 = some u3) (v4 : wr.cell? q4 = some u4) (v5 : wr.cell? q5 = some u5) (v6 : wr.frozen? q5 = false)
    (s1 : q1.block < wr.heap.size) (s2 : q2.block < wr.heap.size) (s3 : q3.block < wr.heap.size) (s4 : q4.block < wr.heap.size) (s5 : q5.block < wr.heap.size)
    (g1 : q1.block ≠ q5.block) (g2 : q2.block ≠ q5.block) (g3 : q3.block ≠ q5.block) (g4 : q4.block ≠ q5.block) :
    (w'.cell? q1 = some u1 ∧ w'.cell? q2 = some u2 ∧ w'.cell? q3 = some u3 ∧ w'.cell? q4 = some u4) ∧
    (∀ v, (w'.setCell q5 v).cell? q1 = some u1 ∧ (w'.setCell q5 v).cell? q2 = some u2 ∧ (w'.setCell q5 v).cell? q3 = some u3 ∧ (w'.setCell q5 v).cell? q4 = some u4) ∧
    w'.cell? q5 = some u5 ∧ w'.frozen? q5 = false := by
  have k1 := (hB.cell s1).trans v1
  have k2 := (hB.cell s2).trans v2
  have k3 := (hB.cell s3).trans v3
  have k4 := (hB.cell s4).trans v4
  have o : ∀ (q : Addr) (v u : Value), q.block ≠ q5.block → w'.cell? q = some u → (w'.setCell q5 v).cell? q = some u := fun q v u h hc =>
    (World.cell?_setCell_other _ _ _ _ (fun e => by first | exact h (congrArg Addr.block e) | exact h (congrArg Addr.block e.symm))).trans hc
  exact ⟨⟨k1, k2, k3, k4⟩, fun v => ⟨o q1 v u1 g1 k1, o q2 v u2 g2 k2, o q3 v u3 g3 k3, o q4 v u4 g4 k4⟩, (hB.cell s5).trans v5, (hB.frozen s5).trans v6⟩
theorem Fill.start {w wc : World} {A : Option Addr} {n cap p g o : Nat} {G C : Nat → Nat} {F : Nat → Nat → BitVec 8} (h1 : Has wc p 23 1 (fun _ => .slice (some ⟨g, 0, none⟩) n n))
    (h2 : Has wc g 55 n (fun _ => .slice none 0 0)) (h3 : Ones wc o n) (h4 : Has wc w.heap.size 23 1 (fun _ => .slice A n cap)) (h5 : Below w.heap.size w wc) :
    Fill w A n cap p g o 0 G C F wc :=
  ⟨h2.congr (fun j _ => by simp), fun j hj => absurd hj (by omega), fun i j hi _ _ => absurd hi (by omega), h3, h1, h4, h5⟩
/-- k columns are settled -/
structure Mid (w : World) (A : Option Addr) (n cap p g k : Nat) (G C : Nat → Nat) (F : Nat → Nat → BitVec 8) (w' : World) : Prop where
  went : Went n (aug n F) k
  own : Own w' w.heap.size g n (n + n) G C (gj n (aug n F) k)
  var : Has w' p 23 1 (fun _ => .slice (some ⟨g, 0, none⟩) n n)
  box : Has w' w.heap.size 23 1 (fun _ => .slice A n cap)
  below : Below w.heap.size w w'
theorem Mid.start {w wr : World} {A : Option Addr} {n cap p g o : Nat} {G C : Nat → Nat} {F : Nat → Nat → BitVec 8} (h : Fill w A n cap p g o n G C F wr) (hg : w.heap.size ≤ g) :
    Mid w A n cap p g 0 G C F wr :=
  ⟨fun j hj => absurd hj (by omega), ⟨h.top.congr (fun j hj => by rw [if_pos hj]), hg, h.row, h.inj⟩, h.var, h.box, h.below⟩
theorem Mid.next {w wr w' : World} {A : Option Addr} {n cap p g k : Nat} {G C G' C' : Nat → Nat} {F : Nat → Nat → BitVec 8} (h : Mid w A n cap p g k G C F wr) (hp : pvt n (gj n (aug n F) k) k < n)
    (hO : Own w' w.heap.size g n (n + n) G' C' (s3 n (gj n (aug n F) k) k)) (hT : Turned (Zone g n G) wr w') : Mid w A n cap p g (k + 1) G' C' F w' :=
  ⟨fun j hj => by
    by_cases e : j = k
    · subst e; exact hp
    · exact h.went j (by omega), hO, h.var.turned hT (h.own.not_zone h.var (by decide) (by decide)), h.box.turned hT (h.own.not_zone h.box (by decide) (by decide)),
    h.below.trans (hT.below h.own.zone h.below.size)⟩
/-- what the last column leaves, as the closure of an inverse reads it -/
theorem Mid.places {w wr : World} {A : Option Addr} {n cap p g : Nat} {G C : Nat → Nat} {F : Nat → Nat → BitVec 8} (h : Mid w A n cap p g n G C F wr) (hn : n ≤ 32) (r c : Nat) (W : World) (hr : r < n) (hc : c < n) (hW : Below wr.heap.size wr W) :
    Calls Try.prog 51 (#[.int .i64 (r : Int), .int .i64 (c : Int)] ++ #[.pointer (some ⟨p, 0, none⟩), .pointer (some ⟨w.heap.size, 0, none⟩)]) W fun e w' => e = .returned (.int .u8 (V (inv n F r c))) ∧ ∃ q, w' = W.drewN q :=
  invPlace_any (A := A) (cap := cap) (g := g) (gr := G r) (gc := C r) (m := n + n) r c (inv n F r c) hn hr (by omega) (by omega) ((h.var.below hW h.var.lt).cell (by omega)) ((h.own.top.below hW h.own.top.lt).cell hr) ((h.box.below hW h.box.lt).cell (by omega))
    (((h.own.row r hr).2.2.below hW (h.own.row r hr).2.2.lt).cell (i := n + c) (by omega))
/-- an inverse, or the word that there is none -/
def InvRet (w : World) (n : Nat) (F : Nat → Nat → BitVec 8) (e : Ending) (w' : World) : Prop := (Inv n F ∧ MadeRet w n n (inv n F) e w') ∨ (¬ Inv n F ∧ FailRet w 7 e w')
theorem InvRet.none_ {w wr : World} {A : Option Addr} {n cap p g k : Nat} {G C : Nat → Nat} {F : Nat → Nat → BitVec 8} (h : Mid w A n cap p g k G C F wr) (hk : k < n) (hp : ¬ pvt n (gj n (aug n F) k) k < n) :
    InvRet w n F (.returned (.tuple #[.slice none 0 0, .int .i64 7])) wr := .inr ⟨fun hi => hp (hi k hk), rfl, h.below⟩
theorem InvRet.some_ {w wr w' : World} {A : Option Addr} {n cap p g : Nat} {G C : Nat → Nat} {F : Nat → Nat → BitVec 8} (h : Mid w A n cap p g n G C F wr) (hO : Outer wr w' n n n (inv n F)) :
    InvRet w n F (.returned (.tuple #[.slice (some ⟨wr.heap.size, 0, none⟩) n n, .int .i64 0])) w' :=
  .inl ⟨h.went, _, _, _, _, rfl, hO.mt, h.below.trans (hO.below.mono h.below.size)⟩
def JI (w : World) (A : Option Addr) (n cap : Nat) (F : Nat → Nat → BitVec 8) (a' : Act) (w' : World) : Prop :=
  ∃ k p g G C, k < n ∧ Mid w A n cap p g k G C F w' ∧ ∃ u2 u3 u5 u6 u8 u9 u10 u11 u12 u13 u14 u15 u16 u17 u18 u19 u20 u21 u22 u23 u24 u25 u26 u27 u28 u29 u30 u31 u32 u33 u34 u35 u36 u37 u38 u39 u40 u41 u42 u43 u44 u45 u46 u47 u48 u49 u50 u51 u52 u53 u54 u55 u56 u57 u58 u59 u60, a' = { tmps := #[.slice A n cap, .pointer (some ⟨w.heap.size, 0, none⟩), u2, u3, .pointer (some ⟨p, 0, none⟩), u5, u6, .int .i64 (k : Int), u8, u9, u10, u11, u12, u13, u14, u15, u16, u17, u18, u19, u20, u21, u22, u23, u24, u25, u26, u27, u28, u29, u30, u31, u32, u33, u34, u35, u36, u37, u38, u39, u40, u41, u42, u43, u44, u45, u46, u47, u48, u49, u50, u51, u52, u53, u54, u55, u56, u57, u58, u59, u60], defers := [] }

set_option maxRecDepth 100000 in
set_option maxHeartbeats 1600000 in
theorem inverse_ok (h : Mt w w.heap.size A n L RA RC F) (o : Ok n L) (e : L 0 = n) :
    Calls Try.prog 27 #[.slice A n cap] w (InvRet w n F) := by
  have H := Lib.hid h
  have O := Lib.hid o
  have E := Lib.hid e
  obtain ⟨ad, rfl, hb, hc0, _, _⟩ := h.row (r := 0) o.1
  rw [add_zero] at hc0
  have n1 := o.1
  have p0 : 0 < n := o.1
  have n2 := o.2.1
  have e1 : ((L 0 : Int) != (n : Int)) = false := by rw [bne_eq_false_iff_eq]; omega
  have hmk := run_make_row' (P := Try.prog) 23 55 (.slice none 0 0) 24 Try.underlying23 infoRow rfl .i64 .i64 n (by omega) (by omega)
  clear h o e
  go_enter Try.func27, Try.ntmps27
  go_wp2_with fail
  refine wp_scope_jumps 0 (JI w (some ad) n cap F) (fun a' _ => n - (intOf (a'.tmps.getD 7 undef)).toNat) rfl ?_ ?_
  · go_wp2_with fail
    go_quiet ((go_at_call 47; exact quiet_left (may_yes (B := w.heap.size) (L := L) (RA := RA) (RC := RC) (F := F) ((H.out.below ((Below.refl _ _).alloc (Nat.le_refl _) _) (Nat.le_refl _)).drewN _) O.out)))
    go_upto_region 3 with fail
    generalize hw1 : (w.alloc (.cells #[.slice (some ad) n cap] 23)).drewN nq = w1
    have b1 : Below w.heap.size w w1 := by subst hw1; exact below_drewN ((Below.refl _ _).alloc (Nat.le_refl _) _) _
    have q1 : Has w1 w.heap.size 23 1 (fun _ => .slice (some ad) n cap) := by subst hw1; exact (has_box w _ _).drewN _
    have d1 := q1.cell (i := 0) (by omega)
    have z1 := q1.lt
    clear hw1 hc0
    have HB := Lib.hid b1
    have HQ1 := Lib.hid q1
    clear b1 q1
    go_cut [4, 5] from 20 to 25 (fun s4 s5 wc => Start w (some ad) n cap s4 s5 wc)
    case first =>
      go_region_held3 (fun w' => w'.cell? ⟨w.heap.size, 0, none⟩ = some (.slice (some ad) n cap)) (first | go_keep | exact hc9 | exact k9 _ | exact x9 _ _ (by omega))
        ((go_at_call 48; refine (identityOf_any n (by omega) _).mono ?_; rintro e w' ⟨rfl, hO⟩; have hc9 : w'.cell? ⟨w.heap.size, 0, none⟩ = some (.slice (some ad) n cap) := (hO.below.cell (by simp; omega)).trans (by assumption); obtain ⟨oc9, of9⟩ := bcell hO.below; have hz := hO.size; have hs7 : w1.heap.size < w'.heap.size := (by simp at hz; omega); have hs8 : w1.heap.size + 1 < w'.heap.size := (by simp at hz; omega); clear hz; have hs9 : w.heap.size < w'.heap.size := (by omega); have k9 : ∀ o, (w'.alloc o).cell? ⟨w.heap.size, 0, none⟩ = some (.slice (some ad) n cap) := fun o => (World.cell?_alloc_lt _ _ _ hs9).trans hc9; have x9 : ∀ b v, w.heap.size < b → (w'.setCell ⟨b, 0, none⟩ v).cell? ⟨w.heap.size, 0, none⟩ = some (.slice (some ad) n cap) := fun b v hb => (World.cell?_setCell_other _ _ _ _ (fun e => by injection e; omega)).trans hc9))
      all_goals
        go_wp2_with fail
        go_meet
        case rel =>
          go_light
          first | exact start1 HB.out HQ1.out hO | exact start2 HB.out HQ1.out hO | exact start3 HB.out HQ1.out hO | exact start4 HB.out HQ1.out hO | exact start5 HB.out HQ1.out hO | exact start6 HB.out HQ1.out hO
    case rest =>
      obtain ⟨p, g, o, rfl, rfl, hpl, hgl, hgo, h1, h2, h3, h4, h5⟩ := hcut
      have HF0 : Hid (Fill w (some ad) n cap p g o 0 (fun _ => 0) (fun _ => 0) F wc) := Lib.hid (Fill.start h1 h2 h3 h4 h5)
      have v1 := h1.cell (i := 0) (by omega)
      clear h1 h2 h3 h4 h5 HB HQ1 d1 z1
      go_wp2
      clear v1
      go_loopg [28] n (fun gh i wr => ∃ r G C, r ≤ n ∧ gh = n - r ∧ i = .int .i64 (r : Nat) ∧ Fill w (some ad) n cap p g o r G C F wr)
      case atStart => exact ⟨0, _, _, Nat.zero_le _, rfl, rfl, HF0.out⟩
      case round =>
        obtain ⟨r, G, C, hr, rfl, rfl, hF⟩ := hrel
        by_cases hrn : r < n
        · have hrz : (r : Int) < (n : Int) := by omega
          obtain ⟨ad', e', _, hcr, _, hrw⟩ := H.out.row hrn
          injection e' with e'
          subst e'
          have hLr : L r = n := (O.out.2.2.2.2 r hrn).trans E.out
          rw [hLr] at hcr hrw
          obtain ⟨adr, hA, hbr, hcs⟩ := hrw p0
          rw [hA] at hcr
          clear hA hLr
          have HF := Lib.hid hF
          have v1 := hF.var.cell (i := 0) (by omega)
          have v2 := hF.box.cell (i := 0) (by omega)
          have v3 : wr.cell? (ad.add r) = some (.slice (some adr) n (RC r)) := by rw [hF.below.cell (by rw [block_of_add]; exact hb)]; exact hcr
          have v4 : wr.cell? ⟨o, r, none⟩ = some (.slice (some ⟨o + 1 + r, 0, none⟩) n n) := hF.ones.1.cell hrn
          have v5 : wr.cell? ⟨g, r, none⟩ = some (.slice none 0 0) := by have := hF.top.cell hrn; simpa using this
          have v6 : wr.frozen? ⟨g, r, none⟩ = false := hF.top.frozen hrn
          have s1 := hF.var.lt
          have s2 := hF.box.lt
          have s3 := hF.ones.1.lt
          have s4 := hF.top.lt
          have s5 := hF.below.size
          have g1 : p ≠ g := hF.var.ne_ hF.top (by decide)
          have g2 : w.heap.size ≠ g := hF.box.ne_ hF.top (by decide)
          clear hF
          have e2 := size_alloc wr (.cells #[.slice (some adr) n (RC r), .slice (some ⟨o + 1 + r, 0, none⟩) n n] 55)
          have b2 : Below wr.heap.size wr (wr.alloc (.cells #[.slice (some adr) n (RC r), .slice (some ⟨o + 1 + r, 0, none⟩) n n] 55)).drew := ((Below.refl _ _).alloc (Nat.le_refl _) _).drew
          have y2 := (five b2 v1 v2 v3 v4 v5 v6 s1 s2 (by rw [block_of_add]; omega) s3 s4 g1 g2 (by rw [block_of_add]; show ad.block ≠ g; omega) (fun e => hgo e.symm)).1
          have hcall : Calls Try.prog 49 #[.slice (some ⟨wr.heap.size, 0, none⟩) 2 2] (wr.alloc (.cells #[.slice (some adr) n (RC r), .slice (some ⟨o + 1 + r, 0, none⟩) n n] 55)).drew
              (Tog (wr.alloc (.cells #[.slice (some adr) n (RC r), .slice (some ⟨o + 1 + r, 0, none⟩) n n] 55)).drew (n + n) (cat n (F r) (idm r))) := by
            have hnew : (wr.alloc (.cells #[.slice (some adr) n (RC r), .slice (some ⟨o + 1 + r, 0, none⟩) n n] 55)).drew.heap[wr.heap.size]? = some (.cells #[.slice (some adr) n (RC r), .slice (some ⟨o + 1 + r, 0, none⟩) n n] 55 (0, 0)) := heap_alloc_new wr _
            have hz : (wr.alloc (.cells #[.slice (some adr) n (RC r), .slice (some ⟨o + 1 + r, 0, none⟩) n n] 55)).drew.heap.size = wr.heap.size + 1 := e2
            have ho := HF.out.ones.2 r hrn
            have hbb := HF.out.below
            refine together_any _ n n (RC r) n 2 adr ⟨o + 1 + r, 0, none⟩ (F r) (idm r) _ p0 n2 n2 (by rw [hz]; omega) ?_ ?_ (by rw [hz]; have := ho.lt; show o + 1 + r < _; omega) (fun c hc => ?_) (fun c hc => ?_)
            · rw [cell_of_row _ _ _ _ _ _ hnew]; rfl
            · rw [cell_of_row _ _ _ _ _ _ hnew]; rfl
            · rw [b2.cell (by rw [block_of_add]; omega), hbb.cell (by rw [block_of_add]; exact hbr)]; exact hcs c hc
            · rw [add_lit, b2.cell (p := ⟨o + 1 + r, c, none⟩) ho.lt]; exact ho.cell hc
          have HC := Lib.hid hcall
          have Hb2 := Lib.hid b2
          clear hcall b2 e2
          go_wp2_with fail
          go_region_held3 (fun w' => w'.cell? ⟨p, 0, none⟩ = some (.slice (some ⟨g, 0, none⟩) n n) ∧ w'.cell? ⟨w.heap.size, 0, none⟩ = some (.slice (some ad) n cap) ∧ w'.cell? (ad.add r) = some (.slice (some adr) n (RC r)) ∧ w'.cell? ⟨o, r, none⟩ = some (.slice (some ⟨o + 1 + r, 0, none⟩) n n))
            (first | exact y2 | exact k2 | exact x2 _ | go_keep)
            ((go_at_call 49; refine HC.out.mono ?_; rintro e w' ⟨G', cap', rfl, hg1, hg2, hg3, hg4⟩; obtain ⟨k2, x2, k5, k6⟩ := five (Hb2.out.trans (hg4.mono Hb2.out.size)) v1 v2 v3 v4 v5 v6 s1 s2 (by rw [block_of_add]; omega) s3 s4 g1 g2 (by rw [block_of_add]; show ad.block ≠ g; omega) (fun e => hgo e.symm)))
          all_goals
            go_wp2
            go_roundg (n - (r + 1))
            case measure => go_light; omega
            case rel => go_light; exact ⟨r + 1, _, _, by omega, rfl, by simp, fill_next HF.out hgl hgo Hb2.out hg4 hg1 hg2 hg3⟩
        · have hrz : ¬ ((r : Int) < (n : Int)) := by omega
          obtain rfl : r = n := by omega
          have HM : Hid (Mid w (some ad) r cap p g 0 G C F wr) := Lib.hid (Mid.start hF hgl)
          have v1 := hF.var.cell (i := 0) (by omega)
          clear hF HF0 hrz hr hrn
          go_wp2_with fail
          go_step3
          have hz : (0 : Nat) < r := p0
          by_cases hp : pvt r (gj r (aug r F) 0) 0 < r
          · have HP := Lib.hid hp; clear hp
            go_wp2_with fail
            refine (settle_yes w.heap.size g r (r + r) r 0 G C (gj r (aug r F) 0) _ (by omega) (by omega) p0 (by omega) HM.out.own HP.out).mono ?_; rintro e w2 ⟨G', C', rfl, hO', hT', _⟩
            have HM2 := Lib.hid (HM.out.next HP.out hO' hT')
            have v2 := HM2.out.var.cell (i := 0) (by omega)
            have v3 := HM2.out.box.cell (i := 0) (by omega)
            clear hO' hT'
            by_cases h1 : 1 < r
            · have h1z : (1 : Int) < (r : Int) := by omega
              go_wp2
              go_step3
              exact ⟨rfl, 1, p, g, G', C', h1, HM2.out, _, _, _, _, _, _, _, _, _, _, _, _, _, _, _, _, _, _, _, _, _, _, _, _, _, _, _, _, _, _, _, _, _, _, _, _, _, _, _, _, _, _, _, _, _, _, _, _, _, _, _, _, _, _, _, _, _, rfl⟩
            · have h1z : ¬ ((1 : Int) < (r : Int)) := by omega
              obtain rfl : r = 1 := by omega
              go_wp2_with fail
              refine (filled_any 1 1 (by omega) (by omega) 51 _ (inv 1 F) _ (by kernel_rfl) (HM2.out.places (by omega))).mono ?_; rintro e w3 ⟨rfl, hO⟩
              have HO := Lib.hid hO; clear hO
              go_wp2
              simp only [Exit.jump]
              go_ret2
              exact InvRet.some_ HM2.out HO.out
          · have HP := Lib.hid hp; clear hp
            go_wp2_with fail
            refine (settle_no w.heap.size g r (r + r) r 0 G C (gj r (aug r F) 0) _ (by omega) p0 (by omega) HM.out.own HP.out).mono ?_; rintro e w2 ⟨rfl, rfl⟩
            go_wp2
            simp only [Exit.jump]
            go_ret2
            exact InvRet.none_ HM.out p0 HP.out
  · rintro a' wr ⟨k, p, g, G, C, hk, hM, u2, u3, u5, u6, u8, u9, u10, u11, u12, u13, u14, u15, u16, u17, u18, u19, u20, u21, u22, u23, u24, u25, u26, u27, u28, u29, u30, u31, u32, u33, u34, u35, u36, u37, u38, u39, u40, u41, u42, u43, u44, u45, u46, u47, u48, u49, u50, u51, u52, u53, u54, u55, u56, u57, u58, u59, u60, rfl⟩
    have HM := Lib.hid hM; clear hM
    have v1 := HM.out.var.cell (i := 0) (by omega)
    clear hc0
    by_cases hp : pvt n (gj n (aug n F) k) k < n
    · have HP := Lib.hid hp; clear hp
      go_wp2_with fail
      refine (settle_yes w.heap.size g n (n + n) n k G C (gj n (aug n F) k) _ (by omega) (by omega) hk (by omega) HM.out.own HP.out).mono ?_; rintro e w2 ⟨G', C', rfl, hO', hT', _⟩
      have HM2 := Lib.hid (HM.out.next HP.out hO' hT')
      have v2 := HM2.out.var.cell (i := 0) (by omega)
      have v3 := HM2.out.box.cell (i := 0) (by omega)
      clear hO' hT' v1
      by_cases h1 : k + 1 < n
      · have h1z : (k : Int) + 1 < (n : Int) := by omega
        go_wp2
        go_step3
        refine ⟨rfl, ⟨k + 1, p, g, G', C', h1, HM2.out, _, _, _, _, _, _, _, _, _, _, _, _, _, _, _, _, _, _, _, _, _, _, _, _, _, _, _, _, _, _, _, _, _, _, _, _, _, _, _, _, _, _, _, _, _, _, _, _, _, _, _, _, _, _, _, _, _, rfl⟩, ?_⟩
        simp [intOf]; omega
      · have h1z : ¬ ((k : Int) + 1 < (n : Int)) := by omega
        obtain rfl : n = k + 1 := by omega
        go_wp2_with fail
        refine (filled_any (k + 1) (k + 1) (by omega) (by omega) 51 _ (inv (k + 1) F) _ (by kernel_rfl) (HM2.out.places (by omega))).mono ?_; rintro e w3 ⟨rfl, hO⟩
        have HO := Lib.hid hO; clear hO
        go_wp2
        simp only [Exit.jump]
        go_ret2
        exact InvRet.some_ HM2.out HO.out
    · have HP := Lib.hid hp; clear hp
      go_wp2_with fail
      refine (settle_no w.heap.size g n (n + n) n k G C (gj n (aug n F) k) _ (by omega) hk (by omega) HM.out.own HP.out).mono ?_; rintro e w2 ⟨rfl, rfl⟩
      go_wp2
      simp only [Exit.jump]
      go_ret2
      exact InvRet.none_ HM.out hk HP.out
end
end Go.Proofs.Ytohbijjkkadbaaa.Mat
