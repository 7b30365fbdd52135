/- Products and inverses, in all cases. -/
import Derived.Test.YtohbijjkkadbaaaMatG
import Derived.Test.YtohbijjkkadbaaaMatH
namespace Go.Proofs.Ytohbijjkkadbaaa.Mat
open Go.RowKit Fld

theorem Mt.up {w w' : World} {n : Nat} {A : Option Addr} {L RC : Nat → Nat} {RA : Nat → Option Addr} {F : Nat → Nat → BitVec 8} (h : Mt w w.heap.size A n L RA RC F) (hb : Below w.heap.size w w') : Mt w' w'.heap.size A n L RA RC F := h.below hb hb.size
theorem up_trans {a w w' : World} (h : Below a.heap.size a w) (k : Below w.heap.size w w') : Below a.heap.size a w' := h.trans (k.mono h.size)
theorem same_up {a w : World} {q : Nat} (h : Below a.heap.size a w) : Below a.heap.size a (w.drewN q) := below_drewN h q

/-- an inverse, or any error -/
def InvAll (w : World) (n : Nat) (L : Nat → Nat) (F : Nat → Nat → BitVec 8) (e : Ending) (w' : World) : Prop :=
  (Ok n L ∧ L 0 = n ∧ Inv n F ∧ MadeRet w n n (inv n F) e w') ∨ ∃ k : Int, (k == 0) = false ∧ FailRet w k e w'
theorem inverse_all {w : World} {n cap : Nat} {A : Option Addr} {L RC : Nat → Nat} {RA : Nat → Option Addr} {F : Nat → Nat → BitVec 8} (h : Mt w w.heap.size A n L RA RC F) (hn : n ≤ 9223372036854775807) :
    Calls Try.prog 27 #[.slice A n cap] w (InvAll w n L F) := by
  by_cases o : Ok n L
  · by_cases e : L 0 = n
    · refine (inverse_ok h o e).mono ?_
      rintro x w' (⟨h1, h2⟩ | ⟨h1, h2⟩)
      · exact .inl ⟨o, e, h1, h2⟩
      · exact .inr ⟨7, rfl, h2⟩
    · exact (inverse_no2 h o e).mono fun _ _ h2 => .inr ⟨1, rfl, h2⟩
  · exact (inverse_no1 h hn o).mono fun _ _ h2 => .inr ⟨1, rfl, h2⟩
/-- an inverse of what has one -/
theorem inverse_yes {w : World} {n cap : Nat} {A : Option Addr} {L RC : Nat → Nat} {RA : Nat → Option Addr} {F : Nat → Nat → BitVec 8} (h : Mt w w.heap.size A n L RA RC F) (o : Ok n L) (e : L 0 = n) (hi : Inv n F) :
    Calls Try.prog 27 #[.slice A n cap] w (MadeRet w n n (inv n F)) :=
  (inverse_ok h o e).mono fun _ _ h => by
    rcases h with ⟨_, h⟩ | ⟨h1, _⟩
    · exact h
    · exact absurd hi h1
theorem refSame_yes {A A' : Option Addr} {n n' cap cap' B B' : Nat} {L RC L' RC' : Nat → Nat} {RA RA' : Nat → Option Addr} {F F' : Nat → Nat → BitVec 8} {w : World}
    (h : Mt w B A n L RA RC F) (h' : Mt w B' A' n' L' RA' RC' F') (hn : n ≤ 9223372036854775807) (hn' : n' ≤ 9223372036854775807) (hs : MSame n L F n' L' F') :
    Calls Try.prog 14 #[.slice A n cap, .slice A' n' cap'] w fun e w' => e = .returned (.bool true) ∧ ∃ q, w' = w.drewN q :=
  (refSame_any h h' hn hn').mono fun _ _ ⟨he, hw⟩ => ⟨by rw [he, msame_yes hs], hw⟩
theorem ok_sq {n : Nat} (h1 : 1 ≤ n) (h2 : n ≤ 32) : Ok n (fun _ => n) := ⟨h1, h2, h1, h2, fun _ _ => rfl⟩
theorem same_mat {n m : Nat} {L L' : Nat → Nat} {F F' : Nat → Nat → BitVec 8} (h1 : ∀ r, r < n → L r = m) (h2 : ∀ r, r < n → L' r = m) (h : ∀ r c, r < n → c < m → F r c = F' r c) : MSame n L F n L' F' :=
  ⟨rfl, fun r hr => ⟨by rw [h1 r hr, h2 r hr], fun c hc => h r c hr (by rw [h1 r hr] at hc; exact hc)⟩⟩

/-- a product, or the word that there is none -/
def MulAll (w : World) (n : Nat) (L : Nat → Nat) (F : Nat → Nat → BitVec 8) (n' : Nat) (L' : Nat → Nat) (F' : Nat → Nat → BitVec 8) (e : Ending) (w' : World) : Prop :=
  (MulOk n L n' L' ∧ MadeRet w n (L' 0) (mm n' F F') e w') ∨ (¬ MulOk n L n' L' ∧ FailRet w 1 e w')
theorem mul_all {A A' : Option Addr} {n n' cap cap' : Nat} {L RC L' RC' : Nat → Nat} {RA RA' : Nat → Option Addr} {F F' : Nat → Nat → BitVec 8} {w : World}
    (h : Mt w w.heap.size A n L RA RC F) (h' : Mt w w.heap.size A' n' L' RA' RC' F') (hn : n ≤ 9223372036854775807) (hn' : n' ≤ 9223372036854775807) :
    Calls Try.prog 30 #[.slice A n cap, .slice A' n' cap'] w (MulAll w n L F n' L' F') := by
  by_cases o : MulOk n L n' L'
  · exact (mul_ok h h' o).mono fun _ _ h => .inl ⟨o, h⟩
  · exact (mul_no h h' hn hn' o).mono fun _ _ h => .inr ⟨o, h⟩
theorem ok_rect {n m : Nat} (h1 : 1 ≤ n) (h2 : n ≤ 32) (h3 : 1 ≤ m) (h4 : m ≤ 32) : Ok n (fun _ => m) := ⟨h1, h2, h3, h4, fun _ _ => rfl⟩

end Go.Proofs.Ytohbijjkkadbaaa.Mat
