/- Laws without the document's answer: walked. -/
import Derived.Test.YtkleaibeekgfjaaMatS
namespace Go.Proofs.Ytkleaibeekgfjaa.Mat
open Go.RowKit Fld

theorem Mt.up {w w' : World} {n : Nat} {A : Option Addr} {L RC : Nat → Nat} {RA : Nat → Option Addr} {F : Nat → Nat → BitVec 8} (h : Mt w w.heap.size A n L RA RC F) (hb : Below w.heap.size w w') : Mt w' w'.heap.size A n L RA RC F := h.below hb hb.size
theorem up_trans {a w w' : World} (h : Below a.heap.size a w) (k : Below w.heap.size w w') : Below a.heap.size a w' := h.trans (k.mono h.size)
theorem same_up {a w : World} {q : Nat} (h : Below a.heap.size a w) : Below a.heap.size a (w.drewN q) := below_drewN h q

/-- an inverse, or any error -/
def InvAll (w : World) (n : Nat) (L : Nat → Nat) (F : Nat → Nat → BitVec 8) (e : Ending) (w' : World) : Prop :=
  (Ok n L ∧ L 0 = n ∧ Inv n F ∧ MadeRet w n n (inv n F) e w') ∨ ∃ k : Int, (k == 0) = false ∧ FailRet w k e w'
theorem inverse_all {w : World} {n cap : Nat} {A : Option Addr} {L RC : Nat → Nat} {RA : Nat → Option Addr} {F : Nat → Nat → BitVec 8} (h : Mt w w.heap.size A n L RA RC F) (hn : n ≤ 9223372036854775807) :
    Calls Try.prog 18 #[.slice A n cap] w (InvAll w n L F) := by
  by_cases o : Ok n L
  · by_cases e : L 0 = n
    · refine (inverse_ok h o e).mono ?_
      rintro x w' (⟨h1, h2⟩ | ⟨h1, h2⟩)
      · exact .inl ⟨o, e, h1, h2⟩
      · exact .inr ⟨7, rfl, h2⟩
    · exact (inverse_no2 h o e).mono fun _ _ h2 => .inr ⟨1, rfl, h2⟩
  · exact (inverse_no1 h hn o).mono fun _ _ h2 => .inr ⟨1, rfl, h2⟩
/-- an inverse of what has one -/
theorem inverse_yes {w : World} {n cap : Nat} {A : Option Addr} {L RC : Nat → Nat} {RA : Nat → Option Addr} {F : Nat → Nat → BitVec 8} (h : Mt w w.heap.size A n L RA RC F) (o : Ok n L) (e : L 0 = n) (hi : Inv n F) :
    Calls Try.prog 18 #[.slice A n cap] w (MadeRet w n n (inv n F)) :=
  (inverse_ok h o e).mono fun _ _ h => by
    rcases h with ⟨_, h⟩ | ⟨h1, _⟩
    · exact h
    · exact absurd hi h1
theorem refSame_yes {A A' : Option Addr} {n n' cap cap' B B' : Nat} {L RC L' RC' : Nat → Nat} {RA RA' : Nat → Option Addr} {F F' : Nat → Nat → BitVec 8} {w : World}
    (h : Mt w B A n L RA RC F) (h' : Mt w B' A' n' L' RA' RC' F') (hn : n ≤ 9223372036854775807) (hn' : n' ≤ 9223372036854775807) (hs : MSame n L F n' L' F') :
    Calls Try.prog 14 #[.slice A n cap, .slice A' n' cap'] w fun e w' => e = .returned (.bool true) ∧ ∃ q, w' = w.drewN q :=
  (refSame_any h h' hn hn').mono fun _ _ ⟨he, hw⟩ => ⟨by rw [he, msame_yes hs], hw⟩
theorem ok_sq {n : Nat} (h1 : 1 ≤ n) (h2 : n ≤ 32) : Ok n (fun _ => n) := ⟨h1, h2, h1, h2, fun _ _ => rfl⟩
theorem same_mat {n m : Nat} {L L' : Nat → Nat} {F F' : Nat → Nat → BitVec 8} (h1 : ∀ r, r < n → L r = m) (h2 : ∀ r, r < n → L' r = m) (h : ∀ r c, r < n → c < m → F r c = F' r c) : MSame n L F n L' F' :=
  ⟨rfl, fun r hr => ⟨by rw [h1 r hr, h2 r hr], fun c hc => h r c hr (by rw [h1 r hr] at hc; exact hc)⟩⟩

set_option maxRecDepth 100000 in
set_option maxHeartbeats 1600000 in
theorem lawTurns {W : World} (A : Option Addr) (n cap : Nat) (L : Nat → Nat) (RA : Nat → Option Addr) (RC : Nat → Nat) (F : Nat → Nat → BitVec 8) (hn : n ≤ 9223372036854775807) (m : Mt W W.heap.size A n L RA RC F) :
    Calls Try.prog 7 #[.slice A n cap] W fun e w' => e = .returned (.bool true) ∧ Below W.heap.size W w' := by
  have M := Lib.hid m; clear m
  go_enter Try.func7, Try.ntmps7
  go_wp2_with fail
  refine (shown_any _).mono ?_; rintro e w1 ⟨rfl, hb1⟩
  have B1 := Lib.hid hb1
  have M1 := Lib.hid (M.out.up hb1)
  clear hb1 M
  go_wp2_with fail
  refine (inverse_all M1.out hn).mono ?_; rintro e w2 (⟨o, eL, hi, A2, c2, RA2, RC2, rfl, hM2, hB2⟩ | ⟨k, hk, rfl, hB2⟩)
  · have hboth := inv_both hi
    have hii := inv_inv hi
    have n1 := o.1
    have n2 := o.2.1
    have B2 := Lib.hid (up_trans B1.out hB2)
    have MA := Lib.hid (M1.out.up hB2)
    have MB := Lib.hid hM2
    have O := Lib.hid o
    have EL := Lib.hid eL
    have HB := Lib.hid hboth
    have HI := Lib.hid hii
    clear hM2 hB2 B1 M1 o eL hboth hii
    go_wp2_with fail
    refine (identity_yes n n1 n2 _).mono ?_; rintro e w3 ⟨A3, c3, RA3, RC3, rfl, hM3, hB3⟩
    have B3 := Lib.hid (up_trans B2.out hB3)
    have MA3 := Lib.hid (MA.out.up hB3)
    have MB3 := Lib.hid (MB.out.up hB3)
    have MI := Lib.hid hM3
    clear hM3 hB3 B2 MA MB
    go_wp2_with fail
    refine (mul_ok MA3.out MB3.out ⟨O.out, ok_sq n1 n2, EL.out⟩).mono ?_; rintro e w4 ⟨A4, c4, RA4, RC4, rfl, hM4, hB4⟩
    have B4 := Lib.hid (up_trans B3.out hB4)
    have MA4 := Lib.hid (MA3.out.up hB4)
    have MB4 := Lib.hid (MB3.out.up hB4)
    have MI4 := Lib.hid (MI.out.up hB4)
    have MX := Lib.hid hM4
    clear hM4 hB4 B3 MA3 MB3 MI
    go_wp2_with fail
    refine (mul_ok MB4.out MA4.out ⟨ok_sq n1 n2, O.out, rfl⟩).mono ?_; rintro e w5 ⟨A5, c5, RA5, RC5, rfl, hM5, hB5⟩
    have B5 := Lib.hid (up_trans B4.out hB5)
    have MA5 := Lib.hid (MA4.out.up hB5)
    have MB5 := Lib.hid (MB4.out.up hB5)
    have MI5 := Lib.hid (MI4.out.up hB5)
    have MX5 := Lib.hid (MX.out.up hB5)
    have MY := Lib.hid hM5
    clear hM5 hB5 B4 MA4 MB4 MI4 MX
    go_wp2_with fail
    refine (inverse_yes MB5.out (ok_sq n1 n2) rfl HI.out.1).mono ?_; rintro e w6 ⟨A6, c6, RA6, RC6, rfl, hM6, hB6⟩
    have B6 := Lib.hid (up_trans B5.out hB6)
    have MA6 := Lib.hid (MA5.out.up hB6)
    have MI6 := Lib.hid (MI5.out.up hB6)
    have MX6 := Lib.hid (MX5.out.up hB6)
    have MY6 := Lib.hid (MY.out.up hB6)
    have MC := Lib.hid hM6
    clear hM6 hB6 B5 MA5 MB5 MI5 MX5 MY
    go_wp2_with fail
    refine (refSame_yes MX6.out MI6.out hn hn (same_mat (m := n) (fun _ _ => rfl) (fun _ _ => rfl) HB.out.2)).mono ?_; rintro e w7 ⟨rfl, q7, rfl⟩
    go_wp2_with fail
    refine (refSame_yes (MY6.out.drewN _) (MI6.out.drewN _) hn hn (same_mat (m := n) (fun r hr => by rw [O.out.2.2.2.2 0 (by omega)]; exact EL.out) (fun _ _ => rfl) HB.out.1)).mono ?_; rintro e w8 ⟨rfl, q8, rfl⟩
    go_wp2_with fail
    refine (refSame_yes (MC.out.drewN _) (MA6.out.drewN _) hn hn (same_mat (m := n) (fun _ _ => rfl) (fun r hr => by rw [O.out.2.2.2.2 r hr]; exact EL.out) HI.out.2)).mono ?_; rintro e w9 ⟨rfl, q9, rfl⟩
    go_wp2
    go_ret
    exact ⟨rfl, below_drewN B6.out _⟩
  · have hk2 : (k != 0) = true := by unfold bne; rw [hk]; rfl
    have B2 := Lib.hid (up_trans B1.out hB2)
    clear hB2 hk
    go_wp2
    go_ret
    exact ⟨rfl, B2.out⟩
end Go.Proofs.Ytkleaibeekgfjaa.Mat
