/- Laws without the document's answer: walked. -/
import Derived.Test.YtkleaibeekgfjaaMatS
namespace Go.Proofs.Ytkleaibeekgfjaa.Mat
open Go.RowKit Fld

theorem Mt.up {w w' : World} {n : Nat} {A : Option Addr} {L RC : Nat → Nat} {RA : Nat → Option Addr} {F : Nat → Nat → BitVec 8} (h : Mt w w.heap.size A n L RA RC F) (hb : Below w.heap.size w w') : Mt w' w'.heap.size A n L RA RC F := h.below hb hb.size
theorem up_trans {a w w' : World} (h : Below a.heap.size a w) (k : Below w.heap.size w w') : Below a.heap.size a w' := h.trans (k.mono h.size)
theorem same_up {a w : World} {q : Nat} (h : Below a.heap.size a w) : Below a.heap.size a (w.drewN q) := below_drewN h q

/-- an inverse, or any error -/
def InvAll (w : World) (n : Nat) (L : Nat → Nat) (F : Nat → Nat → BitVec 8) (e : Ending) (w' : World) : Prop :=
  (Ok n L ∧ L 0 = n ∧ Inv n F ∧ MadeRet w n n (inv n F) e w') ∨ ∃ k : Int, (k == 0) = false ∧ FailRet w k e w'
theorem inverse_all {w : World} {n cap : Nat} {A : Option Addr} {L RC : Nat → Nat} {RA : Nat → Option Addr} {F : Nat → Nat → BitVec 8} (h : Mt w w.heap.size A n L RA RC F) (hn : n ≤ 9223372036854775807) :
    Calls Try.prog 18 #[.slice A n cap] w (InvAll w n L F) := by
  by_cases o : Ok n L
  · by_cases e : L 0 = n
    · refine (inverse_ok h o e).mono ?_
      rintro x w' (⟨h1, h2⟩ | ⟨h1, h2⟩)
      · exact .inl ⟨o, e, h1, h2⟩
      · exact .inr ⟨7, rfl, h2⟩
    · exact (inverse_no2 h o e).mono fun _ _ h2 => .inr ⟨1, rfl, h2⟩
  · exact (inverse_no1 h hn o).mono fun _ _ h2 => .inr ⟨1, rfl, h2⟩
/-- an inverse of what has one -/
theorem inverse_yes {w : World} {n cap : Nat} {A : Option Addr} {L RC : Nat → Nat} {RA : Nat → Option Addr} {F : Nat → Nat → BitVec 8} (h : Mt w w.heap.size A n L RA RC F) (o : Ok n L) (e : L 0 = n) (hi : Inv n F) :
    Calls Try.prog 18 #[.slice A n cap] w (MadeRet w n n (inv n F)) :=
  (inverse_ok h o e).mono fun _ _ h => by
    rcases h with ⟨_, h⟩ | ⟨h1, _⟩
    · exact h
    · exact absurd hi h1
theorem refSame_yes {A A' : Option Addr} {n n' cap cap' B B' : Nat} {L RC L' RC' : Nat → Nat} {RA RA' : Nat → Option Addr} {F F' : Nat → Nat → BitVec 8} {w : World}
    (h : Mt w B A n L RA RC F) (h' : Mt w B' A' n' L' RA' RC' F') (hn : n ≤ 9223372036854775807) (hn' : n' ≤ 9223372036854775807) (hs : MSame n L F n' L' F') :
    Calls Try.prog 14 #[.slice A n cap, .slice A' n' cap'] w fun e w' => e = .returned (.bool true) ∧ ∃ q, w' = w.drewN q :=
  (refSame_any h h' hn hn').mono fun _ _ ⟨he, hw⟩ => ⟨by rw [he, msame_yes hs], hw⟩
theorem ok_sq {n : Nat} (h1 : 1 ≤ n) (h2 : n ≤ 32) : Ok n (fun _ => n) := ⟨h1, h2, h1, h2, fun _ _ => rfl⟩
theorem same_mat {n m : Nat} {L L' : Nat → Nat} {F F' : Nat → Nat → BitVec 8} (h1 : ∀ r, r < n → L r = m) (h2 : ∀ r, r < n → L' r = m) (h : ∀ r c, r < n → c < m → F r c = F' r c) : MSame n L F n L' F' :=
  ⟨rfl, fun r hr => ⟨by rw [h1 r hr, h2 r hr], fun c hc => h r c hr (by rw [h1 r hr] at hc; exact hc)⟩⟩

set_option maxRecDepth 100000 in
set_option maxHeartbeats 1600000 in
theorem lawTurns {W : World} (A : Option Addr) (n cap : Nat) (L : Nat → Nat) (RA : Nat → Option Addr) (RC : Nat → Nat) (F : Nat → Nat → BitVec 8) (hn : n ≤ 9223372036854775807) (m : Mt W W.heap.size A n L RA RC F) :
    Calls Try.prog 7 #[.slice A n cap] W fun e w' => e = .returned (.bool true) ∧ Below W.heap.size W w' := by
  have M := Lib.hid m; clear m
  go_enter Try.func7, Try.ntmps7
  go_wp2_with fail
  refine (shown_any _).mono ?_; rintro e w1 ⟨rfl, hb1⟩
  have B1 := Lib.hid hb1
  have M1 := Lib.hid (M.out.up hb1)
  clear hb1 M
  go_wp2_with fail
  refine (inverse_all M1.out hn).mono ?_; rintro e w2 (⟨o, eL, hi, A2, c2, RA2, RC2, rfl, hM2, hB2⟩ | ⟨k, hk, rfl, hB2⟩)
  · have hboth := inv_both hi
    have hii := inv_inv hi
    have n1 := o.1
    have n2 := o.2.1
    have B2 := Lib.hid (up_trans B1.out hB2)
    have MA := Lib.hid (M1.out.up hB2)
    have MB := Lib.hid hM2
    have O := Lib.hid o
    have EL := Lib.hid eL
    have HB := Lib.hid hboth
    have HI := Lib.hid hii
    clear hM2 hB2 B1 M1 o eL hboth hii
    go_wp2_with fail
    refine (identity_yes n n1 n2 _).mono ?_; rintro e w3 ⟨A3, c3, RA3, RC3, rfl, hM3, hB3⟩
    have B3 := Lib.hid (up_trans B2.out hB3)
    have MA3 := Lib.hid (MA.out.up hB3)
    have MB3 := Lib.hid (MB.out.up hB3)
    have MI := Lib.hid hM3
    clear hM3 hB3 B2 MA MB
    go_wp2_with fail
    refine (mul_ok MA3.out MB3.out ⟨O.out, ok_sq n1 n2, EL.out⟩).mono ?_; rintro e w4 ⟨A4, c4, RA4, RC4, rfl, hM4, hB4⟩
    have B4 := Lib.hid (up_trans B3.out hB4)
    have MA4 := Lib.hid (MA3.out.up hB4)
    have MB4 := Lib.hid (MB3.out.up hB4)
    have MI4 := Lib.hid (MI.out.up hB4)
    have MX := Lib.hid hM4
    clear hM4 hB4 B3 MA3 MB3 MI
    go_wp2_with fail
    refine (mul_ok MB4.out MA4.out ⟨ok_sq n1 n2, O.out, rfl⟩).mono ?_; rintro e w5 ⟨A5, c5, RA5, RC5, rfl, hM5, hB5⟩
    have B5 := Lib.hid (up_trans B4.out hB5)
    have MA5 := Lib.hid (MA4.out.up hB5)
    have MB5 := Lib.hid (MB4.out.up hB5)
    have MI5 := Lib.hid (MI4.out.up hB5)
    have MX5 := Lib.hid (MX.out.up hB5)
    have MY := Lib.hid hM5
    clear hM5 hB5 B4 MA4 MB4 MI4 MX
    go_wp2_with fail
    refine (inverse_yes MB5.out (ok_sq n1 n2) rfl HI.out.1).mono ?_; rintro e w6 ⟨A6, c6, RA6, RC6, rfl, hM6, hB6⟩
    have B6 := Lib.hid (up_trans B5.out hB6)
    have MA6 := Lib.hid (MA5.out.up hB6)
    have MI6 := Lib.hid (MI5.out.up hB6)
    have MX6 := Lib.hid (MX5.out.up hB6)
    have MY6 := Lib.hid (MY.out.up hB6)
    have MC := Lib.hid hM6
    clear hM6 hB6 B5 MA5 MB5 MI5 MX5 MY
    go_wp2_with fail
    refine (refSame_yes MX6.out MI6.out hn hn (same_mat (m := n) (fun _ _ => rfl) (fun _ _ => rfl) HB.out.2)).mono ?_; rintro e w7 ⟨rfl, q7, rfl⟩
    go_wp2_with fail
    refine (refSame_yes (MY6.out.drewN _) (MI6.out.drewN _) hn hn (same_mat (m := n) (fun r hr => by rw [O.out.2.2.2.2 0 (by omega)]; exact EL.out) (fun _ _ => rfl) HB.out.1)).mono ?_; rintro e w8 ⟨rfl, q8, rfl⟩
    go_wp2_with fail
    refine (refSame_yes (MC.out.drewN _) (MA6.out.drewN _) hn hn (same_mat (m := n) (fun _ _ => rfl) (fun r hr => by rw [O.out.2.2.2.2 r hr]; exact EL.out) HI.out.2)).mono ?_; rintro e w9 ⟨rfl, q9, rfl⟩
    go_wp2
    go_ret
    exact ⟨rfl, below_drewN B6.out _⟩
  · have hk2 : (k != 0) = true := by unfold bne; rw [hk]; rfl
    have B2 := Lib.hid (up_trans B1.out hB2)
    clear hB2 hk
    go_wp2
    go_ret
    exact ⟨rfl, B2.out⟩

/-- a product, or the word that there is none -/
def MulAll (w : World) (n : Nat) (L : Nat → Nat) (F : Nat → Nat → BitVec 8) (n' : Nat) (L' : Nat → Nat) (F' : Nat → Nat → BitVec 8) (e : Ending) (w' : World) : Prop :=
  (MulOk n L n' L' ∧ MadeRet w n (L' 0) (mm n' F F') e w') ∨ (¬ MulOk n L n' L' ∧ FailRet w 1 e w')
theorem mul_all {A A' : Option Addr} {n n' cap cap' : Nat} {L RC L' RC' : Nat → Nat} {RA RA' : Nat → Option Addr} {F F' : Nat → Nat → BitVec 8} {w : World}
    (h : Mt w w.heap.size A n L RA RC F) (h' : Mt w w.heap.size A' n' L' RA' RC' F') (hn : n ≤ 9223372036854775807) (hn' : n' ≤ 9223372036854775807) :
    Calls Try.prog 12 #[.slice A n cap, .slice A' n' cap'] w (MulAll w n L F n' L' F') := by
  by_cases o : MulOk n L n' L'
  · exact (mul_ok h h' o).mono fun _ _ h => .inl ⟨o, h⟩
  · exact (mul_no h h' hn hn' o).mono fun _ _ h => .inr ⟨o, h⟩
theorem ok_rect {n m : Nat} (h1 : 1 ≤ n) (h2 : n ≤ 32) (h3 : 1 ≤ m) (h4 : m ≤ 32) : Ok n (fun _ => m) := ⟨h1, h2, h3, h4, fun _ _ => rfl⟩

set_option maxRecDepth 100000 in
set_option maxHeartbeats 1600000 in
theorem lawBrackets {W : World} (A : Option Addr) (n cap : Nat) (L : Nat → Nat) (RA : Nat → Option Addr) (RC : Nat → Nat) (F : Nat → Nat → BitVec 8)
    (A' : Option Addr) (n' cap' : Nat) (L' : Nat → Nat) (RA' : Nat → Option Addr) (RC' : Nat → Nat) (F' : Nat → Nat → BitVec 8)
    (A'' : Option Addr) (n'' cap'' : Nat) (L'' : Nat → Nat) (RA'' : Nat → Option Addr) (RC'' : Nat → Nat) (F'' : Nat → Nat → BitVec 8)
    (hn : n ≤ 9223372036854775807) (m : Mt W W.heap.size A n L RA RC F) (hn' : n' ≤ 9223372036854775807) (m' : Mt W W.heap.size A' n' L' RA' RC' F') (hn'' : n'' ≤ 9223372036854775807) (m'' : Mt W W.heap.size A'' n'' L'' RA'' RC'' F'') :
    Calls Try.prog 6 #[.slice A n cap, .slice A' n' cap', .slice A'' n'' cap''] W fun e w' => e = .returned (.bool true) ∧ Below W.heap.size W w' := by
  have M := Lib.hid m
  have M' := Lib.hid m'
  have M'' := Lib.hid m''
  clear m m' m''
  go_enter Try.func6, Try.ntmps6
  go_wp2_with fail
  refine (shown_any _).mono ?_; rintro e w1 ⟨rfl, hb1⟩
  have B1 := Lib.hid hb1
  have a1 := Lib.hid (M.out.up hb1)
  have b1 := Lib.hid (M'.out.up hb1)
  have c1 := Lib.hid (M''.out.up hb1)
  clear hb1 M M' M''
  go_wp2_with fail
  refine (mul_all a1.out b1.out hn hn').mono ?_; rintro e w2 (⟨o1, A2, c2, RA2, RC2, rfl, hM2, hB2⟩ | ⟨o1, rfl, hB2⟩)
  · have B2 := Lib.hid (up_trans B1.out hB2)
    have a2 := Lib.hid (a1.out.up hB2)
    have b2 := Lib.hid (b1.out.up hB2)
    have d2 := Lib.hid (c1.out.up hB2)
    have x2 := Lib.hid hM2
    have O1 := Lib.hid o1
    clear hM2 hB2 B1 a1 b1 c1 o1
    go_wp2_with fail
    refine (mul_all b2.out d2.out hn' hn'').mono ?_; rintro e w3 (⟨o2, A3, c3, RA3, RC3, rfl, hM3, hB3⟩ | ⟨o2, rfl, hB3⟩)
    · have B3 := Lib.hid (up_trans B2.out hB3)
      have a3 := Lib.hid (a2.out.up hB3)
      have d3 := Lib.hid (d2.out.up hB3)
      have x3 := Lib.hid (x2.out.up hB3)
      have y3 := Lib.hid hM3
      have O2 := Lib.hid o2
      have n1 := O1.out.1.1
      have n2 := O1.out.1.2.1
      clear hM3 hB3 B2 a2 b2 d2 x2 o2
      go_wp2_with fail
      refine (mul_ok x3.out d3.out ⟨ok_rect n1 n2 O1.out.2.1.2.2.1 O1.out.2.1.2.2.2.1, O2.out.2.1, O2.out.2.2⟩).mono ?_; rintro e w4 ⟨A4, c4, RA4, RC4, rfl, hM4, hB4⟩
      have B4 := Lib.hid (up_trans B3.out hB4)
      have a4 := Lib.hid (a3.out.up hB4)
      have y4 := Lib.hid (y3.out.up hB4)
      have p4 := Lib.hid hM4
      clear hM4 hB4 B3 a3 d3 x3 y3
      go_wp2_with fail
      refine (mul_ok a4.out y4.out ⟨O1.out.1, ok_rect O2.out.1.1 O2.out.1.2.1 O2.out.2.1.2.2.1 O2.out.2.1.2.2.2.1, O1.out.2.2⟩).mono ?_; rintro e w5 ⟨A5, c5, RA5, RC5, rfl, hM5, hB5⟩
      have B5 := Lib.hid (up_trans B4.out hB5)
      have a5 := Lib.hid (a4.out.up hB5)
      have p5 := Lib.hid (p4.out.up hB5)
      have q5 := Lib.hid hM5
      clear hM5 hB5 B4 a4 y4 p4
      go_wp2_with fail
      refine (identity_yes n n1 n2 _).mono ?_; rintro e w6 ⟨A6, c6, RA6, RC6, rfl, hM6, hB6⟩
      have B6 := Lib.hid (up_trans B5.out hB6)
      have a6 := Lib.hid (a5.out.up hB6)
      have p6 := Lib.hid (p5.out.up hB6)
      have q6 := Lib.hid (q5.out.up hB6)
      have i6 := Lib.hid hM6
      clear hM6 hB6 B5 a5 p5 q5
      go_wp2_with fail
      refine (mul_ok i6.out a6.out ⟨ok_sq n1 n2, O1.out.1, rfl⟩).mono ?_; rintro e w7 ⟨A7, c7, RA7, RC7, rfl, hM7, hB7⟩
      have B7 := Lib.hid (up_trans B6.out hB7)
      have a7 := Lib.hid (a6.out.up hB7)
      have p7 := Lib.hid (p6.out.up hB7)
      have q7 := Lib.hid (q6.out.up hB7)
      have z7 := Lib.hid hM7
      clear hM7 hB7 B6 a6 p6 q6 i6
      go_wp2_with fail
      refine (refSame_yes p7.out q7.out hn hn (same_mat (m := L'' 0) (fun _ _ => rfl) (fun _ _ => rfl) (fun r c _ _ => by rw [← O2.out.2.2]; exact mm_assoc _ _ _ _ _ _ _))).mono ?_; rintro e w8 ⟨rfl, k8, rfl⟩
      go_wp2_with fail
      refine (refSame_yes (z7.out.drewN _) (a7.out.drewN _) hn hn (same_mat (m := L 0) (fun _ _ => rfl) (fun r hr => O1.out.1.row hr) (fun r c hr _ => id_mm _ _ hr))).mono ?_; rintro e w9 ⟨rfl, k9, rfl⟩
      go_wp2
      go_ret
      exact ⟨rfl, below_drewN B7.out _⟩
    · have B3 := Lib.hid (up_trans B2.out hB3)
      clear hB3 o2
      go_wp2
      go_ret
      exact ⟨rfl, B3.out⟩
  · have B2 := Lib.hid (up_trans B1.out hB2)
    have b2 := Lib.hid (b1.out.up hB2)
    have d2 := Lib.hid (c1.out.up hB2)
    clear hB2 o1
    go_wp2_with fail
    refine (mul_all b2.out d2.out hn' hn'').mono ?_; rintro e w3 (⟨o2, A3, c3, RA3, RC3, rfl, hM3, hB3⟩ | ⟨o2, rfl, hB3⟩)
    all_goals
      have B3 := Lib.hid (up_trans B2.out hB3)
      clear hB3 o2
      go_wp2
      go_ret
      exact ⟨rfl, B3.out⟩

/-- one row, as a matrix -/
theorem one_mt {w : World} {A : Option Addr} {n cap : Nat} {f : Nat → BitVec 8} (h : Rw w w.heap.size A n f) (hc : n ≤ cap) :
    Mt (w.alloc (.cells #[.slice A n cap] 39)) (w.alloc (.cells #[.slice A n cap] 39)).heap.size (some ⟨w.heap.size, 0, none⟩) 1 (fun _ => n) (fun _ => A) (fun _ => cap) (fun _ c => f c) := fun _ =>
  ⟨_, rfl, by rw [size_alloc]; exact Nat.lt_succ_self _, fun r hr => by
    obtain rfl : r = 0 := by omega
    exact ⟨by rw [add_lit]; exact (has_box w _ _).cell (by omega), hc, h.below ((Below.refl _ _).alloc (Nat.le_refl _) _) (by rw [size_alloc]; omega)⟩⟩
def zer (k : Nat) (f : Nat → BitVec 8) : Bool := decide (∀ i, i < k → f i = 0#8)
theorem zer_next (k : Nat) (f : Nat → BitVec 8) : zer (k + 1) f = (zer k f && (V (f k) == 0)) := by
  unfold zer
  rw [Bool.eq_iff_iff, Bool.and_eq_true, decide_eq_true_iff, decide_eq_true_iff, beq_iff_eq]
  constructor
  · intro h
    exact ⟨fun i hi => h i (by omega), by rw [h k (by omega), V_zero]⟩
  · rintro ⟨h1, h2⟩ i hi
    by_cases e : i = k
    · subst e; exact V_inj (by rw [h2, V_zero])
    · exact h1 i (by omega)

set_option maxRecDepth 100000 in
set_option maxHeartbeats 1600000 in
theorem lawNone {W : World} (A : Option Addr) (n cap : Nat) (L : Nat → Nat) (RA : Nat → Option Addr) (RC : Nat → Nat) (F : Nat → Nat → BitVec 8) (A' : Option Addr) (n' cap' : Nat) (f : Nat → BitVec 8)
    (hn : n ≤ 9223372036854775807) (m : Mt W W.heap.size A n L RA RC F) (hn' : n' ≤ cap' ∧ n' ≤ 9223372036854775807) (m' : Rw W W.heap.size A' n' f) :
    Calls Try.prog 8 #[.slice A n cap, .slice A' n' cap'] W fun e w' => e = .returned (.bool true) ∧ Below W.heap.size W w' := by
  have M := Lib.hid m
  have M' := Lib.hid m'
  obtain ⟨hcap, hn'⟩ := hn'
  clear m m'
  go_enter Try.func8, Try.ntmps8
  go_wp2_with fail
  refine (shown_any _).mono ?_; rintro e w1 ⟨rfl, hb1⟩
  have B1 := Lib.hid hb1
  have M1 := Lib.hid (M.out.up hb1)
  have R1 := Lib.hid (M'.out.below hb1 hb1.size)
  clear hb1 M M'
  go_wp2_with fail
  refine (inverse_all M1.out hn).mono ?_; rintro e w2 (⟨o, eL, hi, A2, c2, RA2, RC2, rfl, hM2, hB2⟩ | ⟨k, hk, rfl, hB2⟩)
  · have B2 := Lib.hid (up_trans B1.out hB2)
    have MA := Lib.hid (M1.out.up hB2)
    have R2 := Lib.hid (R1.out.below hB2 hB2.size)
    by_cases hl : n' = n
    · subst hl
      have e1 : ((n' : Int) != (n' : Int)) = false := by rw [bne_eq_false_iff_eq]
      have n1 := o.1
      have n2 := o.2.1
      have p0 : 0 < n' := o.1
      have hrow := row_none (X := fun _ c => f c) hi
      have O := Lib.hid o
      have EL := Lib.hid eL
      have HR := Lib.hid hrow
      have H1 := Lib.hid (one_mt R2.out hcap)
      have H2 := Lib.hid (MA.out.up ((Below.refl _ _).alloc (Nat.le_refl _) (.cells #[.slice A' n' cap'] 39)))
      have B3 := Lib.hid (up_trans B2.out ((Below.refl _ _).alloc (Nat.le_refl _) (.cells #[.slice A' n' cap'] 39)))
      clear hM2 hB2 B1 M1 o eL hi hrow B2 MA R1
      go_wp2_with fail
      refine (mul_ok H1.out H2.out ⟨ok_rect (by omega) (by omega) n1 n2, O.out, rfl⟩).mono ?_; rintro e w3 ⟨A3, c3, RA3, RC3, rfl, hM3, hB3⟩
      rw [EL.out] at hM3
      obtain ⟨ad, rfl, _, c1, _, hr⟩ := hM3.row (r := 0) (by omega)
      rw [add_zero] at c1
      obtain ⟨ad1, hA1, _, hcs⟩ := hr p0
      rw [hA1] at c1
      have B4 := Lib.hid (up_trans B3.out hB3)
      have R3 := Lib.hid (R2.out.below (((Below.refl _ _).alloc (Nat.le_refl _) (.cells #[.slice A' n' cap'] 39)).trans (hB3.mono (by rw [size_alloc]; omega))) (Nat.le_refl _))
      have HC := Lib.hid hcs
      obtain ⟨ar, rfl, _, hrs⟩ := R3.out p0
      have HRS := Lib.hid hrs
      clear hM3 hB3 hr hA1 hcs hrs H1 H2 B3 R2
      go_wp2
      go_loop [10, 11, 12] (fun z u i => ∃ (k : Nat) (b b' : Bool), k ≤ n' ∧ i = .int .i64 k ∧ z = .bool b ∧ u = .bool b' ∧ Hid (b = zer k (mm n' (fun _ c => f c) F 0) ∧ b' = zer k f)) (fun _ _ i => n' - (intOf i).toNat)
      case atStart => exact ⟨0, true, true, by omega, rfl, rfl, rfl, Lib.hid ⟨(decide_eq_true (fun i hi => absurd hi (by omega))).symm, (decide_eq_true (fun i hi => absurd hi (by omega))).symm⟩⟩
      case round =>
        obtain ⟨k, b, b', hk, rfl, rfl, rfl, hbb⟩ := hrel
        by_cases hlt : k < n'
        · have hkz : (k : Int) < (n' : Int) := by omega
          have d1 := HC.out k hlt
          have d2 := HRS.out k hlt
          cases b <;> cases b'
          all_goals
            go_wp2
            go_round
            case rel =>
              refine ⟨k + 1, _, _, by omega, by go_num, rfl, rfl, Lib.hid ⟨?_, ?_⟩⟩
              · rw [zer_next, ← hbb.out.1]; first | rfl | simp
              · rw [zer_next, ← hbb.out.2]; first | rfl | simp
            case measure => simp [intOf]; omega
        · have hkz : ¬ (k : Int) < (n' : Int) := by omega
          obtain rfl : k = n' := by omega
          have hz : zer k (mm k (fun _ c => f c) F 0) = zer k f := by
            unfold zer
            rw [Bool.eq_iff_iff, decide_eq_true_iff, decide_eq_true_iff]
            exact HR.out
          obtain ⟨rfl, rfl⟩ := hbb.out
          rw [hz]
          go_wp2
          go_ret
          exact ⟨ret_bool (by simp), B4.out⟩
    · have e1 : ((n' : Int) != (n : Int)) = true := by rw [bne_iff_ne]; omega
      clear hM2 hB2 B1 M1 o eL hi hl
      go_wp2
      go_ret
      exact ⟨rfl, B2.out⟩
  · have hk2 : (k != 0) = true := by unfold bne; rw [hk]; rfl
    have B2 := Lib.hid (up_trans B1.out hB2)
    clear hB2 hk
    go_wp2
    go_ret
    exact ⟨rfl, B2.out⟩
end Go.Proofs.Ytkleaibeekgfjaa.Mat
