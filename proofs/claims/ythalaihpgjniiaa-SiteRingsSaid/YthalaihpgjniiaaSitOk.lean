/- What the laws of layer 11 ask of the program's calls, gathered; the document's examples of sites; the law SiteThird: walked from that. -/
import Derived.Test.YthalaihpgjniiaaSitC
namespace Go.Proofs.Ythalaihpgjniiaa.Mat
open Go.RowKit Fld

def I64 (x : Int) : Prop := -9223372036854775808 ≤ x ∧ x ≤ 9223372036854775807
/-- each call of package site answers as the document's -/
structure SiteOk : Prop where
  ring : ∀ (w : World) (vol nodes : Int) (A : Option Addr) (N c : Nat) (f : Nat → Bool), I64 vol → I64 nodes → N ≤ 140737488355328 → Fit A N c → Bl w w.heap.size A N f → Calls Try.prog 11 #[.int .i64 vol, .int .i64 nodes, .slice A N c] w (NumsRet w (rgL (lv f N) vol nodes))
  spread : ∀ (w : World) (vol region many nodes : Int) (A : Option Addr) (N c : Nat) (f : Nat → Bool), I64 vol → I64 region → I64 many → I64 nodes → N ≤ 140737488355328 → Fit A N c → Bl w w.heap.size A N f → Calls Try.prog 13 #[.int .i64 vol, .int .i64 region, .int .i64 many, .int .i64 nodes, .slice A N c] w (PlsRet w (stE (lv f N) vol region many nodes) (stL (lv f N) vol region many nodes))
  third : ∀ (w : World) (a b : Int), I64 a → I64 b → Calls Try.prog 16 #[.int .i64 a, .int .i64 b] w (IntErr w (thE a b) (thR a b))
  next : ∀ (w : World) (l : List (Int × Int)) (nodes : Int) (A B : Option Addr) (c N k : Nat) (f : Nat → Bool), l.length * 16 ≤ 140737488355328 → (∀ r, r < l.length → I64 (pq l r).1 ∧ I64 (pq l r).2) → I64 nodes → N ≤ 140737488355328 → Fit A l.length c → Fit B N k → Pl w w.heap.size A l → Bl w w.heap.size B N f →
    Calls Try.prog 18 #[.slice A l.length c, .int .i64 nodes, .slice B N k] w (PlErr w (nxE (lv f N) l nodes) (nxR (lv f N) l nodes) (nxN (lv f N) l nodes))

theorem bl_four (w : World) : Bl (w.alloc (.cells #[.bool true, .bool true, .bool true, .bool true] 4)) (w.alloc (.cells #[.bool true, .bool true, .bool true, .bool true] 4)).heap.size (some ⟨w.heap.size, 0, none⟩) 4 (fun _ => true) := fun _ => by
  have hh := has_new (n := 4) (f := fun _ => .bool true) w #[.bool true, .bool true, .bool true, .bool true] 4 (fun i hi => by
    rcases (show i = 0 ∨ i = 1 ∨ i = 2 ∨ i = 3 by omega) with rfl | rfl | rfl | rfl <;> rfl)
  refine ⟨_, rfl, hh.lt, fun r hr => ?_⟩
  rw [add_lit]; exact hh.cell hr
theorem shown_ring : rgL (lv (fun _ => true) 4) 5 4 = [1, 2, 3, 0] := by decide +kernel
theorem shown_third : thE 1 3 = 0 ∧ thR 1 3 = 2 := by decide +kernel
set_option maxRecDepth 100000 in
set_option maxHeartbeats 1600000 in
theorem siteShown_any (C : SiteOk) (w : World) : Calls Try.prog 9 #[] w (BoolRet w true) := by
  have c1 := C.ring (w.alloc (.cells #[.bool true, .bool true, .bool true, .bool true] 4)) 5 4 (some ⟨w.heap.size, 0, none⟩) 4 4 (fun _ => true) ⟨by decide, by decide⟩ ⟨by decide, by decide⟩ (by decide) ⟨Nat.le_refl _, fun e => by cases e⟩ (bl_four w)
  have c2 := fun W => C.third W 1 3 ⟨by decide, by decide⟩ ⟨by decide, by decide⟩
  rw [shown_ring] at c1
  rw [shown_third.1, shown_third.2] at c2
  have HB := Lib.hid ((Below.refl w.heap.size w).alloc (Nat.le_refl _) (.cells #[.bool true, .bool true, .bool true, .bool true] 4))
  have C1 := Lib.hid c1
  have C2 := Lib.hid c2
  clear c1 c2 C
  go_enter Try.func9, Try.ntmps9
  go_wp2_with fail
  refine C1.out.mono ?_; rintro e w1 ⟨A1, c1, rfl, hN, hb1⟩
  have HN := Lib.hid hN
  have HB1 := Lib.hid (up_trans HB.out hb1)
  clear hN hb1
  go_wp2_with fail
  refine (C2.out _).mono ?_; rintro e w2 ⟨rfl, hb2⟩
  have HB2 := Lib.hid (up_trans HB1.out hb2)
  obtain ⟨ad, rfl, _, k0⟩ := (HN.out.up hb2).at_ (show 0 < [1, 2, 3, 0].length by decide)
  obtain ⟨ad2, e, _, k3⟩ := (HN.out.up hb2).at_ (show 3 < [1, 2, 3, 0].length by decide)
  injection e with e
  subst e
  rw [add_zero] at k0
  have k0' : w2.cell? ad = some (.int .i64 1) := k0
  rw [addP _ _ (by decide)] at k3
  have k3' : w2.cell? ⟨ad.block, ad.off + 3, none⟩ = some (.int .i64 0) := k3
  clear k0 k3 hb2
  go_wp2
  go_ret
  exact ⟨ret_bool (by first | rfl | decide | simp), HB2.out⟩

set_option maxRecDepth 100000 in
set_option maxHeartbeats 1600000 in
theorem lawThird (C : SiteOk) (a b : Int) (ha : I64 a) (hb : I64 b) (w : World) :
    Calls Try.prog 8 #[.int .i64 a, .int .i64 b] w (BoolRet w true) := by
  have CS := Lib.hid (siteShown_any C)
  have c1 := fun W => C.third W a b ha hb
  have c2 := fun W => C.third W b a hb ha
  cases h : thOk a b
  · obtain ⟨e1, e2⟩ := th_no h
    obtain ⟨e3, e4⟩ := th_no (a := b) (b := a) (thOk_niff.2 (fun q => thOk_niff.1 h ⟨q.2.2.1, q.2.2.2.1, q.1, q.2.1, fun e => q.2.2.2.2 e.symm⟩))
    rw [e1, e2] at c1
    rw [e3, e4] at c2
    have C1 := Lib.hid c1
    have C2 := Lib.hid c2
    clear c1 c2 C h e1 e2 e3 e4 ha hb
    go_enter Try.func8, Try.ntmps8
    go_wp2_with fail
    refine (CS.out _).mono ?_; rintro e w1 ⟨rfl, hb1⟩
    have HB1 := Lib.hid hb1
    clear hb1
    go_wp2_with fail
    refine (C1.out _).mono ?_; rintro e w2 ⟨rfl, hb2⟩
    have HB2 := Lib.hid (up_trans HB1.out hb2)
    clear hb2
    go_wp2_with fail
    refine (C2.out _).mono ?_; rintro e w3 ⟨rfl, hb3⟩
    have HB3 := Lib.hid (up_trans HB2.out hb3)
    clear hb3
    go_wp2
    go_ret
    exact ⟨ret_bool (by first | rfl | decide | simp), HB3.out⟩
  · obtain ⟨e1, e2⟩ := th_yes h
    obtain ⟨a1, a2, a3, a4, a5⟩ := thOk_iff.1 h
    obtain ⟨e3, e4⟩ := th_yes (a := b) (b := a) (thOk_iff.2 ⟨a3, a4, a1, a2, fun e => a5 e.symm⟩)
    have c3 := fun W => C.third W a (6 - a - b) ha ⟨by omega, by omega⟩
    obtain ⟨e5, e6⟩ := th_yes (a := a) (b := 6 - a - b) (thOk_iff.2 ⟨a1, a2, by omega, by omega, by omega⟩)
    rw [e1, e2] at c1
    rw [e3, e4, show 6 - b - a = 6 - a - b by omega] at c2
    rw [e5, e6, show 6 - a - (6 - a - b) = b by omega] at c3
    have hr1 : 6 - a - b ≠ a := by omega
    have hr2 : 6 - a - b ≠ b := by omega
    have hr3 : a + b + (6 - a - b) = 6 := by omega
    generalize 6 - a - b = r at *
    have C1 := Lib.hid c1
    have C2 := Lib.hid c2
    have C3 := Lib.hid c3
    have g1 : (r != a) = true := bne_iff_ne.2 hr1
    have g2 : (r != b) = true := bne_iff_ne.2 hr2
    have g3 : IntKind.i64.wrap (a + b) = a + b := IntWalk.i64_in _ (by omega)
    have g4 : IntKind.i64.wrap (a + b + r) = 6 := by rw [IntWalk.i64_in _ (by omega)]; exact hr3
    clear c1 c2 c3 C h e1 e2 e3 e4 e5 e6 ha hb hr1 hr2 hr3 a5
    go_enter Try.func8, Try.ntmps8
    go_wp2_with fail
    refine (CS.out _).mono ?_; rintro e w1 ⟨rfl, hb1⟩
    have HB1 := Lib.hid hb1
    clear hb1
    go_wp2_with fail
    refine (C1.out _).mono ?_; rintro e w2 ⟨rfl, hb2⟩
    have HB2 := Lib.hid (up_trans HB1.out hb2)
    clear hb2
    go_wp2_with fail
    refine (C2.out _).mono ?_; rintro e w3 ⟨rfl, hb3⟩
    have HB3 := Lib.hid (up_trans HB2.out hb3)
    clear hb3
    go_wp2_with fail
    refine (C3.out _).mono ?_; rintro e w4 ⟨rfl, hb4⟩
    have HB4 := Lib.hid (up_trans HB3.out hb4)
    clear hb4
    go_wp2
    go_ret
    exact ⟨ret_bool (by first | rfl | decide | simp [g4]), HB4.out⟩
end Go.Proofs.Ythalaihpgjniiaa.Mat
