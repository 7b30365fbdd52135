/- The document's Spread and Third: walked. -/
import Derived.Test.YthalaihpgjniiaaSitA
namespace Go.Proofs.Ythalaihpgjniiaa.Mat
open Go.RowKit Fld

theorem two_newsP {w : World} (x y : Value) (t : TypeId) : ∀ j u, ([x, y] : List Value)[j]? = some u → (w.alloc (.cells #[x, y] t)).cell? ((⟨w.heap.size, 0, none⟩ : Addr).add j) = some u := by
  intro j u hu
  have hj : j = 0 ∨ j = 1 := by
    rcases Nat.lt_or_ge j 2 with h | h
    · omega
    · rw [List.getElem?_eq_none (by simp; omega)] at hu; cases hu
  have hh := has_new (n := 2) (f := fun j => if j = 0 then x else y) w #[x, y] t (fun j hj => by
    have : j = 0 ∨ j = 1 := by omega
    rcases this with rfl | rfl <;> rfl)
  rw [add_lit]
  rcases hj with rfl | rfl
  · rw [hh.cell (by omega)]; simpa using hu
  · rw [hh.cell (by omega)]; simpa using hu
section
variable {w : World} {A B : Option Addr} {c k : Nat}
set_option maxRecDepth 100000 in
set_option maxHeartbeats 3200000 in
theorem refSpread_any (vol region many nodes : Int) (hmany : many ≤ 9223372036854775807) (N : Nat) (f : Nat → Bool) (h : Bl w w.heap.size A N f) :
    Calls Try.prog 14 #[.int .i64 vol, .int .i64 region, .int .i64 many, .int .i64 nodes, .slice A N c] w (PlsRet w (stE (lv f N) vol region many nodes) (stL (lv f N) vol region many nodes)) := by
  obtain ⟨i0, hi0, hz0, hz1, hz2⟩ := info_parts infoPlace
  have no : ¬ (1 ≤ region ∧ region ≤ 3 ∧ 0 ≤ many ∧ 0 ≤ vol ∧ 1 ≤ nodes ∧ nodes ≤ 64) → PlsRet w (stE (lv f N) vol region many nodes) (stL (lv f N) vol region many nodes) (.returned (.tuple #[.slice none 0 0, .int .i64 1])) w := fun q => by
    obtain ⟨e1, e2⟩ := st_bad (p := lv f N) (decide_eq_false q : spOk vol region many nodes = false)
    rw [e1, e2]
    exact ⟨none, 0, rfl, fun hh => absurd hh (Nat.lt_irrefl _), Below.refl _ _⟩
  have NO := Lib.hid no
  clear no
  by_cases b0 : region < 1
  · have Q := Lib.hid (NO.out (fun q => by omega))
    clear h NO
    go_enter Try.func14, Try.ntmps14
    go_wp2
    go_ret2
    exact Q.out
  by_cases b1 : 3 < region
  · have Q := Lib.hid (NO.out (fun q => by omega))
    clear h NO
    go_enter Try.func14, Try.ntmps14
    go_wp2
    go_ret2
    exact Q.out
  by_cases b2 : many < 0
  · have Q := Lib.hid (NO.out (fun q => by omega))
    clear h NO
    go_enter Try.func14, Try.ntmps14
    go_wp2
    go_ret2
    exact Q.out
  by_cases b3 : vol < 0
  · have Q := Lib.hid (NO.out (fun q => by omega))
    clear h NO
    go_enter Try.func14, Try.ntmps14
    go_wp2
    go_ret2
    exact Q.out
  by_cases b4 : nodes < 1
  · have Q := Lib.hid (NO.out (fun q => by omega))
    clear h NO
    go_enter Try.func14, Try.ntmps14
    go_wp2
    go_ret2
    exact Q.out
  by_cases b5 : 64 < nodes
  · have Q := Lib.hid (NO.out (fun q => by omega))
    clear h NO
    go_enter Try.func14, Try.ntmps14
    go_wp2
    go_ret2
    exact Q.out
  have hok : spOk vol region many nodes = true := decide_eq_true ⟨by omega, by omega, by omega, by omega, by omega, by omega⟩
  obtain ⟨m, rfl⟩ := Int.eq_ofNat_of_zero_le (show 0 ≤ many by omega)
  have hlen := rgL_len (lv f N) vol nodes
  have few := fun q => st_few (p := lv f N) (many := (m : Int)) hok q
  have yes := fun q => st_yes (p := lv f N) (many := (m : Int)) hok q
  have c1 := fun W (hb : Below w.heap.size w W) => refRing_any (w := W) (c := c) vol nodes N f (h.up hb)
  generalize rgL (lv f N) vol nodes = l at *
  generalize stE (lv f N) vol region (m : Int) nodes = E at *
  generalize stL (lv f N) vol region (m : Int) nodes = L at *
  have C1 := Lib.hid c1
  clear c1 h NO
  by_cases hf : (l.length : Int) < (m : Int)
  · obtain ⟨rfl, rfl⟩ := few hf
    clear few yes hok
    go_enter Try.func14, Try.ntmps14
    go_wp2_with fail
    refine (C1.out _ (Below.refl _ _)).mono ?_; rintro e w1 ⟨A1, c1, rfl, hN, hb1⟩
    have HB := Lib.hid hb1
    clear hN hb1
    go_wp2
    go_ret2
    exact ⟨none, 0, rfl, fun hh => absurd hh (Nat.lt_irrefl _), HB.out⟩
  obtain ⟨rfl, rfl⟩ := yes hf
  rw [Int.toNat_natCast]
  have hml : m ≤ l.length := by omega
  have hnf : ¬ l.length < m := by omega
  have hLl : (l.map (fun (n : Nat) => (region, (n : Int)))).length = l.length := List.length_map _
  have hLa : ∀ j (hj : j < l.length), (l.map (fun (n : Nat) => (region, (n : Int))))[j]? = some (region, ((l[j] : Nat) : Int)) := fun j hj => by rw [List.getElem?_map, List.getElem?_eq_getElem hj]; rfl
  generalize l.map (fun (n : Nat) => (region, (n : Int))) = L at *
  have HLL := Lib.hid hLl
  have HLA := Lib.hid hLa
  clear few yes hok hLl hLa
  go_enter Try.func14, Try.ntmps14
  go_wp2_with fail
  refine (C1.out _ (Below.refl _ _)).mono ?_; rintro e w1 ⟨A1, c1, rfl, hN, hb1⟩
  have HB := Lib.hid hb1
  have HN1 := Lib.hid hN
  clear hN hb1
  go_wp2
  go_loopg [13, 14] m (fun gh y x wr => ∃ (j : Nat) (vv : Value), j ≤ m ∧ gh = m - j ∧ vv = y ∧ PRow w1 wr vv (L.take j) ∧ x = .int .i64 (j : Nat))
  case atStart => exact ⟨0, _, Nat.zero_le _, rfl, rfl, PRow.start w1, rfl⟩
  case round =>
    obtain ⟨j, vv, hj, hgh, hvv, hch, rfl⟩ := hrel
    subst hvv
    have HCH := Lib.hid hch
    clear hch
    by_cases hlt : j < m
    rotate_left
    · have hjz : ¬ (j : Int) < (m : Int) := by omega
      obtain rfl : j = m := by omega
      obtain ⟨A9, c9, rfl, hN⟩ := HCH.out.pl
      have HN := Lib.hid hN
      clear hN
      generalize L.take j = L' at *
      go_wp2
      go_ret2
      exact ⟨A9, c9, rfl, HN.out, up_trans HB.out HCH.out.below⟩
    have hjz : (j : Int) < (m : Int) := by omega
    have hjl : j < l.length := by omega
    have hjlz : (j : Int) < (l.length : Int) := by omega
    obtain ⟨ad, e, _, k0⟩ := (HN1.out.up HCH.out.below).at_ hjl
    subst e
    have hT : Hid (L.take (j + 1) = L.take j ++ [(region, ((l[j] : Nat) : Int))]) := Lib.hid (by
      rw [List.take_add_one, HLA.out j hjl]; rfl)
    have HLEN : Hid ((L.take j).length ≤ 64) := Lib.hid (by
      rw [List.length_take, HLL.out]; omega)
    generalize l[j] = nd at *
    generalize hL : L.take j = L' at *
    clear hL
    go_wp2_with (at_builtin; refine wpList_append_own _ rfl (.tmp 50) (.tmp 57) 29 rfl w1.heap.size 44 i0 (.agg #[.int .i64 0, .int .i64 0]) 2 16 Try.underlying29 hi0 hz0 hz1 hz2 rfl (by decide) _ _ _ rfl (HCH.out.own.alloc _) ⟨wr.heap.size, 0, none⟩ 1 1 [.int .i64 region, .int .i64 (nd : Int)] rfl rfl (two_newsP _ _ _) (by simp [Value.oneCell']) (by have := HLEN.out; unfold maxLen; omega) (by have := HLEN.out; omega) (by rw [size_alloc]; have := HCH.out.below.size; omega) ?_)
    intro v' w' hown hgrow _
    have HN := Lib.hid (HCH.out.next (p := (region, (nd : Int))) hown hgrow)
    clear hown hgrow
    go_wp2
    go_roundg (m - (j + 1))
    case measure => go_light; omega
    case rel => go_light; exact ⟨j + 1, _, by omega, rfl, rfl, by rw [hT.out]; exact HN.out, by simp⟩

set_option maxRecDepth 100000 in
set_option maxHeartbeats 1600000 in
theorem refThird_any (a b : Int) (w : World) : Calls Try.prog 17 #[.int .i64 a, .int .i64 b] w (IntErr w (thE a b) (thR a b)) := by
  have no : ¬ (1 ≤ a ∧ a ≤ 3 ∧ 1 ≤ b ∧ b ≤ 3 ∧ a ≠ b) → IntErr w (thE a b) (thR a b) (.returned (.tuple #[.int .i64 0, .int .i64 1])) w := fun q => by
    obtain ⟨e1, e2⟩ := th_no (thOk_niff.2 q)
    rw [e1, e2]
    exact ⟨rfl, Below.refl _ _⟩
  have NO := Lib.hid no
  clear no
  by_cases b0 : a < 1
  · have Q := Lib.hid (NO.out (fun q => by omega))
    clear NO
    go_enter Try.func17, Try.ntmps17
    go_wp2
    go_ret2
    exact Q.out
  by_cases b1 : 3 < a
  · have Q := Lib.hid (NO.out (fun q => by omega))
    clear NO
    go_enter Try.func17, Try.ntmps17
    go_wp2
    go_ret2
    exact Q.out
  by_cases b2 : b < 1
  · have Q := Lib.hid (NO.out (fun q => by omega))
    clear NO
    go_enter Try.func17, Try.ntmps17
    go_wp2
    go_ret2
    exact Q.out
  by_cases b3 : 3 < b
  · have Q := Lib.hid (NO.out (fun q => by omega))
    clear NO
    go_enter Try.func17, Try.ntmps17
    go_wp2
    go_ret2
    exact Q.out
  by_cases b4 : a = b
  · have Q := Lib.hid (NO.out (fun q => by omega))
    clear NO
    subst b4
    go_enter Try.func17, Try.ntmps17
    go_wp2
    go_ret2
    exact Q.out
  obtain ⟨e1, e2⟩ := th_yes (a := a) (b := b) (thOk_iff.2 ⟨by omega, by omega, by omega, by omega, b4⟩)
  have hab : (a = 1 ∧ b = 2) ∨ (a = 1 ∧ b = 3) ∨ (a = 2 ∧ b = 1) ∨ (a = 2 ∧ b = 3) ∨ (a = 3 ∧ b = 1) ∨ (a = 3 ∧ b = 2) := by omega
  rw [e1, e2]
  clear NO e1 e2 b0 b1 b2 b3 b4
  rcases hab with ⟨rfl, rfl⟩ | ⟨rfl, rfl⟩ | ⟨rfl, rfl⟩ | ⟨rfl, rfl⟩ | ⟨rfl, rfl⟩ | ⟨rfl, rfl⟩
  · go_enter Try.func17, Try.ntmps17
    go_wp2
    refine wp_loop_rounds 4 ?_
    rw [rounds_succ]
    go_wp2
    rw [rounds_succ]
    go_wp2
    rw [rounds_succ]
    go_wp2
    go_ret2
    exact ⟨rfl, Below.refl _ _⟩
  · go_enter Try.func17, Try.ntmps17
    go_wp2
    refine wp_loop_rounds 4 ?_
    rw [rounds_succ]
    go_wp2
    rw [rounds_succ]
    go_wp2
    go_ret2
    exact ⟨rfl, Below.refl _ _⟩
  · go_enter Try.func17, Try.ntmps17
    go_wp2
    refine wp_loop_rounds 4 ?_
    rw [rounds_succ]
    go_wp2
    rw [rounds_succ]
    go_wp2
    rw [rounds_succ]
    go_wp2
    go_ret2
    exact ⟨rfl, Below.refl _ _⟩
  · go_enter Try.func17, Try.ntmps17
    go_wp2
    refine wp_loop_rounds 4 ?_
    rw [rounds_succ]
    go_wp2
    go_ret2
    exact ⟨rfl, Below.refl _ _⟩
  · go_enter Try.func17, Try.ntmps17
    go_wp2
    refine wp_loop_rounds 4 ?_
    rw [rounds_succ]
    go_wp2
    rw [rounds_succ]
    go_wp2
    go_ret2
    exact ⟨rfl, Below.refl _ _⟩
  · go_enter Try.func17, Try.ntmps17
    go_wp2
    refine wp_loop_rounds 4 ?_
    rw [rounds_succ]
    go_wp2
    go_ret2
    exact ⟨rfl, Below.refl _ _⟩
end
end Go.Proofs.Ythalaihpgjniiaa.Mat
