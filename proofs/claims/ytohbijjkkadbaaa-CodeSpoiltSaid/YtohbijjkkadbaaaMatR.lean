/- Matrices that are built by append: the document's own identity, powers, products: walked. -/
import Derived.Test.YtohbijjkkadbaaaMatC
import Derived.Test.YtohbijjkkadbaaaMatF
namespace Go.Proofs.Ytohbijjkkadbaaa.Mat
open Go.RowKit Fld

/-- r rows' values -/
def tls (r m : Nat) (G C : Nat → Nat) : List Value := (List.range r).map fun j => .slice (some ⟨G j, 0, none⟩) m (C j)
theorem tls_length (r m : Nat) (G C : Nat → Nat) : (tls r m G C).length = r := by unfold tls; simp
theorem tls_get {r m : Nat} {G C : Nat → Nat} {i : Nat} (h : i < r) : (tls r m G C)[i]? = some (.slice (some ⟨G i, 0, none⟩) m (C i)) := by unfold tls; simp [h]
def upd (G : Nat → Nat) (r g : Nat) (j : Nat) : Nat := if j = r then g else G j
theorem tls_next (r m g c : Nat) (G C : Nat → Nat) : tls r m G C ++ [.slice (some ⟨g, 0, none⟩) m c] = tls (r + 1) m (upd G r g) (upd C r c) := by
  unfold tls
  rw [List.range_succ, List.map_append]
  congr 1
  · refine List.map_congr_left fun j hj => ?_
    have := List.mem_range.1 hj
    unfold upd; rw [if_neg (by omega), if_neg (by omega)]
  · unfold upd; simp
/-- r rows of m elements are built, at v -/
structure Built (w a : World) (v : Value) (r m : Nat) (G C : Nat → Nat) (X : Nat → Nat → BitVec 8) : Prop where
  own : a.ownsRow w.heap.size 55 1 v r (tls r m G C)
  row : ∀ j, j < r → w.heap.size ≤ G j ∧ m ≤ C j ∧ Has a (G j) 5 m (fun c => .int .u8 (V (X j c)))
  inj : ∀ i j, i < r → j < r → G i = G j → i = j
  below : Below w.heap.size w a
theorem grownBy_of_below {a b : World} (h : Below a.heap.size a b) (row : Option Nat) : a.grownBy b row := ⟨h.os, h.tape, h.output, h.size, fun k hk _ => h.block k hk⟩
section
variable {w a b : World} {v : Value} {r m : Nat} {G C : Nat → Nat} {X : Nat → Nat → BitVec 8}
theorem Built.start (w : World) (m : Nat) (G C) (X) : Built w w (.slice none 0 0) 0 m G C X :=
  ⟨World.ownsRow_nil _ _ _ _, fun j hj => absurd hj (by omega), fun i j hi _ _ => absurd hi (by omega), Below.refl _ _⟩
theorem Built.start_of (h : Below w.heap.size w a) (m : Nat) (G C) (X) : Built w a (.slice none 0 0) 0 m G C X :=
  ⟨World.ownsRow_nil _ _ _ _, fun j hj => absurd hj (by omega), fun i j hi _ _ => absurd hi (by omega), h⟩
theorem Built.under (h : Built w a v r m G C X) (hb : Below a.heap.size a b) : Built w b v r m G C X :=
  ⟨h.own.kept (grownBy_of_below hb none) (by cases hv : v.ownBlock <;> simp), fun j hj => ⟨(h.row j hj).1, (h.row j hj).2.1, (h.row j hj).2.2.below hb (h.row j hj).2.2.lt⟩, h.inj, h.below.trans (hb.mono h.below.size)⟩
theorem has_ne_own {t n : Nat} {f : Nat → Value} {base e size k : Nat} {u : Value} {xs : List Value} {g : Nat} (h : Has a g t n f) (ho : a.ownsRow base e size u k xs) (hne : t ≠ e) : some g ≠ u.ownBlock := by
  obtain ⟨c, lo, hi', hb, _⟩ := h
  rcases ho.2 with ⟨rfl, _⟩ | ⟨g', cap, cur, rfl, _, hh, _⟩
  · simp [Value.ownBlock]
  · intro he
    have : g = g' := by simpa [Value.ownBlock] using he
    subst this
    rw [hb] at hh
    injection hh with hh
    injection hh with _ ht _
    exact hne ht
/-- a row more -/
theorem Built.next (h : Built w a v r m G C X) {g cap : Nat} {o : Obj} {v' : Value} (hb : Below a.heap.size a b) (hr : Has b g 5 m (fun c => .int .u8 (V (X r c)))) (hg : a.heap.size ≤ g) (hc : m ≤ cap) {w' : World}
    (hown : w'.ownsRow w.heap.size 55 1 v' (r + 1) (tls r m G C ++ [.slice (some ⟨g, 0, none⟩) m cap])) (hgrow : (b.alloc o).grownBy w' v.ownBlock) :
    Built w w' v' (r + 1) m (upd G r g) (upd C r cap) X := by
  have hB := (h.under hb)
  have hA := hB.own.alloc o
  rw [tls_next] at hown
  have keep : ∀ {g n f}, Has b g 5 n f → Has w' g 5 n f := fun hh => (hh.alloc o).grown hgrow (has_ne_own (hh.alloc o) hA (by decide))
  have far : ∀ i, i < r → G i ≠ g := fun i hi e => by have := (h.row i hi).2.2.lt; omega
  refine ⟨hown, fun j hj => ?_, fun i j hi hj e => ?_, ?_⟩
  · unfold upd
    by_cases e : j = r
    · subst e
      simp only [if_true]
      exact ⟨by have := h.below.size; omega, hc, keep hr⟩
    · simp only [if_neg e]
      obtain ⟨q1, q2, q3⟩ := hB.row j (by omega)
      exact ⟨q1, q2, keep q3⟩
  · unfold upd at e
    by_cases e1 : i = r <;> by_cases e2 : j = r
    · omega
    · rw [if_pos e1, if_neg e2] at e; exact absurd e.symm (far j (by omega))
    · rw [if_neg e1, if_pos e2] at e; exact absurd e (far i (by omega))
    · rw [if_neg e1, if_neg e2] at e; exact h.inj i j (by omega) (by omega) e
  · exact (hB.below.alloc hB.below.size o).grown hgrow (by rw [size_alloc]; have := hB.below.size; omega) (fun k hk => (hB.own.lt k hk).1)
/-- what is built, as it is read -/
theorem Built.mt (h : Built w a v r m G C X) (hr : 0 < r) : ∃ g cap, v = .slice (some ⟨g, 0, none⟩) r cap ∧ Mt a a.heap.size (some ⟨g, 0, none⟩) r (fun _ => m) (fun j => some ⟨G j, 0, none⟩) C X ∧
    Own a w.heap.size g r m G C X := by
  obtain ⟨g, cap, rfl, hg, hlt⟩ := h.own.form hr
  obtain ⟨b, hb, hb1, _, _, hb3⟩ := Has.of_owns h.own hr (f := fun j => .slice (some ⟨G j, 0, none⟩) m (C j)) (fun i hi => tls_get hi)
  injection hb with hb
  injection hb with hb _
  subst hb
  exact ⟨g, cap, rfl, Mt.of_has hb3 hlt (fun j hj => ⟨(h.row j hj).2.2.lt, (h.row j hj).2.1, (h.row j hj).2.2⟩), hb3, hg, h.row, h.inj⟩
end
/-- an element more: what append leaves of a row -/
theorem vals_next (k : Nat) (f : Nat → BitVec 8) : vals k f ++ [.int .u8 (V (f k))] = vals (k + 1) f := by
  unfold vals; rw [List.range_succ, List.map_append]; rfl
theorem row_next {a b w' : World} {v v' : Value} {k : Nat} {f : Nat → BitVec 8} {o : Obj} (hb : Below a.heap.size a b) (hown : b.ownsRow a.heap.size 5 1 v k (vals k f))
    (hown' : w'.ownsRow a.heap.size 5 1 v' (k + 1) (vals k f ++ [.int .u8 (V (f k))])) (hgrow : (b.alloc o).grownBy w' v.ownBlock) :
    Below a.heap.size a w' ∧ w'.ownsRow a.heap.size 5 1 v' (k + 1) (vals (k + 1) f) := by
  rw [vals_next] at hown'
  exact ⟨(hb.alloc hb.size o).grown hgrow (by rw [size_alloc]; have := hb.size; omega) (fun g hg => (hown.lt g hg).1), hown'⟩
/-- a row that is whole -/
theorem row_end {a b : World} {v : Value} {k : Nat} {f : Nat → BitVec 8} (hk : 0 < k) (h : b.ownsRow a.heap.size 5 1 v k (vals k f)) :
    ∃ g cap, v = .slice (some ⟨g, 0, none⟩) k cap ∧ a.heap.size ≤ g ∧ k ≤ cap ∧ Has b g 5 k (fun c => .int .u8 (V (f c))) := by
  obtain ⟨g, cap, rfl, hg, hlt⟩ := h.form hk
  obtain ⟨b', hb, hb1, hb2, _, hb3⟩ := Has.of_owns h hk (f := fun c => .int .u8 (V (f c))) (fun i hi => vals_get hi)
  injection hb with hb
  injection hb with hb _
  subst hb
  exact ⟨g, cap, rfl, hg, hb2, hb3⟩
theorem one_news {w : World} (u : Value) (t : TypeId) : ∀ j x, ([u] : List Value)[j]? = some x → (w.alloc (.cells #[u] t)).cell? ((⟨w.heap.size, 0, none⟩ : Addr).add j) = some x := by
  intro j x hx
  have hj : j = 0 := by
    rcases Nat.eq_zero_or_pos j with h | h
    · exact h
    · rw [List.getElem?_eq_none (by simp; omega)] at hx; cases hx
  subst hj
  rw [add_zero, (has_box w u t).cell (by omega)]
  simpa using hx

/-- a call has answered what it built, and no error -/
def BuiltRet (w : World) (n m : Nat) (X : Nat → Nat → BitVec 8) (e : Ending) (w' : World) : Prop := ∃ v G C, e = .returned (.tuple #[v, .int .i64 0]) ∧ Built w w' v n m G C X
theorem BuiltRet.made {w : World} {n m : Nat} {X : Nat → Nat → BitVec 8} {e : Ending} {w' : World} (h : BuiltRet w n m X e w') (hn : 0 < n) : MadeRet w n m X e w' := by
  obtain ⟨v, G, C, rfl, hB⟩ := h
  obtain ⟨g, cap, rfl, hM, _⟩ := hB.mt hn
  exact ⟨_, _, _, _, rfl, hM, hB.below⟩

set_option maxRecDepth 100000 in
set_option maxHeartbeats 800000 in
theorem refIdentity_yes (n : Nat) (h1 : 1 ≤ n) (hn : n ≤ 32) (w : World) :
    Calls Try.prog 57 #[.int .i64 (n : Int)] w (BuiltRet w n n idm) := by
  obtain ⟨i0, hi, hz0, hz1, hz2⟩ := info_parts infoRow
  have hmk := run_make_row' (P := Try.prog) 55 5 (.int .u8 0) 1 Try.underlying55 infoByte rfl .i64 .i64 n (by omega) (by omega)
  have g1 : decide ((n : Int) < 1) = false := by simp; omega
  have g2 : decide ((32 : Int) < (n : Int)) = false := by simp; omega
  go_enter Try.func57, Try.ntmps57
  go_wp2
  go_loopg [4, 5] n (fun gh v i wr => ∃ r G C, r ≤ n ∧ gh = n - r ∧ i = .int .i64 (r : Nat) ∧ Built w wr v r n G C idm)
  case atStart => exact ⟨0, _, _, Nat.zero_le _, rfl, rfl, Built.start w n (fun _ => 0) (fun _ => 0) idm⟩
  case round =>
    obtain ⟨r, G, C, hr, rfl, rfl, hB⟩ := hrel
    by_cases hrn : r < n
    · have hrz : (r : Int) < (n : Int) := by omega
      have HB := Lib.hid hB
      have hs := hB.below.size
      clear hB
      have mk : (madeCells #[.int .u8 0] n)[r]? = some (.int .u8 0) := by simp [madeCells, hrn, Nat.mod_one]
      go_upto_region 9 with fail
      generalize hwb : wr.alloc (.cells ((madeCells #[.int .u8 0] n).setIfInBounds r (.int .u8 1)) 5) = b
      have hb : Below wr.heap.size wr b := by subst hwb; exact (Below.refl _ _).alloc (Nat.le_refl _) _
      have hh : Has b wr.heap.size 5 n (fun c => .int .u8 (V (idm r c))) := by
        subst hwb
        refine has_new wr _ _ (fun c hc => ?_)
        rw [Array.getElem?_setIfInBounds]
        show _ = some (Value.int .u8 (V (idm r c)))
        by_cases e : c = r
        · subst e; rw [if_pos rfl, idm_same, V_one]; simp [madeCells, hc]
        · rw [if_neg (fun e' => e e'.symm), idm_ne (fun e' => e e'.symm), V_zero]; simp [madeCells, hc, Nat.mod_one]
      have HB2 := Lib.hid (HB.out.under hb)
      have Hb := Lib.hid hb
      have HH := Lib.hid hh
      clear hwb hb hh mk
      go_wp2_with (at_builtin; refine wpList_append_own _ rfl (.tmp 23) (.tmp 25) 23 rfl w.heap.size 55 i0 (.slice none 0 0) 1 24 Try.underlying23 hi hz0 hz1 hz2 rfl (by decide) _ _ _ rfl (HB2.out.own.alloc _) ⟨b.heap.size, 0, none⟩ 1 1 [.slice (some ⟨wr.heap.size, 0, none⟩) n n] rfl rfl (one_news _ _) (by simp [Value.oneCell']) (by unfold maxLen; omega) (by omega) (by rw [size_alloc]; have := HB2.out.below.size; omega) ?_)
      intro v' w' hown hgrow _
      have HN := Lib.hid (HB.out.next Hb.out HH.out (Nat.le_refl _) (Nat.le_refl _) hown hgrow)
      clear hown hgrow
      go_wp2
      go_roundg (n - (r + 1))
      case measure => go_light; omega
      case rel => go_light; exact ⟨r + 1, _, _, by omega, rfl, by simp, HN.out⟩
    · have hrz : ¬ (r : Int) < (n : Int) := by omega
      obtain rfl : r = n := by omega
      have HB := Lib.hid hB
      clear hB
      go_wp2
      go_ret2
      exact ⟨_, _, _, rfl, HB.out⟩

set_option maxRecDepth 100000 in
theorem refIdentity_no (n : Int) (h1 : n < 1 ∨ 32 < n) (w : World) :
    Calls Try.prog 57 #[.int .i64 n] w (FailRet w 1) := by
  by_cases h : n < 1
  · have g1 : decide ((n : Int) < 1) = true := by simpa using h
    clear h h1
    go_enter Try.func57, Try.ntmps57
    go_wp2
    go_ret2
    exact ⟨rfl, Below.refl _ _⟩
  · have g1 : decide ((n : Int) < 1) = false := by simpa using h
    have g2 : decide ((32 : Int) < n) = true := by simp; omega
    clear h h1
    go_enter Try.func57, Try.ntmps57
    go_wp2
    go_ret2
    exact ⟨rfl, Below.refl _ _⟩

set_option maxRecDepth 100000 in
set_option maxHeartbeats 1600000 in
theorem refPowers_yes (n m : Nat) (h1 : 1 ≤ n) (hn : n ≤ 32) (h2 : 1 ≤ m) (hm : m ≤ 32) (w : World) :
    Calls Try.prog 31 #[.int .i64 (n : Int), .int .i64 (m : Int)] w (BuiltRet w n m pwm) := by
  obtain ⟨i0, hi, hz0, hz1, hz2⟩ := info_parts infoRow
  obtain ⟨j0, ji, jz0, jz1, jz2⟩ := info_parts infoByte
  have g1 : decide ((n : Int) < 1) = false := by simp; omega
  have g2 : decide ((32 : Int) < (n : Int)) = false := by simp; omega
  have g3 : decide ((m : Int) < 1) = false := by simp; omega
  have g4 : decide ((32 : Int) < (m : Int)) = false := by simp; omega
  go_enter Try.func31, Try.ntmps31
  go_wp2
  clear g1 g2 g3 g4
  go_loopg [6, 7] n (fun gh v i wr => ∃ r G C, r ≤ n ∧ gh = n - r ∧ i = .int .i64 (r : Nat) ∧ Built w wr v r m G C pwm)
  case atStart => exact ⟨0, _, _, Nat.zero_le _, rfl, rfl, Built.start w m (fun _ => 0) (fun _ => 0) pwm⟩
  case round =>
    obtain ⟨r, G, C, hr, rfl, rfl, hB⟩ := hrel
    by_cases hrn : r < n
    · have hrz : (r : Int) < (n : Int) := by omega
      have HB := Lib.hid hB
      have hs := hB.below.size
      clear hB
      go_wp2_with fail
      obtain ⟨wo, rfl⟩ : ∃ wo : World, wo = wr := ⟨_, rfl⟩
      go_loopg [8, 9] m (fun gh v i wi => ∃ c : Nat, c ≤ m ∧ gh = m - c ∧ i = .int .i64 c ∧ Below wo.heap.size wo wi ∧ wi.ownsRow wo.heap.size 5 1 v c (vals c (pwm r)))
      case atStart => exact ⟨0, Nat.zero_le _, rfl, rfl, Below.refl _ _, World.ownsRow_nil _ _ _ _⟩
      case round =>
        obtain ⟨c, hc, rfl, rfl, hI, hO⟩ := hrel
        have HI := Lib.hid hI
        have HO := Lib.hid hO
        clear hI hO
        by_cases hcm : c < m
        · have hcz : (c : Int) < (m : Int) := by omega
          have e1 : V (pw (B (r : Int)) c) = V (pwm r c) := by unfold pwm; rw [B_nat]
          have E1 := Lib.hid e1; clear e1
          go_wp2_with fail
          refine (refPow_any _ _ (by omega) (by omega) (by omega) _).mono ?_; rintro e w' ⟨rfl, rfl⟩
          rw [E1.out]
          go_wp2_with (at_builtin; refine wpList_append_own _ rfl (.tmp 34) (.tmp 40) 55 rfl wo.heap.size 5 j0 (.int .u8 0) 1 1 Try.underlying55 ji jz0 jz1 jz2 rfl (by decide) _ _ _ rfl (HO.out.alloc _) ⟨wr.heap.size, 0, none⟩ 1 1 [.int .u8 (V (pwm r c))] rfl rfl (one_news _ _) (by simp [Value.oneCell']) (by unfold maxLen; omega) (by omega) (by rw [size_alloc]; have := HI.out.size; omega) ?_)
          intro v' w' hown hgrow _
          have HN := Lib.hid (row_next HI.out HO.out hown hgrow)
          clear hown hgrow
          go_wp2
          go_roundg (m - (c + 1))
          case measure => go_light; omega
          case rel => go_light; exact ⟨c + 1, by omega, rfl, by simp, HN.out.1, HN.out.2⟩
        · have hcz : ¬ (c : Int) < (m : Int) := by omega
          obtain rfl : c = m := by omega
          obtain ⟨g, cap, rfl, hg, hcp, hH⟩ := row_end (by omega) HO.out
          have HB2 := Lib.hid (HB.out.under HI.out)
          have HH := Lib.hid hH
          clear hH
          go_wp2_with (at_builtin; refine wpList_append_own _ rfl (.tmp 42) (.tmp 44) 23 rfl w.heap.size 55 i0 (.slice none 0 0) 1 24 Try.underlying23 hi hz0 hz1 hz2 rfl (by decide) _ _ _ rfl (HB2.out.own.alloc _) ⟨wr.heap.size, 0, none⟩ 1 1 [.slice (some ⟨g, 0, none⟩) c cap] rfl rfl (one_news _ _) (by simp [Value.oneCell']) (by unfold maxLen; omega) (by omega) (by rw [size_alloc]; have := HB2.out.below.size; omega) ?_)
          intro v' w' hown hgrow _
          have HN := Lib.hid (HB.out.next HI.out HH.out hg hcp hown hgrow)
          clear hown hgrow
          go_wp2
          go_roundg (n - (r + 1))
          case measure => go_light; omega
          case rel => go_light; exact ⟨r + 1, _, _, by omega, rfl, by simp, HN.out⟩
    · have hrz : ¬ (r : Int) < (n : Int) := by omega
      obtain rfl : r = n := by omega
      have HB := Lib.hid hB
      clear hB
      go_wp2
      go_ret2
      exact ⟨_, _, _, rfl, HB.out⟩

set_option maxRecDepth 100000 in
theorem refPowers_no (n m : Int) (h1 : (n < 1 ∨ 32 < n) ∨ (m < 1 ∨ 32 < m)) (w : World) :
    Calls Try.prog 31 #[.int .i64 n, .int .i64 m] w (FailRet w 1) := by
  by_cases a1 : n < 1
  · have g1 : decide ((n : Int) < 1) = true := by simpa using a1
    clear a1 h1
    go_enter Try.func31, Try.ntmps31
    go_wp2
    go_ret2
    exact ⟨rfl, Below.refl _ _⟩
  · have g1 : decide ((n : Int) < 1) = false := by simpa using a1
    by_cases a2 : 32 < n
    · have g2 : decide ((32 : Int) < n) = true := by simpa using a2
      clear a1 a2 h1
      go_enter Try.func31, Try.ntmps31
      go_wp2
      go_ret2
      exact ⟨rfl, Below.refl _ _⟩
    · have g2 : decide ((32 : Int) < n) = false := by simpa using a2
      by_cases a3 : m < 1
      · have g3 : decide ((m : Int) < 1) = true := by simpa using a3
        clear a1 a2 a3 h1
        go_enter Try.func31, Try.ntmps31
        go_wp2
        go_ret2
        exact ⟨rfl, Below.refl _ _⟩
      · have g3 : decide ((m : Int) < 1) = false := by simpa using a3
        have g4 : decide ((32 : Int) < m) = true := by simp; omega
        clear a1 a2 a3 h1
        go_enter Try.func31, Try.ntmps31
        go_wp2
        go_ret2
        exact ⟨rfl, Below.refl _ _⟩
end Go.Proofs.Ytohbijjkkadbaaa.Mat
