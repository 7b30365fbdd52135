/- What the program's Next calls: places of one region, whether a place is among places, closures of places: walked. -/
import Derived.Test.YthalaihpgjniiaaSipC
namespace Go.Proofs.Ythalaihpgjniiaa.Mat
open Go.RowKit Go.Shelf Fld

theorem below_of_drew {w w' : World} (h : Below w.drew.heap.size w.drew w') : Below w.heap.size w w' := ⟨h.os, h.tape, h.output, h.size, h.block⟩
/-- a place's two cells -/
def pl2 (r n : Int) (i : Nat) : Value := if i = 0 then .int .i64 r else .int .i64 n
theorem has_pl (w : World) (r n : Int) : Has (w.alloc (.cells #[.int .i64 r, .int .i64 n] 44)) w.heap.size 44 2 (pl2 r n) :=
  has_new w _ _ (fun j hj => by
    have : j = 0 ∨ j = 1 := by omega
    rcases this with rfl | rfl <;> rfl)
theorem results_place {fn : Func} {t : Tmp} (h : fn.results = #[.cell t 44]) (tmps : Array Value) (w : World) (g : Nat) {r n : Int} (hp : tmps.getD t undef = .pointer (some ⟨g, 0, none⟩)) (hc : Has w g 44 2 (pl2 r n)) :
    (results fn tmps).run Try.prog w = .ok (.agg #[.int .i64 r, .int .i64 n]) w := by
  have hp' : tmps[t]?.getD undef = .pointer (some ⟨g, 0, none⟩) := by simpa using hp
  have c0 : w.cell? ⟨g, 0, none⟩ = some (.int .i64 r) := hc.cell (show 0 < 2 by omega)
  have c1 : w.cell? ⟨g, 1, none⟩ = some (.int .i64 n) := hc.cell (show 1 < 2 by omega)
  simp [results, h, hp', asAddr, go_sem, c0, c1]
/-- a number: 0 or more, or -1 -/
def IdxRet (w : World) (b : Bool) (e : Ending) (w' : World) : Prop := ∃ i : Int, e = .returned (.int .i64 i) ∧ (b = true → 0 ≤ i) ∧ (b = false → i = -1) ∧ Below w.heap.size w w'
section
variable {w : World} {A B : Option Addr} {c k : Nat}
set_option maxRecDepth 100000 in
set_option maxHeartbeats 1600000 in
/-- is a place of another region than the first one? -/
theorem else1_any (g : Nat) (l : List (Int × Int)) (r n : Int) (hl : 0 < l.length) (hg : Boxed w g 29 (.slice A l.length c)) (hp : Pl w w.heap.size A l) :
    Calls Try.prog 31 #[.agg #[.int .i64 r, .int .i64 n], .pointer (some ⟨g, 0, none⟩)] w (BoolRet w (r != (pq l 0).1)) := by
  obtain ⟨ad, rfl, hlt, k0, k1⟩ := hp.at_ hl
  rw [show 0 * 2 = 0 from rfl, add_zero] at k0
  have hb := (Below.refl w.heap.size w).alloc (Nat.le_refl _) (.cells #[.int .i64 r, .int .i64 n] 44)
  have hx := has_pl w r n
  have x0 : (w.alloc (.cells #[.int .i64 r, .int .i64 n] 44)).cell? ⟨w.heap.size, 0, none⟩ = some (.int .i64 r) := hx.cell (show 0 < 2 by omega)
  have c0 := (hg.alloc (.cells #[.int .i64 r, .int .i64 n] 44)).cell
  have k0' := (hb.cell hlt).trans k0
  have HB := Lib.hid hb
  have hlz : (0 : Int) < (l.length : Int) := by omega
  clear hx hp k1 k0 hb hg
  generalize pq l 0 = p at *
  obtain ⟨p1, p2⟩ := p
  dsimp only at k0'
  go_enter Try.func31, Try.ntmps31
  go_wp2_with fail
  go_quiet (fail)
  go_wp2
  go_ret
  exact ⟨rfl, below_drewN HB.out _⟩
set_option maxRecDepth 100000 in
set_option maxHeartbeats 1600000 in
/-- a place of a region -/
theorem at1_any (g : Nat) (r m n : Int) (hg : Has w g 44 2 (pl2 r m)) :
    Calls Try.prog 26 #[.int .i64 n, .pointer (some ⟨g, 0, none⟩)] w fun e w' => e = .returned (.agg #[.int .i64 r, .int .i64 n]) ∧ Below w.heap.size w w' := by
  have x0 : (w.alloc (.cells #[.int .i64 0, .int .i64 0] 44)).cell? ⟨g, 0, none⟩ = some (.int .i64 r) := (hg.alloc _).cell (show 0 < 2 by omega)
  have hlt := hg.lt
  have hb := (Below.refl w.heap.size w).alloc (Nat.le_refl _) (.cells #[.int .i64 0, .int .i64 0] 44)
  go_enter Try.func26, Try.ntmps26
  go_wp2
  exact bodyPost_ret (results_place rfl _ _ w.heap.size rfl (has_pl w r n)) rfl ⟨rfl, (Below.refl w.heap.size w).alloc (Nat.le_refl _) _⟩
set_option maxRecDepth 100000 in
set_option maxHeartbeats 1600000 in
/-- where a place is among places -/
theorem index_any (l : List (Int × Int)) (r n : Int) (hp : Pl w w.heap.size A l) (hl : l.length ≤ 140737488355328) :
    Calls Try.prog 33 #[.slice A l.length c, .agg #[.int .i64 r, .int .i64 n]] w (IdxRet w (decide ((r, n) ∈ l))) := by
  have H := Lib.hid hp
  have hx := has_pl w r n
  have hb := (Below.refl w.heap.size w).alloc (Nat.le_refl _) (.cells #[.int .i64 r, .int .i64 n] 44)
  obtain ⟨w0, hw0⟩ : ∃ w0, w0 = w.alloc (.cells #[.int .i64 r, .int .i64 n] 44) := ⟨_, rfl⟩
  have HX : Hid (Has w0 w.heap.size 44 2 (pl2 r n)) := Lib.hid (by rw [hw0]; exact hx)
  have HB : Hid (Below w.heap.size w w0) := Lib.hid (by rw [hw0]; exact hb)
  clear hp hx hb
  go_enter Try.func33, Try.ntmps33
  go_wp2
  rw [← hw0]
  clear hw0
  go_loopg [8] l.length (fun gh x wr => ∃ j n' : Nat, j ≤ l.length ∧ gh = l.length - j ∧ x = .int .i64 (j : Nat) ∧ wr = w0.drewN n' ∧ Hid (∀ i, i < j → l[i]? ≠ some (r, n)))
  case atStart => exact ⟨0, 0, Nat.zero_le _, rfl, rfl, rfl, Lib.hid (fun r hr => absurd hr (Nat.not_lt_zero _))⟩
  case round =>
    obtain ⟨j, n', hj, hgh, rfl, rfl, hall⟩ := hrel
    by_cases hlt : j < l.length
    · have hjz : (j : Int) < (l.length : Int) := by omega
      obtain ⟨a1, rfl, hlb, k1, k1'⟩ := H.out.at_ hlt
      have q1 := (HB.out.cell (by rw [block_of_add]; exact hlb : (a1.add (j * 2)).block < w.heap.size)).trans k1
      have q2 := (HB.out.cell (by show (a1.add (j * 2)).block < w.heap.size; rw [block_of_add]; exact hlb : (⟨(a1.add (j * 2)).block, (a1.add (j * 2)).off + 1, none⟩ : Addr).block < w.heap.size)).trans k1'
      have x0 : w0.cell? ⟨w.heap.size, 0, none⟩ = some (.int .i64 r) := HX.out.cell (show 0 < 2 by omega)
      have x1 : w0.cell? ⟨w.heap.size, 1, none⟩ = some (.int .i64 n) := HX.out.cell (show 1 < 2 by omega)
      have hle := List.getElem?_eq_getElem hlt
      have hpq : pq l j = l[j] := by unfold pq; rw [hle]; rfl
      rw [hpq] at q1 q2
      clear hpq k1 k1'
      generalize l[j] = p at *
      obtain ⟨p1, p2⟩ := p
      have hnq := fun W => eqlP r n p1 p2 W
      dsimp only at q1 q2
      by_cases he : r = p1 ∧ n = p2
      · obtain ⟨rfl, rfl⟩ := he
        have t1 : (r == r && n == n) = true := by simp
        rw [t1] at hnq
        have HM : Hid ((r, n) ∈ l) := Lib.hid (List.mem_of_getElem? hle)
        clear hle t1
        go_wp2_with fail
        go_quiet (fail)
        go_wp2
        go_ret
        exact ⟨_, rfl, fun _ => by omega, (fun e => by rw [decide_eq_true HM.out] at e; cases e), below_drewN (below_drewN HB.out _) _⟩
      · have t1 : (r == p1 && n == p2) = false := by
          rw [Bool.and_eq_false_iff, beq_eq_false_iff_ne, beq_eq_false_iff_ne]
          omega
        rw [t1] at hnq
        have HE : Hid (l[j]? ≠ some (r, n)) := Lib.hid (by rw [hle]; intro e; injection e with e; injection e with e1 e2; exact he ⟨e1.symm, e2.symm⟩)
        clear hle t1 he
        go_wp2_with fail
        go_quiet (fail)
        go_wp2
        go_roundg (l.length - (j + 1))
        case measure => go_light; omega
        case rel => go_light; exact ⟨j + 1, _, by omega, rfl, by simp, rfl, Lib.hid (fun i hi => by
          by_cases e : i = j
          · subst e; exact HE.out
          · exact hall.out i (by omega))⟩
    · have hjz : ¬ (j : Int) < (l.length : Int) := by omega
      have HM : Hid (¬ (r, n) ∈ l) := Lib.hid (fun hm => by
        obtain ⟨i, hi, e⟩ := List.getElem_of_mem hm
        exact hall.out i (by omega) (by rw [List.getElem?_eq_getElem hi, e]))
      go_wp2
      go_ret
      exact ⟨_, rfl, (fun e => by rw [decide_eq_false HM.out] at e; cases e), (fun _ => rfl), below_drewN HB.out _⟩
set_option maxRecDepth 100000 in
set_option maxHeartbeats 1600000 in
theorem contains_any (l : List (Int × Int)) (r n : Int) (hp : Pl w w.heap.size A l) (hl : l.length ≤ 140737488355328) :
    Calls Try.prog 28 #[.slice A l.length c, .agg #[.int .i64 r, .int .i64 n]] w (BoolRet w (decide ((r, n) ∈ l))) := by
  have hx := has_pl w r n
  have hb := (Below.refl w.heap.size w).alloc (Nat.le_refl _) (.cells #[.int .i64 r, .int .i64 n] 44)
  have h := index_any (c := c) l r n (hp.up hb) hl
  have x0 : (w.alloc (.cells #[.int .i64 r, .int .i64 n] 44)).cell? ⟨w.heap.size, 0, none⟩ = some (.int .i64 r) := hx.cell (show 0 < 2 by omega)
  have x1 : (w.alloc (.cells #[.int .i64 r, .int .i64 n] 44)).cell? ⟨w.heap.size, 1, none⟩ = some (.int .i64 n) := hx.cell (show 1 < 2 by omega)
  have HC := Lib.hid h
  have HB := Lib.hid hb
  clear h hb hp hx
  go_enter Try.func28, Try.ntmps28
  go_wp2_with fail
  refine HC.out.mono ?_
  rintro e w1 ⟨i, rfl, hi1, hi2, hb1⟩
  have HB1 := Lib.hid (up_trans HB.out hb1)
  clear hb1 x0 x1
  by_cases hm : (r, n) ∈ l
  · have hi := hi1 (decide_eq_true hm)
    have E : Hid (decide ((r, n) ∈ l) = true) := Lib.hid (decide_eq_true hm)
    clear hm hi1 hi2
    go_wp2
    go_ret
    exact ⟨by rw [E.out]; rfl, HB1.out⟩
  · have hi := hi2 (decide_eq_false hm)
    have E : Hid (decide ((r, n) ∈ l) = false) := Lib.hid (decide_eq_false hm)
    subst hi
    clear hm hi1 hi2
    go_wp2
    go_ret
    exact ⟨by rw [E.out]; rfl, HB1.out⟩
/-- a closure that tells a place of a region; it lies in a box -/
abbrev at1 (g : Nat) : Value := .func (.func 26) #[] #[.pointer (some ⟨g, 0, none⟩)]
set_option maxRecDepth 100000 in
set_option maxHeartbeats 1600000 in
/-- is a node among places? -/
theorem taken_any (gl ga gp : Nat) (l : List (Int × Int)) (r m x : Int) (hl : Boxed w gl 29 (.slice A l.length c)) (ha : Boxed w ga 62 (at1 gp)) (hp : Has w gp 44 2 (pl2 r m)) (hP : Pl w w.heap.size A l) (hlen : l.length ≤ 140737488355328) :
    Calls Try.prog 27 #[.int .i64 x, .pointer (some ⟨gl, 0, none⟩), .pointer (some ⟨ga, 0, none⟩)] w (BoolRet w (decide ((r, x) ∈ l))) := by
  have c1 := fun W (hb : Below w.heap.size w W) => at1_any (w := W) gp r m x (hp.below hb hp.lt)
  have c2 := fun W (hb : Below w.heap.size w W) => contains_any (w := W) (c := c) l r x (hP.up hb) hlen
  have hk := fun W (hb : Below w.heap.size w W) => And.intro (boxed_past hl hb).cell (boxed_past ha hb).cell
  obtain ⟨x0, x1⟩ := hk w (Below.refl _ _)
  have C1 := Lib.hid c1
  have C2 := Lib.hid c2
  have K := Lib.hid hk
  clear c1 c2 hk hl ha hp hP
  generalize decide ((r, x) ∈ l) = bb at *
  go_enter Try.func27, Try.ntmps27
  go_wp2_with fail
  go_region_held3 (fun W => W.cell? ⟨gl, 0, none⟩ = some (.slice A l.length c) ∧ W.cell? ⟨ga, 0, none⟩ = some (at1 gp))
    (first | exact ⟨x0, x1⟩ | exact K.out _ b3.out | exact K.out _ b4.out | go_keep)
    (first
      | (go_at_call 26; have q1 := C1.out w.drew (Below.refl w.heap.size w).drew; (with_reducible refine Calls.mono q1 ?_); clear q1; rintro e w3 ⟨rfl, hb3⟩; have b3 : Hid (Below w.heap.size w w3) := Lib.hid (below_of_drew hb3); clear hb3)
      | (go_at_call 28; (with_reducible refine Calls.mono (C2.out _ b3.out) ?_); rintro e w4 ⟨rfl, hb4⟩; have b4 : Hid (Below w.heap.size w w4) := Lib.hid (up_trans b3.out hb4)))
  go_wp2
  go_ret
  exact ⟨rfl, b4.out⟩
set_option maxRecDepth 100000 in
set_option maxHeartbeats 1600000 in
/-- where there is a place of another region -/
theorem indexF_any (g : Nat) (l : List (Int × Int)) (hg : Boxed w g 29 (.slice A l.length c)) (hp : Pl w w.heap.size A l) (hl : l.length ≤ 140737488355328) :
    Calls Try.prog 34 #[.slice A l.length c, .func (.func 31) #[] #[.pointer (some ⟨g, 0, none⟩)]] w (IdxRet w (!on1 l l.length)) := by
  have c1 := fun W (hb : Below w.heap.size w W) (h0 : 0 < l.length) (a b : Int) => else1_any (w := W) (c := c) g l a b h0 (boxed_past hg hb) (hp.up hb)
  have H := Lib.hid hp
  have C1 := Lib.hid c1
  clear hp hg c1
  go_enter Try.func34, Try.ntmps34
  go_wp2
  go_loopg [8] l.length (fun gh x wr => ∃ j : Nat, j ≤ l.length ∧ gh = l.length - j ∧ x = .int .i64 (j : Nat) ∧ Below w.heap.size w wr ∧ Hid (∀ i, i < j → (pq l i).1 = (pq l 0).1))
  case atStart => exact ⟨0, Nat.zero_le _, rfl, rfl, Below.refl _ _, Lib.hid (fun r hr => absurd hr (Nat.not_lt_zero _))⟩
  case round =>
    obtain ⟨j, hj, hgh, rfl, hB, hall⟩ := hrel
    have HB := Lib.hid hB
    clear hB
    by_cases hlt : j < l.length
    · have hjz : (j : Int) < (l.length : Int) := by omega
      obtain ⟨a1, rfl, hlb, q1, q2⟩ := (H.out.up HB.out).at_ hlt
      have hc := C1.out _ HB.out (by omega) (pq l j).1 (pq l j).2
      by_cases he : (pq l j).1 = (pq l 0).1
      · have t1 : ((pq l j).1 != (pq l 0).1) = false := by rw [he]; simp
        have HE := Lib.hid he
        rw [t1] at hc
        have HC := Lib.hid hc
        clear he t1 hc
        go_wp2_with fail
        refine HC.out.mono ?_
        rintro e w2 ⟨rfl, hb2⟩
        have HB2 := Lib.hid (up_trans HB.out hb2)
        clear hb2 q1 q2
        go_wp2
        go_roundg (l.length - (j + 1))
        case measure => go_light; omega
        case rel => go_light; exact ⟨j + 1, by omega, rfl, by simp, HB2.out, Lib.hid (fun i hi => by
          by_cases e : i = j
          · subst e; exact HE.out
          · exact hall.out i (by omega))⟩
      · have t1 : ((pq l j).1 != (pq l 0).1) = true := bne_iff_ne.2 he
        have E : Hid (on1 l l.length = false) := Lib.hid (by
          cases hb : on1 l l.length
          · rfl
          · exact absurd (on1_iff.1 hb j hlt) he)
        rw [t1] at hc
        generalize pq l j = p at *
        have HC := Lib.hid hc
        clear he t1 hc
        go_wp2_with fail
        refine HC.out.mono ?_
        rintro e w2 ⟨rfl, hb2⟩
        have HB2 := Lib.hid (up_trans HB.out hb2)
        clear hb2 q1 q2
        go_wp2
        go_ret
        exact ⟨_, rfl, fun _ => by omega, (fun e => by rw [E.out] at e; cases e), HB2.out⟩
    · have hjz : ¬ (j : Int) < (l.length : Int) := by omega
      have E : Hid (on1 l l.length = true) := Lib.hid (on1_iff.2 (fun i hi => hall.out i (by omega)))
      go_wp2
      go_ret
      exact ⟨_, rfl, (fun e => by rw [E.out] at e; cases e), (fun _ => rfl), HB.out⟩
set_option maxRecDepth 100000 in
set_option maxHeartbeats 1600000 in
theorem containsF_any (g : Nat) (l : List (Int × Int)) (hg : Boxed w g 29 (.slice A l.length c)) (hp : Pl w w.heap.size A l) (hl : l.length ≤ 140737488355328) :
    Calls Try.prog 32 #[.slice A l.length c, .func (.func 31) #[] #[.pointer (some ⟨g, 0, none⟩)]] w (BoolRet w (!on1 l l.length)) := by
  have HC := Lib.hid (indexF_any (c := c) g l hg hp hl)
  generalize (!on1 l l.length) = b at *
  clear hg hp
  go_enter Try.func32, Try.ntmps32
  go_wp2_with fail
  refine HC.out.mono ?_
  rintro e w1 ⟨i, rfl, hi1, hi2, hb1⟩
  have HB1 := Lib.hid hb1
  clear hb1
  cases b
  · have hi := hi2 rfl
    subst hi
    clear hi1 hi2
    go_wp2
    go_ret
    exact ⟨rfl, HB1.out⟩
  · have hi := hi1 rfl
    clear hi1 hi2
    go_wp2
    go_ret
    exact ⟨rfl, HB1.out⟩
set_option maxRecDepth 100000 in
set_option maxHeartbeats 1600000 in
theorem oneRegion_any (l : List (Int × Int)) (hp : Pl w w.heap.size A l) (hl : l.length ≤ 140737488355328) :
    Calls Try.prog 25 #[.slice A l.length c] w (BoolRet w (decide (0 < l.length) && on1 l l.length)) := by
  have hb := (Below.refl w.heap.size w).alloc (Nat.le_refl _) (.cells #[.slice A l.length c] 29)
  have hg := Boxed.new w 29 (.slice A l.length c)
  have HC := Lib.hid (containsF_any (c := c) w.heap.size l hg (hp.up hb) hl)
  have HB := Lib.hid hb
  have x0 := hg.cell
  clear hg hb hp
  by_cases h0 : 0 < l.length
  · rw [decide_eq_true h0, Bool.true_and]
    have g1 : ((l.length : Int) == 0) = false := beq_eq_false_iff_ne.2 (by omega)
    generalize on1 l l.length = b at *
    go_enter Try.func25, Try.ntmps25
    go_wp2_with fail
    refine HC.out.mono ?_
    rintro e w1 ⟨rfl, hb1⟩
    have HB1 := Lib.hid (up_trans HB.out hb1)
    clear hb1
    go_wp2
    go_ret
    exact ⟨by cases b <;> rfl, HB1.out⟩
  · rw [decide_eq_false h0, Bool.false_and]
    have g1 : (l.length : Int) = 0 := by omega
    clear HC
    go_enter Try.func25, Try.ntmps25
    go_wp2
    go_ret
    exact ⟨rfl, HB.out⟩
end
end Go.Proofs.Ythalaihpgjniiaa.Mat
