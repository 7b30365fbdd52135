/- Rows of numbers, that grow and that are read; two compared: walked. (The same as in shelf's rows: one of the two, where a seat has both.) -/
import Derived.Test.YthalaihpgjniiaaSitBas
namespace Go.Proofs.Ythalaihpgjniiaa.Mat
open Go.RowKit Fld

theorem infoNum : (Try.prog.info? 3).map (fun i => (i.zero, i.size, i.bytes)) = some (some (.int .i64 0), 1, 8) := by kernel_rfl
/-! ### numbers -/
def nums (l : List Nat) : List Value := l.map (fun (n : Nat) => Value.int .i64 (n : Int))
/-- numbers that are read -/
def Nr (w : World) (B : Nat) (A : Option Addr) (l : List Nat) : Prop :=
  0 < l.length → ∃ ad, A = some ad ∧ ad.block < B ∧ ∀ r (h : r < l.length), w.cell? (ad.add r) = some (.int .i64 ((l[r] : Nat) : Int))
section
variable {w a b w' : World} {v v' : Value} {l : List Nat} {B B' : Nat} {A : Option Addr}
theorem Nr.below (h : Nr w B A l) (hb : Below B w w') (hB : B ≤ B') : Nr w' B' A l := fun hn => by
  obtain ⟨ad, e, hl, hc⟩ := h hn
  exact ⟨ad, e, by omega, fun r hr => (hb.cell (by rw [block_of_add]; exact hl)).trans (hc r hr)⟩
theorem Nr.up (h : Nr w w.heap.size A l) (hb : Below w.heap.size w w') : Nr w' w'.heap.size A l := h.below hb hb.size
theorem Nr.at_ (h : Nr w B A l) {r : Nat} (hr : r < l.length) : ∃ ad, A = some ad ∧ ad.block < B ∧ w.cell? (ad.add r) = some (.int .i64 ((l[r] : Nat) : Int)) := by
  obtain ⟨ad, e, hl, hc⟩ := h (by omega)
  exact ⟨ad, e, hl, hc r hr⟩
theorem nr_chosen (h : Chosen w a 3 v (nums l)) : ∃ A cap, v = .slice A l.length cap ∧ Nr a a.heap.size A l := by
  have hlen : (nums l).length = l.length := by unfold nums; simp
  obtain ⟨A, cap, hv, _, _, hc⟩ := h.has (n := l.length) (f := fun i => .int .i64 ((l[i]?.getD 0 : Nat) : Int)) hlen (fun i hi => by
    unfold nums
    rw [List.getElem?_map, List.getElem?_eq_getElem hi]; rfl)
  refine ⟨A, cap, hv, fun hn => ?_⟩
  obtain ⟨g, rfl, _, hlt, hh⟩ := hc hn
  refine ⟨_, rfl, hlt, fun r hr => ?_⟩
  rw [add_lit, hh.cell hr, List.getElem?_eq_getElem hr]; rfl
end
def NumsRet (w : World) (l : List Nat) (e : Ending) (w' : World) : Prop := ∃ A cap, e = .returned (.slice A l.length cap) ∧ Nr w' w'.heap.size A l ∧ Below w.heap.size w w'
theorem nums_add (l : List Nat) (n : Nat) : nums (l ++ [n]) = nums l ++ [.int .i64 (n : Int)] := by unfold nums; simp
section
variable {w : World} {A B : Option Addr} {c k : Nat}
set_option maxRecDepth 100000 in
set_option maxHeartbeats 1600000 in
theorem refInts_any (l m : List Nat) (hl : l.length ≤ 9223372036854775807) (hm : m.length ≤ 9223372036854775807) (h1 : Nr w w.heap.size A l) (h2 : Nr w w.heap.size B m) :
    Calls Try.prog 10 #[.slice A l.length c, .slice B m.length k] w (BoolRet w (decide (l = m))) := by
  have H1 := Lib.hid h1
  have H2 := Lib.hid h2
  clear h1 h2
  by_cases hlm : l.length = m.length
  rotate_left
  · have g1 : ((l.length : Int) != (m.length : Int)) = true := bne_iff_ne.2 (by omega)
    have E : Hid (decide (l = m) = false) := Lib.hid (decide_eq_false (fun q => hlm (by rw [q])))
    clear hlm
    go_enter Try.func10, Try.ntmps10
    go_wp2
    go_ret
    exact ⟨by rw [E.out]; rfl, Below.refl _ _⟩
  have g1 : ((l.length : Int) != (m.length : Int)) = false := by rw [hlm]; simp
  have HL := Lib.hid hlm
  clear hlm
  go_enter Try.func10, Try.ntmps10
  go_wp2
  clear g1
  go_loopg [5] l.length (fun gh x wr => ∃ j n : Nat, j ≤ l.length ∧ gh = l.length - j ∧ x = .int .i64 (j : Nat) ∧ wr = w.drewN n ∧ Hid (∀ r, r < j → l[r]? = m[r]?))
  case atStart => exact ⟨0, 0, Nat.zero_le _, rfl, rfl, rfl, Lib.hid (fun r hr => absurd hr (Nat.not_lt_zero _))⟩
  case round =>
    obtain ⟨j, n, hj, hgh, rfl, rfl, hall⟩ := hrel
    by_cases hlt : j < l.length
    · have hjz : (j : Int) < (l.length : Int) := by omega
      have hjz2 : (j : Int) < (m.length : Int) := by have := HL.out; omega
      obtain ⟨a1, rfl, _, k1⟩ := H1.out.at_ hlt
      obtain ⟨a2, rfl, _, k2⟩ := H2.out.at_ (show j < m.length by have := HL.out; omega)
      by_cases he : l[j] = m[j]'(by have := HL.out; omega)
      · have t1 : (((l[j] : Nat) : Int) != ((m[j]'(by have := HL.out; omega) : Nat) : Int)) = false := by rw [he]; simp
        have HE : Hid (l[j]? = m[j]?) := Lib.hid (by rw [List.getElem?_eq_getElem hlt, List.getElem?_eq_getElem (by have := HL.out; omega), he])
        clear he
        go_wp2_with fail
        go_quiet (fail)
        go_wp2
        go_roundg (l.length - (j + 1))
        case measure => go_light; omega
        case rel => go_light; exact ⟨j + 1, _, by omega, rfl, by simp, rfl, Lib.hid (fun r hr => by
          by_cases e : r = j
          · subst e; exact HE.out
          · exact hall.out r (by omega))⟩
      · have t1 : (((l[j] : Nat) : Int) != ((m[j]'(by have := HL.out; omega) : Nat) : Int)) = true := bne_iff_ne.2 (fun q => he (by omega))
        have E : Hid (decide (l = m) = false) := Lib.hid (decide_eq_false (fun q => he (by subst q; rfl)))
        clear he
        go_wp2_with fail
        go_quiet (fail)
        go_wp2
        go_ret
        exact ⟨by rw [E.out]; rfl, below_drewN (below_drewN (Below.refl _ _) _) _⟩
    · have hjz : ¬ (j : Int) < (l.length : Int) := by omega
      have E : Hid (decide (l = m) = true) := Lib.hid (decide_eq_true (List.ext_getElem? (fun r => by
        rcases Nat.lt_or_ge r j with q | q
        · exact hall.out r q
        · rw [List.getElem?_eq_none (by omega), List.getElem?_eq_none (by have := HL.out; omega)])))
      go_wp2
      go_ret
      exact ⟨by rw [E.out]; rfl, below_drewN (Below.refl _ _) _⟩
end
end Go.Proofs.Ythalaihpgjniiaa.Mat
