/- A column is settled: walked. -/
import Derived.Test.YtohbijjkkadbaaaMatD
namespace Go.Proofs.Ytohbijjkkadbaaa.Mat
open Go.RowKit Fld

theorem V_nz {x : BitVec 8} (h : x ≠ 0#8) : V x ≠ 0 := fun e => h (V_inj (by rw [e, V_zero]))
theorem inv_yes {x : BitVec 8} (h : x ≠ 0#8) (w : World) :
    Calls Try.prog 62 #[.int .u8 (V x)] w fun e w' => e = .returned (.tuple #[.int .u8 (V (iv x)), .int .i64 0]) ∧ w = w' :=
  (inv_any _ (V_lo _) (V_hi _) w).mono fun e w' ⟨he, hw⟩ => ⟨by rw [he]; unfold ivV ivE; rw [if_neg (V_nz h), if_neg (V_nz h), B_V], hw⟩
theorem inv_no {x : BitVec 8} (h : x = 0#8) (w : World) :
    Calls Try.prog 62 #[.int .u8 (V x)] w fun e w' => e = .returned (.tuple #[.int .u8 0, .int .i64 1]) ∧ w = w' := by
  subst h
  exact (inv_any _ (V_lo _) (V_hi _) w).mono fun e w' ⟨he, hw⟩ => ⟨by rw [he]; unfold ivV ivE; rw [if_pos V_zero, if_pos V_zero], hw⟩

def ex (G : Nat → Nat) (k p q : Nat) : Nat := if q = k then G p else if q = p then G k else G q
theorem Own.swap {w : World} {B g n m : Nat} {G C : Nat → Nat} {F} (h : Own w B g n m G C F) {k p : Nat} (hk : k < n) (hp : p < n) :
    Own ((w.setCell ⟨g, k, none⟩ (.slice (some ⟨G p, 0, none⟩) m (C p))).setCell ⟨g, p, none⟩ (.slice (some ⟨G k, 0, none⟩) m (C k))) B g n m (ex G k p) (ex C k p) (sw F k p) := by
  have far : ∀ q, q < n → ∀ f : Nat → Value, Has w (G q) 5 m f → Has ((w.setCell ⟨g, k, none⟩ (.slice (some ⟨G p, 0, none⟩) m (C p))).setCell ⟨g, p, none⟩ (.slice (some ⟨G k, 0, none⟩) m (C k))) (G q) 5 m f := fun q hq f hf =>
    (hf.setOther (a := ⟨g, k, none⟩) (h.ne_ hq) _).setOther (a := ⟨g, p, none⟩) (h.ne_ hq) _
  refine ⟨((h.top.set_ k _).set_ p _).congr (fun q hq => ?_), h.low, fun q hq => ?_, fun r q hr hq e => ?_⟩
  · unfold ex
    by_cases e1 : q = k
    · subst e1
      by_cases e2 : q = p
      · subst e2; simp
      · simp [e2]
    · by_cases e2 : q = p
      · subst e2; simp [e1]
      · simp [e1, e2]
  · unfold ex sw
    by_cases e1 : q = k
    · obtain ⟨a1, a2, a3⟩ := h.row p hp
      simp only [e1, if_true]
      exact ⟨a1, a2, far p hp _ a3⟩
    · by_cases e2 : q = p
      · obtain ⟨a1, a2, a3⟩ := h.row k hk
        simp only [if_neg e1, if_pos e2]
        exact ⟨a1, a2, far k hk _ a3⟩
      · obtain ⟨a1, a2, a3⟩ := h.row q hq
        simp only [if_neg e1, if_neg e2]
        exact ⟨a1, a2, far q hq _ a3⟩
  · have key : ∀ q, q < n → ∃ s, s < n ∧ ex G k p q = G s ∧ s = (if q = k then p else if q = p then k else q) := fun q hq => by
      unfold ex
      by_cases e1 : q = k
      · exact ⟨p, hp, by rw [if_pos e1], by rw [if_pos e1]⟩
      · by_cases e2 : q = p
        · exact ⟨k, hk, by rw [if_neg e1, if_pos e2], by rw [if_neg e1, if_pos e2]⟩
        · exact ⟨q, hq, by rw [if_neg e1, if_neg e2], by rw [if_neg e1, if_neg e2]⟩
    obtain ⟨s, hs, e1, e2⟩ := key r hr
    obtain ⟨s', hs', e3, e4⟩ := key q hq
    rw [e1, e3] at e
    have e5 := h.inj s s' hs hs' e
    rw [e2, e4] at e5
    (repeat' split at e5) <;> omega
theorem ex_zone {n k p : Nat} (G : Nat → Nat) (hk : k < n) (hp : p < n) (b : Nat) : (∃ r, r < n ∧ b = ex G k p r) → ∃ r, r < n ∧ b = G r := by
  rintro ⟨r, hr, e⟩
  unfold ex at e
  by_cases e1 : r = k
  · rw [if_pos e1] at e; exact ⟨p, hp, e⟩
  · rw [if_neg e1] at e
    by_cases e2 : r = p
    · rw [if_pos e2] at e; exact ⟨k, hk, e⟩
    · rw [if_neg e2] at e; exact ⟨r, hr, e⟩

/-- what a column's settling leaves -/
def Settled (w : World) (B g n m : Nat) (G : Nat → Nat) (F' : Nat → Nat → BitVec 8) (e : Ending) (w' : World) : Prop :=
  ∃ G' C', e = .returned (.bool true) ∧ Own w' B g n m G' C' F' ∧ Turned (Zone g n G) w w' ∧ ∀ b, (∃ r, r < n ∧ b = G' r) → ∃ r, r < n ∧ b = G r

set_option maxRecDepth 1000000 in
set_option maxHeartbeats 1600000 in
theorem settle_yes (B g n m cap k : Nat) (G C : Nat → Nat) (F : Nat → Nat → BitVec 8) (w : World) (hn : n ≤ 32) (hm : m ≤ 64) (hk : k < n) (hkm : k < m) (h : Own w B g n m G C F) (hp : pvt n F k < n) :
    Calls Try.prog 50 #[.slice (some ⟨g, 0, none⟩) n cap, .int .i64 (k : Int)] w (Settled w B g n m G (s3 n F k)) := by
  generalize hpe : pvt n F k = p at hp
  have hpk : k ≤ p := by rw [← hpe]; exact pvt_ge n F k
  have hlo : ∀ q, k ≤ q → q < p → F q k = 0#8 := fun q h1 h2 => pvt_lo n F k q h1 (by rw [hpe]; exact h2)
  have hat : F p k ≠ 0#8 := by have := pvt_at n F k (by rw [hpe]; exact hp); rwa [hpe] at this
  have HO := Lib.hid h
  have HLo := Lib.hid hlo
  have HAt := Lib.hid hat
  have HPe := Lib.hid hpe
  clear h hlo hat hpe
  go_enter Try.func50, Try.ntmps50
  go_wp2
  go_loop [5] (fun i => ∃ j : Nat, k ≤ j ∧ j ≤ p ∧ i = .int .i64 j) (fun i => n - (intOf i).toNat)
  case atStart => exact ⟨k, Nat.le_refl _, hpk, rfl⟩
  case round =>
    obtain ⟨j, hkj, hjp, rfl⟩ := hrel
    have hjz : (j : Int) < (n : Int) := by omega
    have c1 : w.cell? ⟨g, j, none⟩ = some (.slice (some ⟨G j, 0, none⟩) m (C j)) := HO.out.top.cell (by omega)
    have c2 : w.cell? ⟨G j, k, none⟩ = some (.int .u8 (V (F j k))) := (HO.out.row j (by omega)).2.2.cell hkm
    by_cases hjlt : j < p
    · have H0 : Hid (F j k = 0#8) := Lib.hid (HLo.out j hkj hjlt)
      go_wp2_with (go_at_call 62; refine (inv_no H0.out _).mono ?_; rintro e w' ⟨rfl, rfl⟩)
      go_round
      case rel => exact ⟨j + 1, by omega, by omega, by go_num⟩
      case measure => simp [intOf]; omega
    · obtain rfl : j = p := by omega
      clear hjlt
      go_wp2_with (go_at_call 62; refine (inv_yes HAt.out _).mono ?_; rintro e w' ⟨rfl, rfl⟩)
      have d1 : w.cell? ⟨g, k, none⟩ = some (.slice (some ⟨G k, 0, none⟩) m (C k)) := HO.out.top.cell hk
      have d2 : w.frozen? ⟨g, k, none⟩ = false := HO.out.top.frozen hk
      have d3 : w.frozen? ⟨g, j, none⟩ = false := HO.out.top.frozen (by omega)
      obtain ⟨v', hy'⟩ := cell?_setCell_some (w := w) (p := ⟨g, k, none⟩) (x := .slice (some ⟨G j, 0, none⟩) m (C j)) (q := ⟨g, j, none⟩) (v := .slice (some ⟨G j, 0, none⟩) m (C j)) (by go_simp)
      go_region
      generalize hw2 : ((w.setCell ⟨g, k, none⟩ (.slice (some ⟨G j, 0, none⟩) m (C j))).setCell ⟨g, j, none⟩ (.slice (some ⟨G k, 0, none⟩) m (C k))).drew = w2
      have hS : Own w2 B g n m (ex G k j) (ex C k j) (sw F k j) := by subst hw2; exact (HO.out.swap hk hp).drew
      have hT2 : Turned (Zone g n G) w w2 := by
        subst hw2
        exact (((Turned.refl (Zone g n G) w).setCell (p := ⟨g, k, none⟩) (.inl rfl) _).setCell (p := ⟨g, j, none⟩) (.inl rfl) _).drew
      clear hw2 hy' d1 d2 d3 c1 c2
      obtain ⟨G', C', hS, hz⟩ : ∃ G' C', Own w2 B g n m G' C' (sw F k j) ∧ ∀ b, (∃ r, r < n ∧ b = G' r) → ∃ r, r < n ∧ b = G r := ⟨_, _, hS, ex_zone G hk hp⟩
      have c1 : w2.cell? ⟨g, k, none⟩ = some (.slice (some ⟨G' k, 0, none⟩) m (C' k)) := hS.top.cell hk
      have hrow := (hS.row k hk).2.2
      have HS := Lib.hid hS
      have HT2 := Lib.hid hT2
      have HZ := Lib.hid hz
      have HR := Lib.hid hrow
      clear hS hT2 hz hrow
      go_wp2_with fail
      refine (scale_any (G' k) m (C' k) (sw F k j k) (iv (F j k)) _ hm HR.out).mono ?_; rintro e w3 ⟨rfl, hH3, hT3⟩
      have H3 : Hid (Own w3 B g n m G' C' (s2 n F k)) := Lib.hid ((HS.out.turn hk hT3 hH3).congr (fun q c _ _ => by
        have e1 : s1 n F k = sw F k j := by unfold s1; rw [HPe.out]
        have e2 : sw F k j k k = F j k := if_pos rfl
        unfold s2 sc
        rw [e1, e2]
        by_cases e : q = k
        · subst e; rw [if_pos rfl]
        · rw [if_neg e, if_neg e]))
      have HT3 : Hid (Turned (Zone g n G) w w3) := Lib.hid (HT2.out.trans (hT3.mono (fun b hb => by obtain ⟨r, hr, e⟩ := HZ.out b ⟨k, hk, hb⟩; exact .inr ⟨r, hr, e⟩)))
      clear hH3 hT3
      go_wp2_with fail
      refine (sweep_any B g n m cap k G' C' (s2 n F k) _ hn hm hk hkm H3.out).mono ?_; rintro e w4 ⟨rfl, hO4, hT4⟩
      have HT4 : Hid (Turned (Zone g n G) w w4) := Lib.hid (HT3.out.trans (hT4.mono (fun b hb => by
        rcases hb with rfl | hb
        · exact .inl rfl
        · exact .inr (HZ.out b hb))))
      have H4 := Lib.hid hO4
      clear hO4 hT4
      go_wp2
      go_ret
      exact ⟨G', C', rfl, H4.out, HT4.out, HZ.out⟩

set_option maxRecDepth 1000000 in
set_option maxHeartbeats 800000 in
theorem settle_no (B g n m cap k : Nat) (G C : Nat → Nat) (F : Nat → Nat → BitVec 8) (w : World) (hn : n ≤ 32) (hk : k < n) (hkm : k < m) (h : Own w B g n m G C F) (hp : ¬ pvt n F k < n) :
    Calls Try.prog 50 #[.slice (some ⟨g, 0, none⟩) n cap, .int .i64 (k : Int)] w fun e w' => e = .returned (.bool false) ∧ w = w' := by
  have hlo : ∀ q, k ≤ q → q < n → F q k = 0#8 := fun q h1 h2 => pvt_lo n F k q h1 (by omega)
  have HO := Lib.hid h
  have HLo := Lib.hid hlo
  clear h hlo hp
  go_enter Try.func50, Try.ntmps50
  go_wp2
  go_loop [5] (fun i => ∃ j : Nat, k ≤ j ∧ j ≤ n ∧ i = .int .i64 j) (fun i => n - (intOf i).toNat)
  case atStart => exact ⟨k, Nat.le_refl _, by omega, rfl⟩
  case round =>
    obtain ⟨j, hkj, hjn, rfl⟩ := hrel
    by_cases hjlt : j < n
    · have hjz : (j : Int) < (n : Int) := by omega
      have c1 : w.cell? ⟨g, j, none⟩ = some (.slice (some ⟨G j, 0, none⟩) m (C j)) := HO.out.top.cell (by omega)
      have c2 : w.cell? ⟨G j, k, none⟩ = some (.int .u8 (V (F j k))) := (HO.out.row j (by omega)).2.2.cell hkm
      have H0 : Hid (F j k = 0#8) := Lib.hid (HLo.out j hkj hjlt)
      go_wp2_with (go_at_call 62; refine (inv_no H0.out _).mono ?_; rintro e w' ⟨rfl, rfl⟩)
      go_round
      case rel => exact ⟨j + 1, by omega, by omega, by go_num⟩
      case measure => simp [intOf]; omega
    · have hjz : ¬ (j : Int) < (n : Int) := by omega
      go_wp2
      go_ret
      exact ⟨rfl, rfl⟩
end Go.Proofs.Ytohbijjkkadbaaa.Mat
