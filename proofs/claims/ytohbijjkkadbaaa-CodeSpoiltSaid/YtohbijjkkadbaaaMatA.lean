/- Which matrices may be: walked. -/
import Derived.Test.YtohbijjkkadbaaaMatMem
import Derived.WalkKit
import Derived.WalkSpells
import Derived.WalkLawsBesides
import Derived.Lib.Hide
import Derived.Outline
import Derived.Deep.QuietTactic
import Derived.BigQuiet
namespace Go.Proofs.Ytohbijjkkadbaaa.Mat
open Go.RowKit Fld

def withinB (n : Int) : Bool := decide (1 ≤ n ∧ n ≤ 32)

set_option maxRecDepth 100000 in
set_option maxHeartbeats 400000 in
theorem within_any (n : Int) (w : World) :
    Calls Try.prog 43 #[.int .i64 n] w fun e w' => e = .returned (.bool (withinB n)) ∧ w = w' := by
  by_cases h1 : 1 ≤ n
  · by_cases h2 : n ≤ 32
    · go_enter Try.func43, Try.ntmps43
      go_wp2
      go_ret
      exact ⟨by unfold withinB; simp [h1, h2], rfl⟩
    · go_enter Try.func43, Try.ntmps43
      go_wp2
      go_ret
      exact ⟨by unfold withinB; rw [decide_eq_false (by omega)]; rfl, rfl⟩
  · go_enter Try.func43, Try.ntmps43
    go_wp2
    go_ret
    exact ⟨by unfold withinB; rw [decide_eq_false (by omega)]; rfl, rfl⟩
theorem within_yes (n : Int) (h1 : 1 ≤ n) (h2 : n ≤ 32) (w : World) :
    Calls Try.prog 43 #[.int .i64 n] w fun e w' => e = .returned (.bool true) ∧ w = w' :=
  (within_any n w).mono fun e w' ⟨h, h'⟩ => ⟨by rw [h]; unfold withinB; simp [h1, h2], h'⟩
theorem within_no (n : Int) (h1 : n < 1 ∨ 32 < n) (w : World) :
    Calls Try.prog 43 #[.int .i64 n] w fun e w' => e = .returned (.bool false) ∧ w = w' :=
  (within_any n w).mono fun e w' ⟨h, h'⟩ => ⟨by rw [h]; unfold withinB; rw [decide_eq_false]; omega, h'⟩

section
variable {A : Option Addr} {n cap B : Nat} {L RC : Nat → Nat} {RA : Nat → Option Addr} {F : Nat → Nat → BitVec 8} {w : World}
theorem not_lens {L : Nat → Nat} {k : Nat} (h : L k ≠ L 0) : ((L k : Int) != (L 0 : Int)) = true := by
  rw [bne_iff_ne]; omega
theorem same_lens {L : Nat → Nat} {k : Nat} (h : L k = L 0) : ((L k : Int) != (L 0 : Int)) = false := by
  rw [bne_eq_false_iff_eq]; omega
set_option maxRecDepth 100000 in
set_option maxHeartbeats 400000 in
theorem may_any (h : Mt w B A n L RA RC F) (hn : n ≤ 9223372036854775807) :
    Calls Try.prog 47 #[.slice A n cap] w fun e w' => e = .returned (.bool (okB n L)) ∧ w = w' := by
  by_cases h1 : 1 ≤ n ∧ n ≤ 32
  · obtain ⟨h1, h2⟩ := h1
    obtain ⟨ad, rfl, hb, hc0, _, _⟩ := h.row (r := 0) h1
    rw [add_zero] at hc0
    have hrow : ∀ r, r < n → w.cell? (ad.add r) = some (.slice (RA r) (L r) (RC r)) := fun r hr => by
      obtain ⟨ad', e, _, hc, _⟩ := h.row hr
      injection e with e; subst e; exact hc
    clear h
    have Hrow := Lib.hid hrow; clear hrow
    by_cases h3 : 1 ≤ L 0 ∧ L 0 ≤ 32
    · obtain ⟨h3, h4⟩ := h3
      go_enter Try.func47, Try.ntmps47
      go_wp2_with (go_at_call 43; refine (within_yes _ (by omega) (by omega) _).mono ?_; rintro e w' ⟨rfl, rfl⟩)
      go_loop [19] (fun i => ∃ k : Nat, k ≤ n ∧ i = .int .i64 k ∧ Hid (∀ r, r < k → L r = L 0)) (fun i => n - (intOf i).toNat)
      case atStart => exact ⟨0, by omega, rfl, Lib.hid (fun r hr => absurd hr (by omega))⟩
      case round =>
        obtain ⟨k, hk, rfl, hall⟩ := hrel
        by_cases hlt : k < n
        · have hck := Hrow.out k hlt
          by_cases he : L k = L 0
          · have t := same_lens he
            have He := Lib.hid he; clear he
            go_wp2
            go_round
            case rel => exact ⟨k + 1, by omega, by go_num, Lib.hid (fun r hr => by
              by_cases e : r = k
              · subst e; exact He.out
              · exact hall.out r (by omega))⟩
            case measure => simp [intOf]; omega
          · have t := not_lens he
            have HF : Hid (okB n L = false) := Lib.hid (ok_no (fun h => he (h.2.2.2.2 k hlt)))
            clear he
            go_wp2
            go_ret
            exact ⟨by rw [HF.out]; rfl, rfl⟩
        · have HF : Hid (okB n L = true) := Lib.hid (ok_yes ⟨h1, h2, h3, h4, fun r hr => hall.out r (by omega)⟩)
          go_wp2
          go_ret
          exact ⟨by rw [HF.out]; rfl, rfl⟩
    · have HF : Hid (okB n L = false) := Lib.hid (ok_no (fun h => h3 ⟨h.2.2.1, h.2.2.2.1⟩))
      have h5 : ((L 0 : Nat) : Int) < 1 ∨ 32 < ((L 0 : Nat) : Int) := by omega
      have H5 := Lib.hid h5; clear h5 h3
      go_enter Try.func47, Try.ntmps47
      go_wp2_with fail
      refine (within_yes _ (by omega) (by omega) _).mono ?_; rintro e w' ⟨rfl, rfl⟩
      go_wp2_with fail
      refine (within_no _ H5.out _).mono ?_; rintro e w' ⟨rfl, rfl⟩
      go_wp2
      go_ret
      exact ⟨by rw [HF.out]; rfl, rfl⟩
  · have HF : Hid (okB n L = false) := Lib.hid (ok_no (fun h => h1 ⟨h.1, h.2.1⟩))
    have h5 : ((n : Nat) : Int) < 1 ∨ 32 < ((n : Nat) : Int) := by omega
    have H5 := Lib.hid h5; clear h5 h1 h
    go_enter Try.func47, Try.ntmps47
    go_wp2_with fail
    refine (within_no _ H5.out _).mono ?_; rintro e w' ⟨rfl, rfl⟩
    go_wp2
    go_ret
    exact ⟨by rw [HF.out]; rfl, rfl⟩
theorem may_yes (h : Mt w B A n L RA RC F) (hok : Ok n L) :
    Calls Try.prog 47 #[.slice A n cap] w fun e w' => e = .returned (.bool true) ∧ w = w' :=
  (may_any h (by have := hok.2.1; omega)).mono fun e w' ⟨h, h'⟩ => ⟨by rw [h, ok_yes hok], h'⟩
theorem may_no (h : Mt w B A n L RA RC F) (hn : n ≤ 9223372036854775807) (hok : ¬ Ok n L) :
    Calls Try.prog 47 #[.slice A n cap] w fun e w' => e = .returned (.bool false) ∧ w = w' :=
  (may_any h hn).mono fun e w' ⟨h, h'⟩ => ⟨by rw [h, ok_no hok], h'⟩

set_option maxRecDepth 100000 in
set_option maxHeartbeats 400000 in
/-- the closure of a product -/
theorem mulPlace_any {A' : Option Addr} {n' cap' : Nat} {L' RC' : Nat → Nat} {RA' : Nat → Option Addr} {F' : Nat → Nat → BitVec 8} (p q : Nat) (r c : Nat)
    (h : Mt w B A n L RA RC F) (h' : Mt w B A' n' L' RA' RC' F') (hr : r < n) (hl : L r = n') (hc : ∀ i, i < n' → c < L' i) (hn0 : 0 < n') (hn : n' ≤ 32)
    (hp : w.cell? ⟨p, 0, none⟩ = some (.slice A n cap)) (hq : w.cell? ⟨q, 0, none⟩ = some (.slice A' n' cap')) :
    Calls Try.prog 52 #[.int .i64 r, .int .i64 c, .pointer (some ⟨p, 0, none⟩), .pointer (some ⟨q, 0, none⟩)] w fun e w' => e = .returned (.int .u8 (V (mm n' F F' r c))) ∧ w = w' := by
  obtain ⟨ad, rfl, hb, hcr, _, hrw⟩ := h.row hr
  rw [hl] at hcr hrw
  obtain ⟨ad2, h2, _, hrow⟩ := hrw hn0
  rw [h2] at hcr
  obtain ⟨ad', rfl, hb', hx'⟩ := h' hn0
  clear hx'
  have hrow' : ∀ k, k < n' → ∃ ak, w.cell? (ad'.add k) = some (.slice (some ak) (L' k) (RC' k)) ∧ w.cell? (ak.add c) = some (.int .u8 (V (F' k c))) := fun k hk => by
    obtain ⟨ad3, e, _, h1, _, h3⟩ := h'.row hk
    injection e with e; subst e
    obtain ⟨ak, e, _, h4⟩ := h3.at_ (hc k hk)
    exact ⟨ak, by rw [h1, e], h4⟩
  have Hrow := Lib.hid hrow
  have Hrow' := Lib.hid hrow'
  have Hc := Lib.hid hc
  clear h h2 hrow hrow' h' hl hrw hc
  go_enter Try.func52, Try.ntmps52
  go_wp2
  go_loop [7, 15] (fun s i => ∃ k : Nat, k ≤ n' ∧ i = .int .i64 k ∧ s = .int .u8 (V (sm k (fun i => gm (F r i) (F' i c))))) (fun _ i => n' - (intOf i).toNat)
  case atStart => exact ⟨0, by omega, rfl, rfl⟩
  case round =>
    obtain ⟨k, hk, rfl, rfl⟩ := hrel
    by_cases hlt : k < n'
    · have c1 := Hrow.out k hlt
      obtain ⟨ak, c2, c3⟩ := Hrow'.out k hlt
      have c4 := Hc.out k hlt
      go_wp2_with (first | (go_at_call 54; refine (mul_any _ _ (V_lo _) (V_hi _) (V_lo _) (V_hi _) _).mono ?_; rintro e w' ⟨rfl, rfl⟩) | (go_at_call 53; refine (add_any _ _ (V_lo _) (V_hi _) (V_lo _) (V_hi _) _).mono ?_; rintro e w' ⟨rfl, rfl⟩))
      go_round
      case rel => exact ⟨k + 1, by omega, by go_num, by rw [B_V, B_V, B_V, B_V]; rfl⟩
      case measure => simp [intOf]; omega
    · obtain rfl : k = n' := by omega
      go_wp2
      go_ret
      exact ⟨rfl, rfl⟩
end
end Go.Proofs.Ytohbijjkkadbaaa.Mat
