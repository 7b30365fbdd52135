/- Steps to an inverse: walked. -/
import Derived.Test.YtohbijjkkadbaaaMatOwn
import Derived.BigRegion
import Derived.Deep.RegionHeld3
namespace Go.Proofs.Ytohbijjkkadbaaa.Mat
open Go.RowKit Fld

set_option maxRecDepth 100000 in
set_option maxHeartbeats 400000 in
theorem scale_any (b m cap : Nat) (f : Nat → BitVec 8) (x : BitVec 8) (w : World) (hm : m ≤ 64) (h : Has w b 5 m (fun c => .int .u8 (V (f c)))) :
    Calls Try.prog 63 #[.slice (some ⟨b, 0, none⟩) m cap, .int .u8 (V x)] w fun e w' =>
      e = .returned (.tuple #[]) ∧ Has w' b 5 m (fun c => .int .u8 (V (gm (f c) x))) ∧ Turned (· = b) w w' := by
  go_enter Try.func63, Try.ntmps63
  go_wp2
  go_loopg [7] m (fun g i wr => ∃ k : Nat, k ≤ m ∧ g = m - k ∧ i = .int .i64 k ∧ Has wr b 5 m (fun c => .int .u8 (V (if c < k then gm (f c) x else f c))) ∧ Turned (· = b) w wr)
  case atStart => exact ⟨0, Nat.zero_le _, rfl, rfl, h.congr (fun c _ => by simp), Turned.refl _ _⟩
  case round =>
    obtain ⟨k, hk, rfl, rfl, hH, hT⟩ := hrel
    by_cases hlt : k < m
    · have hkz : (k : Int) < (m : Int) := by omega
      have c1 : wr.cell? ⟨b, k, none⟩ = some (.int .u8 (V (f k))) := by have := hH.cell hlt; simpa using this
      have c2 : wr.frozen? ⟨b, k, none⟩ = false := hH.frozen hlt
      have HH := Lib.hid hH; clear hH
      go_wp2_with (go_at_call 54; refine (mul_any _ _ (V_lo _) (V_hi _) (V_lo _) (V_hi _) _).mono ?_; rintro e w' ⟨rfl, rfl⟩)
      go_roundg (m - (k + 1))
      case measure => go_light; omega
      case rel =>
        go_light
        refine ⟨k + 1, by omega, rfl, by simp, (HH.out.set_ k _).congr (fun c _ => ?_), hT.setCell (p := ⟨b, k, none⟩) rfl _⟩
        by_cases e : c = k
        · subst e; rw [if_pos rfl, if_pos (by omega), B_V, B_V]
        · rw [if_neg e]
          by_cases e2 : c < k
          · rw [if_pos e2, if_pos (by omega)]
          · rw [if_neg e2, if_neg (by omega)]
    · have hkz : ¬ ((k : Int) < (m : Int)) := by omega
      obtain rfl : k = m := by omega
      have HH := Lib.hid hH; clear hH
      go_wp2
      go_end0
      exact ⟨rfl, HH.out.congr (fun c hc => by rw [if_pos hc]), hT⟩

/-- the rows above r are swept, and the first c places of the row r -/
def swi (F : Nat → Nat → BitVec 8) (k r c q i : Nat) : BitVec 8 := if q ≠ k ∧ (q < r ∨ (q = r ∧ i < c)) then F q i ^^^ gm (F q k) (F k i) else F q i
theorem swi_at (F : Nat → Nat → BitVec 8) (k r c i : Nat) (h : c ≤ i) : swi F k r c r i = F r i := if_neg (by omega)
theorem swi_k (F : Nat → Nat → BitVec 8) (k r c i : Nat) : swi F k r c k i = F k i := if_neg (fun h => h.1 rfl)
theorem swi_skip (F : Nat → Nat → BitVec 8) (k q i : Nat) : swi F k k 0 q i = swi F k (k + 1) 0 q i := by
  unfold swi
  by_cases e : q = k
  · subst e; simp
  · by_cases h : q < k
    · rw [if_pos ⟨e, .inl h⟩, if_pos ⟨e, .inl (by omega)⟩]
    · rw [if_neg (by omega), if_neg (by omega)]
theorem swi_row (F : Nat → Nat → BitVec 8) (k r m q i : Nat) (hi : i < m) : swi F k r m q i = swi F k (r + 1) 0 q i := by
  unfold swi
  by_cases h : q ≠ k ∧ q ≤ r
  · rw [if_pos (by omega), if_pos (by omega)]
  · rw [if_neg (by omega), if_neg (by omega)]
theorem swi_next (F : Nat → Nat → BitVec 8) (k r c q i : Nat) (hr : r ≠ k) :
    (if q = r ∧ i = c then F r c ^^^ gm (F r k) (F k c) else swi F k r c q i) = swi F k r (c + 1) q i := by
  unfold swi
  by_cases e : q = r ∧ i = c
  · obtain ⟨rfl, rfl⟩ := e
    rw [if_pos ⟨rfl, rfl⟩, if_pos (by omega)]
  · rw [if_neg e]
    by_cases h : q ≠ k ∧ (q < r ∨ (q = r ∧ i < c))
    · rw [if_pos h, if_pos (by omega)]
    · rw [if_neg h, if_neg (by omega)]
theorem swi_end (F : Nat → Nat → BitVec 8) (k n q i : Nat) (hq : q < n) : swi F k n 0 q i = su F k (fun r => F r k) q i := by
  unfold swi su
  by_cases e : q = k
  · subst e; simp
  · rw [if_pos ⟨e, .inl hq⟩, if_neg e]

set_option maxRecDepth 1000000 in
set_option maxHeartbeats 1600000 in
theorem sweep_any (B g n m cap k : Nat) (G C : Nat → Nat) (F : Nat → Nat → BitVec 8) (w : World) (hn : n ≤ 32) (hm : m ≤ 64) (hk : k < n) (hkm : k < m) (h : Own w B g n m G C F) :
    Calls Try.prog 64 #[.slice (some ⟨g, 0, none⟩) n cap, .int .i64 (k : Int)] w fun e w' =>
      e = .returned (.tuple #[]) ∧ Own w' B g n m G C (su F k (fun r => F r k)) ∧ Turned (Zone g n G) w w' := by
  go_enter Try.func64, Try.ntmps64
  go_wp2
  go_loopg [10] n (fun gh i wr => ∃ r : Nat, r ≤ n ∧ gh = n - r ∧ i = .int .i64 r ∧ Own wr B g n m G C (swi F k r 0) ∧ Turned (Zone g n G) w wr)
  case atStart => exact ⟨0, Nat.zero_le _, rfl, rfl, h.congr (fun q i _ _ => by unfold swi; rw [if_neg (by omega)]), Turned.refl _ _⟩
  case round =>
    obtain ⟨r, hr, rfl, rfl, hO, hT⟩ := hrel
    by_cases hrn : r < n
    · have hrz : (r : Int) < (n : Int) := by omega
      have c1 : wr.cell? ⟨g, r, none⟩ = some (.slice (some ⟨G r, 0, none⟩) m (C r)) := hO.top.cell hrn
      by_cases hrk : r = k
      · subst hrk
        have e1 : ((r : Int) == (r : Int)) = true := by simp
        have HO := Lib.hid hO; clear hO
        go_wp2
        go_roundg (n - (r + 1))
        case measure => go_light; omega
        case rel => go_light; exact ⟨r + 1, by omega, rfl, by simp, HO.out.congr (fun q i _ _ => swi_skip F r q i), hT⟩
      · have e1 : ((r : Int) == (k : Int)) = false := by rw [beq_eq_false_iff_ne]; omega
        have c2 : wr.cell? ⟨G r, k, none⟩ = some (.int .u8 (V (F r k))) := by
          have := (hO.row r hrn).2.2.cell hkm
          rw [swi_at F k r 0 k (by omega)] at this; exact this
        have HO := Lib.hid hO; clear hO
        have Hrk := Lib.hid hrk; clear hrk
        go_wp2
        clear c1 c2
        go_loopg [24] m (fun gh i wi => ∃ c : Nat, c ≤ m ∧ gh = m - c ∧ i = .int .i64 c ∧ Own wi B g n m G C (swi F k r c) ∧ Turned (Zone g n G) w wi)
        case atStart => exact ⟨0, Nat.zero_le _, rfl, rfl, HO.out, hT⟩
        case round =>
          obtain ⟨c, hc, rfl, rfl, hI, hTI⟩ := hrel
          clear HO hT
          by_cases hcm : c < m
          · have hcz : (c : Int) < (m : Int) := by omega
            have c1 : wr.cell? ⟨G r, c, none⟩ = some (.int .u8 (V (F r c))) := by
              have := (hI.row r hrn).2.2.cell hcm
              rw [swi_at F k r c c (by omega)] at this; exact this
            have c2 : wr.frozen? ⟨G r, c, none⟩ = false := (hI.row r hrn).2.2.frozen hcm
            have c3 : wr.cell? ⟨g, k, none⟩ = some (.slice (some ⟨G k, 0, none⟩) m (C k)) := hI.top.cell hk
            have c4 : wr.cell? ⟨G k, c, none⟩ = some (.int .u8 (V (F k c))) := by
              have := (hI.row k hk).2.2.cell hcm
              rw [swi_k F k r c c] at this; exact this
            have HI := Lib.hid hI; clear hI
            go_wp2_with fail
            go_still_tail 17, (by kernel_rfl)
            still_call ((mul_any _ _ (V_lo _) (V_hi _) (V_lo _) (V_hi _) _).mono fun e w' h => ⟨h.1, h.2.symm⟩)
            still_call ((add_any _ _ (V_lo _) (V_hi _) (V_lo _) (V_hi _) _).mono fun e w' h => ⟨h.1, h.2.symm⟩)
            still_step
            refine wpStill_nil ?_
            change wpList _ _ _ _ _ wr.drew
            go_wp2
            go_roundg (m - (c + 1))
            case measure => go_light; omega
            case rel =>
              go_light
              refine ⟨c + 1, by omega, rfl, by simp, ?_, hTI.drew.setCell (p := ⟨G r, c, none⟩) (.inr ⟨r, hrn, rfl⟩) _⟩
              rw [B_V, B_V, B_V, B_V]
              exact (HI.out.drew.store hrn c (F r c ^^^ gm (F r k) (F k c))).congr (fun q i _ _ => swi_next F k r c q i Hrk.out)
          · obtain rfl : c = m := by omega
            have hcz : ¬ ((c : Int) < (c : Int)) := by omega
            have HI := Lib.hid hI; clear hI
            go_wp2
            go_roundg (n - (r + 1))
            case measure => go_light; omega
            case rel => go_light; exact ⟨r + 1, by omega, rfl, by simp, HI.out.congr (fun q i _ hi => swi_row F k r c q i hi), hTI⟩
    · have hrz : ¬ ((r : Int) < (n : Int)) := by omega
      obtain rfl : r = n := by omega
      have HO := Lib.hid hO; clear hO
      go_wp2
      go_end0
      exact ⟨rfl, HO.out.congr (fun q i hq _ => swi_end F k r q i hq), hT⟩
end Go.Proofs.Ytohbijjkkadbaaa.Mat
