/- Which texts are as long, few, the same: walked. -/
import Derived.Test.YtohbijjkkadbaaaCodD
namespace Go.Proofs.Ytohbijjkkadbaaa.Mat
open Go.RowKit Fld

def evenB (n : Nat) (S : Nat → ByteArray) : Bool := decide (Even n S)
theorem even_yes {n : Nat} {S : Nat → ByteArray} (h : Even n S) : evenB n S = true := decide_eq_true h
theorem even_no {n : Nat} {S : Nat → ByteArray} (h : ¬ Even n S) : evenB n S = false := decide_eq_false h
/-- texts are the same -/
def StSame (n : Nat) (S : Nat → ByteArray) (n' : Nat) (S' : Nat → ByteArray) : Prop := n = n' ∧ ∀ i, i < n → S i = S' i
instance (n : Nat) (S : Nat → ByteArray) (n' : Nat) (S' : Nat → ByteArray) : Decidable (StSame n S n' S') := by unfold StSame; infer_instance
def stB (n : Nat) (S : Nat → ByteArray) (n' : Nat) (S' : Nat → ByteArray) : Bool := decide (StSame n S n' S')
theorem str_beq (s t : ByteArray) : (s.toList == t.toList) = decide (s = t) := by
  rw [Bool.eq_iff_iff, beq_iff_eq, decide_eq_true_iff, ByteArray.toList_eq, ByteArray.toList_eq]
  exact ⟨fun h => ByteArray.ext (Array.toList_inj.1 h), fun h => by rw [h]⟩
theorem str_yes {s t : ByteArray} (h : s = t) : (s.toList == t.toList) = true ∧ (s.toList != t.toList) = false := by
  have : (s.toList == t.toList) = true := by rw [str_beq]; exact decide_eq_true h
  exact ⟨this, by unfold bne; rw [this]; rfl⟩
theorem str_no {s t : ByteArray} (h : s ≠ t) : (s.toList == t.toList) = false ∧ (s.toList != t.toList) = true := by
  have : (s.toList == t.toList) = false := by rw [str_beq]; exact decide_eq_false h
  exact ⟨this, by unfold bne; rw [this]; rfl⟩

section
variable {A A' : Option Addr} {n n' cap cap' B B' : Nat} {S S' : Nat → ByteArray} {w : World}
theorem stB_yes (h : StSame n S n' S') : stB n S n' S' = true := decide_eq_true h
theorem stB_no (h : ¬ StSame n S n' S') : stB n S n' S' = false := decide_eq_false h

set_option maxRecDepth 100000 in
set_option maxHeartbeats 800000 in
theorem even_any (h : St w B A n S) (hn : n ≤ 9223372036854775807) :
    Calls Try.prog 34 #[.slice A n cap] w fun e w' => e = .returned (.bool (evenB n S)) ∧ w = w' := by
  have H := Lib.hid h
  clear h
  go_enter Try.func34, Try.ntmps34
  go_wp2
  go_loop [7] (fun i => ∃ k : Nat, k ≤ n ∧ i = .int .i64 k ∧ Hid (∀ r, r < k → (S r).size = (S 0).size)) (fun i => n - (intOf i).toNat)
  case atStart => exact ⟨0, by omega, rfl, Lib.hid (fun r hr => absurd hr (by omega))⟩
  case round =>
    obtain ⟨k, hk, rfl, hall⟩ := hrel
    by_cases hlt : k < n
    · have hkz : (k : Int) < (n : Int) := by omega
      have p0 : 0 < n := by omega
      obtain ⟨ad, rfl, _, c1⟩ := H.out.at_ hlt
      obtain ⟨ad', hA, _, c0⟩ := H.out.at_ p0
      injection hA with hA
      subst hA
      rw [add_zero] at c0
      by_cases he : (S k).size = (S 0).size
      · have e1 := same_lens (L := fun i => (S i).size) (k := k) he
        have He := Lib.hid he; clear he
        go_wp2
        go_round
        case rel => exact ⟨k + 1, by omega, by go_num, Lib.hid (fun r hr => by
          by_cases e : r = k
          · subst e; exact He.out
          · exact hall.out r (by omega))⟩
        case measure => simp [intOf]; omega
      · have e1 := not_lens (L := fun i => (S i).size) (k := k) he
        have HF : Hid (evenB n S = false) := Lib.hid (even_no (fun h => he (h k hlt)))
        clear he
        go_wp2
        go_ret
        exact ⟨by rw [HF.out]; rfl, rfl⟩
    · have hkz : ¬ (k : Int) < (n : Int) := by omega
      have HF : Hid (evenB n S = true) := Lib.hid (even_yes (fun r hr => hall.out r (by omega)))
      go_wp2
      go_ret
      exact ⟨by rw [HF.out]; rfl, rfl⟩

set_option maxRecDepth 100000 in
set_option maxHeartbeats 800000 in
theorem refEven_any (h : St w B A n S) (hn : n ≤ 9223372036854775807) :
    Calls Try.prog 37 #[.slice A n cap] w fun e w' => e = .returned (.bool (evenB n S)) ∧ ∃ q, w' = w.drewN q := by
  have H := Lib.hid h
  clear h
  go_enter Try.func37, Try.ntmps37
  go_wp2
  go_loopg [3] n (fun gh i wr => ∃ k q : Nat, k ≤ n ∧ gh = n - k ∧ i = .int .i64 k ∧ wr = w.drewN q ∧ Hid (∀ r, r < k → (S r).size = (S 0).size))
  case atStart => exact ⟨0, 0, by omega, rfl, rfl, rfl, Lib.hid (fun r hr => absurd hr (by omega))⟩
  case round =>
    obtain ⟨k, q, hk, rfl, rfl, rfl, hall⟩ := hrel
    by_cases hlt : k < n
    · have hkz : (k : Int) < (n : Int) := by omega
      have p0 : 0 < n := by omega
      obtain ⟨ad, rfl, _, c1⟩ := H.out.at_ hlt
      obtain ⟨ad', hA, _, c0⟩ := H.out.at_ p0
      injection hA with hA
      subst hA
      rw [add_zero] at c0
      by_cases he : (S k).size = (S 0).size
      · have e1 := same_lens (L := fun i => (S i).size) (k := k) he
        have He := Lib.hid he; clear he
        go_wp2_with fail
        go_quiet (fail)
        go_wp2
        go_roundg (n - (k + 1))
        case measure => go_light; omega
        case rel => go_light; exact ⟨k + 1, _, by omega, rfl, by simp, rfl, Lib.hid (fun r hr => by
          by_cases e : r = k
          · subst e; exact He.out
          · exact hall.out r (by omega))⟩
      · have e1 := not_lens (L := fun i => (S i).size) (k := k) he
        have HF : Hid (evenB n S = false) := Lib.hid (even_no (fun h => he (h k hlt)))
        clear he
        go_wp2_with fail
        go_quiet (fail)
        go_wp2
        go_ret
        exact ⟨by rw [HF.out]; rfl, _, World.drewN_drewN _ _ _⟩
    · have hkz : ¬ (k : Int) < (n : Int) := by omega
      have HF : Hid (evenB n S = true) := Lib.hid (even_yes (fun r hr => hall.out r (by omega)))
      go_wp2
      go_ret
      exact ⟨by rw [HF.out]; rfl, _, rfl⟩

/-- a call answers yes or no -/
def YesNo (w : World) (e : Ending) (w' : World) : Prop := ∃ b, e = .returned (.bool b) ∧ w = w'
set_option maxRecDepth 100000 in
set_option maxHeartbeats 800000 in
theorem small_any (h : St w B A n S) :
    Calls Try.prog 17 #[.slice A n cap] w (YesNo w) := by
  have H := Lib.hid h
  clear h
  by_cases hn : 40 < n
  · have g1 : decide ((n : Int) > 40) = true := by simp; omega
    go_enter Try.func17, Try.ntmps17
    go_wp2
    go_ret
    exact ⟨_, rfl, rfl⟩
  · have g1 : decide ((n : Int) > 40) = false := by simp; omega
    go_enter Try.func17, Try.ntmps17
    go_wp2
    go_loop [3] (fun i => ∃ k : Nat, k ≤ n ∧ i = .int .i64 k) (fun i => n - (intOf i).toNat)
    case atStart => exact ⟨0, by omega, rfl⟩
    case round =>
      obtain ⟨k, hk, rfl⟩ := hrel
      by_cases hlt : k < n
      · have hkz : (k : Int) < (n : Int) := by omega
        obtain ⟨ad, rfl, _, c1⟩ := H.out.at_ hlt
        cases he : decide (((S k).size : Int) > 200)
        · go_wp2
          go_round
          case rel => exact ⟨k + 1, by omega, by go_num⟩
          case measure => simp [intOf]; omega
        · go_wp2
          go_ret
          exact ⟨_, rfl, rfl⟩
      · have hkz : ¬ (k : Int) < (n : Int) := by omega
        go_wp2
        go_ret
        exact ⟨_, rfl, rfl⟩

set_option maxRecDepth 100000 in
set_option maxHeartbeats 800000 in
theorem strSame_any (h : St w B A n S) (h' : St w B' A' n' S') (hn : n ≤ 9223372036854775807) (hn' : n' ≤ 9223372036854775807) :
    Calls Try.prog 20 #[.slice A n cap, .slice A' n' cap'] w fun e w' => e = .returned (.bool (stB n S n' S')) ∧ ∃ q, w' = w.drewN q := by
  have H := Lib.hid h
  have H' := Lib.hid h'
  clear h h'
  by_cases e : n = n'
  · subst e
    have e1 : ((n : Int) != (n : Int)) = false := by rw [bne_eq_false_iff_eq]
    go_enter Try.func20, Try.ntmps20
    go_wp2
    go_loopg [5] n (fun gh i wr => ∃ k q : Nat, k ≤ n ∧ gh = n - k ∧ i = .int .i64 k ∧ wr = w.drewN q ∧ Hid (∀ r, r < k → S r = S' r))
    case atStart => exact ⟨0, 0, by omega, rfl, rfl, rfl, Lib.hid (fun r hr => absurd hr (by omega))⟩
    case round =>
      obtain ⟨k, q, hk, rfl, rfl, rfl, hall⟩ := hrel
      by_cases hlt : k < n
      · have hkz : (k : Int) < (n : Int) := by omega
        obtain ⟨ad, rfl, _, c1⟩ := H.out.at_ hlt
        obtain ⟨ad', rfl, _, c2⟩ := H'.out.at_ hlt
        by_cases he : S k = S' k
        · obtain ⟨t, t2⟩ := str_yes he
          have He := Lib.hid he; clear he
          go_wp2_with fail
          go_quiet (fail)
          go_wp2
          go_roundg (n - (k + 1))
          case measure => go_light; omega
          case rel => go_light; exact ⟨k + 1, _, by omega, rfl, by simp, rfl, Lib.hid (fun r hr => by
            by_cases e : r = k
            · subst e; exact He.out
            · exact hall.out r (by omega))⟩
        · obtain ⟨t, t2⟩ := str_no he
          have HF : Hid (stB n S n S' = false) := Lib.hid (stB_no (fun h => he (h.2 k hlt)))
          clear he
          go_wp2_with fail
          go_quiet (fail)
          go_wp2
          go_ret
          exact ⟨by rw [HF.out]; rfl, _, World.drewN_drewN _ _ _⟩
      · have hkz : ¬ (k : Int) < (n : Int) := by omega
        have HF : Hid (stB n S n S' = true) := Lib.hid (stB_yes ⟨rfl, fun r hr => hall.out r (by omega)⟩)
        go_wp2
        go_ret
        exact ⟨by rw [HF.out]; rfl, _, rfl⟩
  · have e1 : ((n : Int) != (n' : Int)) = true := by rw [bne_iff_ne]; omega
    have HF : Hid (stB n S n' S' = false) := Lib.hid (stB_no (fun h => e h.1))
    clear e
    go_enter Try.func20, Try.ntmps20
    go_wp2
    go_ret
    exact ⟨by rw [HF.out]; rfl, 0, rfl⟩
set_option maxRecDepth 100000 in
set_option maxHeartbeats 800000 in
theorem strEqual_any (h : St w B A n S) (h' : St w B' A' n' S') (hn : n ≤ 9223372036854775807) (hn' : n' ≤ 9223372036854775807) :
    Calls Try.prog 39 #[.slice A n cap, .slice A' n' cap'] w fun e w' => e = .returned (.bool (stB n S n' S')) ∧ ∃ q, w' = w.drewN q := by
  have H := Lib.hid h
  have H' := Lib.hid h'
  clear h h'
  by_cases e : n = n'
  · subst e
    have e1 : ((n : Int) != (n : Int)) = false := by rw [bne_eq_false_iff_eq]
    go_enter Try.func39, Try.ntmps39
    go_wp2
    go_loopg [13] n (fun gh i wr => ∃ k q : Nat, k ≤ n ∧ gh = n - k ∧ i = .int .i64 k ∧ wr = w.drewN q ∧ Hid (∀ r, r < k → S r = S' r))
    case atStart => exact ⟨0, 0, by omega, rfl, rfl, rfl, Lib.hid (fun r hr => absurd hr (by omega))⟩
    case round =>
      obtain ⟨k, q, hk, rfl, rfl, rfl, hall⟩ := hrel
      by_cases hlt : k < n
      · have hkz : (k : Int) < (n : Int) := by omega
        obtain ⟨ad, rfl, _, c1⟩ := H.out.at_ hlt
        obtain ⟨ad', rfl, _, c2⟩ := H'.out.at_ hlt
        by_cases he : S k = S' k
        · obtain ⟨t, t2⟩ := str_yes he
          have He := Lib.hid he; clear he
          go_wp2_with fail
          go_quiet (fail)
          go_wp2
          go_roundg (n - (k + 1))
          case measure => go_light; omega
          case rel => go_light; exact ⟨k + 1, _, by omega, rfl, by simp, rfl, Lib.hid (fun r hr => by
            by_cases e : r = k
            · subst e; exact He.out
            · exact hall.out r (by omega))⟩
        · obtain ⟨t, t2⟩ := str_no he
          have HF : Hid (stB n S n S' = false) := Lib.hid (stB_no (fun h => he (h.2 k hlt)))
          clear he
          go_wp2_with fail
          go_quiet (fail)
          go_wp2
          go_ret
          exact ⟨by rw [HF.out]; rfl, _, World.drewN_drewN _ _ _⟩
      · have hkz : ¬ (k : Int) < (n : Int) := by omega
        have HF : Hid (stB n S n S' = true) := Lib.hid (stB_yes ⟨rfl, fun r hr => hall.out r (by omega)⟩)
        go_wp2
        go_ret
        exact ⟨by rw [HF.out]; rfl, _, rfl⟩
  · have e1 : ((n : Int) != (n' : Int)) = true := by rw [bne_iff_ne]; omega
    have HF : Hid (stB n S n' S' = false) := Lib.hid (stB_no (fun h => e h.1))
    clear e
    go_enter Try.func39, Try.ntmps39
    go_wp2
    go_ret
    exact ⟨by rw [HF.out]; rfl, 0, rfl⟩
end
end Go.Proofs.Ytohbijjkkadbaaa.Mat
