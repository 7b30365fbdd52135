/- Identities, powers, products: walked. -/
import Derived.Test.YtohbijjkkadbaaaMatB
namespace Go.Proofs.Ytohbijjkkadbaaa.Mat
open Go.RowKit Fld

/-- a call has answered a matrix in new memory, and no error -/
def MadeRet (w : World) (n m : Nat) (X : Nat → Nat → BitVec 8) (e : Ending) (w' : World) : Prop :=
  ∃ A cap RA RC, e = .returned (.tuple #[.slice A n cap, .int .i64 0]) ∧ Mt w' w'.heap.size A n (fun _ => m) RA RC X ∧ Below w.heap.size w w'
/-- .. none, and this error -/
def FailRet (w : World) (k : Int) (e : Ending) (w' : World) : Prop :=
  e = .returned (.tuple #[.slice none 0 0, .int .i64 k]) ∧ Below w.heap.size w w'

/-- a contract that leaves the world, as one that may draw -/
theorem may_draw {P : Program} {f : FuncId} {args : Array Value} {W : World} {v : Value} (h : Calls P f args W fun e w' => e = .returned v ∧ W = w') : Calls P f args W fun e w' => e = .returned v ∧ ∃ q, w' = W.drewN q :=
  h.mono fun _ _ ⟨he, hw⟩ => ⟨he, 0, hw.symm⟩
theorem Outer.mt {w w' : World} {n m : Nat} {X} (h : Outer w w' n m n X) :
    Mt w' w'.heap.size (some ⟨w.heap.size, 0, none⟩) n (fun _ => m) (fun r => some ⟨w.heap.size + 1 + r, 0, none⟩) (fun _ => m) X :=
  Mt.of_has (C := fun _ => m) ((Has.of_is h.top).congr (fun i hi => by simp [tops, hi])) (by have := h.size; omega)
    (fun r hr => ⟨by have := h.size; omega, Nat.le_refl _, .of_is (h.done r hr)⟩)
theorem Mt.drewN {w : World} {B n : Nat} {A : Option Addr} {L RC : Nat → Nat} {RA : Nat → Option Addr} {F : Nat → Nat → BitVec 8} (h : Mt w B A n L RA RC F) (k : Nat) : Mt (w.drewN k) B A n L RA RC F := h
theorem Mt.drew {w : World} {B n : Nat} {A : Option Addr} {L RC : Nat → Nat} {RA : Nat → Option Addr} {F : Nat → Nat → BitVec 8} (h : Mt w B A n L RA RC F) : Mt w.drew B A n L RA RC F := h
theorem Mt.congr {w : World} {B n : Nat} {A : Option Addr} {L RC : Nat → Nat} {RA : Nat → Option Addr} {F G : Nat → Nat → BitVec 8} (h : Mt w B A n L RA RC F) (e : ∀ r c, r < n → c < L r → F r c = G r c) : Mt w B A n L RA RC G := fun hn => by
  obtain ⟨ad, h1, h2, h3⟩ := h hn
  refine ⟨ad, h1, h2, fun r hr => ?_⟩
  obtain ⟨q1, q2, q3⟩ := h3 r hr
  refine ⟨q1, q2, fun hl => ?_⟩
  obtain ⟨a2, z1, z2, z3⟩ := q3 hl
  exact ⟨a2, z1, z2, fun c hc => by rw [z3 c hc, e r c hr hc]⟩

set_option maxRecDepth 100000 in
theorem idPlace_any (r c : Nat) (w : World) :
    Calls Try.prog 61 #[.int .i64 (r : Int), .int .i64 (c : Int)] w fun e w' => e = .returned (.int .u8 (V (idm r c))) ∧ w = w' := by
  by_cases h : r = c
  · subst h
    have e : ((r : Int) == (r : Int)) = true := by simp
    rw [idm_same, V_one]
    go_enter Try.func61, Try.ntmps61
    go_wp2
    go_ret
    exact ⟨rfl, rfl⟩
  · have e : ((r : Int) == (c : Int)) = false := by rw [beq_eq_false_iff_ne]; omega
    rw [idm_ne h, V_zero]
    clear h
    go_enter Try.func61, Try.ntmps61
    go_wp2
    go_ret
    exact ⟨rfl, rfl⟩

theorem B_nat (r : Nat) : B (r : Int) = BitVec.ofNat 8 r := by unfold B; simp
/-- the powers of the rows' numbers -/
def pwm (r c : Nat) : BitVec 8 := pw (BitVec.ofNat 8 r) c
set_option maxRecDepth 100000 in
theorem powPlace_any (r c : Nat) (hr : r < 32) (hc : c < 32) (w : World) :
    Calls Try.prog 45 #[.int .i64 (r : Int), .int .i64 (c : Int)] w fun e w' => e = .returned (.int .u8 (V (pwm r c))) ∧ w = w' := by
  unfold pwm
  rw [← B_nat r]
  go_enter Try.func45, Try.ntmps45
  go_wp2_with fail
  refine (pow_any _ _ (by omega) (by omega) _).mono ?_; rintro e w' ⟨rfl, rfl⟩
  go_wp2
  go_ret
  exact ⟨rfl, rfl⟩

set_option maxRecDepth 100000 in
theorem identityOf_any (n : Nat) (hn : n ≤ 32) (w : World) :
    Calls Try.prog 48 #[.int .i64 (n : Int)] w fun e w' => e = .returned (.slice (some ⟨w.heap.size, 0, none⟩) n n) ∧ Outer w w' n n n idm := by
  go_enter Try.func48, Try.ntmps48
  go_wp2_with fail
  refine (filled_any n n hn hn 61 #[] idm _ (by kernel_rfl) (fun r c W _ _ _ => may_draw (idPlace_any r c W))).mono ?_; rintro e w' ⟨rfl, hO⟩
  go_wp2
  go_ret
  exact ⟨rfl, hO⟩

set_option maxRecDepth 100000 in
theorem powers_yes (n m : Nat) (h1 : 1 ≤ n) (hn : n ≤ 32) (h2 : 1 ≤ m) (hm : m ≤ 32) (w : World) :
    Calls Try.prog 26 #[.int .i64 (n : Int), .int .i64 (m : Int)] w (MadeRet w n m pwm) := by
  go_enter Try.func26, Try.ntmps26
  go_wp2_with fail
  refine (within_yes _ (by omega) (by omega) _).mono ?_; rintro e w' ⟨rfl, rfl⟩
  go_wp2_with fail
  refine (within_yes _ (by omega) (by omega) _).mono ?_; rintro e w' ⟨rfl, rfl⟩
  go_wp2_with fail
  refine (filled_any n m hn hm 45 #[] pwm _ (by kernel_rfl) (fun r c W hr hc _ => may_draw (powPlace_any r c (by omega) (by omega) W))).mono ?_; rintro e w' ⟨rfl, hO⟩
  go_wp2
  go_ret2
  exact ⟨_, _, _, _, rfl, hO.mt, hO.below⟩
set_option maxRecDepth 100000 in
theorem powers_no (n m : Int) (h1 : (n < 1 ∨ 32 < n) ∨ (m < 1 ∨ 32 < m)) (w : World) :
    Calls Try.prog 26 #[.int .i64 n, .int .i64 m] w (FailRet w 1) := by
  by_cases h : n < 1 ∨ 32 < n
  · have H1 := Lib.hid h; clear h h1
    go_enter Try.func26, Try.ntmps26
    go_wp2_with fail
    refine (within_no _ H1.out _).mono ?_; rintro e w' ⟨rfl, rfl⟩
    go_wp2
    go_ret2
    exact ⟨rfl, Below.refl _ _⟩
  · have H1 : Hid (m < 1 ∨ 32 < m) := Lib.hid (by omega)
    have a1 : 1 ≤ n := by omega
    have a2 : n ≤ 32 := by omega
    clear h h1
    go_enter Try.func26, Try.ntmps26
    go_wp2_with fail
    refine (within_yes _ a1 a2 _).mono ?_; rintro e w' ⟨rfl, rfl⟩
    go_wp2_with fail
    refine (within_no _ H1.out _).mono ?_; rintro e w' ⟨rfl, rfl⟩
    go_wp2
    go_ret2
    exact ⟨rfl, Below.refl _ _⟩

/-! ### products -/
theorem quiet_left {P : Program} {f : FuncId} {args : Array Value} {w : World} {n : Nat} {v : Value}
    (h : Calls P f args (w.drewN n) fun e w' => e = .returned v ∧ w.drewN n = w') : Calls P f args (w.drewN n) fun e w'' => e = .returned v ∧ ∃ m, w'' = w.drewN m :=
  h.mono fun _ _ ⟨he, hm⟩ => ⟨he, n, hm.symm⟩

section
variable {A A' : Option Addr} {n n' cap cap' B B' : Nat} {L RC L' RC' : Nat → Nat} {RA RA' : Nat → Option Addr} {F F' : Nat → Nat → BitVec 8} {w : World}
set_option maxRecDepth 100000 in
set_option maxHeartbeats 800000 in
theorem mul_yes (h : Mt w w.heap.size A n L RA RC F) (h' : Mt w w.heap.size A' n' L' RA' RC' F') (o : Ok n L) (o' : Ok n' L') (e : L 0 = n') :
    Calls Try.prog 30 #[.slice A n cap, .slice A' n' cap'] w (MadeRet w n (L' 0) (mm n' F F')) := by
  have H := Lib.hid h
  have H' := Lib.hid h'
  have O := Lib.hid o
  have O' := Lib.hid o'
  have E := Lib.hid e
  obtain ⟨ad, rfl, hb, hc0, _, _⟩ := h.row (r := 0) o.1
  obtain ⟨ad', rfl, hb', hc0', _, _⟩ := h'.row (r := 0) o'.1
  rw [add_zero] at hc0 hc0'
  have n1 := o.1
  have n2 := o'.1
  have p0 : 0 < n' := o'.1
  have e1 : ((L 0 : Int) != (n' : Int)) = false := by rw [bne_eq_false_iff_eq]; omega
  clear h h' o o' e
  go_enter Try.func30, Try.ntmps30
  go_wp2_with fail
  go_quiet ((first | (go_at_call 47; exact quiet_left (may_yes (B := w.heap.size) (L := L) (RA := RA) (RC := RC) (F := F) ((H.out.below (((Below.refl _ _).alloc (Nat.le_refl _) _).alloc (by simp) _) (Nat.le_refl _)).drewN _) O.out)) | (go_at_call 47; exact quiet_left (may_yes (B := w.heap.size) (L := L') (RA := RA') (RC := RC') (F := F') ((H'.out.below (((Below.refl _ _).alloc (Nat.le_refl _) _).alloc (by simp) _) (Nat.le_refl _)).drewN _) O'.out))))
  go_wp2_with fail
  generalize hw1 : ((w.alloc (.cells #[.slice (some ad) n cap] 23)).alloc (.cells #[.slice (some ad') n' cap'] 23)).drewN nq = w1
  have b1 : Below w.heap.size w w1 := by subst hw1; exact below_drewN (((Below.refl _ _).alloc (Nat.le_refl _) _).alloc (by simp) _) _
  have q1 : Has w1 w.heap.size 23 1 (fun _ => .slice (some ad) n cap) := by
    subst hw1; exact ((has_box w _ _).alloc _).drewN _
  have q2 : Has w1 (w.heap.size + 1) 23 1 (fun _ => .slice (some ad') n' cap') := by
    subst hw1
    have := has_box (w.alloc (.cells #[.slice (some ad) n cap] 23)) (.slice (some ad') n' cap') 23
    rw [size_alloc] at this
    exact this.drewN _
  clear hw1
  have d1 := q1.cell (i := 0) (by omega)
  have d2 := q2.cell (i := 0) (by omega)
  have z0 : w1.cell? ad' = some (.slice (RA' 0) (L' 0) (RC' 0)) := by rw [b1.cell hb']; exact hc0'
  have HB := Lib.hid b1
  have HQ1 := Lib.hid q1
  have HQ2 := Lib.hid q2
  clear b1 q1 q2
  go_still_tail 7, (by kernel_rfl)
  change wpList _ _ _ _ _ w1.drew
  have hplace : ∀ r c W, r < n → c < L' 0 → Below w1.drew.heap.size w1.drew W →
      Calls Try.prog 52 (#[.int .i64 (r : Int), .int .i64 (c : Int)] ++ #[.pointer (some ⟨w.heap.size, 0, none⟩), .pointer (some ⟨w.heap.size + 1, 0, none⟩)]) W fun e w' => e = .returned (.int .u8 (V (mm n' F F' r c))) ∧ ∃ q, w' = W.drewN q := by
    intro r c W hr hc hW
    have hb2 : Below w1.heap.size w1 W := ⟨hW.os, hW.tape, hW.output, hW.size, hW.block⟩
    have hB : Below w.heap.size w W := HB.out.trans (hb2.mono HB.out.size)
    refine may_draw (mulPlace_any _ _ r c (H.out.below hB (Nat.le_refl _)) (H'.out.below hB (Nat.le_refl _)) hr (by rw [O.out.2.2.2.2 r hr]; exact E.out)
      (fun i hi => by rw [O'.out.2.2.2.2 i hi]; exact hc) O'.out.1 O'.out.2.1
      ((HQ1.out.below hb2 HQ1.out.lt).cell (by omega)) ((HQ2.out.below hb2 HQ2.out.lt).cell (by omega)))
  have HP := Lib.hid hplace; clear hplace
  go_wp2_with fail
  refine (filled_any n (L' 0) O.out.2.1 O'.out.2.2.2.1 52 _ _ _ (by kernel_rfl) HP.out).mono ?_; rintro e w' ⟨rfl, hO⟩
  go_wp2
  go_ret2
  refine ⟨_, _, _, _, rfl, hO.mt, ?_⟩
  have hb3 := hO.below
  exact HB.out.trans (Below.mono (w := w1) ⟨hb3.os, hb3.tape, hb3.output, hb3.size, hb3.block⟩ HB.out.size)

set_option maxRecDepth 100000 in
set_option maxHeartbeats 800000 in
theorem mul_no1 (h : Mt w w.heap.size A n L RA RC F) (hn : n ≤ 9223372036854775807) (o : ¬ Ok n L) :
    Calls Try.prog 30 #[.slice A n cap, .slice A' n' cap'] w (FailRet w 1) := by
  have H := Lib.hid h
  have O := Lib.hid o
  clear h o
  go_enter Try.func30, Try.ntmps30
  go_wp2_with fail
  go_quiet ((go_at_call 47; exact quiet_left (may_no (B := w.heap.size) (L := L) (RA := RA) (RC := RC) (F := F) ((H.out.below (((Below.refl _ _).alloc (Nat.le_refl _) _).alloc (by simp) _) (Nat.le_refl _)).drewN _) hn O.out)))
  go_wp2
  go_ret2
  exact ⟨rfl, below_drewN (((Below.refl _ _).alloc (Nat.le_refl _) _).alloc (by simp) _) _⟩
set_option maxRecDepth 100000 in
set_option maxHeartbeats 800000 in
theorem mul_no2 (h : Mt w w.heap.size A n L RA RC F) (h' : Mt w w.heap.size A' n' L' RA' RC' F') (hn : n' ≤ 9223372036854775807) (o : Ok n L) (o' : ¬ Ok n' L') :
    Calls Try.prog 30 #[.slice A n cap, .slice A' n' cap'] w (FailRet w 1) := by
  have H := Lib.hid h
  have H' := Lib.hid h'
  have O := Lib.hid o
  have O' := Lib.hid o'
  clear h o h' o'
  go_enter Try.func30, Try.ntmps30
  go_wp2_with fail
  go_quiet ((first | (go_at_call 47; exact quiet_left (may_yes (B := w.heap.size) (L := L) (RA := RA) (RC := RC) (F := F) ((H.out.below (((Below.refl _ _).alloc (Nat.le_refl _) _).alloc (by simp) _) (Nat.le_refl _)).drewN _) O.out)) | (go_at_call 47; exact quiet_left (may_no (B := w.heap.size) (L := L') (RA := RA') (RC := RC') (F := F') ((H'.out.below (((Below.refl _ _).alloc (Nat.le_refl _) _).alloc (by simp) _) (Nat.le_refl _)).drewN _) hn O'.out))))
  go_wp2
  go_ret2
  exact ⟨rfl, below_drewN (((Below.refl _ _).alloc (Nat.le_refl _) _).alloc (by simp) _) _⟩
set_option maxRecDepth 100000 in
set_option maxHeartbeats 800000 in
theorem mul_no3 (h : Mt w w.heap.size A n L RA RC F) (h' : Mt w w.heap.size A' n' L' RA' RC' F') (o : Ok n L) (o' : Ok n' L') (e : L 0 ≠ n') :
    Calls Try.prog 30 #[.slice A n cap, .slice A' n' cap'] w (FailRet w 1) := by
  have H := Lib.hid h
  have H' := Lib.hid h'
  have O := Lib.hid o
  have O' := Lib.hid o'
  obtain ⟨ad, rfl, hb, hc0, _, _⟩ := h.row (r := 0) o.1
  rw [add_zero] at hc0
  have n1 := o.1
  have e1 : ((L 0 : Int) != (n' : Int)) = true := by rw [bne_iff_ne]; omega
  clear h h' o o' e
  go_enter Try.func30, Try.ntmps30
  go_wp2_with fail
  go_quiet ((first | (go_at_call 47; exact quiet_left (may_yes (B := w.heap.size) (L := L) (RA := RA) (RC := RC) (F := F) ((H.out.below (((Below.refl _ _).alloc (Nat.le_refl _) _).alloc (by simp) _) (Nat.le_refl _)).drewN _) O.out)) | (go_at_call 47; exact quiet_left (may_yes (B := w.heap.size) (L := L') (RA := RA') (RC := RC') (F := F') ((H'.out.below (((Below.refl _ _).alloc (Nat.le_refl _) _).alloc (by simp) _) (Nat.le_refl _)).drewN _) O'.out))))
  go_wp2
  go_ret2
  exact ⟨rfl, below_drewN (((Below.refl _ _).alloc (Nat.le_refl _) _).alloc (by simp) _) _⟩
/-- a product may be -/
def MulOk (n : Nat) (L : Nat → Nat) (n' : Nat) (L' : Nat → Nat) : Prop := Ok n L ∧ Ok n' L' ∧ L 0 = n'
theorem mul_ok (h : Mt w w.heap.size A n L RA RC F) (h' : Mt w w.heap.size A' n' L' RA' RC' F') (o : MulOk n L n' L') :
    Calls Try.prog 30 #[.slice A n cap, .slice A' n' cap'] w (MadeRet w n (L' 0) (mm n' F F')) := mul_yes h h' o.1 o.2.1 o.2.2
theorem mul_no (h : Mt w w.heap.size A n L RA RC F) (h' : Mt w w.heap.size A' n' L' RA' RC' F') (hn : n ≤ 9223372036854775807) (hn' : n' ≤ 9223372036854775807) (o : ¬ MulOk n L n' L') :
    Calls Try.prog 30 #[.slice A n cap, .slice A' n' cap'] w (FailRet w 1) := by
  by_cases o1 : Ok n L
  · by_cases o2 : Ok n' L'
    · exact mul_no3 h h' o1 o2 (fun e => o ⟨o1, o2, e⟩)
    · exact mul_no2 h h' hn' o1 o2
  · exact mul_no1 h hn o1
end
end Go.Proofs.Ytohbijjkkadbaaa.Mat
