/- The document's examples, which stand at the head of each law: walked. -/
import Derived.Test.YtkleaibeekgfjaaMatG
import Derived.Test.YtkleaibeekgfjaaMatH
namespace Go.Proofs.Ytkleaibeekgfjaa.Mat
open Go.RowKit Fld

def exA (r c : Nat) : BitVec 8 := if r = 1 ∧ c = 0 then 0#8 else 1#8
def exB (_ _ : Nat) : BitVec 8 := 1#8
instance (n : Nat) (A : Nat → Nat → BitVec 8) : Decidable (Inv n A) := by unfold Inv Went; infer_instance
theorem exA_inv : Inv 2 exA := by decide +kernel
theorem exA_same : MSame 2 (fun _ => 2) exA 2 (fun _ => 2) (inv 2 exA) := by decide +kernel
theorem exB_inv : ¬ Inv 2 exB := by decide +kernel
theorem exP : V (pwm 2 1) = 2 := by decide +kernel

theorem has_lit {w : World} {b n : Nat} {f : Nat → Value} (cs : Array Value) (t : TypeId) (e : w.heap.size = b) (h : ∀ i, i < n → cs[i]? = some (f i)) : Has (w.alloc (.cells cs t)) b t n f := by
  subst e; exact has_new w cs t h
theorem has_two {w : World} {b : Nat} (x0 x1 : Int) (f : Nat → BitVec 8) (e : w.heap.size = b) (h0 : V (f 0) = x0) (h1 : V (f 1) = x1) :
    Has (w.alloc (.cells #[.int .u8 x0, .int .u8 x1] 5)) b 5 2 (fun c => .int .u8 (V (f c))) := by
  subst h0 h1
  refine has_lit _ _ e (fun i hi => ?_)
  have : i = 0 ∨ i = 1 := by omega
  rcases this with rfl | rfl <;> rfl
/-- two rows of two, written out -/
theorem two_mt (w : World) (x0 x1 y0 y1 : Int) (F : Nat → Nat → BitVec 8) (h0 : V (F 0 0) = x0) (h1 : V (F 0 1) = x1) (h2 : V (F 1 0) = y0) (h3 : V (F 1 1) = y1) :
    Mt (((w.alloc (.cells #[.int .u8 x0, .int .u8 x1] 5)).alloc (.cells #[.int .u8 y0, .int .u8 y1] 5)).alloc (.cells #[.slice (some ⟨w.heap.size, 0, none⟩) 2 2, .slice (some ⟨w.heap.size + 1, 0, none⟩) 2 2] 39))
      (((w.alloc (.cells #[.int .u8 x0, .int .u8 x1] 5)).alloc (.cells #[.int .u8 y0, .int .u8 y1] 5)).alloc (.cells #[.slice (some ⟨w.heap.size, 0, none⟩) 2 2, .slice (some ⟨w.heap.size + 1, 0, none⟩) 2 2] 39)).heap.size
      (some ⟨w.heap.size + 1 + 1, 0, none⟩) 2 (fun _ => 2) (fun r => some ⟨w.heap.size + r, 0, none⟩) (fun _ => 2) F := by
  have e1 := size_alloc w (.cells #[.int .u8 x0, .int .u8 x1] 5)
  have e2 := size_alloc (w.alloc (.cells #[.int .u8 x0, .int .u8 x1] 5)) (.cells #[.int .u8 y0, .int .u8 y1] 5)
  have e3 := size_alloc ((w.alloc (.cells #[.int .u8 x0, .int .u8 x1] 5)).alloc (.cells #[.int .u8 y0, .int .u8 y1] 5)) (.cells #[.slice (some ⟨w.heap.size, 0, none⟩) 2 2, .slice (some ⟨w.heap.size + 1, 0, none⟩) 2 2] 39)
  refine Mt.of_has (C := fun _ => 2) (has_lit _ _ (by omega) (fun i hi => ?_)) (by omega) (fun r hr => ⟨by omega, Nat.le_refl _, ?_⟩)
  · have : i = 0 ∨ i = 1 := by omega
    rcases this with rfl | rfl <;> rfl
  · have : r = 0 ∨ r = 1 := by omega
    rcases this with rfl | rfl
    · exact ((has_two _ _ _ rfl h0 h1).alloc _).alloc _
    · exact (has_two _ _ _ e1 h2 h3).alloc _
theorem two_below {B : Nat} {a w : World} (h : Below B a w) (hB : B ≤ w.heap.size) (o1 o2 o3 : Obj) : Below B a (((w.alloc o1).alloc o2).alloc o3) :=
  ((h.alloc hB _).alloc (by rw [size_alloc]; omega) _).alloc (by rw [size_alloc, size_alloc]; omega) _
theorem add_pos (a : Addr) (n : Nat) (h : n ≠ 0) : a.add n = ⟨a.block, a.off + n, none⟩ := if_neg h
theorem ok2 : Ok 2 (fun _ => 2) := by decide
theorem a00 : V (exA 0 0) = 1 := by decide +kernel
theorem a01 : V (exA 0 1) = 1 := by decide +kernel
theorem a10 : V (exA 1 0) = 0 := by decide +kernel
theorem a11 : V (exA 1 1) = 1 := by decide +kernel
theorem b11 (r c : Nat) : V (exB r c) = 1 := by unfold exB; exact V_one

set_option maxRecDepth 100000 in
set_option maxHeartbeats 1600000 in
theorem shown_any (w : World) :
    Calls Try.prog 11 #[] w fun e w' => e = .returned (.bool true) ∧ Below w.heap.size w w' := by
  have MA := Lib.hid (two_mt w 1 1 0 1 exA a00 a01 a10 a11)
  have BA := Lib.hid (two_below (Below.refl w.heap.size w) (Nat.le_refl _) (.cells #[.int .u8 1, .int .u8 1] 5) (.cells #[.int .u8 0, .int .u8 1] 5) (.cells #[.slice (some ⟨w.heap.size, 0, none⟩) 2 2, .slice (some ⟨w.heap.size + 1, 0, none⟩) 2 2] 39))
  go_enter Try.func11, Try.ntmps11
  go_wp2_with fail
  generalize (((w.alloc (.cells #[.int .u8 1, .int .u8 1] 5)).alloc (.cells #[.int .u8 0, .int .u8 1] 5)).alloc (.cells #[.slice (some ⟨w.heap.size, 0, none⟩) 2 2, .slice (some ⟨w.heap.size + 1, 0, none⟩) 2 2] 39)) = w1 at *
  refine (inverse_ok MA.out ok2 rfl).mono ?_; rintro e w2 (⟨_, A2, c2, RA2, RC2, rfl, hM2, hB2⟩ | ⟨hno, _⟩)
  rotate_left
  · exact absurd exA_inv hno
  have M2 := Lib.hid hM2
  have B2 := Lib.hid hB2
  clear hM2 hB2
  have MB := Lib.hid (two_mt w2 1 1 1 1 exB (b11 _ _) (b11 _ _) (b11 _ _) (b11 _ _))
  have BB := Lib.hid (two_below (Below.refl w2.heap.size w2) (Nat.le_refl _) (.cells #[.int .u8 1, .int .u8 1] 5) (.cells #[.int .u8 1, .int .u8 1] 5) (.cells #[.slice (some ⟨w2.heap.size, 0, none⟩) 2 2, .slice (some ⟨w2.heap.size + 1, 0, none⟩) 2 2] 39))
  go_wp2_with fail
  generalize (((w2.alloc (.cells #[.int .u8 1, .int .u8 1] 5)).alloc (.cells #[.int .u8 1, .int .u8 1] 5)).alloc (.cells #[.slice (some ⟨w2.heap.size, 0, none⟩) 2 2, .slice (some ⟨w2.heap.size + 1, 0, none⟩) 2 2] 39)) = w3 at *
  refine (inverse_ok MB.out ok2 rfl).mono ?_; rintro e w4 (⟨hyes, _⟩ | ⟨_, rfl, hB4⟩)
  · exact absurd hyes exB_inv
  have B4 : Hid (Below w2.heap.size w2 w4) := Lib.hid (BB.out.trans (hB4.mono BB.out.size))
  clear hB4 MB BB
  go_wp2_with fail
  refine (powers_yes 3 2 (by omega) (by omega) (by omega) (by omega) _).mono ?_; rintro e w5 ⟨A5, c5, RA5, RC5, rfl, hM5, hB5⟩
  have B5 : Hid (Below w2.heap.size w2 w5) := Lib.hid (B4.out.trans (hB5.mono B4.out.size))
  obtain ⟨ad5, rfl, _, q5, _, r5⟩ := hM5.row (r := 2) (by omega)
  obtain ⟨ae5, h5, _, s5⟩ := r5.at_ (c := 1) (by omega)
  rw [h5, add_pos _ _ (by omega)] at q5
  rw [exP, add_pos _ _ (by omega)] at s5
  have MA5 := Lib.hid (MA.out.below (B2.out.trans (B5.out.mono B2.out.size)) (Nat.le_refl _))
  have M25 := Lib.hid (M2.out.below B5.out (Nat.le_refl _))
  have BZ : Hid (Below w.heap.size w w5) := Lib.hid (BA.out.trans ((B2.out.trans (B5.out.mono B2.out.size)).mono BA.out.size))
  have eq : msameB 2 (fun _ => 2) exA 2 (fun _ => 2) (inv 2 exA) = true := msame_yes exA_same
  have HE := Lib.hid eq
  clear hB5 hM5 r5 h5 MA M2 B2 B4 B5 BA eq
  go_wp2_with fail
  refine (refSame_any MA5.out M25.out (by omega) (by omega)).mono ?_; rintro e w6 ⟨rfl, q, rfl⟩
  rw [HE.out]
  go_wp2
  go_ret
  exact ⟨rfl, below_drewN BZ.out _⟩
end Go.Proofs.Ytkleaibeekgfjaa.Mat
