/- The document's examples: walked. -/
import Derived.Test.YtjfgainieoaeaaaBlkG
namespace Go.Proofs.Ytjfgainieoaeaaa.Mat
open Go.RowKit Fld

def abc : ByteArray := ⟨#[97, 98, 99]⟩
def xB : ByteArray := ⟨#[120]⟩
def cB : ByteArray := ⟨#[99, 0]⟩
def nB : ByteArray := ⟨#[0, 0, 120, 0]⟩
theorem p32 : pz abc.size 2 = 2 := by decide +kernel
theorem pc1 : pcs abc 2 1 = cB := by decide +kernel
theorem jn3 : rs 3 (ct (pcs abc 2) 2) = abc := by decide +kernel
theorem jt3 : 3 ≤ tot (pcs abc 2) 2 := by decide +kernel
theorem le4 : layE 4 1 (fun _ => 2) (fun _ => xB) = 0 := by decide +kernel
theorem ls4 : layS 4 1 (fun _ => 2) (fun _ => xB) = nB := by decide +kernel
theorem one_part (w : World) (i : Int) (s : ByteArray) : Pc (w.alloc (.cells #[.int .i64 i, .string s] 51)) (w.alloc (.cells #[.int .i64 i, .string s] 51)).heap.size (some ⟨w.heap.size, 0, none⟩) 1 (fun _ => i) (fun _ => s) := fun _ =>
  ⟨_, rfl, by rw [size_alloc]; exact Nat.lt_succ_self _, fun r hr => by
    obtain rfl : r = 0 := by omega
    have h := has_part w i s
    exact ⟨h.cell (i := 0) (by omega), h.cell (i := 1) (by omega)⟩⟩

set_option maxRecDepth 100000 in
set_option maxHeartbeats 1600000 in
theorem shown_any (w : World) : Calls Try.prog 10 #[] w (BoolRet w true) := by
  have hs := split_yes abc 2 (by omega) (by omega) (by decide)
  rw [p32] at hs
  have HS := Lib.hid hs
  clear hs
  go_enter Try.func10, Try.ntmps10
  go_wp2_with fail
  refine (HS.out _).mono ?_; rintro e w1 ⟨A1, c1, rfl, _, hS1, hB1⟩
  have S1 := Lib.hid hS1
  have B1 := Lib.hid hB1
  clear hS1 hB1
  go_wp2_with fail
  refine (join_yes S1.out (by omega) 3 jt3 (by omega)).mono ?_; rintro e w2 ⟨rfl, hB2⟩
  rw [jn3]
  have B2 := Lib.hid (up_trans B1.out hB2)
  have S2 := Lib.hid (S1.out.up hB2)
  clear hB2 S1 B1
  go_wp2_with fail
  have hP := one_part w2 2 xB
  have hB3 : Below w2.heap.size w2 (w2.alloc (.cells #[.int .i64 2, .string xB] 51)) := (Below.refl _ _).alloc (Nat.le_refl _) _
  have HP := Lib.hid hP
  have B3 := Lib.hid (up_trans B2.out hB3)
  have S3 := Lib.hid (S2.out.up hB3)
  clear hP hB3
  change Calls _ _ _ (w2.alloc (.cells #[.int .i64 2, .string xB] 51)) _
  generalize w2.alloc (.cells #[.int .i64 2, .string xB] 51) = w3 at *
  refine (lay_any (n := 1) (cap := 1) HP.out ⟨by omega, by omega, fun _ _ => ⟨by show (-9223372036854775808 : Int) ≤ 2; omega, by show (2 : Int) ≤ 9223372036854775807; omega, by show xB.size ≤ 140737488351232; decide⟩⟩ 4).mono ?_; rintro e w4 ⟨rfl, hB4⟩
  rw [le4, ls4]
  obtain ⟨ad, rfl, _, c1⟩ := (S3.out.up hB4).at_ (r := 1) (by omega)
  rw [pc1, add_pos _ _ (by omega)] at c1
  have B4 := Lib.hid (up_trans B3.out hB4)
  have t1 : (abc.toList == [97, 98, 99]) = true := by rw [ByteArray.toList_eq]; rfl
  have t2 : (cB.toList == [99, 0]) = true := by rw [ByteArray.toList_eq]; rfl
  have t3 : (nB.toList == [0, 0, 120, 0]) = true := by rw [ByteArray.toList_eq]; rfl
  clear hB4 S3 S2 B2 B3
  go_wp2
  go_ret
  exact ⟨rfl, B4.out⟩
end Go.Proofs.Ytjfgainieoaeaaa.Mat
