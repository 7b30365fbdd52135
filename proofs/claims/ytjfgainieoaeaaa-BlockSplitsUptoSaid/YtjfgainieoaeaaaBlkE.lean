/- Pieces put together: walked. -/
import Derived.Test.YtjfgainieoaeaaaBlkD
import Derived.Lib.AppendStr
namespace Go.Proofs.Ytjfgainieoaeaaa.Mat
open Go.RowKit Fld

/-- how many bytes r texts have, and the byte c of them -/
def tot (S : Nat → ByteArray) : Nat → Nat
  | 0 => 0
  | r + 1 => tot S r + (S r).size
def ct (S : Nat → ByteArray) : Nat → Nat → BitVec 8
  | 0, _ => 0#8
  | r + 1, c => if c < tot S r then ct S r c else bt (S r) (c - tot S r)
theorem tot_succ (S : Nat → ByteArray) (r : Nat) : tot S (r + 1) = tot S r + (S r).size := rfl
theorem ct_lo {S : Nat → ByteArray} {r c : Nat} (h : c < tot S r) : ct S (r + 1) c = ct S r c := if_pos h
theorem ct_hi {S : Nat → ByteArray} {r c : Nat} (h : tot S r ≤ c) : ct S (r + 1) c = bt (S r) (c - tot S r) := if_neg (by omega)
theorem ct_out {S : Nat → ByteArray} {r c : Nat} (h : tot S r ≤ c) : ct S r c = 0#8 := by
  cases r with
  | zero => rfl
  | succ r =>
    rw [tot_succ] at h
    rw [ct_hi (by omega), bt_out (by omega)]
theorem tot_le {S : Nat → ByteArray} {r m : Nat} (h : r ≤ m) : tot S r ≤ tot S m := by
  induction m with
  | zero => obtain rfl : r = 0 := by omega
            exact Nat.le_refl _
  | succ m ih =>
    by_cases e : r = m + 1
    · subst e; exact Nat.le_refl _
    · have := ih (by omega)
      rw [tot_succ]; omega

section
variable {A : Option Addr} {m cap : Nat} {S : Nat → ByteArray} {w : World}
theorem min_sub (n a b : Nat) : n - (a + b) = (n - a) - min (n - a) b := by omega

set_option maxRecDepth 100000 in
set_option maxHeartbeats 800000 in
theorem reach_any {B : Nat} (h : St w B A m S) (hm : m ≤ 9223372036854775807) (n : Nat) (hn : n ≤ 9223372036854775807) :
    Calls Try.prog 23 #[.slice A m cap, .int .i64 (n : Int)] w fun e w' => e = .returned (.bool (decide (n ≤ tot S m))) ∧ w = w' := by
  have H := Lib.hid h
  clear h
  go_enter Try.func23, Try.ntmps23
  go_wp2
  go_loop [1, 9] (fun x v => ∃ r y : Nat, r ≤ m ∧ v = .int .i64 (r : Nat) ∧ Hid (y = n - tot S r) ∧ y ≤ n ∧ x = .int .i64 (y : Nat)) (fun _ v => m - (intOf v).toNat)
  case atStart => exact ⟨0, n, Nat.zero_le _, rfl, Lib.hid rfl, Nat.le_refl _, rfl⟩
  case round =>
    obtain ⟨r, y, hr, rfl, HY, hyn, rfl⟩ := hrel
    by_cases hrm : r < m
    · have hrz : (r : Int) < (m : Int) := by omega
      obtain ⟨ad, rfl, _, c1⟩ := H.out.at_ hrm
      by_cases hmin : y ≤ (S r).size
      · have g : (y : Int) ≤ ((S r).size : Int) := by omega
        go_wp2
        go_round
        case rel => exact ⟨r + 1, 0, by omega, by go_num, Lib.hid (by have := HY.out; rw [tot_succ]; omega), by omega, by go_num⟩
        case measure => simp [intOf]; omega
      · have g : ¬ (y : Int) ≤ ((S r).size : Int) := by omega
        go_wp2
        go_round
        case rel => exact ⟨r + 1, y - (S r).size, by omega, by go_num, Lib.hid (by have := HY.out; rw [tot_succ]; omega), by omega, by go_num⟩
        case measure => simp [intOf]; omega
    · have hrz : ¬ (r : Int) < (m : Int) := by omega
      obtain rfl : r = m := by omega
      have HF : Hid (((y : Int) == 0) = decide (n ≤ tot S r)) := Lib.hid (by
        have := HY.out
        rw [Bool.eq_iff_iff, beq_iff_eq, decide_eq_true_iff]; omega)
      go_wp2
      go_ret
      exact ⟨by rw [← HF.out]; rfl, rfl⟩

def joinE (n : Int) (m : Nat) (S : Nat → ByteArray) : Int := if 0 ≤ n ∧ n ≤ (tot S m : Int) then 0 else 1
def joinS (n : Int) (m : Nat) (S : Nat → ByteArray) : ByteArray := if 0 ≤ n ∧ n ≤ (tot S m : Int) then rs n.toNat (ct S m) else ByteArray.empty
theorem join_in {n m : Nat} {S : Nat → ByteArray} (h : n ≤ tot S m) : joinE n m S = 0 ∧ joinS n m S = rs n (ct S m) := by
  unfold joinE joinS
  rw [if_pos (by omega), if_pos (by omega)]
  exact ⟨rfl, by simp⟩
theorem join_out {n : Int} {m : Nat} {S : Nat → ByteArray} (h : ¬ (0 ≤ n ∧ n ≤ (tot S m : Int))) : joinE n m S = 1 ∧ joinS n m S = ByteArray.empty := by
  unfold joinE joinS
  rw [if_neg h, if_neg h]
  exact ⟨rfl, rfl⟩

set_option maxRecDepth 100000 in
set_option maxHeartbeats 1600000 in
theorem join_yes (h : St w w.heap.size A m S) (hm : m ≤ 9223372036854775807) (n : Nat) (hn : n ≤ tot S m) (hz : n ≤ 140737488351232) :
    Calls Try.prog 13 #[.slice A m cap, .int .i64 (n : Int)] w (TxtRet w 0 (rs n (ct S m))) := by
  have hmk := run_make_row' (P := Try.prog) 56 5 (.int .u8 0) 1 Try.underlying56 infoByte rfl .i64 .i64 n (by omega) (by omega)
  have HG : Hid (decide (n ≤ tot S m) = true) := Lib.hid (decide_eq_true hn)
  have H := Lib.hid h
  have HN := Lib.hid hn
  clear h hn
  go_enter Try.func13, Try.ntmps13
  go_wp2_with fail
  refine (reach_any H.out hm n (by omega)).mono ?_; rintro e w1 ⟨rfl, rfl⟩
  rw [HG.out]
  go_wp2
  clear hmk
  go_loopg [7, 22] m (fun gh x v wr => ∃ r a : Nat, r ≤ m ∧ gh = m - r ∧ v = .int .i64 (r : Nat) ∧ a ≤ n ∧ Hid (a = min n (tot S r)) ∧ x = .int .i64 (a : Nat) ∧ Below w.heap.size w wr ∧ Has wr w.heap.size 5 n (fun c => .int .u8 (V (ct S r c))))
  case atStart => exact ⟨0, 0, Nat.zero_le _, rfl, rfl, Nat.zero_le _, Lib.hid (by show 0 = min n 0; omega), rfl, (Below.refl _ _).alloc (Nat.le_refl _) _, (has_noughts w rfl).congr (fun c _ => rfl)⟩
  case round =>
    obtain ⟨r, a, hr, rfl, rfl, han, HA, rfl, hB, hH⟩ := hrel
    by_cases hrm : r < m
    · have hrz : (r : Int) < (m : Int) := by omega
      obtain ⟨ad, rfl, hb, k1⟩ := H.out.at_ hrm
      rw [← hB.cell (by rw [block_of_add]; exact hb)] at k1
      obtain ⟨z, hzz⟩ : ∃ z, z = Nat.min (S r).size (n - a) := ⟨_, rfl⟩
      have hz1 : z ≤ (S r).size := by rw [hzz]; exact Nat.min_le_left _ _
      have hz2 : z ≤ n - a := by rw [hzz]; exact Nat.min_le_right _ _
      have hzm : z = min (S r).size (n - a) := hzz
      have hr1 : ∀ (D : Option Addr) (dc : Nat), (0 < z → D = some ⟨w.heap.size, a, none⟩) → (Builtin.copy_ #[56, 9] 3 #[.slice D (n - a) dc, .string (S r)]).run Try.prog wr = .ok (goInt z) (laid wr w.heap.size a z (bt (S r))) := fun D dc hD =>
        run_copy_text 9 3 hzz hD hH (by omega)
      have HR := Lib.hid hr1
      have hH2 := (laid_has (off := a) (n := z) (f := bt (S r)) hH).congr (g := fun c => .int .u8 (V (ct S (r + 1) c))) (fun c hc => by
        have := HA.out
        by_cases e : c < tot S r
        · simp only [ct_lo e]
          rw [if_neg (by omega)]
        · simp only [ct_hi (show tot S r ≤ c by omega)]
          by_cases e2 : a ≤ c ∧ c < a + z
          · rw [if_pos e2, show a = tot S r by omega]
          · rw [if_neg e2, ct_out (by omega), bt_out (by omega)])
      have hB2 := laid_below (off := a) (n := z) (f := bt (S r)) hB (Nat.le_refl _)
      have HB2 := Lib.hid hB2
      have HH2 := Lib.hid hH2
      have HZM : Hid (a + z = min n (tot S (r + 1))) := Lib.hid (by have := HA.out; rw [tot_succ]; omega)
      clear hzz hzm hr1 hH2 hB2 hB hH
      by_cases hna : n = a
      · have hd : n - a = 0 := by omega
        rw [hd] at HR
        subst hna
        go_wp2_with (refine wpList_copy_run rfl (.tmp 29) (.tmp 30) 56 9 rfl rfl rfl (HR.out _ _ (fun h0 => by omega)) ?_)
        go_roundg (m - (r + 1))
        case measure => go_light; omega
        case rel => go_light; exact ⟨r + 1, n + z, by omega, rfl, by simp, by omega, HZM.out, by simp, HB2.out, HH2.out⟩
      · go_wp2_with (refine wpList_copy_run rfl (.tmp 29) (.tmp 30) 56 9 rfl rfl rfl (HR.out _ _ (fun h0 => rfl)) ?_)
        go_roundg (m - (r + 1))
        case measure => go_light; omega
        case rel => go_light; exact ⟨r + 1, a + z, by omega, rfl, by simp, by omega, HZM, by simp, HB2.out, HH2.out⟩
    · have hrz : ¬ (r : Int) < (m : Int) := by omega
      obtain rfl : r = m := by omega
      have hrw : Rw wr wr.heap.size (some ⟨w.heap.size, 0, none⟩) n (ct S r) := Rw.of_has hH hH.lt
      have hcv := row_convert (c := n) hrw
      have HB := Lib.hid hB
      clear hB hH hrw
      go_wp2
      go_ret2
      exact ⟨rfl, HB.out⟩
end
end Go.Proofs.Ytjfgainieoaeaaa.Mat
