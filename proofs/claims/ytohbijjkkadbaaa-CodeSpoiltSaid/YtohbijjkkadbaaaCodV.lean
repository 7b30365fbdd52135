/- What pieces rebuild doesn't hang on their order; the law CodeRebuilds: walked. -/
import Derived.Test.YtohbijjkkadbaaaCodU
namespace Go.Proofs.Ytohbijjkkadbaaa.Mat
open Go.RowKit Fld

theorem good_iff {I : Nat → Int} {n len : Nat} : Good I n len ↔ (∀ j, j < len → 0 ≤ I j ∧ I j < (n : Int)) ∧ ∀ a b, a < len → b < len → a ≠ b → I a ≠ I b := by
  constructor
  · intro h
    refine ⟨fun j hj => (h j hj).1, fun a b ha hb hab => ?_⟩
    rcases Nat.lt_or_gt_of_ne hab with h1 | h1
    · exact (h b hb).2 a h1
    · exact fun e => (h a ha).2 b h1 e.symm
  · rintro ⟨h1, h2⟩ j hj
    exact ⟨h1 j hj, fun q hq => h2 q j (by omega) hj (by omega)⟩
/-- the other way round -/
def rev {α : Type} (len : Nat) (f : Nat → α) (a : Nat) : α := f (len - 1 - a)
theorem rev_at {α : Type} (len : Nat) (f : Nat → α) {a : Nat} (h : a < len) : rev len f (len - 1 - a) = f a := by unfold rev; rw [show len - 1 - (len - 1 - a) = a by omega]
theorem good_rev {I : Nat → Int} {n len : Nat} : Good (rev len I) n len ↔ Good I n len := by
  rw [good_iff, good_iff]
  constructor
  · rintro ⟨h1, h2⟩
    refine ⟨fun j hj => ?_, fun a b ha hb hab => ?_⟩
    · rw [← rev_at len I hj]; exact h1 _ (by omega)
    · rw [← rev_at len I ha, ← rev_at len I hb]; exact h2 _ _ (by omega) (by omega) (by omega)
  · rintro ⟨h1, h2⟩
    exact ⟨fun j hj => h1 _ (by omega), fun a b ha hb hab => h2 _ _ (by omega) (by omega) (by omega)⟩
theorem num_rev (I : Nat → Int) (len : Nat) : num (rev len I) len = num I len := by
  funext r
  rw [Bool.eq_iff_iff, num_iff, num_iff]
  constructor
  · rintro ⟨j, hj, e⟩; exact ⟨len - 1 - j, by omega, e⟩
  · rintro ⟨j, hj, e⟩; exact ⟨len - 1 - j, by omega, by rw [rev_at len I hj]; exact e⟩
theorem pkn_rev (I : Nat → Int) (n len : Nat) : pkn (rev len I) n len = pkn I n len := by unfold pkn; rw [num_rev]
theorem pkt_rev {I : Nat → Int} {S : Nat → ByteArray} {n len i : Nat} (h : Good I n len) (hi : i < len) : pkt (rev len I) (rev len S) n len i = pkt I S n len i := by
  obtain ⟨j, hj, e, e2⟩ := pkt_of (S := S) h hi
  rw [e2]
  unfold pkt
  rw [pkn_rev]
  have hr := good_rev.2 h
  have := txt_at (I := rev len I) (S := rev len S) hr (j := len - 1 - j) (by omega)
  rw [rev_at len I hj, rev_at len S hj, e] at this
  exact this
theorem even_rev {S : Nat → ByteArray} {len : Nat} : Even len (rev len S) ↔ Even len S := by
  constructor
  · intro h j hj
    have h1 := h (len - 1 - j) (by omega)
    have h2 := h (len - 1 - 0) (by omega)
    rw [rev_at len S hj] at h1
    rw [rev_at len S (by omega)] at h2
    rw [h1, h2]
  · intro h j hj
    show (S (len - 1 - j)).size = (S (len - 1 - 0)).size
    rw [h _ (by omega), h (len - 1 - 0) (by omega)]
theorem rebE_rev (k m : Int) (len : Nat) (I : Nat → Int) (S : Nat → ByteArray) : rebE k m len (rev len I) (rev len S) = rebE k m len I S := by
  unfold rebE
  simp only [good_rev, even_rev]
theorem rebL_rev (k m : Int) (len : Nat) (I : Nat → Int) (S : Nat → ByteArray) : rebL k m len (rev len I) (rev len S) = rebL k m len I S := by
  unfold rebL; rw [rebE_rev]
theorem reb_congr {k : Nat} (hk : 0 < k) {J : Nat → Nat} {S S' : Nat → ByteArray} (h : ∀ i, i < k → S i = S' i) (r : Nat) : reb k J S r = reb k J S' r := mixS_congr hk (fun _ _ => rfl) h
theorem rebL_pos {k m : Int} {len : Nat} {I : Nat → Int} {S : Nat → ByteArray} (h : 0 < rebL k m len I S) : ∃ k' m' : Nat, k = k' ∧ m = m' ∧ 1 ≤ k' ∧ k' + m' ≤ 32 ∧ Good I (k' + m') len ∧ k' ≤ len ∧ Even len S := by
  have h0 : rebE k m len I S = 0 := by
    rcases Classical.em (rebE k m len I S = 0) with e | e
    · exact e
    · unfold rebL at h; rw [if_neg e] at h; omega
  rcases reb_cases k m len I S with ⟨_, e⟩ | ⟨k, m, rfl, rfl, h1, h2, ⟨hG, e⟩ | ⟨hG, hlen, e⟩ | ⟨hG, hlen, he, e⟩ | ⟨hG, hlen, he, e⟩⟩
  · rw [h0] at e; exact absurd e (by decide)
  · rw [h0] at e; exact absurd e (by decide)
  · rw [h0] at e; exact absurd e (by decide)
  · rw [h0] at e; exact absurd e (by decide)
  · exact ⟨k, m, rfl, rfl, h1, h2, hG, hlen, he⟩
theorem rebL_le (k m : Int) (len : Nat) (I : Nat → Int) (S : Nat → ByteArray) : rebL k m len I S ≤ 32 := by
  rcases Nat.eq_zero_or_pos (rebL k m len I S) with h | h
  · omega
  · obtain ⟨k, m, rfl, rfl, h1, h2, _⟩ := rebL_pos h
    unfold rebL
    split <;> omega
theorem rebT_rev (k m : Int) (len : Nat) (I : Nat → Int) (S : Nat → ByteArray) (r : Nat) (hr : r < rebL k m len I S) : rebT k m len (rev len I) (rev len S) r = rebT k m len I S r := by
  obtain ⟨k, m, rfl, rfl, h1, h2, hG, hlen, _⟩ := rebL_pos (Nat.lt_of_le_of_lt (Nat.zero_le _) hr)
  have e : ((k : Int) + (m : Int)).toNat = k + m := by omega
  unfold rebT
  rw [pkn_rev, e]
  exact reb_congr h1 (fun i hi => pkt_rev hG (by have : i < k := hi; omega)) r

section
variable {A : Option Addr} {len cap : Nat} {I : Nat → Int} {S : Nat → ByteArray} {w : World} {k m : Int}
theorem refRebuild_any (hP : Pc w w.heap.size A len I S) (hl : len ≤ 40) (hz : ∀ i, i < len → (S i).size ≤ 140737488351232) :
    Calls Try.prog 24 #[.int .i64 k, .int .i64 m, .slice A len cap] w (TextsRet w (rebE k m len I S) (rebL k m len I S) (rebT k m len I S)) := by
  unfold rebL
  rcases reb_cases k m len I S with ⟨h, e⟩ | ⟨k, m, rfl, rfl, h1, h2, hh⟩
  · rw [e]; exact (refRebuild_no1 h).mono fun _ _ h => h.texts _
  · have e2 : ((k : Int) + (m : Int)).toNat = k + m := by omega
    have e3 : rebT (k : Int) (m : Int) len I S = reb k (pkn I (k + m) len) (pkt I S (k + m) len) := by
      funext r
      unfold rebT
      rw [e2]; rfl
    refine (refRebuild_yes hP hl h1 h2 hz).mono ?_
    rintro x w' (⟨q1, q⟩ | ⟨q1, q2, q⟩ | ⟨q1, q2, q3, q⟩ | ⟨q1, q2, q3, q⟩) <;> rcases hh with ⟨hG, e⟩ | ⟨hG, hlen, e⟩ | ⟨hG, hlen, he, e⟩ | ⟨hG, hlen, he, e⟩
    all_goals first
      | (exfalso; first | exact q1 hG | exact hG q1 | omega | exact q3 he | exact he q3)
      | (rw [e]; exact q.texts _)
      | (rw [e, if_pos rfl, e2, e3]; exact q)

set_option maxRecDepth 100000 in
set_option maxHeartbeats 1600000 in
theorem lawRebuilds (k m : Int) (A : Option Addr) (len cap : Nat) (I : Nat → Int) (S : Nat → ByteArray) (k0 : -9223372036854775808 ≤ k) (k1 : k ≤ 9223372036854775807) (m0 : -9223372036854775808 ≤ m) (m1 : m ≤ 9223372036854775807)
    (hn : PcOk len cap I S) (hP : Pc w w.heap.size A len I S) :
    Calls Try.prog 5 #[.int .i64 k, .int .i64 m, .slice A len cap] w fun e w' => e = .returned (.bool true) ∧ Below w.heap.size w w' := by
  obtain ⟨hc, hn, hz⟩ := hn
  have hz' : ∀ i, i < len → (S i).size ≤ 140737488351232 := fun i hi => (hz i hi).2.2
  have hLm : rebL k m len I S ≤ 9223372036854775807 := by have := rebL_le k m len I S; omega
  have HZ := Lib.hid hz'
  have HP := Lib.hid hP
  have HL := Lib.hid hLm
  clear hz hz' hP hLm hc
  generalize hE : rebE k m len I S = E
  generalize hLL : rebL k m len I S = L at *
  have HE := Lib.hid hE
  have HLL := Lib.hid hLL
  clear hE hLL
  by_cases h40 : 40 < len
  · have g1 : decide ((len : Int) > 40) = true := by simp; omega
    go_enter Try.func5, Try.ntmps5
    go_wp2_with fail
    refine (codeShown_any _).mono ?_; rintro e w1 ⟨rfl, hb1⟩
    have B1 := Lib.hid hb1
    clear hb1
    go_wp2
    go_ret
    exact ⟨rfl, B1.out⟩
  · have g1 : decide ((len : Int) > 40) = false := by simp; omega
    go_enter Try.func5, Try.ntmps5
    go_wp2_with fail
    refine (codeShown_any _).mono ?_; rintro e w1 ⟨rfl, hb1⟩
    have B1 := Lib.hid hb1
    have P1 := Lib.hid (HP.out.up hb1)
    clear hb1 HP
    go_wp2
    go_loop [8] (fun i => ∃ k : Nat, k ≤ len ∧ i = .int .i64 k) (fun i => len - (intOf i).toNat)
    case atStart => exact ⟨0, by omega, rfl⟩
    case round =>
      obtain ⟨i, hi, rfl⟩ := hrel
      by_cases hlt : i < len
      · have hkz : (i : Int) < (len : Int) := by omega
        obtain ⟨ad, rfl, _, _, c1⟩ := P1.out.at_ hlt
        cases he : decide (((S i).size : Int) > 200)
        · go_wp2
          go_round
          case rel => exact ⟨i + 1, by omega, by go_num⟩
          case measure => simp [intOf]; omega
        · go_wp2
          go_ret
          exact ⟨rfl, B1.out⟩
      · have hkz : ¬ (i : Int) < (len : Int) := by omega
        go_wp2_with fail
        refine (rebuild_any P1.out hn ⟨k0, k1⟩ ⟨m0, m1⟩ HZ.out).mono ?_; rintro e w2 ⟨A2, c2, rfl, _, hS2, hb2⟩
        rw [HE.out, HLL.out]
        rw [HLL.out] at hS2
        have B2 := Lib.hid (up_trans B1.out hb2)
        have T2 := Lib.hid hS2
        have P2 := Lib.hid (P1.out.up hb2)
        clear hb2 hS2 B1 P1
        go_wp2_with fail
        refine (refRebuild_any P2.out (by omega) HZ.out).mono ?_; rintro e w3 ⟨A3, c3, rfl, _, hS3, hb3⟩
        rw [HE.out, HLL.out]
        rw [HLL.out] at hS3
        have B3 := Lib.hid (up_trans B2.out hb3)
        have T23 := Lib.hid (T2.out.up hb3)
        have T3 := Lib.hid hS3
        clear hb3 hS3 B2 P2 T2
        go_wp2_with fail
        refine (strSame_any T23.out T3.out HL.out HL.out).mono ?_; rintro e w4 ⟨rfl, q4, rfl⟩
        rw [stB_yes ⟨rfl, fun _ _ => rfl⟩]
        go_wp2
        go_ret
        exact ⟨ret_bool (by simp), below_drewN B3.out q4⟩
end
end Go.Proofs.Ytohbijjkkadbaaa.Mat
