/- The document's own pieces: walked. -/
import Derived.Test.YtjfgainieoaeaaaBlkC
namespace Go.Proofs.Ytjfgainieoaeaaa.Mat
open Go.RowKit Fld

def txs (T : Nat → ByteArray) (j : Nat) : List Value := (List.range j).map fun a => .string (T a)
theorem txs_next (T : Nat → ByteArray) (j : Nat) : txs T (j + 1) = txs T j ++ [.string (T j)] := by unfold txs; rw [List.range_succ, List.map_append]; rfl
theorem txs_len (T : Nat → ByteArray) (j : Nat) : (txs T j).length = j := by unfold txs; simp
theorem txs_get {T : Nat → ByteArray} {j i : Nat} (h : i < j) : (txs T j)[i]? = some (.string (T i)) := by unfold txs; simp [h]
theorem Chosen.texts {w a : World} {v : Value} {T : Nat → ByteArray} {n : Nat} (h : Chosen w a 9 v (txs T n)) : ∃ A cap, v = .slice A n cap ∧ Fit A n cap ∧ St a a.heap.size A n T := by
  obtain ⟨A', cap', hv, _, _, hh⟩ := h.has (txs_len T n) (f := fun i => .string (T i)) (fun i hi => txs_get hi)
  refine ⟨A', cap', hv, ?_, fun hn => ?_⟩
  · have := h.own
    rw [hv, txs_len] at this
    exact own_fit this
  obtain ⟨b, rfl, hb1, hb2, hb3⟩ := hh hn
  exact ⟨_, rfl, hb2, fun r hr => by rw [add_lit]; exact hb3.cell hr⟩


theorem pz_lt {n k x : Nat} (hk : 1 ≤ k) : x < pz n k ↔ x * k < n := by
  unfold pz
  rw [← Nat.succ_le_iff, Nat.le_div_iff_mul_le (by omega), Nat.succ_mul]
  omega
theorem nat_mul (a b : Nat) : (a : Int) * (b : Int) = ((a * b : Nat) : Int) := (Int.natCast_mul a b).symm

set_option maxRecDepth 100000 in
set_option maxHeartbeats 800000 in
theorem split_no (s : ByteArray) (k : Int) (h : k < 1 ∨ 32 < k) (T : Nat → ByteArray) (w : World) :
    Calls Try.prog 11 #[.string s, .int .i64 k] w (TextsRet w 1 0 T) := by
  cases h1 : decide (k < 1)
  · have h2 : decide (32 < k) = true := by
      have := of_decide_eq_false h1
      exact decide_eq_true (by omega)
    clear h
    go_enter Try.func11, Try.ntmps11
    go_wp2
    go_ret2
    exact ⟨_, _, rfl, ⟨Nat.le_refl _, fun _ => rfl⟩, St.nil_ _ _ _ _, Below.refl _ _⟩
  · clear h
    go_enter Try.func11, Try.ntmps11
    go_wp2
    go_ret2
    exact ⟨_, _, rfl, ⟨Nat.le_refl _, fun _ => rfl⟩, St.nil_ _ _ _ _, Below.refl _ _⟩
set_option maxRecDepth 100000 in
set_option maxHeartbeats 800000 in
theorem refSplit_no (s : ByteArray) (k : Int) (h : k < 1 ∨ 32 < k) (T : Nat → ByteArray) (w : World) :
    Calls Try.prog 12 #[.string s, .int .i64 k] w (TextsRet w 1 0 T) := by
  cases h1 : decide (k < 1)
  · have h2 : decide (32 < k) = true := by
      have := of_decide_eq_false h1
      exact decide_eq_true (by omega)
    clear h
    go_enter Try.func12, Try.ntmps12
    go_wp2
    go_ret2
    exact ⟨_, _, rfl, ⟨Nat.le_refl _, fun _ => rfl⟩, St.nil_ _ _ _ _, Below.refl _ _⟩
  · clear h
    go_enter Try.func12, Try.ntmps12
    go_wp2
    go_ret2
    exact ⟨_, _, rfl, ⟨Nat.le_refl _, fun _ => rfl⟩, St.nil_ _ _ _ _, Below.refl _ _⟩

set_option maxRecDepth 100000 in
set_option maxHeartbeats 1600000 in
theorem refSplit_yes (s : ByteArray) (k : Nat) (h1 : 1 ≤ k) (h2 : k ≤ 32) (hs : s.size ≤ 65536) (w : World) :
    Calls Try.prog 12 #[.string s, .int .i64 (k : Int)] w (TextsRet w 0 k (pcs s (pz s.size k))) := by
  have hzle : pz s.size k ≤ s.size + 1 := by
    unfold pz
    exact Nat.div_le_of_le_mul (by
      have e : k * (s.size + 1) = k * s.size + k := by rw [Nat.mul_add, Nat.mul_one]
      have : s.size ≤ k * s.size := Nat.le_mul_of_pos_left _ (by omega)
      omega)
  have hzlt : ∀ x, x < pz s.size k ↔ x * k < s.size := fun x => pz_lt h1
  have HZL := Lib.hid hzlt
  clear hzlt
  generalize hz : pz s.size k = z at *
  obtain ⟨i0, hi0, hz0, hz1, hz2⟩ := info_parts infoStr
  obtain ⟨j0, ji, jz0, jz1, jz2⟩ := info_parts infoByte
  have g1 : decide ((k : Int) < 1) = false := by simp; omega
  have g2 : decide ((32 : Int) < (k : Int)) = false := by simp; omega
  clear hz
  go_enter Try.func12, Try.ntmps12
  go_wp2
  clear g1 g2
  go_loop [6] (fun v => ∃ x : Nat, x ≤ z ∧ v = .int .i64 x) (fun v => z - (intOf v).toNat)
  case atStart => exact ⟨0, Nat.zero_le _, rfl⟩
  case round =>
    obtain ⟨x, hx, rfl⟩ := hrel
    obtain ⟨p, hp⟩ : ∃ p, p = x * k := ⟨_, rfl⟩
    have hpb : p ≤ 65537 * 32 := by rw [hp]; exact Nat.mul_le_mul (by omega) h2
    have hm : (x : Int) * (k : Int) = (p : Int) := by rw [hp]; exact nat_mul x k
    by_cases hxz : x < z
    · have hlt : (p : Int) < (s.size : Int) := by have := (HZL.out x).1 hxz; omega
      clear hp
      go_wp2
      go_round
      case rel => exact ⟨x + 1, by omega, by go_num⟩
      case measure => simp [intOf]; omega
    · have hlt : ¬ (p : Int) < (s.size : Int) := fun h => hxz ((HZL.out x).2 (by omega))
      obtain rfl : x = z := by omega
      clear hp
      go_wp2
      clear hm hlt hpb
      go_loopg [7, 8] k (fun gh v c wr => ∃ i, i ≤ k ∧ gh = k - i ∧ c = .int .i64 (i : Nat) ∧ Chosen w wr 9 v (txs (pcs s x) i))
      case atStart => exact ⟨0, Nat.zero_le _, rfl, rfl, Chosen.start w _⟩
      case round =>
        obtain ⟨i, hi, rfl, rfl, hC⟩ := hrel
        have HC := Lib.hid hC
        by_cases hik : i < k
        · have hiz : (i : Int) < (k : Int) := by omega
          obtain ⟨p, hp⟩ : ∃ p, p = i * x := ⟨_, rfl⟩
          obtain ⟨q, hq⟩ : ∃ q, q = (i + 1) * x := ⟨_, rfl⟩
          have hqp : q = p + x := by rw [hp, hq]; exact Nat.succ_mul i x
          have hpb : p ≤ 32 * 65537 := by rw [hp]; exact Nat.mul_le_mul (by omega) (by omega)
          have hqb : q ≤ 33 * 65537 := by rw [hq]; exact Nat.mul_le_mul (by omega) (by omega)
          have m1 : (i : Int) * (x : Int) = (p : Int) := by rw [hp]; exact nat_mul i x
          have m2 : ((i : Int) + 1) * (x : Int) = (q : Int) := by rw [hq]; exact nat_mul (i + 1) x
          have HP := Lib.hid hp
          have HQ := Lib.hid hqp
          clear hp hq hqp hC
          obtain ⟨wo, rfl⟩ : ∃ wo : World, wo = wr := ⟨_, rfl⟩
          go_wp2_with fail
          go_loopg [9, 10] x (fun gh v c wi => ∃ a y, a ≤ x ∧ gh = x - a ∧ Hid (y = p + a) ∧ c = .int .i64 (y : Nat) ∧ Below wo.heap.size wo wi ∧ wi.ownsRow wo.heap.size 5 1 v a (vals a (fun c => bt s (p + c))))
          case atStart => exact ⟨0, p, Nat.zero_le _, rfl, Lib.hid rfl, rfl, Below.refl _ _, World.ownsRow_nil _ _ _ _⟩
          case round =>
            obtain ⟨a, y, ha, rfl, HY, rfl, hB, hO⟩ := hrel
            have HB := Lib.hid hB
            have HO := Lib.hid hO
            clear hB hO
            have hyb : y ≤ 33 * 65537 := by have := HY.out; have := HQ.out; omega
            by_cases hax : a < x
            · have hyq : (y : Int) < (q : Int) := by have := HY.out; have := HQ.out; omega
              have HYF : Hid (bt s y = bt s (p + a)) := Lib.hid (by rw [HY.out])
              by_cases hys : y < s.size
              · have hyi : (y : Int) < (s.size : Int) := by omega
                have hb := bt_at s y hys
                rw [HYF.out] at hb
                go_wp2_with (at_builtin; refine wpList_append_own _ rfl (.tmp 45) (.tmp 49) 56 rfl wo.heap.size 5 j0 (.int .u8 0) 1 1 Try.underlying56 ji jz0 jz1 jz2 rfl (by decide) _ _ _ rfl (HO.out.alloc _) ⟨wr.heap.size, 0, none⟩ 1 1 [.int .u8 (V (bt s (p + a)))] rfl rfl (one_news _ _) (by simp [Value.oneCell']) (by unfold maxLen; omega) (by omega) (by rw [size_alloc]; have := HB.out.size; omega) ?_)
                intro v' w' hown hgrow _
                have HN := Lib.hid (row_next (f := fun c => bt s (p + c)) HB.out HO.out hown hgrow)
                clear hown hgrow
                go_wp2
                go_roundg (x - (a + 1))
                case measure => go_light; omega
                case rel => go_light; exact ⟨a + 1, y + 1, by omega, rfl, Lib.hid (by have := HY.out; omega), by simp, HN.out.1, HN.out.2⟩
              · have hyi : ¬ (y : Int) < (s.size : Int) := by omega
                have HZ0 : Hid (bt s (p + a) = 0#8) := Lib.hid (by rw [← HYF.out]; exact bt_out (by omega))
                go_wp2_with (at_builtin; refine wpList_append_own _ rfl (.tmp 51) (.tmp 52) 56 rfl wo.heap.size 5 j0 (.int .u8 0) 1 1 Try.underlying56 ji jz0 jz1 jz2 rfl (by decide) _ _ _ rfl (HO.out.alloc _) ⟨wr.heap.size, 0, none⟩ 1 1 [.int .u8 0] rfl rfl (one_news _ _) (by simp [Value.oneCell']) (by unfold maxLen; omega) (by omega) (by rw [size_alloc]; have := HB.out.size; omega) ?_)
                intro v' w' hown hgrow _
                have HN := Lib.hid (row_next (f := fun c => bt s (p + c)) HB.out HO.out (by rw [HZ0.out, V_zero]; exact hown) hgrow)
                clear hown hgrow
                go_wp2
                go_roundg (x - (a + 1))
                case measure => go_light; omega
                case rel => go_light; exact ⟨a + 1, y + 1, by omega, rfl, Lib.hid (by have := HY.out; omega), by simp, HN.out.1, HN.out.2⟩
            · obtain rfl : a = x := by omega
              have hyq : ¬ (y : Int) < (q : Int) := by have := HY.out; have := HQ.out; omega
              obtain ⟨A2, c2, rfl, hrw⟩ := own_rw HO.out
              have hcv := row_convert (c := c2) hrw
              have HC3 := Lib.hid (HC.out.under HB.out)
              have hlen := txs_len (pcs s a) i
              have HL := Lib.hid hlen
              clear hrw HO hlen
              go_wp2_with (at_builtin; refine wpList_append_own _ rfl (.tmp 54) (.tmp 57) 22 rfl w.heap.size 9 i0 (.string ByteArray.empty) 1 16 Try.underlying22 hi0 hz0 hz1 hz2 rfl (by decide) _ _ _ rfl (HC3.out.own.alloc _) ⟨wr.heap.size, 0, none⟩ 1 1 [.string (rs a (fun c => bt s (p + c)))] rfl rfl (one_news _ _) (by simp [Value.oneCell']) (by rw [HL.out]; unfold maxLen; omega) (by rw [HL.out]; omega) (by rw [size_alloc]; have := HC3.out.below.size; omega) ?_)
              intro v' w' hown hgrow _
              have HN := Lib.hid (HC3.out.next (Below.refl _ _) hown hgrow)
              clear hown hgrow hcv
              go_wp2
              go_roundg (k - (i + 1))
              case measure => go_light; omega
              case rel => go_light; exact ⟨i + 1, by omega, rfl, by simp, by rw [txs_next]; have := HN.out; rw [HP.out] at this; exact this⟩
        · have hiz : ¬ (i : Int) < (k : Int) := by omega
          obtain rfl : i = k := by omega
          obtain ⟨A3, c3, rfl, hc3, hS3⟩ := hC.texts
          have HS3 := Lib.hid hS3
          clear hC hS3
          go_wp2
          go_ret2
          exact ⟨_, _, rfl, hc3, HS3.out, HC.out.below⟩
end Go.Proofs.Ytjfgainieoaeaaa.Mat
