/- The document's own Join; texts that are the same: walked. -/
import Derived.Test.YtjfgainieoaeaaaBlkE
namespace Go.Proofs.Ytjfgainieoaeaaa.Mat
open Go.RowKit Fld

theorem str_cells (s : ByteArray) : Lib.strCells s = vals s.size (bt s) := by
  have h := bytes_vals s s.size (Nat.le_refl _)
  rw [← h]
  unfold Lib.strCells
  have e : (s.extract 0 s.size).data = s.data := by
    rw [ByteArray.data_extract]
    have : s.size = s.data.size := rfl
    rw [this, Array.extract_size]
  rw [e, Array.toList_map]
theorem vals_cat {S : Nat → ByteArray} (r : Nat) : vals (tot S r) (ct S r) ++ vals (S r).size (bt (S r)) = vals (tot S (r + 1)) (ct S (r + 1)) := by
  apply List.ext_getElem?
  intro i
  by_cases h : i < tot S r
  · rw [List.getElem?_append_left (by rw [vals_length]; exact h), vals_get h, vals_get (by rw [tot_succ]; omega), ct_lo h]
  · rw [List.getElem?_append_right (by rw [vals_length]; omega), vals_length]
    by_cases h2 : i < tot S (r + 1)
    · rw [vals_get h2, vals_get (by rw [tot_succ] at h2; omega), ct_hi (by omega)]
    · rw [tot_succ] at h2
      rw [List.getElem?_eq_none (by rw [vals_length]; omega), List.getElem?_eq_none (by rw [vals_length, tot_succ]; omega)]

section
variable {A : Option Addr} {m cap : Nat} {S : Nat → ByteArray} {w : World}
set_option maxRecDepth 100000 in
set_option maxHeartbeats 800000 in
theorem join_no (h : St w w.heap.size A m S) (hm : m ≤ 9223372036854775807) (n : Int) (h0 : i64 n) (hn : ¬ (0 ≤ n ∧ n ≤ (tot S m : Int))) :
    Calls Try.prog 13 #[.slice A m cap, .int .i64 n] w (TxtRet w 1 ByteArray.empty) := by
  obtain ⟨h1, h2⟩ := h0
  have H := Lib.hid h
  clear h
  by_cases hneg : n < 0
  · clear hn
    go_enter Try.func13, Try.ntmps13
    go_wp2
    go_ret2
    exact ⟨rfl, Below.refl _ _⟩
  · obtain ⟨n, rfl⟩ : ∃ k : Nat, n = k := ⟨n.toNat, by omega⟩
    have HG : Hid (decide (n ≤ tot S m) = false) := Lib.hid (decide_eq_false (by omega))
    clear hn hneg
    go_enter Try.func13, Try.ntmps13
    go_wp2_with fail
    refine (reach_any H.out hm n (by omega)).mono ?_; rintro e w1 ⟨rfl, rfl⟩
    rw [HG.out]
    go_wp2
    go_ret2
    exact ⟨rfl, Below.refl _ _⟩
theorem join_any (h : St w w.heap.size A m S) (hm : m ≤ 9223372036854775807) (n : Int) (h0 : i64 n) (hz : n ≤ 140737488351232) :
    Calls Try.prog 13 #[.slice A m cap, .int .i64 n] w (TxtRet w (joinE n m S) (joinS n m S)) := by
  by_cases hn : 0 ≤ n ∧ n ≤ (tot S m : Int)
  · obtain ⟨n, rfl⟩ : ∃ k : Nat, n = k := ⟨n.toNat, by omega⟩
    obtain ⟨e1, e2⟩ := join_in (n := n) (m := m) (S := S) (by omega)
    rw [e1, e2]
    exact join_yes h hm n (by omega) (by omega)
  · obtain ⟨e1, e2⟩ := join_out hn
    rw [e1, e2]
    exact join_no h hm n h0 hn

set_option maxRecDepth 100000 in
set_option maxHeartbeats 1600000 in
theorem refJoin_any (h : St w w.heap.size A m S) (hm : m ≤ 9223372036854775807) (ht : tot S m ≤ 140737488351232) (n : Int) (h0 : i64 n) :
    Calls Try.prog 14 #[.slice A m cap, .int .i64 n] w (TxtRet w (joinE n m S) (joinS n m S)) := by
  obtain ⟨h1, h2⟩ := h0
  obtain ⟨j0, ji, jz0, jz1, jz2⟩ := info_parts infoByte
  have H := Lib.hid h
  have HT := Lib.hid ht
  clear h ht
  go_enter Try.func14, Try.ntmps14
  go_wp2
  go_loopg [6, 7] m (fun gh x v wr => ∃ r, r ≤ m ∧ gh = m - r ∧ v = .int .i64 (r : Nat) ∧ Below w.heap.size w wr ∧ wr.ownsRow w.heap.size 5 1 x (tot S r) (vals (tot S r) (ct S r)))
  case atStart => exact ⟨0, Nat.zero_le _, rfl, rfl, Below.refl _ _, World.ownsRow_nil _ _ _ _⟩
  case round =>
    obtain ⟨r, hr, rfl, rfl, hB, hO⟩ := hrel
    have hle := tot_le (S := S) hr
    by_cases hrm : r < m
    · have hrz : (r : Int) < (m : Int) := by omega
      obtain ⟨ad, rfl, hb, k1⟩ := H.out.at_ hrm
      rw [← hB.cell (by rw [block_of_add]; exact hb)] at k1
      have hle2 := tot_le (S := S) (show r + 1 ≤ m by omega)
      rw [tot_succ] at hle2
      have HL := Lib.hid hle2
      have HB := Lib.hid hB
      have HO := Lib.hid hO
      clear hB hO hle hle2
      go_wp2_with (at_builtin; refine Lib.wpList_append_own_string _ rfl (.tmp 14) (.tmp 18) 56 9 rfl w.heap.size 5 j0 Try.underlying56 Try.underlying9 ji jz0 jz1 jz2 _ _ _ rfl HO.out (S r) rfl (by have := HL.out; have := HT.out; unfold maxLen; omega) (by have := HL.out; have := HT.out; omega) (by have := HB.out.size; omega) ?_)
      intro v' w' hown hgrow _
      rw [str_cells, vals_cat, ← tot_succ] at hown
      have HN := Lib.hid hown
      have HB2 : Hid (Below w.heap.size w w') := Lib.hid (HB.out.grown hgrow HB.out.size (fun g hg => (HO.out.lt g hg).1))
      clear hown hgrow
      go_wp2
      go_roundg (m - (r + 1))
      case measure => go_light; omega
      case rel => go_light; exact ⟨r + 1, by omega, rfl, by simp, HB2.out, HN.out⟩
    · have hrz : ¬ (r : Int) < (m : Int) := by omega
      obtain rfl : r = m := by omega
      obtain ⟨A2, c2, rfl, hrw⟩ := own_rw hO
      obtain ⟨hfit, _⟩ := own_fit hO
      have HB := Lib.hid hB
      clear hB hO hle
      have htt : tot S r ≤ 140737488351232 := HT.out
      by_cases hneg : n < 0
      · obtain ⟨e1, e2⟩ := join_out (n := n) (m := r) (S := S) (by omega)
        have HE1 := Lib.hid e1
        have HE2 := Lib.hid e2
        clear e1 e2
        go_wp2
        go_ret2
        exact ⟨by rw [HE1.out, HE2.out]; rfl, HB.out⟩
      · obtain ⟨n, rfl⟩ : ∃ k : Nat, n = k := ⟨n.toNat, by omega⟩
        by_cases hgt : tot S r < n
        · obtain ⟨e1, e2⟩ := join_out (n := (n : Int)) (m := r) (S := S) (by omega)
          have HE1 := Lib.hid e1
          have HE2 := Lib.hid e2
          have g : (tot S r : Int) < (n : Int) := by omega
          clear e1 e2 hneg
          go_wp2
          go_ret2
          exact ⟨by rw [HE1.out, HE2.out]; rfl, HB.out⟩
        · obtain ⟨e1, e2⟩ := join_in (n := n) (m := r) (S := S) (by omega)
          have HE1 := Lib.hid e1
          have HE2 := Lib.hid e2
          have g : ¬ (tot S r : Int) < (n : Int) := by omega
          have g2 : (n : Int) ≤ (c2 : Int) := by omega
          have hcv := row_convert (n := n) (c := c2) (w := wr) (B := wr.heap.size) (A := A2) (f := ct S r) (fun h0 => by
            obtain ⟨ad, z1, z2, z3⟩ := hrw (by omega)
            exact ⟨ad, z1, z2, fun c hc => z3 c (by omega)⟩)
          clear e1 e2 hneg hrw
          go_wp2
          go_ret2
          exact ⟨by rw [HE1.out, HE2.out]; rfl, HB.out⟩
end

section
variable {A A' : Option Addr} {n n' cap cap' B B' : Nat} {S S' : Nat → ByteArray} {w : World}
set_option maxRecDepth 100000 in
set_option maxHeartbeats 800000 in
theorem strSame_any (h : St w B A n S) (h' : St w B' A' n' S') (hn : n ≤ 9223372036854775807) (hn' : n' ≤ 9223372036854775807) :
    Calls Try.prog 15 #[.slice A n cap, .slice A' n' cap'] w fun e w' => e = .returned (.bool (stB n S n' S')) ∧ ∃ q, w' = w.drewN q := by
  have H := Lib.hid h
  have H' := Lib.hid h'
  clear h h'
  by_cases e : n = n'
  · subst e
    have e1 : ((n : Int) != (n : Int)) = false := by rw [bne_eq_false_iff_eq]
    go_enter Try.func15, Try.ntmps15
    go_wp2
    go_loopg [5] n (fun gh i wr => ∃ k q : Nat, k ≤ n ∧ gh = n - k ∧ i = .int .i64 k ∧ wr = w.drewN q ∧ Hid (∀ r, r < k → S r = S' r))
    case atStart => exact ⟨0, 0, by omega, rfl, rfl, rfl, Lib.hid (fun r hr => absurd hr (by omega))⟩
    case round =>
      obtain ⟨k, q, hk, rfl, rfl, rfl, hall⟩ := hrel
      by_cases hlt : k < n
      · have hkz : (k : Int) < (n : Int) := by omega
        obtain ⟨ad, rfl, _, c1⟩ := H.out.at_ hlt
        obtain ⟨ad', rfl, _, c2⟩ := H'.out.at_ hlt
        by_cases he : S k = S' k
        · obtain ⟨t, t2⟩ := str_yes he
          have He := Lib.hid he; clear he
          go_wp2_with fail
          go_quiet (fail)
          go_wp2
          go_roundg (n - (k + 1))
          case measure => go_light; omega
          case rel => go_light; exact ⟨k + 1, _, by omega, rfl, by simp, rfl, Lib.hid (fun r hr => by
            by_cases e : r = k
            · subst e; exact He.out
            · exact hall.out r (by omega))⟩
        · obtain ⟨t, t2⟩ := str_no he
          have HF : Hid (stB n S n S' = false) := Lib.hid (stB_no (fun h => he (h.2 k hlt)))
          clear he
          go_wp2_with fail
          go_quiet (fail)
          go_wp2
          go_ret
          exact ⟨by rw [HF.out]; rfl, _, World.drewN_drewN _ _ _⟩
      · have hkz : ¬ (k : Int) < (n : Int) := by omega
        have HF : Hid (stB n S n S' = true) := Lib.hid (stB_yes ⟨rfl, fun r hr => hall.out r (by omega)⟩)
        go_wp2
        go_ret
        exact ⟨by rw [HF.out]; rfl, _, rfl⟩
  · have e1 : ((n : Int) != (n' : Int)) = true := by rw [bne_iff_ne]; omega
    have HF : Hid (stB n S n' S' = false) := Lib.hid (stB_no (fun h => e h.1))
    clear e
    go_enter Try.func15, Try.ntmps15
    go_wp2
    go_ret
    exact ⟨by rw [HF.out]; rfl, 0, rfl⟩
end
end Go.Proofs.Ytjfgainieoaeaaa.Mat
