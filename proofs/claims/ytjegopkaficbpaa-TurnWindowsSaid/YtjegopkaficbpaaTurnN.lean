/- The law of windows: walked. -/
import Derived.Test.YtjegopkaficbpaaTurnM
namespace Go.Proofs.Ytjegopkaficbpaa.Mat
open Go.RowKit Fld Flt Trn

/-- the print of the window of n bytes from j on -/
def win (s : ByteArray) (j n : Nat) : Tn := md (pr (fun c => V (bt s (j + c)) + 1) n)
def sub (s : ByteArray) (off n : Nat) : ByteArray := rs n (fun c => bt s (off + c))
theorem ext_sub (s : ByteArray) (off n : Nat) (h : off + n ≤ s.size) : s.extract off (off + n) = sub s off n := by
  refine bt_eq.2 ⟨by unfold sub; rw [rs_size', ByteArray.size_extract]; omega, fun c hc => ?_⟩
  rw [ByteArray.size_extract] at hc
  unfold sub
  rw [bt_rs (by omega)]
  unfold bt
  rw [ByteArray.data_extract, Array.getElem?_extract]
  have : c < min (off + n) s.data.size - off := by
    have : s.data.size = s.size := rfl
    omega
  rw [if_pos this]
theorem prn_sub (s : ByteArray) (j n : Nat) (h : j + n ≤ s.size) : prn (s.extract j (j + n)) (s.extract j (j + n)).size = win s j n := by
  rw [ext_sub s j n h]
  unfold prn win sub
  rw [rs_size']
  rw [pr_congr (g := fun c => V (bt s (j + c)) + 1) (fun i hi => by rw [bt_rs hi])]
theorem win_may (s : ByteArray) (j n : Nat) : may (win s j n) := may_md _
theorem md_less (x y : Tn) : md (ad (md x) (ng (md y))) = md (ad x (ng y)) := by
  unfold md ad ng
  ext <;> simp only <;> omega
theorem roll_win (s : ByteArray) (j m : Nat) : roll (win s j (m + 1)) m (V (bt s j)) (V (bt s (j + (m + 1)))) = win s (j + 1) (m + 1) := by
  have h := pr_roll (fun c => V (bt s (j + c)) + 1) m
  simp only [Nat.add_zero] at h
  have e : pr (fun c => V (bt s (j + 1 + c)) + 1) (m + 1) = pr (fun i => V (bt s (j + (1 + i))) + 1) (m + 1) := pr_congr (fun i _ => by rw [Nat.add_assoc])
  unfold win
  rw [e, h]
  unfold roll
  show _ = nx (ad (pr (fun c => V (bt s (j + c)) + 1) (m + 1)) (ng (mu (px st m) (V (bt s j) + 1, 0)))) (V (bt s (j + (m + 1))))
  apply nx_of_md
  unfold kept
  rw [← md_less, ← md_less (pr _ _), md_md, md_mu2, mu_comm]

def CutW (w : World) (g6 : Nat) (z y : Tn) (s8 s9 : Value) (wc : World) : Prop :=
  ∃ g8, s8 = .pointer (some ⟨g8, 0, none⟩) ∧ s9 = .int .i64 0 ∧ Below w.heap.size w wc ∧ Has wc g6 23 2 (two z.1 z.2) ∧ Has wc g8 23 2 (two y.1 y.2) ∧ g8 ≠ g6
section
variable {w wr w3 : World} {g6 q : Nat} {z y : Tn}
theorem cutw1 (hb : Below w.heap.size w wr) (h : Has wr g6 23 2 (two z.1 z.2)) (h3 : Below ((wr.drewN q).alloc (.cells #[.int .i64 0, .int .i64 0] 23)).heap.size ((wr.drewN q).alloc (.cells #[.int .i64 0, .int .i64 0] 23)) w3) :
    Has w3 wr.heap.size 23 2 (two 0 0) ∧ CutW w g6 z y (.pointer (some ⟨wr.heap.size, 0, none⟩)) (.int .i64 0) (put2 w3 wr.heap.size y.1 y.2) := by
  have hx := (has_two (wr.drewN q) 0 0 23)
  have hx3 := hx.on h3
  have h1 := h.lt
  have hz := h.on (below_of_drew (box_trans h3))
  exact ⟨hx3, _, rfl, rfl, put2_below (up_trans hb (below_of_drew (box_trans h3))) hb.size, put2_other hz (by omega), put2_two hx3, by omega⟩
theorem cutw2 (hb : Below w.heap.size w wr) (h : Has wr g6 23 2 (two z.1 z.2)) (h3 : Below (wr.drewN q).heap.size (wr.drewN q) w3) :
    CutW w g6 z y (.pointer (some ⟨w3.heap.size, 0, none⟩)) (.int .i64 0) (w3.alloc (.cells #[.int .i64 y.1, .int .i64 y.2] 23)) := by
  have hb3 := up_trans hb (below_of_drew h3)
  have hz := h.on (below_of_drew h3)
  have h1 := hz.lt
  exact ⟨_, rfl, rfl, hb3.alloc hb3.size _, hz.alloc _, has_two w3 y.1 y.2 _, by omega⟩
end

set_option maxRecDepth 100000 in
set_option maxHeartbeats 800000 in
theorem lawWindows0 (s : ByteArray) (n : Int) (h : n < 1 ∨ (s.size : Int) < n ∨ (400 : Int) < s.size) (w : World) :
    Calls Try.prog 6 #[.string s, .int .i64 n] w (BoolRet w true) := by
  by_cases h1 : n < 1
  · clear h
    go_enter Try.func6, Try.ntmps6
    go_wp2_with fail
    refine (shown_any _).mono ?_; rintro e w1 ⟨rfl, hb1⟩
    have B1 := Lib.hid hb1
    clear hb1
    go_wp2
    go_ret
    exact ⟨rfl, B1.out⟩
  by_cases h2 : (s.size : Int) < n
  · clear h
    go_enter Try.func6, Try.ntmps6
    go_wp2_with fail
    refine (shown_any _).mono ?_; rintro e w1 ⟨rfl, hb1⟩
    have B1 := Lib.hid hb1
    clear hb1
    go_wp2
    go_ret
    exact ⟨rfl, B1.out⟩
  have h3 : (400 : Int) < s.size := by omega
  clear h
  go_enter Try.func6, Try.ntmps6
  go_wp2_with fail
  refine (shown_any _).mono ?_; rintro e w1 ⟨rfl, hb1⟩
  have B1 := Lib.hid hb1
  clear hb1
  go_wp2
  go_ret
  exact ⟨rfl, B1.out⟩

set_option maxRecDepth 100000 in
set_option maxHeartbeats 1600000 in
theorem lawWindows1 (s : ByteArray) (m : Nat) (h : m + 1 ≤ s.size) (hs : s.size ≤ 400) (w : World) :
    Calls Try.prog 6 #[.string s, .int .i64 ((m + 1 : Nat) : Int)] w (BoolRet w true) := by
  obtain ⟨n, hn⟩ : ∃ n, m + 1 = n := ⟨_, rfl⟩
  rw [hn]
  have HN := Lib.hid hn
  have hp := prn_sub s 0 n (by omega)
  rw [Nat.zero_add] at hp
  have HP := Lib.hid (print_any (s.extract 0 n) (by rw [ByteArray.size_extract]; omega))
  rw [hp] at HP
  have g1 : ¬ (n : Int) < 1 := by omega
  have g2 : ¬ (s.size : Int) < (n : Int) := by omega
  have g3 : ¬ (400 : Int) < (s.size : Int) := by omega
  have g4 : n ≤ s.size := by omega
  clear hn hp h
  go_enter Try.func6, Try.ntmps6
  go_wp2_with fail
  refine (shown_any _).mono ?_; rintro e w1 ⟨rfl, hb1⟩
  have B1 := Lib.hid hb1
  clear hb1
  go_wp2_with fail
  refine (HP.out _).mono ?_; rintro e w2 ⟨rfl, hb2⟩
  have B2 := Lib.hid (up_trans B1.out hb2)
  clear hb2 B1
  go_wp2_with fail
  have hz0 := has_two w2 (win s 0 n).1 (win s 0 n).2 23
  have B3 := Lib.hid (B2.out.alloc B2.out.size (.cells #[.int .i64 (win s 0 n).1, .int .i64 (win s 0 n).2] 23))
  generalize w2.alloc (.cells #[.int .i64 (win s 0 n).1, .int .i64 (win s 0 n).2] 23) = w3 at *
  have G6 : Hid (w.heap.size ≤ w2.heap.size) := Lib.hid B2.out.size
  have Z0 := Lib.hid hz0
  clear hz0 B2 HP g1 g2 g3
  generalize w2.heap.size = g6 at *
  go_loopg [7] (s.size - n) (fun gh v wr => ∃ i j : Nat, j + n = i ∧ i ≤ s.size ∧ gh = s.size - i ∧ v = .int .i64 (i : Nat) ∧ Below w.heap.size w wr ∧ Has wr g6 23 2 (two (win s j n).1 (win s j n).2))
  case atStart => exact ⟨n, 0, by omega, g4, rfl, rfl, B3.out, Z0.out⟩
  case round =>
    obtain ⟨i, j, hij, hi, rfl, rfl, hB, hZ⟩ := hrel
    by_cases his : i < s.size
    · have hii : (i : Int) < (s.size : Int) := by omega
      have k1 := fun w => str_at s j (show j < s.size by omega) w
      have k2 := fun w => str_at s i his w
      have hd : (i : Int) - (n : Int) = (j : Int) := by omega
      have hw := IntWalk.i64_in ((i : Int) - (n : Int)) (by omega)
      rw [← hd] at k1
      have HD := Lib.hid hd
      clear hd
      have HR := Lib.hid (roll_yes (a := (win s j n).1) (b := (win s j n).2) (m := m) (o := V (bt s j)) (i := V (bt s i)) (win_may s j n) (by have := HN.out; omega) (V_lo _) (V_hi _) (V_lo _) (V_hi _))
      have hr := roll_win s j m
      rw [HN.out, hij] at hr
      change Hid (∀ w, Calls _ _ _ w (TurnErrRet w (roll (win s j n) m (V (bt s j)) (V (bt s i))) 0)) at HR
      rw [hr, show ((m : Int) + 1) = (n : Int) by have := HN.out; omega] at HR
      obtain ⟨z0, z1⟩ := hZ.pair
      have HB := Lib.hid hB
      have HZ := Lib.hid hZ
      have HI := Lib.hid hij
      have HS := Lib.hid his
      clear hB hZ hr hij hi
      have K : Hid (∀ W, Below wr.heap.size wr W → W.cell? ⟨g6, 0, none⟩ = some (.int .i64 (win s j n).1) ∧ W.cell? ⟨g6, 1, none⟩ = some (.int .i64 (win s j n).2)) := Lib.hid (fun W hb => (HZ.out.on hb).pair)
      go_upto_region 8 with fail
      go_cut [8, 9] from 36 to 49 (fun s8 s9 wc => CutW w g6 (win s j n) (win s (j + 1) n) s8 s9 wc)
      case first =>
        go_region_held3 (fun W => W.cell? ⟨g6, 0, none⟩ = some (.int .i64 (win s j n).1) ∧ W.cell? ⟨g6, 1, none⟩ = some (.int .i64 (win s j n).2))
          (first | exact ⟨z0, z1⟩ | exact K.out _ b3.out | exact K.out _ ((below_dr _ _).alloc (Nat.le_refl _) _) | exact K.out _ (b3.out.alloc b3.out.size _) | exact K.out _ (put2_below b3.out (Nat.le_refl _)) | go_keep)
          ((go_at_call 19; (with_reducible refine Calls.mono (HR.out _) ?_); rintro e w4 ⟨rfl, hb4⟩; have b3 : Hid (Below wr.heap.size wr w4) := Lib.hid (by first | exact below_of_drew hb4 | exact below_of_drew (box_trans hb4)); (first | (have q4 := cutw1 (y := win s (j + 1) n) HB.out HZ.out hb4; obtain ⟨qh, qp⟩ := q4; have q0 := qh.cell (i := 0) (by omega); have q1 := qh.cell (i := 1) (by omega); have q2 := qh.frozen (i := 0) (by omega); have q3 := qh.frozen (i := 1) (by omega); have QP := Lib.hid qp; clear qp qh) | skip)))
        all_goals
          go_wp2_with fail
          go_meet
          case rel =>
            go_light
            first | exact QP.out | exact cutw2 HB.out HZ.out hb4
      case rest =>
        obtain ⟨g8, rfl, rfl, hB8, hZ8, hY8, hne⟩ := hcut
        have HP := Lib.hid (print_any (s.extract (j + 1) (j + 1 + n)) (by rw [ByteArray.size_extract]; have := HS.out; omega))
        rw [prn_sub s (j + 1) n (by have := HS.out; have := HI.out; omega)] at HP
        obtain ⟨y0, y1⟩ := hY8.pair
        have HB8 := Lib.hid hB8
        have HZ8 := Lib.hid hZ8
        have HY8 := Lib.hid hY8
        have HNE := Lib.hid hne
        clear hB8 hZ8 hY8 hne k1 k2
        have K8 : Hid (∀ W, Below wc.heap.size wc W → W.cell? ⟨g8, 0, none⟩ = some (.int .i64 (win s (j + 1) n).1) ∧ W.cell? ⟨g8, 1, none⟩ = some (.int .i64 (win s (j + 1) n).2)) := Lib.hid (fun W hb => (HY8.out.on hb).pair)
        have c1 : ¬ (i : Int) - (n : Int) + 1 < 0 := by have := HD.out; omega
        have c2 : (i : Int) - (n : Int) + 1 ≤ (i : Int) + 1 := by have := HD.out; omega
        have c3 : (i : Int) + 1 ≤ (s.size : Int) := by omega
        have hsl : ∀ w, (Instr.slice 9 (.string s) (some (.int .i64 ((i : Int) - (n : Int) + 1))) (some (.int .i64 ((i : Int) + 1))) none).run Try.prog w = .ok (.string (s.extract (j + 1) (j + 1 + n))) w := fun w => by
          have e1 : (i : Int) - (n : Int) + 1 = ((j + 1 : Nat) : Int) := by have := HD.out; omega
          have e2 : (i : Int) + 1 = ((j + 1 + n : Nat) : Int) := by have := HI.out; omega
          rw [e1, e2]
          have := run_slice_string (P := Try.prog) w 9 s .i64 .i64 ((j + 1 : Nat) : Int) ((j + 1 + n : Nat) : Int) Try.underlying9 (by omega) (by omega) (by have := HI.out; omega)
          rw [this, Int.toNat_natCast, Int.toNat_natCast]
        have w1 := IntWalk.i64_in ((i : Int) - (n : Int) + 1) (by have := HD.out; omega)
        have w2 := IntWalk.i64_in ((i : Int) + 1) (by omega)
        go_upto_region 9 with fail
        go_region_held3 (fun W => W.cell? ⟨g8, 0, none⟩ = some (.int .i64 (win s (j + 1) n).1) ∧ W.cell? ⟨g8, 1, none⟩ = some (.int .i64 (win s (j + 1) n).2))
          (first | exact ⟨y0, y1⟩ | exact K8.out _ b5.out | go_keep)
          ((go_at_call 17; (with_reducible refine Calls.mono (HP.out _) ?_); rintro e w5 ⟨rfl, hb5⟩; have b5 := Lib.hid (below_of_drew hb5)))
        have hz5 := HZ8.out.on b5.out
        have z2 := hz5.cell (i := 0) (by omega)
        have z3 := hz5.cell (i := 1) (by omega)
        have z4 := hz5.frozen (i := 0) (by omega)
        have z5 := hz5.frozen (i := 1) (by omega)
        have HZ5 := Lib.hid (put2_two (g := (win s (j + 1) n).1) (k := (win s (j + 1) n).2) hz5)
        have HB5 := Lib.hid (put2_below (g := (win s (j + 1) n).1) (k := (win s (j + 1) n).2) (up_trans HB8.out b5.out) G6.out)
        clear hz5
        go_wp2
        go_roundg (s.size - (i + 1))
        case measure => go_light; have := HS.out; omega
        case rel => go_light; exact ⟨i + 1, j + 1, by have := HI.out; omega, by have := HS.out; omega, rfl, by simp, HB5.out, HZ5.out⟩
    · have hii : ¬ (i : Int) < (s.size : Int) := by omega
      have HB := Lib.hid hB
      clear hB hZ
      go_wp2
      go_ret
      exact ⟨rfl, HB.out⟩
theorem lawWindows (s : ByteArray) (n : Int) (_ : s.size ≤ 140737488351232) (_ : -9223372036854775808 ≤ n) (_ : n ≤ 9223372036854775807) (w : World) :
    Calls Try.prog 6 #[.string s, .int .i64 n] w (BoolRet w true) := by
  by_cases h : n < 1 ∨ (s.size : Int) < n ∨ (400 : Int) < s.size
  · exact lawWindows0 s n h w
  · obtain ⟨m, rfl⟩ : ∃ m : Nat, n = ((m + 1 : Nat) : Int) := ⟨(n - 1).toNat, by omega⟩
    exact lawWindows1 s m (by omega) (by omega) w
end Go.Proofs.Ytjegopkaficbpaa.Mat
