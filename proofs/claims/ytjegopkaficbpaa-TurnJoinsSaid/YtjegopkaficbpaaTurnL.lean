/- The laws of rolling, joining and telling prints: walked. -/
import Derived.Test.YtjegopkaficbpaaTurnK
namespace Go.Proofs.Ytjegopkaficbpaa.Mat
open Go.RowKit Fld Flt Trn

theorem bt_app (s t : ByteArray) (c : Nat) : bt (s ++ t) c = if c < s.size then bt s c else bt t (c - s.size) := by
  unfold bt
  rw [ByteArray.data_append, Array.getElem?_append]
  have : s.data.size = s.size := rfl
  rw [this]
  split <;> rfl
theorem join_prn (a b : ByteArray) : join (prn a a.size) (prn b b.size) b.size = prn (a ++ b) (a ++ b).size := by
  unfold join prn
  rw [ByteArray.size_append, pr_join]
  have e1 : pr (fun i => V (bt (a ++ b) i) + 1) a.size = pr (fun i => V (bt a i) + 1) a.size := pr_congr (fun i hi => by rw [bt_app, if_pos hi])
  have e2 : pr (fun i => V (bt (a ++ b) (a.size + i)) + 1) b.size = pr (fun i => V (bt b i) + 1) b.size := pr_congr (fun i hi => by rw [bt_app, if_neg (by omega), show a.size + i - a.size = i by omega])
  rw [e1, e2, ← md_ad, md_mu, md_md, md_ad]

set_option maxRecDepth 100000 in
set_option maxHeartbeats 1600000 in
theorem lawJoins (a b : ByteArray) (ha : a.size ≤ 140737488351232) (hb : b.size ≤ 140737488351232) (w : World) :
    Calls Try.prog 7 #[.string a, .string b] w (BoolRet w true) := by
  have HJ := Lib.hid (join_any (prn a a.size).1 (prn a a.size).2 (prn b b.size).1 (prn b b.size).2 (b.size : Int) (by omega))
  have hj1 : joinT (prn a a.size) (prn b b.size) (b.size : Int) = prn (a ++ b) (a ++ b).size := by
    unfold joinT
    rw [if_pos ⟨prn_may _ _, prn_may _ _, by omega⟩, Int.toNat_natCast, join_prn]
  have hj2 : joinE (prn a a.size) (prn b b.size) (b.size : Int) = 0 := by
    unfold joinE
    rw [if_pos ⟨prn_may _ _, prn_may _ _, by omega⟩]
  change Hid (∀ w, Calls _ _ _ w (TurnErrRet w (joinT (prn a a.size) (prn b b.size) (b.size : Int)) (joinE (prn a a.size) (prn b b.size) (b.size : Int)))) at HJ
  rw [hj1, hj2] at HJ
  have HA := Lib.hid (print_any a (by omega))
  have HB := Lib.hid (print_any b (by omega))
  have HAB := Lib.hid (print_any (a ++ b) (by rw [ByteArray.size_append]; omega))
  have HY : Hid (mayB (prn (a ++ b) (a ++ b).size).1 (prn (a ++ b) (a ++ b).size).2 = true) := Lib.hid (mayB_yes (prn_may (a ++ b) (a ++ b).size))
  have hcat : ¬ 9223372036854775807 < a.size + b.size := by omega
  clear hj1 hj2
  generalize prn (a ++ b) (a ++ b).size = z at *
  go_enter Try.func7, Try.ntmps7
  go_wp2_with fail
  refine (shown_any _).mono ?_; rintro e w1 ⟨rfl, hb1⟩
  have B1 := Lib.hid hb1
  clear hb1
  go_wp2_with fail
  refine (HA.out _).mono ?_; rintro e w2 ⟨rfl, hb2⟩
  have B2 := Lib.hid (up_trans B1.out hb2)
  clear hb2
  go_wp2_with fail
  refine (HB.out _).mono ?_; rintro e w3 ⟨rfl, hb3⟩
  have B3 := Lib.hid (up_trans B2.out hb3)
  clear hb3
  go_wp2_with fail
  refine (HJ.out _).mono ?_; rintro e w4 ⟨rfl, hb4⟩
  have B4 := Lib.hid (up_trans B3.out hb4)
  clear hb4
  go_wp2_with fail
  have hz := has_two w4 z.1 z.2 23
  have B5 := Lib.hid (B4.out.alloc B4.out.size (.cells #[.int .i64 z.1, .int .i64 z.2] 23))
  go_upto_region 3 with fail
  generalize w4.alloc (.cells #[.int .i64 z.1, .int .i64 z.2] 23) = w5 at *
  obtain ⟨z0, z1⟩ := hz.pair
  have HZ := Lib.hid hz
  clear hz
  have K : Hid (∀ W, Below w5.heap.size w5 W → W.cell? ⟨w4.heap.size, 0, none⟩ = some (.int .i64 z.1) ∧ W.cell? ⟨w4.heap.size, 1, none⟩ = some (.int .i64 z.2)) :=
    Lib.hid (fun W hb => (HZ.out.below hb HZ.out.lt).pair)
  go_region_held3 (fun W => W.cell? ⟨w4.heap.size, 0, none⟩ = some (.int .i64 z.1) ∧ W.cell? ⟨w4.heap.size, 1, none⟩ = some (.int .i64 z.2))
    (first | exact ⟨z0, z1⟩ | exact K.out _ b7.out | exact K.out _ b6.out | go_keep)
    (first
      | (go_at_call 17; (with_reducible refine Calls.mono (HAB.out _) ?_); rintro e w6 ⟨rfl, hb6⟩; have b6 := Lib.hid (below_of_drew hb6))
      | (go_at_call 11; (with_reducible refine Calls.mono (may_any _ _ _) ?_); rintro e w7 ⟨rfl, hb7⟩; rw [HY.out]; have b7 := Lib.hid (up_trans b6.out hb7)))
  go_wp2
  go_ret
  exact ⟨rfl, up_trans B5.out b7.out⟩

/-! ### one byte alone -/
def chg (s : ByteArray) (at_ : Nat) (b : BitVec 8) (j : Nat) : BitVec 8 := if j = at_ then b else bt s j
theorem tells (s : ByteArray) (k : Nat) (b : BitVec 8) (hk : k < s.size) (hne : bt s k ≠ b) : prn (rs s.size (chg s k b)) (rs s.size (chg s k b)).size ≠ prn s s.size := by
  rw [rs_size]
  intro h
  have e : pr (fun i => V (bt (rs s.size (chg s k b)) i) + 1) s.size = pr (fun i => V (chg s k b i) + 1) s.size := pr_congr (fun i hi => by rw [bt_rs hi])
  unfold prn at h
  rw [e] at h
  have h1 := pr_tells (f := fun i => V (chg s k b i) + 1) (g := fun i => V (bt s i) + 1) (m := k) (n := s.size) (fun i hi => by unfold chg; rw [if_neg hi]) hk h
  unfold chg at h1
  simp only [if_pos] at h1
  have h2 := V_lo b
  have h3 := V_hi b
  have h4 := V_lo (bt s k)
  have h5 := V_hi (bt s k)
  exact hne (V_inj (by omega))
theorem turn_ne {x y : Tn} (h : x ≠ y) : (x.1 == y.1 && x.2 == y.2) = false := by
  rw [Bool.eq_false_iff]
  intro e
  simp at e
  exact h (Prod.ext e.1 e.2)
set_option maxRecDepth 100000 in
set_option maxHeartbeats 800000 in
theorem lawTells0 (s : ByteArray) (at_ b : Int) (h : at_ < 0 ∨ (s.size : Int) ≤ at_) (w : World) :
    Calls Try.prog 8 #[.string s, .int .i64 at_, .int .u8 b] w (BoolRet w true) := by
  by_cases h1 : at_ < 0
  · clear h
    go_enter Try.func8, Try.ntmps8
    go_wp2_with fail
    refine (shown_any _).mono ?_; rintro e w1 ⟨rfl, hb1⟩
    have B1 := Lib.hid hb1
    clear hb1
    go_wp2
    go_ret
    exact ⟨rfl, B1.out⟩
  · have h2 : (s.size : Int) ≤ at_ := by omega
    clear h
    go_enter Try.func8, Try.ntmps8
    go_wp2_with fail
    refine (shown_any _).mono ?_; rintro e w1 ⟨rfl, hb1⟩
    have B1 := Lib.hid hb1
    clear hb1
    go_wp2
    go_ret
    exact ⟨rfl, B1.out⟩
set_option maxRecDepth 100000 in
set_option maxHeartbeats 800000 in
theorem lawTells1 (s : ByteArray) (k : Nat) (b : BitVec 8) (hk : k < s.size) (he : bt s k = b) (w : World) :
    Calls Try.prog 8 #[.string s, .int .i64 (k : Nat), .int .u8 (V b)] w (BoolRet w true) := by
  have k1 := fun w => str_at s k hk w
  rw [he] at k1
  have g1 : ¬ (k : Int) < 0 := by omega
  have g2 : ¬ (s.size : Int) ≤ (k : Int) := by omega
  clear he
  go_enter Try.func8, Try.ntmps8
  go_wp2_with fail
  refine (shown_any _).mono ?_; rintro e w1 ⟨rfl, hb1⟩
  have B1 := Lib.hid hb1
  clear hb1
  go_wp2
  go_ret
  exact ⟨rfl, B1.out⟩
set_option maxRecDepth 100000 in
set_option maxHeartbeats 1600000 in
theorem lawTells2 (s : ByteArray) (k : Nat) (b : BitVec 8) (hs : s.size ≤ 140737488351232) (hk : k < s.size) (hne : bt s k ≠ b) (w : World) :
    Calls Try.prog 8 #[.string s, .int .i64 (k : Nat), .int .u8 (V b)] w (BoolRet w true) := by
  have k1 := fun w => str_at s k hk w
  have k2 : (V (bt s k) == V b) = false := by rw [beq_eq_false_iff_ne]; exact fun h => hne (V_inj h)
  have g1 : ¬ (k : Int) < 0 := by omega
  have g2 : ¬ (s.size : Int) ≤ (k : Int) := by omega
  have g3 : (k : Int) < (s.size : Int) := by omega
  have HT := Lib.hid (turn_ne (tells s k b hk hne))
  have HA := Lib.hid (print_any s (by omega))
  have HB := Lib.hid (print_any (rs s.size (chg s k b)) (by rw [rs_size]; omega))
  have hcp := fun w => copy_run s.size (bt s) w
  rw [rs_bt] at hcp
  clear hne
  generalize prn (rs s.size (chg s k b)) (rs s.size (chg s k b)).size = y at *
  generalize prn s s.size = x at *
  go_enter Try.func8, Try.ntmps8
  go_wp2_with fail
  refine (shown_any _).mono ?_; rintro e w1 ⟨rfl, hb1⟩
  have B1 := Lib.hid hb1
  clear hb1
  go_upto_region 5 with fail
  clear hcp k1 k2
  have hh := (copy_has w1 s.size (bt s)).drew
  have B2 := Lib.hid ((B1.out.alloc B1.out.size (cpObj w1 s.size (bt s))).drew)
  generalize (w1.alloc (cpObj w1 s.size (bt s))).drew = w2 at *
  have q0 := hh.cell hk
  have q1 := hh.frozen hk
  have h3 : Has (w2.setCell ⟨w1.heap.size, k, none⟩ (.int .u8 (V b))) w1.heap.size 5 s.size (fun c => .int .u8 (V (chg s k b c))) :=
    (hh.set_ k _).congr (fun c _ => by unfold chg; split <;> rfl)
  have B3 := Lib.hid (B2.out.setCell (p := ⟨w1.heap.size, k, none⟩) B1.out.size (.int .u8 (V b)))
  have H3 := Lib.hid h3
  clear hh h3
  go_upto_region 6 with fail
  generalize w2.setCell ⟨w1.heap.size, k, none⟩ (.int .u8 (V b)) = w3 at *
  clear q0 q1
  have hcv := row_convert (c := cpCap w1 s.size) (Rw.of_has H3.out H3.out.lt)
  go_wp2_with fail
  refine (HB.out _).mono ?_; rintro e w4 ⟨rfl, hb4⟩
  have B4 := Lib.hid (up_trans B3.out hb4)
  clear hb4
  go_wp2_with fail
  refine (HA.out _).mono ?_; rintro e w5 ⟨rfl, hb5⟩
  have B5 := Lib.hid (up_trans B4.out hb5)
  clear hb5
  go_wp2
  all_goals first | (exfalso; have := HT.out; simp_all; done) | (go_ret; exact ⟨rfl, B5.out⟩)
theorem lawTells (s : ByteArray) (at_ b : Int) (hs : s.size ≤ 140737488351232) (b0 : 0 ≤ b) (b1 : b < 256) (w : World) :
    Calls Try.prog 8 #[.string s, .int .i64 at_, .int .u8 b] w (BoolRet w true) := by
  by_cases h : at_ < 0 ∨ (s.size : Int) ≤ at_
  · exact lawTells0 s at_ b h w
  · obtain ⟨k, rfl⟩ : ∃ k : Nat, at_ = k := ⟨at_.toNat, by omega⟩
    rw [← V_B b b0 b1]
    by_cases e : bt s k = B b
    · exact lawTells1 s k _ (by omega) e w
    · exact lawTells2 s k _ hs (by omega) e w
end Go.Proofs.Ytjegopkaficbpaa.Mat
