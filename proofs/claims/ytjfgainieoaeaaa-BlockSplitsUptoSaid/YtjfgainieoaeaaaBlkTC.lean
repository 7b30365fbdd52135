/- What was laid last; pieces and pieces put together as the document says: walked. -/
import Derived.Test.YtjfgainieoaeaaaBlkTB
import Derived.Deep.CutBlock
import Derived.Deep.DeepCutAuto
namespace Go.Proofs.Ytjfgainieoaeaaa.Mat
open Go.RowKit Fld

section
variable {I : Nat → Int} {S : Nat → ByteArray}
/-- the part j has something at x -/
def Covers (I : Nat → Int) (S : Nat → ByteArray) (j x : Nat) : Prop := I j ≤ (x : Int) ∧ (x : Int) < I j + (S j).size
theorem lay_none {n x : Nat} (h : ∀ j, j < n → ¬ Covers I S j x) : lay I S n x = 0#8 := by
  induction n with
  | zero => rfl
  | succ n ih =>
    show (if I n ≤ (x : Int) ∧ (x : Int) < I n + (S n).size then bt (S n) (x - (I n).toNat) else lay I S n x) = _
    rw [if_neg (show ¬ (I n ≤ (x : Int) ∧ (x : Int) < I n + (S n).size) from h n (by omega))]
    exact ih fun j hj => h j (by omega)
theorem lay_last {N r o : Nat} (ho : I r = (o : Int)) (hfit : o + (S r).size ≤ N) : sub (rs N (lay I S (r + 1))) o (S r).size = S r := by
  refine bt_eq.2 ⟨sub_size _ _ _, fun c hc => ?_⟩
  rw [sub_size] at hc
  unfold sub
  rw [bt_rs hc, bt_rs (by omega)]
  show (if I r ≤ ((o + c : Nat) : Int) ∧ ((o + c : Nat) : Int) < I r + (S r).size then bt (S r) (o + c - (I r).toNat) else lay I S r (o + c)) = _
  rw [ho, if_pos (by omega)]
  congr 1
  omega

set_option maxRecDepth 100000 in
set_option maxHeartbeats 1600000 in
theorem lawLast {w : World} (size : Int) (A : Option Addr) (n cap : Nat) (I : Nat → Int) (S : Nat → ByteArray) (_s0 : -9223372036854775808 ≤ size) (_s1 : size ≤ 9223372036854775807) (hok : PcOk n cap I S) (hP : Pc w w.heap.size A n I S) :
    Calls Try.prog 8 #[.int .i64 size, .slice A n cap] w fun e w' => e = .returned (.bool true) ∧ Below w.heap.size w w' := by
  have hll := fun (w : World) (h : Pc w w.heap.size A n I S) => lay_any h hok size
  obtain ⟨_, hn, hok⟩ := hok
  have HP := Lib.hid hP
  have HOK := Lib.hid hok
  cases hb : layB size n I S
  · obtain ⟨e1, e2⟩ := lay_out hb
    rw [e1, e2] at hll
    have HL := Lib.hid hll
    clear hP hok hll hb e1 e2 _s0 _s1
    go_enter Try.func8, Try.ntmps8
    go_wp2_with fail
    refine (shown_any _).mono ?_; rintro e w1 ⟨rfl, hb1⟩
    have B1 := Lib.hid hb1
    have P1 := Lib.hid (HP.out.up hb1)
    clear hb1 HP
    go_wp2_with fail
    refine (HL.out _ P1.out).mono ?_; rintro e w2 ⟨rfl, hb2⟩
    have B2 := Lib.hid (up_trans B1.out hb2)
    clear hb2 B1
    go_wp2
    go_ret
    exact ⟨rfl, B2.out⟩
  · obtain ⟨z1, z2, hfit⟩ := lay_iff.1 hb
    obtain ⟨N, rfl⟩ : ∃ N : Nat, size = N := ⟨size.toNat, by omega⟩
    obtain ⟨e1, e2⟩ := lay_in hb
    rw [e1, e2] at hll
    have hXs : (rs N (lay I S n)).size = N := rs_size' _ _
    have hX0 : ∀ x, x < N → (∀ j, j < n → ¬ Covers I S j x) → V (bt (rs N (lay I S n)) x) = 0 := fun x hx hc => by rw [bt_rs hx, lay_none hc, V_zero]
    have hXl : ∀ r o : Nat, n = r + 1 → I r = (o : Int) → o + (S r).size ≤ N → sub (rs N (lay I S n)) o (S r).size = S r := fun r o hr ho hf => by subst hr; exact lay_last ho hf
    generalize rs N (lay I S n) = X at *
    have HL := Lib.hid hll
    have HFT := Lib.hid hfit
    have HX0 := Lib.hid hX0
    have HXL := Lib.hid hXl
    have HXS := Lib.hid hXs
    have hN : N ≤ 65536 := by omega
    clear hP hok hll hb e1 e2 _s0 _s1 hfit hX0 hXl z1 z2
    have g1 : ((X.size : Int) != (N : Int)) = false := by rw [bne_eq_false_iff_eq, hXs]
    clear hXs
    go_enter Try.func8, Try.ntmps8
    go_wp2_with fail
    refine (shown_any _).mono ?_; rintro e w1 ⟨rfl, hb1⟩
    have B1 := Lib.hid hb1
    have P1 := Lib.hid (HP.out.up hb1)
    clear hb1 HP
    go_wp2_with fail
    refine (HL.out _ P1.out).mono ?_; rintro e w2 ⟨rfl, hb2⟩
    have B2 := Lib.hid (up_trans B1.out hb2)
    have P2 := Lib.hid (P1.out.up hb2)
    clear hb2 B1 P1
    go_upto_if 30 with fail
    obtain ⟨bb, hbb⟩ : ∃ bb, bb = decide (0 < n) := ⟨_, rfl⟩
    rw [← hbb]
    have HBB := Lib.hid hbb
    clear hbb
    go_cut [8, 9, 10] from 31 (fun _ _ _ wx => Below w2.heap.size w2 wx)
    case first =>
      cases bb
      · go_wp2
        go_meet
        case rel => exact Below.refl _ _
      · have hn0 : 0 < n := by have := HBB.out; simpa using this.symm
        obtain ⟨r, hr⟩ : ∃ r, n = r + 1 := ⟨n - 1, by omega⟩
        have hn1 : (1 : Int) ≤ (n : Int) := by omega
        have hnr : (n : Int) - 1 = (r : Int) := by omega
        have hrn : (r : Int) < (n : Int) := by omega
        have hrn' : r < n := by omega
        have HR := Lib.hid hr
        clear hr hn0
        obtain ⟨ad, rfl, hb, k0, k1⟩ := P2.out.at_ hrn'
        obtain ⟨o1, o2, o3⟩ := HOK.out r hrn'
        obtain ⟨a1, a2, a3⟩ := with_iff.1 (HFT.out r hrn')
        obtain ⟨o, ho⟩ : ∃ o : Nat, I r = (o : Int) := ⟨(I r).toNat, by omega⟩
        have hof : o + (S r).size ≤ N := by omega
        have HC : Hid (cutE X (o : Int) ((S r).size : Int) = 0 ∧ cutS X (o : Int) ((S r).size : Int) = S r) := Lib.hid (by
          have := cut_in (s := X) (off := o) (n := (S r).size) (by rw [HXS.out]; exact hof)
          exact ⟨this.1, this.2.trans (HXL.out r o HR.out ho hof)⟩)
        rw [ho] at k0 o1 o2
        have HP1 := Lib.hid (has_part w2 (o : Int) (S r))
        have HB1 : Hid (Below w2.heap.size w2 (w2.alloc (.cells #[.int .i64 (o : Int), .string (S r)] 51))) := Lib.hid ((Below.refl _ _).alloc (Nat.le_refl _) _)
        clear ho a1 a2 a3
        go_upto_region 9 with fail
        generalize w2.alloc (.cells #[.int .i64 (o : Int), .string (S r)] 51) = w3 at *
        have c0 : w3.cell? ⟨w2.heap.size, 0, none⟩ = some (.int .i64 (o : Int)) := HP1.out.cell (by omega)
        have c1 : w3.cell? ⟨w2.heap.size, 1, none⟩ = some (.string (S r)) := HP1.out.cell (by omega)
        obtain ⟨t1, t2⟩ := str_yes (rfl : S r = S r)
        clear k0 k1
        go_wp2_with fail
        refine (cut_any X _ _ (by rw [HXS.out]; omega) ⟨o1, o2⟩ ⟨by omega, by omega⟩ _).mono ?_; rintro e w4 ⟨rfl, rfl⟩
        rw [HC.out.1, HC.out.2]
        go_wp2
        go_meet
        case rel => exact HB1.out
    case rest =>
      have HB2 := Lib.hid hcut
      have HW : Hid (Below w.heap.size w wc) := Lib.hid (up_trans B2.out hcut)
      have P3 := Lib.hid (P2.out.up hcut)
      clear hcut g1
      go_wp2_with fail
      go_loopg [11] N (fun gh v wr => ∃ x q, x ≤ N ∧ gh = N - x ∧ v = .int .i64 (x : Nat) ∧ wr = wc.drewN q)
      case atStart => exact ⟨0, 0, Nat.zero_le _, rfl, rfl, rfl⟩
      case round =>
        obtain ⟨x, q, hx, rfl, rfl, rfl⟩ := hrel
        by_cases hxN : x < N ∧ x < 2000
        · obtain ⟨x1, x2⟩ := hxN
          have x3 : (x : Int) < (N : Int) := by omega
          have x4 : (x : Int) < 2000 := by omega
          go_wp2_with fail
          go_loopg [12, 13] n (fun gh b v wi => ∃ k q B, k ≤ n ∧ gh = n - k ∧ v = .int .i64 (k : Nat) ∧ b = .bool B ∧ Hid (B = false → ∀ j, j < k → ¬ Covers I S j x) ∧ wi = wc.drewN q)
          case atStart => exact ⟨0, q, false, Nat.zero_le _, rfl, rfl, rfl, Lib.hid (fun _ j hj => absurd hj (by omega)), rfl⟩
          case round =>
            obtain ⟨k, q2, b, hk, rfl, rfl, rfl, HBN, rfl⟩ := hrel
            by_cases hkn : k < n
            · have hkz : (k : Int) < (n : Int) := by omega
              obtain ⟨ad, rfl, _, c0, c1⟩ := P3.out.at_ hkn
              obtain ⟨o1, o2, o3⟩ := HOK.out k hkn
              obtain ⟨a1, a2, a3⟩ := with_iff.1 (HFT.out k hkn)
              have rel1 : ∀ b2, (b2 = false → ¬ Covers I S k x ∧ b = false) → Hid (b2 = false → ∀ j, j < k + 1 → ¬ Covers I S j x) := fun b2 h => Lib.hid (fun hb j hj => by
                obtain ⟨h1, h2⟩ := h hb
                by_cases e : j = k
                · subst e; exact h1
                · exact HBN.out h2 j (by omega))
              have R1 := Lib.hid rel1
              clear rel1
              cases b
              · by_cases d1 : I k ≤ (x : Int)
                · have ws : IntKind.i64.wrap ((x : Int) - I k) = (x : Int) - I k := IntWalk.i64_in _ (by omega)
                  have g1 : decide ((x : Int) ≥ I k) = true := by simp; omega
                  have g1' : decide (I k ≤ (x : Int)) = true := by simp; omega
                  by_cases d2 : (x : Int) - I k < ((S k).size : Int)
                  · have g2 : decide ((x : Int) - I k < ((S k).size : Int)) = true := decide_eq_true d2
                    go_wp2_with fail
                    go_quiet (fail)
                    go_wp2
                    go_roundg (n - (k + 1))
                    case measure => go_light; omega
                    case rel => go_light; exact ⟨k + 1, _, true, by omega, rfl, by simp, rfl, R1.out true (fun h => by cases h), rfl⟩
                  · have g2 : decide ((x : Int) - I k < ((S k).size : Int)) = false := decide_eq_false d2
                    have HN : Hid (¬ Covers I S k x) := Lib.hid (fun hc => d2 (by have := hc.2; omega))
                    go_wp2_with fail
                    go_quiet (fail)
                    go_wp2
                    go_roundg (n - (k + 1))
                    case measure => go_light; omega
                    case rel => go_light; exact ⟨k + 1, _, false, by omega, rfl, by simp, rfl, R1.out false (fun _ => ⟨HN.out, by trivial⟩), rfl⟩
                · have g1 : decide ((x : Int) ≥ I k) = false := by simp; omega
                  have g1' : decide (I k ≤ (x : Int)) = false := by simp; omega
                  have HN : Hid (¬ Covers I S k x) := Lib.hid (fun hc => d1 hc.1)
                  go_wp2_with fail
                  go_quiet (fail)
                  go_wp2
                  go_roundg (n - (k + 1))
                  case measure => go_light; omega
                  case rel => go_light; exact ⟨k + 1, _, false, by omega, rfl, by simp, rfl, R1.out false (fun _ => ⟨HN.out, by trivial⟩), rfl⟩
              · go_wp2_with fail
                go_quiet (fail)
                go_wp2
                go_roundg (n - (k + 1))
                case measure => go_light; omega
                case rel => go_light; exact ⟨k + 1, _, true, by omega, rfl, by simp, rfl, R1.out true (fun h => by cases h), rfl⟩
            · have hkz : ¬ (k : Int) < (n : Int) := by omega
              obtain rfl : k = n := by omega
              cases b
              · have hxs : x < X.size := by rw [HXS.out]; exact x1
                have hb := bt_at X x hxs
                rw [HX0.out x x1 (HBN.out rfl)] at hb
                have hxi : (x : Int) < (X.size : Int) := by omega
                go_wp2
                go_roundg (N - (x + 1))
                case measure => go_light; omega
                case rel => go_light; exact ⟨x + 1, _, by omega, rfl, by simp, rfl⟩
              · go_wp2
                go_roundg (N - (x + 1))
                case measure => go_light; omega
                case rel => go_light; exact ⟨x + 1, _, by omega, rfl, by simp, rfl⟩
        · by_cases hx1 : x < N
          · have hx3 : (x : Int) < (N : Int) := by omega
            have hx2 : ¬ (x : Int) < 2000 := by omega
            go_wp2
            go_ret
            exact ⟨rfl, below_drewN HW.out _⟩
          · have hx3 : ¬ (x : Int) < (N : Int) := by omega
            clear hxN
            go_wp2
            go_ret
            exact ⟨rfl, below_drewN HW.out _⟩
end
section
variable {A : Option Addr} {m cap : Nat} {S : Nat → ByteArray} {w : World}
theorem join_all (h : St w w.heap.size A m S) (hm : m ≤ 9223372036854775807) (ht : tot S m ≤ 140737488351232) (n : Int) (h0 : i64 n) :
    Calls Try.prog 13 #[.slice A m cap, .int .i64 n] w (TxtRet w (joinE n m S) (joinS n m S)) := by
  by_cases hn : 0 ≤ n ∧ n ≤ (tot S m : Int)
  · exact join_any h hm n h0 (by omega)
  · obtain ⟨e1, e2⟩ := join_out hn
    rw [e1, e2]
    exact join_no h hm n h0 hn
/-- of both sides the same -/
theorem split_both (s : ByteArray) (k : Int) (hs : s.size ≤ 65536) : ∃ E m T, m ≤ 32 ∧ (∀ w, Calls Try.prog 11 #[.string s, .int .i64 k] w (TextsRet w E m T)) ∧ (∀ w, Calls Try.prog 12 #[.string s, .int .i64 k] w (TextsRet w E m T)) := by
  by_cases hk : 1 ≤ k ∧ k ≤ 32
  · obtain ⟨k, rfl⟩ : ∃ m : Nat, k = m := ⟨k.toNat, by omega⟩
    exact ⟨0, k, _, by omega, split_yes s k (by omega) (by omega) (by omega), refSplit_yes s k (by omega) (by omega) hs⟩
  · exact ⟨1, 0, fun _ => ByteArray.empty, by omega, split_no s k (by omega) _, refSplit_no s k (by omega) _⟩

set_option maxRecDepth 100000 in
set_option maxHeartbeats 1600000 in
theorem lawSplits {w : World} (s : ByteArray) (k : Int) (A : Option Addr) (m cap : Nat) (S : Nat → ByteArray) (n : Int) (_k0 : -9223372036854775808 ≤ k) (_k1 : k ≤ 9223372036854775807)
    (hm : m ≤ 9223372036854775807) (ht : tot S m ≤ 140737488351232) (hS : St w w.heap.size A m S) (n0 : -9223372036854775808 ≤ n) (n1 : n ≤ 9223372036854775807) :
    Calls Try.prog 3 #[.agg #[.string s, .int .i64 k, .slice A m cap, .int .i64 n]] w fun e w' => e = .returned (.bool true) ∧ Below w.heap.size w w' := by
  have HS := Lib.hid hS
  have HT := Lib.hid ht
  clear hS ht _k0 _k1
  by_cases hs : s.size ≤ 65536
  rotate_left
  · have g1 : (65536 : Int) < (s.size : Int) := by omega
    go_enter Try.func3, Try.ntmps3
    go_wp2_with fail
    refine (shown_any _).mono ?_; rintro e w1 ⟨rfl, hb1⟩
    have B1 := Lib.hid (box_trans hb1)
    clear hb1
    go_wp2
    go_ret
    exact ⟨rfl, B1.out⟩
  · obtain ⟨E, l, T, hl, hp, hr⟩ := split_both s k hs
    have HP := Lib.hid hp
    have HR := Lib.hid hr
    have HB : Hid (stB l T l T = true) := Lib.hid (stB_yes ⟨rfl, fun _ _ => rfl⟩)
    have hj := fun (w : World) (h : St w w.heap.size A m S) => join_all (cap := cap) h hm HT.out n ⟨n0, n1⟩
    have hjr := fun (w : World) (h : St w w.heap.size A m S) => refJoin_any (cap := cap) h hm HT.out n ⟨n0, n1⟩
    generalize joinE n m S = E2 at *
    generalize joinS n m S = X2 at *
    have HJ := Lib.hid hj
    have HJR := Lib.hid hjr
    obtain ⟨t1, _⟩ := str_yes (rfl : X2 = X2)
    have T1 := Lib.hid t1
    clear hp hr hj hjr t1 n0 n1
    go_enter Try.func3, Try.ntmps3
    go_wp2_with fail
    refine (shown_any _).mono ?_; rintro e w1 ⟨rfl, hb1⟩
    have B1 := Lib.hid (box_trans hb1)
    have S1 := Lib.hid (HS.out.up (box_trans hb1))
    clear hb1 HS
    go_wp2_with fail
    refine (HP.out _).mono ?_; rintro e w2 ⟨A2, c2, rfl, _, s2, hb2⟩
    have B2 := Lib.hid (up_trans B1.out hb2)
    have S2 := Lib.hid (S1.out.up hb2)
    have Q2 := Lib.hid s2
    clear hb2 B1 S1 s2
    go_wp2_with fail
    refine (HR.out _).mono ?_; rintro e w3 ⟨A3, c3, rfl, _, s3, hb3⟩
    have B3 := Lib.hid (up_trans B2.out hb3)
    have S3 := Lib.hid (S2.out.up hb3)
    have Q3 := Lib.hid s3
    have Q23 := Lib.hid (Q2.out.up hb3)
    clear hb3 B2 S2 s3 Q2
    go_wp2_with fail
    refine (HJ.out _ S3.out).mono ?_; rintro e w4 ⟨rfl, hb4⟩
    have B4 := Lib.hid (up_trans B3.out hb4)
    have S4 := Lib.hid (S3.out.up hb4)
    have Q34 := Lib.hid (Q3.out.up hb4)
    have Q24 := Lib.hid (Q23.out.up hb4)
    clear hb4 B3 S3 Q3 Q23
    go_wp2_with fail
    refine (HJR.out _ S4.out).mono ?_; rintro e w5 ⟨rfl, hb5⟩
    have B5 := Lib.hid (up_trans B4.out hb5)
    have Q35 := Lib.hid (Q34.out.up hb5)
    have Q25 := Lib.hid (Q24.out.up hb5)
    clear hb5 B4 S4 Q34 Q24
    go_wp2_with fail
    refine (strSame_any Q25.out Q35.out (by omega) (by omega)).mono ?_; rintro e w6 ⟨rfl, q6, rfl⟩
    rw [HB.out]
    have t1 := T1.out
    go_wp2
    go_ret
    exact ⟨rfl, below_drewN B5.out _⟩
end
end Go.Proofs.Ytjfgainieoaeaaa.Mat
