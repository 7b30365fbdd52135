/- Rows of pieces that grow; the law CodeOrder: walked. -/
import Derived.Test.YtohbijjkkadbaaaCodV
namespace Go.Proofs.Ytohbijjkkadbaaa.Mat
open Go.RowKit Fld

theorem infoPiece : (Try.prog.info? 41).map (fun i => (i.zero, i.size, i.bytes)) = some (some (.agg #[.int .i64 0, .string ByteArray.empty]), 2, 24) := by kernel_rfl
/-- the cells of n pieces -/
def pcs (I : Nat → Int) (S : Nat → ByteArray) : Nat → List Value
  | 0 => []
  | n + 1 => pcs I S n ++ [.int .i64 (I n), .string (S n)]
theorem pcs_len (I : Nat → Int) (S : Nat → ByteArray) : ∀ n, (pcs I S n).length = n * 2
  | 0 => rfl
  | n + 1 => by
    unfold pcs
    rw [List.length_append, pcs_len I S n]
    simp only [List.length_cons, List.length_nil]
    omega
theorem pcs_at (I : Nat → Int) (S : Nat → ByteArray) : ∀ {n r : Nat}, r < n → (pcs I S n)[r * 2]? = some (.int .i64 (I r)) ∧ (pcs I S n)[r * 2 + 1]? = some (.string (S r))
  | n + 1, r, h => by
    unfold pcs
    by_cases e : r = n
    · subst e
      rw [List.getElem?_append_right (by rw [pcs_len]; omega), List.getElem?_append_right (by rw [pcs_len]; omega), pcs_len]
      rw [show r * 2 - r * 2 = 0 by omega, show r * 2 + 1 - r * 2 = 1 by omega]
      exact ⟨rfl, rfl⟩
    · rw [List.getElem?_append_left (by rw [pcs_len]; omega), List.getElem?_append_left (by rw [pcs_len]; omega)]
      exact pcs_at I S (by omega)
/-- a row of the call's own, of n pieces -/
structure PcRow (w a : World) (v : Value) (n : Nat) (I : Nat → Int) (S : Nat → ByteArray) : Prop where
  own : a.ownsRow w.heap.size 41 2 v n (pcs I S n)
  below : Below w.heap.size w a
section
variable {w a b w' : World} {v v' : Value} {n : Nat} {I : Nat → Int} {S : Nat → ByteArray}
theorem PcRow.start (w : World) (I : Nat → Int) (S : Nat → ByteArray) : PcRow w w (.slice none 0 0) 0 I S := ⟨World.ownsRow_nil _ _ _ _, Below.refl _ _⟩
theorem PcRow.next {o : Obj} {x : Int} {s : ByteArray} (h : PcRow w a v n I S) (hx : x = I n) (hs : s = S n) (hown : w'.ownsRow w.heap.size 41 2 v' (n + 1) (pcs I S n ++ [.int .i64 x, .string s])) (hgrow : (a.alloc o).grownBy w' v.ownBlock) : PcRow w w' v' (n + 1) I S := by
  subst hx hs
  exact ⟨hown, (h.below.alloc h.below.size o).grown hgrow (by rw [size_alloc]; have := h.below.size; omega) (fun k hk => (h.own.lt k hk).1)⟩
theorem PcRow.pc (h : PcRow w a v n I S) : ∃ A cap, v = .slice A n cap ∧ Pc a a.heap.size A n I S := by
  rcases Nat.eq_zero_or_pos n with h0 | h0
  · subst h0
    obtain ⟨_, h1 | ⟨g, c, cur, hv, _⟩⟩ := h.own
    · exact ⟨none, 0, h1.1, fun hh => absurd hh (by omega)⟩
    · exact ⟨_, c, hv, fun hh => absurd hh (by omega)⟩
  · obtain ⟨g, cap, rfl, hg, hlt⟩ := h.own.form h0
    refine ⟨_, cap, rfl, fun _ => ⟨_, rfl, hlt, fun r hr => ?_⟩⟩
    obtain ⟨q0, q1⟩ := pcs_at I S hr
    rw [add_lit, add_lit, h.own.cellAt _ (by omega), h.own.cellAt _ (by omega), q0, q1]
    exact ⟨rfl, rfl⟩
theorem two_news {w : World} (x y : Value) (t : TypeId) : ∀ j u, ([x, y] : List Value)[j]? = some u → (w.alloc (.cells #[x, y] t)).cell? ((⟨w.heap.size, 0, none⟩ : Addr).add j) = some u := by
  intro j u hu
  have hj : j = 0 ∨ j = 1 := by
    rcases Nat.lt_or_ge j 2 with h | h
    · omega
    · rw [List.getElem?_eq_none (by simp; omega)] at hu; cases hu
  have hh := has_new (n := 2) (f := fun j => if j = 0 then x else y) w #[x, y] t (fun j hj => by
    have : j = 0 ∨ j = 1 := by omega
    rcases this with rfl | rfl <;> rfl)
  rw [add_lit]
  rcases hj with rfl | rfl
  · rw [hh.cell (by omega)]; simpa using hu
  · rw [hh.cell (by omega)]; simpa using hu
end

set_option maxRecDepth 100000 in
set_option maxHeartbeats 1600000 in
theorem lawOrder {w : World} (k m : Int) (A : Option Addr) (len cap : Nat) (I : Nat → Int) (S : Nat → ByteArray) (k0 : -9223372036854775808 ≤ k) (k1 : k ≤ 9223372036854775807) (m0 : -9223372036854775808 ≤ m) (m1 : m ≤ 9223372036854775807)
    (hn : PcOk len cap I S) (hP : Pc w w.heap.size A len I S) :
    Calls Try.prog 7 #[.int .i64 k, .int .i64 m, .slice A len cap] w fun e w' => e = .returned (.bool true) ∧ Below w.heap.size w w' := by
  obtain ⟨i0, hi0, hz0, hz1, hz2⟩ := info_parts infoPiece
  obtain ⟨hc, hn, hz⟩ := hn
  have hz' : ∀ i, i < len → (S i).size ≤ 140737488351232 := fun i hi => (hz i hi).2.2
  have hz'' : ∀ i, i < len → (rev len S i).size ≤ 140737488351232 := fun i hi => hz' _ (by omega)
  have hLm : rebL k m len I S ≤ 9223372036854775807 := by have := rebL_le k m len I S; omega
  have HSAME : Hid (stB (rebL k m len I S) (rebT k m len I S) (rebL k m len I S) (rebT k m len (rev len I) (rev len S)) = true) := Lib.hid (stB_yes ⟨rfl, fun r hr => (rebT_rev k m len I S r hr).symm⟩)
  have HE2 := Lib.hid (rebE_rev k m len I S)
  have HL2 := Lib.hid (rebL_rev k m len I S)
  have HZ := Lib.hid hz'
  have HZ2 := Lib.hid hz''
  have HP := Lib.hid hP
  have HL := Lib.hid hLm
  clear hz hz' hz'' hP hLm hc
  by_cases h40 : 40 < len
  · have g1 : decide ((len : Int) > 40) = true := by simp; omega
    go_enter Try.func7, Try.ntmps7
    go_wp2_with fail
    refine (codeShown_any _).mono ?_; rintro e w1 ⟨rfl, hb1⟩
    have B1 := Lib.hid hb1
    clear hb1
    go_wp2
    go_ret
    exact ⟨rfl, B1.out⟩
  · have g1 : decide ((len : Int) > 40) = false := by simp; omega
    have ws : IntKind.i64.wrap ((len : Int) - 1) = (len : Int) - 1 := IntWalk.i64_in _ (by omega)
    go_enter Try.func7, Try.ntmps7
    go_wp2_with fail
    refine (codeShown_any _).mono ?_; rintro e w1 ⟨rfl, hb1⟩
    have B1 := Lib.hid hb1
    have P1 := Lib.hid (HP.out.up hb1)
    clear hb1 HP
    go_wp2
    go_loopg [8, 9] len (fun gh v i wr => ∃ j, j ≤ len ∧ gh = len - j ∧ i = .int .i64 ((len : Int) - 1 - (j : Nat)) ∧ PcRow w1 wr v j (rev len I) (rev len S))
    case atStart => exact ⟨0, Nat.zero_le _, rfl, by simp, PcRow.start w1 _ _⟩
    case round =>
      obtain ⟨j, hj, rfl, rfl, hR⟩ := hrel
      have HR := Lib.hid hR
      clear ws
      by_cases hjl : j < len
      · have g2 : decide ((len : Int) - 1 - (j : Int) ≥ 0) = true := by simp; omega
        have g3 : (0 : Int) ≤ (len : Int) - 1 - (j : Int) := by omega
        have g4 : ((len : Int) - 1 - (j : Int)).toNat = len - 1 - j := by omega
        have g5 : (len : Int) - 1 - (j : Int) < (len : Int) := by omega
        have g6 : IntKind.i64.wrap ((len : Int) - 1 - (j : Int) - 1) = (len : Int) - 1 - ((j + 1 : Nat) : Int) := by rw [IntWalk.i64_in _ (by omega)]; omega
        obtain ⟨ad, rfl, _, q0, q1⟩ := (P1.out.below hR.below hR.below.size).at_ (r := len - 1 - j) (by omega)
        clear hR
        cases he : decide (((S (len - 1 - j)).size : Int) > 200)
        · have hlen := pcs_len (rev len I) (rev len S) j
          have HLN := Lib.hid hlen
          clear hlen
          go_wp2_with (at_builtin; refine wpList_append_own _ rfl (.tmp 35) (.tmp 40) 39 rfl w1.heap.size 41 i0 (.agg #[.int .i64 0, .string ByteArray.empty]) 2 24 Try.underlying39 hi0 hz0 hz1 hz2 rfl (by decide) _ _ _ rfl (HR.out.own.alloc _) ⟨wr.heap.size, 0, none⟩ 1 1 [.int .i64 (I (len - 1 - j)), .string (S (len - 1 - j))] rfl rfl (two_news _ _ _) (by simp [Value.oneCell']) (by unfold maxLen; omega) (by omega) (by rw [size_alloc]; have := HR.out.below.size; omega) ?_)
          intro v' w' hown hgrow _
          have HN := Lib.hid (HR.out.next rfl rfl hown hgrow)
          clear hown hgrow
          go_wp2
          go_roundg (len - (j + 1))
          case measure => go_light; omega
          case rel => go_light; exact ⟨j + 1, by omega, rfl, by simp, HN.out⟩
        · go_wp2
          go_ret
          exact ⟨rfl, up_trans B1.out HR.out.below⟩
      · have g2 : decide ((len : Int) - 1 - (j : Int) ≥ 0) = false := by simp; omega
        obtain rfl : j = len := by omega
        obtain ⟨A2, c2, rfl, hP2⟩ := hR.pc
        have Q2 := Lib.hid hP2
        have P2 := Lib.hid (P1.out.up hR.below)
        have B2 := Lib.hid (up_trans B1.out hR.below)
        clear hR hP2 HR P1 B1
        go_wp2_with fail
        refine (rebuild_any P2.out hn ⟨k0, k1⟩ ⟨m0, m1⟩ HZ.out).mono ?_; rintro e w3 ⟨A3, c3, rfl, _, hS3, hb3⟩
        have B3 := Lib.hid (up_trans B2.out hb3)
        have T3 := Lib.hid hS3
        have Q3 := Lib.hid (Q2.out.up hb3)
        clear hb3 hS3 B2 P2 Q2
        go_wp2_with fail
        refine (rebuild_any Q3.out hn ⟨k0, k1⟩ ⟨m0, m1⟩ HZ2.out).mono ?_; rintro e w4 ⟨A4, c4, rfl, _, hS4, hb4⟩
        rw [HE2.out, HL2.out]
        rw [HL2.out] at hS4
        have B4 := Lib.hid (up_trans B3.out hb4)
        have T34 := Lib.hid (T3.out.up hb4)
        have T4 := Lib.hid hS4
        clear hb4 hS4 B3 Q3 T3
        go_wp2_with fail
        refine (strSame_any T34.out T4.out HL.out HL.out).mono ?_; rintro e w5 ⟨rfl, q5, rfl⟩
        rw [HSAME.out]
        go_wp2
        go_ret
        exact ⟨ret_bool (by simp), below_drewN B4.out q5⟩
end Go.Proofs.Ytohbijjkkadbaaa.Mat
