/- The records among slots, one by one; the better one: walked (a range over a function). -/
import Derived.Test.YtnpognhgncnnpaaCelRec
import Derived.RangeFuncNested
import Derived.RangeFuncBound
import Derived.RangeFuncCalls
import Derived.RangeFuncLeaves
import Derived.Shelf.Abstract
import Derived.Shelf.RegionOpen
import Derived.OwnWalkIn
import Derived.TacticsInMore
import Derived.LoopNIn
import Derived.LoopIn
namespace Go.Proofs.Ytnpognhgncnnpaa.Mat
open Go.RowKit Go.Shelf Fld

attribute [local go_sem] Oper.semAt_some

/-- a record, and how far behind the first slot it is -/
abbrev Rc := Nat × Nat × ByteArray
/-- the records of the first k slots -/
def recs (S : Nat → ByteArray) : Nat → List Rc
  | 0 => []
  | k + 1 => if tcB (S k) = true then recs S k ++ [(k, tcV (S k), tcX (S k))] else recs S k
theorem recs_len (S : Nat → ByteArray) : ∀ k, (recs S k).length ≤ k
  | 0 => Nat.le_refl _
  | k + 1 => by
    have := recs_len S k
    show (if tcB (S k) = true then recs S k ++ [(k, tcV (S k), tcX (S k))] else recs S k).length ≤ k + 1
    by_cases h : tcB (S k) = true
    · rw [if_pos h]; simp; omega
    · rw [if_neg h]; omega
theorem recs_yes {S : Nat → ByteArray} {k : Nat} (h : tcB (S k) = true) : recs S (k + 1) = recs S k ++ [(k, tcV (S k), tcX (S k))] := if_pos h
theorem recs_no {S : Nat → ByteArray} {k : Nat} (h : tcB (S k) = false) : recs S (k + 1) = recs S k := if_neg (by rw [h]; exact Bool.false_ne_true)
abbrev rcs (x : Rc) : Array Value := #[.int .i64 (x.1 : Int), .agg #[.int .u64 (x.2.1 : Int), .string x.2.2]]

set_option maxRecDepth 100000 in
set_option maxHeartbeats 1000000 in
theorem records_in (A : Option Addr) (n c : Nat) (w : World) (m : Nat) :
    CallsIn Fence.wide m Try.prog 56 #[.slice A n c] w fun e w' => e = .returned (.func (.func 58) #[] #[.pointer (some ⟨w.heap.size, 0, none⟩)]) ∧ w' = w.alloc (.cells #[.slice A n c] 34) := by
  refine callsIn_of_wp Try.func56 rfl trivial ?_ rfl
  simp only [Try.ntmps56, List.size_toArray, List.length_cons, List.length_nil, Nat.reduceAdd, Nat.reduceSub, Array.replicate_succ, Array.replicate_zero, List.push_toArray, List.append_toArray, List.nil_append, List.cons_append]
  gi_wp2
  go_ret
  exact ⟨rfl, rfl⟩

set_option maxRecDepth 100000 in
set_option maxHeartbeats 4000000 in
theorem rec1_in (l Bs n₀ len cap : Nat) (A : Option Addr) (S : Nat → ByteArray) (hlen : len * 16 ≤ 140737488351232) (hS : ∀ i, i < len → (S i).size ≤ 140737488351232) (J Jx : List Rc → World → Prop) (W : World)
    (hJ : AbidesFrom W.heap.size J)
    (hY : ∀ pre x W, J pre W → pre.length < len → YieldAt Fence.wide 4 Try.prog l (rcs x) W fun e W' =>
      (e = .returned (.bool true) ∧ J (pre ++ [x]) W' ∧ Below n₀ W W') ∨ (e = .returned (.bool false) ∧ Jx (pre ++ [x]) W'))
    (hBs : W.cell? ⟨Bs, 0, none⟩ = some (.slice A len cap)) (hc : St W n₀ A len S) (hn₀ : n₀ ≤ W.heap.size) (h0 : J [] W) :
    CallsIn Fence.wide 5 Try.prog 58 #[.func (.yield l) #[] #[], .pointer (some ⟨Bs, 0, none⟩)] W fun e W' => (∃ v, e = .returned v) ∧
      ((∃ ys, ys = recs S len ∧ J ys W') ∨ (∃ pre, True ∧ Jx pre W')) := by
  refine callsIn_of_wp Try.func58 rfl trivial ?_ rfl
  simp only [Try.ntmps58, List.size_toArray, List.length_cons, List.length_nil, Nat.reduceAdd, Nat.reduceSub, Array.replicate_succ, Array.replicate_zero, List.push_toArray, List.append_toArray, List.nil_append, List.cons_append]
  gi_wp2
  gi_loopw [10] (fun i wr => ∃ k : Nat, k ≤ len ∧ i = .int .i64 k ∧ J (recs S k) wr ∧ Below n₀ W wr)
    (fun i _ => len - (intOf i).toNat)
  case atStart => exact ⟨0, Nat.zero_le _, rfl, h0, Below.refl _ _⟩
  case round =>
    obtain ⟨k, hk, rfl, hJs, hnx⟩ := hrel
    by_cases hlt : k < len
    · obtain ⟨ad, rfl, hlb, hcx⟩ := (hc.below hnx (Nat.le_refl _)).at_ hlt
      have hg := takeRec_any (S k) (by have := hS k hlt; omega) wr
      have hkz : (k : Int) < (len : Int) := by omega
      have hz := hnx.size
      cases hb : tcB (S k)
      · obtain ⟨e1, e2, e3⟩ := tc_no hb
        rw [e1, e2, e3] at hg
        have hn := recs_no hb
        gi_wp2_with fail
        refine ⟨trivial, (callsIn_wide.2 hg).mono ?_⟩
        rintro e w2 ⟨rfl, hb2⟩
        have hJ2 : J (recs S (k + 1)) w2 := by rw [hn]; exact hJ _ _ _ none hJs (grownBy_of_below hb2 none) (fun r e => by cases e)
        have hB2 : Below n₀ W w2 := hnx.trans (hb2.mono (by omega))
        gi_wp2_with fail
        refine ⟨fun _ h => (by cases h), ?_⟩
        gi_wp2_with fail
        go_roundw
        case rel => exact ⟨k + 1, by omega, by go_num, hJ2, hB2⟩
        case measure => simp [intOf]; omega
      · have e1 := (tc_yes hb).1
        rw [e1] at hg
        have hn := recs_yes hb
        gi_wp2_with fail
        refine ⟨trivial, (callsIn_wide.2 hg).mono ?_⟩
        rintro e w2 ⟨rfl, hb2⟩
        have hJ2 : J (recs S k) w2 := hJ _ _ _ none hJs (grownBy_of_below hb2 none) (fun r e => by cases e)
        have hB2 : Below n₀ W w2 := hnx.trans (hb2.mono (by omega))
        obtain ⟨fn, tmps, assign, body, hy, hR⟩ := hY _ (k, tcV (S k), tcX (S k)) w2 hJ2 (by have := recs_len S k; omega)
        dsimp only [rcs] at hy
        clear e1
        gi_wp2_with fail
        refine hR.mono ?_
        rintro e W3 (⟨rfl, hJ3, hk3⟩ | ⟨rfl, hJx3⟩)
        · gi_wp2_with fail
          go_roundw
          case rel => exact ⟨k + 1, by omega, by go_num, by rw [hn]; exact hJ3, hB2.trans hk3⟩
          case measure => simp [intOf]; omega
        · gi_wp2_with fail
          refine bodyPost_ret (results_none rfl _ _ _) rfl ?_
          exact ⟨⟨_, rfl⟩, .inr ⟨_, trivial, hJx3⟩⟩
    · obtain rfl : k = len := by omega
      gi_wp2
      go_end0
      exact ⟨⟨_, rfl⟩, .inl ⟨_, rfl, hJs⟩⟩
end Go.Proofs.Ytnpognhgncnnpaa.Mat
