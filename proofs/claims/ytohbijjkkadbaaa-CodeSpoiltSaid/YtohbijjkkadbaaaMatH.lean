/- Which matrices are the same: walked. -/
import Derived.Test.YtohbijjkkadbaaaMatC
import Derived.Laws.BytesArg
namespace Go.Proofs.Ytohbijjkkadbaaa.Mat
open Go.RowKit Fld

/-- a row as a string -/
def rs (n : Nat) (f : Nat → BitVec 8) : ByteArray := strOfNums ((List.range n).map fun c => V (f c))
theorem byte_of (x : BitVec 8) : UInt8.ofNat (V x).toNat = UInt8.ofBitVec x := by
  rw [V_toNat]; apply UInt8.toBitVec_inj.1; simp
theorem rs_list (n : Nat) (f : Nat → BitVec 8) : (rs n f).data.toList = (List.range n).map fun c => UInt8.ofBitVec (f c) := by
  unfold rs
  rw [strOfNums_data, List.map_map]
  exact List.map_congr_left fun c _ => byte_of (f c)
def RowSame (n : Nat) (f : Nat → BitVec 8) (m : Nat) (g : Nat → BitVec 8) : Prop := n = m ∧ ∀ c, c < n → f c = g c
instance (n : Nat) (f : Nat → BitVec 8) (m : Nat) (g : Nat → BitVec 8) : Decidable (RowSame n f m g) := by unfold RowSame; infer_instance
theorem rs_eq {n m : Nat} {f g : Nat → BitVec 8} : rs n f = rs m g ↔ RowSame n f m g := by
  constructor
  · intro h
    have h2 : (List.range n).map (fun c => UInt8.ofBitVec (f c)) = (List.range m).map (fun c => UInt8.ofBitVec (g c)) := by rw [← rs_list, ← rs_list, h]
    have hl := congrArg List.length h2
    simp only [List.length_map, List.length_range] at hl
    refine ⟨hl, fun c hc => ?_⟩
    have hg := congrArg (fun l => l[c]?) h2
    simp only [List.getElem?_map, List.getElem?_range hc, List.getElem?_range (show c < m by omega), Option.map_some, Option.some.injEq] at hg
    have := congrArg UInt8.toBitVec hg
    simpa using this
  · rintro ⟨rfl, h⟩
    unfold rs
    congr 1
    exact List.map_congr_left fun c hc => by rw [h c (List.mem_range.1 hc)]

theorem row_convert {w : World} {B n c : Nat} {A : Option Addr} {f : Nat → BitVec 8} (h : Rw w B A n f) :
    (convert 55 9 (.slice A n c)).run Try.prog w = .ok (.string (rs n f)) w := by
  have hs := Try.underlying55
  have he := Try.underlying5
  have hd := Try.underlying9
  rw [run_convert_bytes_string w 55 9 5 A n c hs he hd]
  rcases Nat.eq_zero_or_pos n with hn | hn
  · subst hn
    cases A <;> simp [Conv.bytesToString, loadCells]
    all_goals rfl
  · obtain ⟨ad, rfl, _, hc⟩ := h hn
    have hl : (loadCells ad n).run Try.prog w = .ok (((List.range n).map fun c => V (f c)).map (Value.int .u8)).toArray w := by
      have := run_loadCells_list (P := Try.prog) w ad (((List.range n).map fun c => V (f c)).map (Value.int .u8)) (fun j v hj => by
        have hjl : j < n := by
          rcases Nat.lt_or_ge j n with h | h
          · exact h
          · rw [List.getElem?_eq_none (by simpa using h)] at hj; cases hj
        simp [hjl] at hj
        rw [hc j hjl, hj])
      simpa using this
    rw [run_bytesToString w _ n c _ hl, foldl_push_bytes]
    simp [rs, strOfNums, ByteArray.empty, ByteArray.emptyWithCapacity]
    rfl

def rowB (n : Nat) (f : Nat → BitVec 8) (m : Nat) (g : Nat → BitVec 8) : Bool := decide (RowSame n f m g)
theorem rs_beq (n : Nat) (f : Nat → BitVec 8) (m : Nat) (g : Nat → BitVec 8) : ((rs n f).toList == (rs m g).toList) = rowB n f m g := by
  unfold rowB
  rw [Bool.eq_iff_iff, beq_iff_eq, decide_eq_true_iff, ← rs_eq, ByteArray.toList_eq, ByteArray.toList_eq]
  constructor
  · intro h
    have : (rs n f).data = (rs m g).data := Array.toList_inj.1 h
    exact ByteArray.ext this
  · intro h; rw [h]
theorem ret_bool {a b : Bool} (h : a = b) : Ending.returned (.bool a) = .returned (.bool b) := by rw [h]

/-- two matrices are the same -/
def MSame (n : Nat) (L : Nat → Nat) (F : Nat → Nat → BitVec 8) (n' : Nat) (L' : Nat → Nat) (F' : Nat → Nat → BitVec 8) : Prop := n = n' ∧ ∀ r, r < n → RowSame (L r) (F r) (L' r) (F' r)
instance (n : Nat) (L : Nat → Nat) (F : Nat → Nat → BitVec 8) (n' : Nat) (L' : Nat → Nat) (F' : Nat → Nat → BitVec 8) : Decidable (MSame n L F n' L' F') := by unfold MSame; infer_instance
def msameB (n : Nat) (L : Nat → Nat) (F : Nat → Nat → BitVec 8) (n' : Nat) (L' : Nat → Nat) (F' : Nat → Nat → BitVec 8) : Bool := decide (MSame n L F n' L' F')
theorem row_yes {n : Nat} {f : Nat → BitVec 8} {m : Nat} {g : Nat → BitVec 8} (h : RowSame n f m g) : rowB n f m g = true := decide_eq_true h
theorem row_no {n : Nat} {f : Nat → BitVec 8} {m : Nat} {g : Nat → BitVec 8} (h : ¬ RowSame n f m g) : rowB n f m g = false := decide_eq_false h

section
variable {A A' : Option Addr} {n n' cap cap' B B' : Nat} {L RC L' RC' : Nat → Nat} {RA RA' : Nat → Option Addr} {F F' : Nat → Nat → BitVec 8} {w : World}
theorem msame_yes (h : MSame n L F n' L' F') : msameB n L F n' L' F' = true := decide_eq_true h
theorem msame_no (h : ¬ MSame n L F n' L' F') : msameB n L F n' L' F' = false := decide_eq_false h
set_option maxRecDepth 100000 in
set_option maxHeartbeats 800000 in
theorem refSame_any (h : Mt w B A n L RA RC F) (h' : Mt w B' A' n' L' RA' RC' F') (hn : n ≤ 9223372036854775807) (hn' : n' ≤ 9223372036854775807) :
    Calls Try.prog 14 #[.slice A n cap, .slice A' n' cap'] w fun e w' => e = .returned (.bool (msameB n L F n' L' F')) ∧ ∃ q, w' = w.drewN q := by
  have H := Lib.hid h
  have H' := Lib.hid h'
  clear h h'
  by_cases e : n = n'
  · subst e
    have e1 : ((n : Int) != (n : Int)) = false := by rw [bne_eq_false_iff_eq]
    go_enter Try.func14, Try.ntmps14
    go_wp2
    go_loopg [5] n (fun gh i wr => ∃ k q : Nat, k ≤ n ∧ gh = n - k ∧ i = .int .i64 k ∧ wr = w.drewN q ∧ Hid (∀ r, r < k → RowSame (L r) (F r) (L' r) (F' r)))
    case atStart => exact ⟨0, 0, by omega, rfl, rfl, rfl, Lib.hid (fun r hr => absurd hr (by omega))⟩
    case round =>
      obtain ⟨k, q, hk, rfl, rfl, rfl, hall⟩ := hrel
      by_cases hlt : k < n
      · have hkz : (k : Int) < (n : Int) := by omega
        obtain ⟨ad, rfl, _, c1, _, r1⟩ := H.out.row hlt
        obtain ⟨ad', rfl, _, c2, _, r2⟩ := H'.out.row hlt
        have d1 := fun (m : Nat) (c : Nat) => row_convert (w := w.drewN m) (c := c) (B := B) (A := RA k) (f := F k) (n := L k) r1
        have d2 := fun (m : Nat) (c : Nat) => row_convert (w := w.drewN m) (c := c) (B := B') (A := RA' k) (f := F' k) (n := L' k) r2
        clear r1 r2
        by_cases he : RowSame (L k) (F k) (L' k) (F' k)
        · have t : ((rs (L k) (F k)).toList == (rs (L' k) (F' k)).toList) = true := by rw [rs_beq]; exact row_yes he
          have t2 : ((rs (L k) (F k)).toList != (rs (L' k) (F' k)).toList) = false := by unfold bne; rw [t]; rfl
          have He := Lib.hid he; clear he
          go_wp2_with fail
          go_quiet (fail)
          go_wp2
          go_roundg (n - (k + 1))
          case measure => go_light; omega
          case rel => go_light; exact ⟨k + 1, _, by omega, rfl, by simp, rfl, Lib.hid (fun r hr => by
            by_cases e : r = k
            · subst e; exact He.out
            · exact hall.out r (by omega))⟩
        · have t : ((rs (L k) (F k)).toList == (rs (L' k) (F' k)).toList) = false := by rw [rs_beq]; exact row_no he
          have t2 : ((rs (L k) (F k)).toList != (rs (L' k) (F' k)).toList) = true := by unfold bne; rw [t]; rfl
          have HF : Hid (msameB n L F n L' F' = false) := Lib.hid (msame_no (fun h => he (h.2 k hlt)))
          clear he
          go_wp2_with fail
          go_quiet (fail)
          go_wp2
          go_ret
          exact ⟨by rw [HF.out]; rfl, _, World.drewN_drewN _ _ _⟩
      · have hkz : ¬ (k : Int) < (n : Int) := by omega
        have HF : Hid (msameB n L F n L' F' = true) := Lib.hid (msame_yes ⟨rfl, fun r hr => hall.out r (by omega)⟩)
        go_wp2
        go_ret
        exact ⟨by rw [HF.out]; rfl, _, rfl⟩
  · have e1 : ((n : Int) != (n' : Int)) = true := by rw [bne_iff_ne]; omega
    have HF : Hid (msameB n L F n' L' F' = false) := Lib.hid (msame_no (fun h => e h.1))
    clear e
    go_enter Try.func14, Try.ntmps14
    go_wp2
    go_ret
    exact ⟨by rw [HF.out]; rfl, 0, rfl⟩
end
end Go.Proofs.Ytohbijjkkadbaaa.Mat
