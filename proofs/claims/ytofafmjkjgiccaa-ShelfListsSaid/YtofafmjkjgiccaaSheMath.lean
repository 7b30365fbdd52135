/- Shards as bytes: what they are, and what is taken of bytes. No walk. -/
import Derived.Test.YtofafmjkjgiccaaCelMath
namespace Go.Proofs.Ytofafmjkjgiccaa.Mat
open Go.RowKit Fld

/-! ### beginnings -/
/-- P is a beginning of Q -/
structure PreB (P Q : ByteArray) : Prop where
  le : P.size ≤ Q.size
  at_ : ∀ c, c < P.size → bt P c = bt Q c
theorem PreB.all {P Q : ByteArray} (h : PreB P Q) (he : P.size = Q.size) : P = Q := bt_eq.2 ⟨he, h.at_⟩
theorem PreB.refl (Q : ByteArray) : PreB Q Q := ⟨Nat.le_refl _, fun _ _ => rfl⟩
/-- a number ahead of the rest -/
theorem pre_num {P R : ByteArray} {v : Nat} (hv : v < 18446744073709551616) (h : PreB P (numS v ++ R)) :
    (P.size < nl v → tnE P = 2) ∧ (nl v ≤ P.size → tnE P = 0 ∧ tnV P = v ∧ PreB (tnR P) R ∧ (tnR P).size = P.size - nl v) := by
  have hb : Begins P v := fun c hc hp => by rw [h.at_ c hp, bt_app, numS_size, if_pos hc, numS_at hc]
  refine ⟨fun hs => tn_short hv hb hs, fun hs => ?_⟩
  obtain ⟨e1, e2, e3⟩ := tn_whole hv hb hs
  have hle := h.le
  rw [size_app, numS_size] at hle
  have hz : (P.extract (nl v) P.size).size = P.size - nl v := by rw [ByteArray.size_extract]; omega
  refine ⟨e1, e2, ?_, by rw [e3, hz]⟩
  rw [e3]
  refine ⟨by rw [hz]; omega, fun c hc => ?_⟩
  rw [hz] at hc
  rw [bt_ext _ _ _ _ (by omega), h.at_ _ (by omega), bt_app, numS_size, if_neg (by omega), Nat.add_sub_cancel_left]
/-- a text, at the end -/
theorem pre_text {P x : ByteArray} {most : Nat} (hx : x.size ≤ most) (hm : most < 18446744073709551616) (h : PreB P (textS x)) :
    (P.size < (textS x).size → ttE P most ≠ 0) ∧ (P.size = (textS x).size → ttE P most = 0 ∧ ttT P most = x ∧ (ttR P most).size = 0) := by
  have hz : (textS x).size = nl x.size + x.size := by unfold textS; rw [size_app, numS_size]
  obtain ⟨k1, k2⟩ := pre_num (v := x.size) (R := x) (by omega) h
  rw [hz]
  constructor
  · intro hs
    rcases Nat.lt_or_ge P.size (nl x.size) with hl | hl
    · have e := k1 hl
      rw [(tt_bad (by rw [e]; omega)).1, e]; omega
    · obtain ⟨e1, e2, _, e4⟩ := k2 hl
      rw [(tt_more e1 (by rw [e2]; omega) (by rw [e2, e4]; omega)).1]; omega
  · intro hs
    obtain ⟨e1, e2, e3, e4⟩ := k2 (by omega)
    have ex : tnR P = x := e3.all (by omega)
    obtain ⟨f1, f2, f3⟩ := tt_ok (most := most) e1 (by rw [e2]; omega) (by rw [e2, ex]; omega)
    refine ⟨f1, ?_, ?_⟩
    · rw [f2, e2, ex, ext_whole]
    · rw [f3, e2, ex, ByteArray.size_extract]; omega

/-! ### a shard's record -/
/-- which may be -/
def mayB (v i : Int) (x : ByteArray) : Bool := decide (1 ≤ v ∧ v ≤ 1048576 ∧ 0 ≤ i ∧ i ≤ 1024 ∧ x.size ≤ 512)
theorem may_iff {v i : Int} {x : ByteArray} : mayB v i x = true ↔ (1 ≤ v ∧ v ≤ 1048576 ∧ 0 ≤ i ∧ i ≤ 1024 ∧ x.size ≤ 512) := decide_eq_true_iff
theorem may_niff {v i : Int} {x : ByteArray} : mayB v i x = false ↔ ¬ (1 ≤ v ∧ v ≤ 1048576 ∧ 0 ≤ i ∧ i ≤ 1024 ∧ x.size ≤ 512) := decide_eq_false_iff_not
def shBody (v i : Nat) (x : ByteArray) : ByteArray := numS v ++ numS i ++ textS x
def shR (v i : Nat) (x : ByteArray) : ByteArray := Crc.sealS (shBody v i x)
def srE (v i : Int) (x : ByteArray) : Int := if mayB v i x = true then 0 else 1
def srT (v i : Int) (x : ByteArray) : ByteArray := if mayB v i x = true then shR v.toNat i.toNat x else ByteArray.empty
/-- a text has a shard -/
def shB (s : ByteArray) : Bool :=
  decide (Crc.openE s = 0 ∧ tnE (Crc.openS s) = 0 ∧ (1 ≤ tnV (Crc.openS s) ∧ tnV (Crc.openS s) ≤ 1048576) ∧ tnE (tnR (Crc.openS s)) = 0 ∧ tnV (tnR (Crc.openS s)) ≤ 1024 ∧ ttE (tnR (tnR (Crc.openS s))) 512 = 0 ∧ (ttR (tnR (tnR (Crc.openS s))) 512).size = 0)
def shV (s : ByteArray) : Nat := if shB s = true then tnV (Crc.openS s) else 0
def shI (s : ByteArray) : Nat := if shB s = true then tnV (tnR (Crc.openS s)) else 0
def shX (s : ByteArray) : ByteArray := if shB s = true then ttT (tnR (tnR (Crc.openS s))) 512 else ByteArray.empty
def shE (s : ByteArray) : Int := if shB s = true then 0 else 3
theorem shB_yes {s : ByteArray} (h : shB s = true) : Crc.openE s = 0 ∧ tnE (Crc.openS s) = 0 ∧ (1 ≤ tnV (Crc.openS s) ∧ tnV (Crc.openS s) ≤ 1048576) ∧ tnE (tnR (Crc.openS s)) = 0 ∧ tnV (tnR (Crc.openS s)) ≤ 1024 ∧ ttE (tnR (tnR (Crc.openS s))) 512 = 0 ∧ (ttR (tnR (tnR (Crc.openS s))) 512).size = 0 := of_decide_eq_true h
theorem sh_yes {s : ByteArray} (h : shB s = true) : shE s = 0 ∧ shV s = tnV (Crc.openS s) ∧ shI s = tnV (tnR (Crc.openS s)) ∧ shX s = ttT (tnR (tnR (Crc.openS s))) 512 := by
  unfold shE shV shI shX; rw [h]; exact ⟨rfl, rfl, rfl, rfl⟩
theorem sh_no {s : ByteArray} (h : shB s = false) : shE s = 3 ∧ shV s = 0 ∧ shI s = 0 ∧ shX s = ByteArray.empty := by
  unfold shE shV shI shX; rw [h]; exact ⟨rfl, rfl, rfl, rfl⟩
theorem shE_iff {s : ByteArray} : shE s = 0 ↔ shB s = true := by
  cases h : shB s
  · rw [(sh_no h).1]; simp
  · rw [(sh_yes h).1]; simp
theorem shV_le (s : ByteArray) : shV s ≤ 1048576 := by
  cases h : shB s
  · rw [(sh_no h).2.1]; omega
  · rw [(sh_yes h).2.1]; exact (shB_yes h).2.2.1.2
theorem shI_le (s : ByteArray) : shI s ≤ 1024 := by
  cases h : shB s
  · rw [(sh_no h).2.2.1]; omega
  · rw [(sh_yes h).2.2.1]; exact (shB_yes h).2.2.2.2.1
theorem shBody_eq (v i : Nat) (x : ByteArray) : shBody v i x = numS v ++ (numS i ++ textS x) := ByteArray.append_assoc
theorem shBody_size (v i : Nat) (x : ByteArray) : (shBody v i x).size = nl v + (nl i + (nl x.size + x.size)) := by
  rw [shBody_eq]; unfold textS
  rw [size_app, size_app, size_app, numS_size, numS_size, numS_size]
theorem shR_size (v i : Nat) (x : ByteArray) : (shR v i x).size = nl v + (nl i + (nl x.size + x.size)) + 4 := by
  unfold shR; rw [sealS_size', shBody_size]
theorem shR_fits {v i : Nat} {x : ByteArray} (hv : v ≤ 1048576) (hi : i ≤ 1024) (hx : x.size ≤ 512) : (shR v i x).size ≤ 1024 := by
  rw [shR_size]
  have := nl_ten (v := v) (by omega)
  have := nl_ten (v := i) (by omega)
  have := nl_two (v := x.size) (by omega)
  omega
section
variable {v i : Nat} {x P : ByteArray}
/-- a beginning of a shard's body is none, if it isn't all -/
theorem sh_begun (hv : v ≤ 1048576) (hi : i ≤ 1024) (hx : x.size ≤ 512) (h : PreB P (shBody v i x)) :
    (P.size < (shBody v i x).size → ¬ (tnE P = 0 ∧ tnE (tnR P) = 0 ∧ ttE (tnR (tnR P)) 512 = 0)) ∧
    (P.size = (shBody v i x).size → tnE P = 0 ∧ tnV P = v ∧ tnE (tnR P) = 0 ∧ tnV (tnR P) = i ∧ ttE (tnR (tnR P)) 512 = 0 ∧ ttT (tnR (tnR P)) 512 = x ∧ (ttR (tnR (tnR P)) 512).size = 0) := by
  have hz := shBody_size v i x
  have ht : (textS x).size = nl x.size + x.size := by unfold textS; rw [size_app, numS_size]
  rw [shBody_eq] at h
  obtain ⟨a1, a2⟩ := pre_num (by omega) h
  rw [hz]
  constructor
  · rintro hs ⟨e1, e2, e3⟩
    rcases Nat.lt_or_ge P.size (nl v) with hl | hl
    · rw [a1 hl] at e1; omega
    · obtain ⟨_, _, h2, z2⟩ := a2 hl
      obtain ⟨b1, b2⟩ := pre_num (by omega) h2
      rcases Nat.lt_or_ge (tnR P).size (nl i) with hl2 | hl2
      · rw [b1 hl2] at e2; omega
      · obtain ⟨_, _, h3, z3⟩ := b2 hl2
        exact (pre_text hx (by omega) h3).1 (by omega) e3
  · intro hs
    obtain ⟨e1, e2, h2, z2⟩ := a2 (by omega)
    obtain ⟨_, b2⟩ := pre_num (by omega) h2
    obtain ⟨e3, e4, h3, z3⟩ := b2 (by omega)
    obtain ⟨e5, e6, e7⟩ := (pre_text hx (by omega) h3).2 (by omega)
    exact ⟨e1, e2, e3, e4, e5, e6, e7⟩
/-- a shard's record is taken as it was -/
theorem sh_taken (hv0 : 1 ≤ v) (hv : v ≤ 1048576) (hi : i ≤ 1024) (hx : x.size ≤ 512) : shB (shR v i x) = true ∧ shE (shR v i x) = 0 ∧ shV (shR v i x) = v ∧ shI (shR v i x) = i ∧ shX (shR v i x) = x := by
  obtain ⟨o1, o2⟩ := open_sealS (shBody v i x)
  obtain ⟨b1, b2, b3, b4, b5, b6, b7⟩ := (sh_begun hv hi hx (PreB.refl _)).2 rfl
  have hb : shB (shR v i x) = true := decide_eq_true (by
    unfold shR
    rw [o1, o2, b2, b4]
    exact ⟨rfl, b1, ⟨hv0, hv⟩, b3, hi, b5, b7⟩)
  obtain ⟨c1, c2, c3, c4⟩ := sh_yes hb
  refine ⟨hb, c1, ?_, ?_, ?_⟩
  · rw [c2]; unfold shR; rw [o1, b2]
  · rw [c3]; unfold shR; rw [o1, b4]
  · rw [c4]; unfold shR; rw [o1, b6]
/-- a beginning of a shard's record is none -/
theorem sh_cut (hv : v ≤ 1048576) (hi : i ≤ 1024) (hx : x.size ≤ 512) {k : Nat} (hk : k < (shR v i x).size) : shB ((shR v i x).extract 0 k) = false := by
  cases hb : shB ((shR v i x).extract 0 k) with
  | false => rfl
  | true =>
    exfalso
    obtain ⟨h1, h2, _, h4, _, h6, _⟩ := shB_yes hb
    have hz : ((shR v i x).extract 0 k).size = k := by rw [ByteArray.size_extract]; omega
    have h5 : ¬ ((shR v i x).extract 0 k).size < 4 := by
      intro h5
      rw [Crc.openE_short _ h5] at h1; omega
    have ho : Crc.openS ((shR v i x).extract 0 k) = ((shR v i x).extract 0 k).extract 0 (k - 4) := by
      have := open_ok h1
      rw [hz] at this
      exact this
    rw [ho] at h2 h4 h6
    have hb := shR_size v i x
    have hc := shBody_size v i x
    refine (sh_begun (v := v) (i := i) (x := x) hv hi hx ⟨?_, fun c hc' => ?_⟩).1 ?_ ⟨h2, h4, h6⟩
    · rw [ByteArray.size_extract, hz]; omega
    · rw [ByteArray.size_extract, hz] at hc'
      rw [bt_ext _ _ _ _ (by rw [hz]; exact hc'), bt_ext _ _ _ _ (by omega)]
      unfold shR Crc.sealS
      rw [bt_app, if_pos (by omega), Nat.zero_add, Nat.zero_add]
    · rw [ByteArray.size_extract, hz]; omega
end
theorem shB_empty : shB ByteArray.empty = false := by decide +kernel
theorem srT_yes {v i : Int} {x : ByteArray} (h : mayB v i x = true) : srE v i x = 0 ∧ srT v i x = shR v.toNat i.toNat x := by
  unfold srE srT; rw [h]; exact ⟨rfl, rfl⟩
theorem srT_no {v i : Int} {x : ByteArray} (h : mayB v i x = false) : srE v i x = 1 ∧ srT v i x = ByteArray.empty := by
  unfold srE srT; rw [h]; exact ⟨rfl, rfl⟩
end Go.Proofs.Ytofafmjkjgiccaa.Mat
