/- XCelMath, as far as this dump goes. -/
import Derived.Test.YtofafmjkjgiccaaCelDsf
import Derived.Test.YtofafmjkjgiccaaCelCrd
import Derived.Laws.BitsAllLaws
import Derived.Laws.Bits128
import Derived.Laws.Bits64b
/- Numbers, texts and records as bytes: what they are, and what is taken of bytes. No walk. -/
namespace Go.Proofs.Ytofafmjkjgiccaa.Mat
open Go.RowKit Fld

/-! ### bytes of texts -/
theorem bt_app (a b : ByteArray) (c : Nat) : bt (a ++ b) c = if c < a.size then bt a c else bt b (c - a.size) := by
  unfold bt
  rw [ByteArray.data_append, Array.getElem?_append]
  have e : a.data.size = a.size := rfl
  rw [e]
  by_cases h : c < a.size
  · rw [if_pos h, if_pos h]
  · rw [if_neg h, if_neg h]
theorem bt_ext (s : ByteArray) (p q c : Nat) (h : c < min q s.size - p) : bt (s.extract p q) c = bt s (p + c) := by
  unfold bt
  rw [ByteArray.data_extract, Array.getElem?_extract]
  have e : s.data.size = s.size := rfl
  rw [if_pos (by rw [e]; exact h)]
theorem bt_lt (s : ByteArray) (c : Nat) : (bt s c).toNat < 256 := (bt s c).isLt
theorem size_app (a b : ByteArray) : (a ++ b).size = a.size + b.size := ByteArray.size_append
theorem ext_whole (s : ByteArray) : s.extract 0 s.size = s := by
  refine bt_eq.2 ⟨by rw [ByteArray.size_extract]; omega, fun c hc => ?_⟩
  rw [ByteArray.size_extract] at hc
  rw [bt_ext s 0 s.size c (by omega), Nat.zero_add]

/-! ### numbers -/
/-- the byte that stands k groups ahead of the last one -/
def dg (v k : Nat) : BitVec 8 := if k = 0 then BitVec.ofNat 8 (v % 128) else BitVec.ofNat 8 (v / 128 ^ k % 128 + 128)
theorem dg_zero (v : Nat) : (dg v 0).toNat = v % 128 := by
  unfold dg; rw [if_pos rfl, BitVec.toNat_ofNat]; omega
theorem dg_pos (v : Nat) {k : Nat} (h : k ≠ 0) : (dg v k).toNat = v / 128 ^ k % 128 + 128 := by
  unfold dg; rw [if_neg h, BitVec.toNat_ofNat]; omega
/-- how many groups -/
def nlF : Nat → Nat → Nat
  | 0, _ => 1
  | f + 1, v => if v < 128 then 1 else nlF f (v / 128) + 1
def nl (v : Nat) : Nat := nlF v v
theorem div_next (v k : Nat) : v / 128 / 128 ^ k = v / 128 ^ (k + 1) := by
  rw [Nat.div_div_eq_div_mul, Nat.pow_succ, Nat.mul_comm]
theorem div_back (v k : Nat) : v / 128 ^ k / 128 = v / 128 ^ (k + 1) := by
  rw [Nat.div_div_eq_div_mul, Nat.pow_succ]
theorem nlF_of : ∀ (k f v : Nat), k ≤ f → v / 128 ^ (k + 1) = 0 → (k = 0 ∨ 0 < v / 128 ^ k) → nlF f v = k + 1
  | 0, f, v, _, h, _ => by
    have hv : v < 128 := by
      rw [Nat.pow_one] at h; omega
    cases f with
    | zero => rfl
    | succ f => exact if_pos hv
  | k + 1, 0, _, hf, _, _ => by omega
  | k + 1, f + 1, v, hf, h, h2 => by
    have h3 : 0 < v / 128 ^ (k + 1) := by
      rcases h2 with h2 | h2
      · omega
      · exact h2
    have hv : ¬ v < 128 := by
      intro hv
      have e : v / 128 = 0 := by omega
      rw [← div_next, e] at h3
      simp at h3
    have e : nlF (f + 1) v = nlF f (v / 128) + 1 := if_neg hv
    rw [e, nlF_of k f (v / 128) (by omega) (by rw [div_next]; exact h) (by rw [div_next]; exact .inr h3)]
theorem nl_have : ∀ v : Nat, ∃ k, k ≤ v ∧ v / 128 ^ (k + 1) = 0 ∧ (k = 0 ∨ 0 < v / 128 ^ k) := by
  intro v
  induction v using Nat.strongRecOn with
  | ind v ih =>
    by_cases hv : v < 128
    · exact ⟨0, Nat.zero_le _, by rw [Nat.pow_one]; omega, .inl rfl⟩
    · obtain ⟨k, h1, h2, h3⟩ := ih (v / 128) (by omega)
      refine ⟨k + 1, by omega, by rw [← div_next]; exact h2, .inr ?_⟩
      rw [← div_next]
      rcases h3 with h3 | h3
      · subst h3; rw [Nat.pow_zero]; omega
      · exact h3
theorem nl_of {k v : Nat} (h : v / 128 ^ (k + 1) = 0) (h2 : k = 0 ∨ 0 < v / 128 ^ k) : nl v = k + 1 := by
  obtain ⟨j, j1, j2, j3⟩ := nl_have v
  have hj := nlF_of j v v j1 j2 j3
  have hkj : k = j := by
    rcases Nat.lt_trichotomy k j with hlt | rfl | hlt
    · exfalso
      have : v / 128 ^ j ≤ v / 128 ^ (k + 1) := Nat.div_le_div_left (Nat.pow_le_pow_right (by omega) (by omega)) (Nat.pow_pos (by omega))
      rcases j3 with j3 | j3 <;> omega
    · rfl
    · exfalso
      have : v / 128 ^ k ≤ v / 128 ^ (j + 1) := Nat.div_le_div_left (Nat.pow_le_pow_right (by omega) (by omega)) (Nat.pow_pos (by omega))
      rcases h2 with h2 | h2 <;> omega
  subst hkj
  exact hj
theorem nl_spec (v : Nat) : 1 ≤ nl v ∧ v / 128 ^ nl v = 0 ∧ (nl v = 1 ∨ 0 < v / 128 ^ (nl v - 1)) := by
  obtain ⟨j, j1, j2, j3⟩ := nl_have v
  have hj := nlF_of j v v j1 j2 j3
  have e : nl v = j + 1 := hj
  rw [e]
  exact ⟨by omega, j2, by rcases j3 with h | h; · left; omega
                          · right; exact h⟩
theorem nl_le {v k : Nat} (h : v < 128 ^ k) (hk : 1 ≤ k) : nl v ≤ k := by
  obtain ⟨h1, h2, h3⟩ := nl_spec v
  rcases Nat.lt_or_ge k (nl v) with hlt | hle
  · exfalso
    have : v / 128 ^ (nl v - 1) ≤ v / 128 ^ k := Nat.div_le_div_left (Nat.pow_le_pow_right (by omega) (by omega)) (Nat.pow_pos (by omega))
    rw [Nat.div_eq_of_lt h] at this
    rcases h3 with h3 | h3 <;> omega
  · exact hle
theorem nl_ten {v : Nat} (h : v < 18446744073709551616) : nl v ≤ 10 := nl_le (Nat.lt_of_lt_of_le h (by decide)) (by omega)
theorem nl_two {v : Nat} (h : v ≤ 1000) : nl v ≤ 2 := nl_le (Nat.lt_of_le_of_lt h (by decide)) (by omega)
/-- a number's bytes -/
def numS (v : Nat) : ByteArray := rs (nl v) (fun c => dg v (nl v - 1 - c))
theorem numS_size (v : Nat) : (numS v).size = nl v := rs_size _ _
theorem numS_at {v c : Nat} (h : c < nl v) : bt (numS v) c = dg v (nl v - 1 - c) := bt_rs h
/-- .. of k groups -/
theorem numS_of {v k : Nat} (h : v / 128 ^ (k + 1) = 0) (h2 : k = 0 ∨ 0 < v / 128 ^ k) : numS v = rs (k + 1) (fun c => dg v (k - c)) := by
  unfold numS
  rw [nl_of h h2]
  rfl

/-! ### what is taken -/
def tk (s : ByteArray) : Nat → Nat → Nat → Int × Nat × Nat
  | 0, _, _ => (2, 0, 0)
  | f + 1, i, v => if 144115188075855871 < v then (3, 0, 0) else if (bt s i).toNat < 128 then (0, v * 128 + (bt s i).toNat % 128, i + 1) else tk s f (i + 1) (v * 128 + (bt s i).toNat % 128)
def takeN (s : ByteArray) : Int × Nat × Nat := if s.size = 0 then (2, 0, 0) else if (bt s 0).toNat = 128 then (3, 0, 0) else tk s s.size 0 0
def tnE (s : ByteArray) : Int := (takeN s).1
def tnV (s : ByteArray) : Nat := (takeN s).2.1
def tnR (s : ByteArray) : ByteArray := if tnE s = 0 then s.extract (takeN s).2.2 s.size else ByteArray.empty
/-- a text begins with a number's bytes, as far as it goes -/
def Begins (s : ByteArray) (v : Nat) : Prop := ∀ c, c < nl v → c < s.size → bt s c = dg v (nl v - 1 - c)
theorem tk_run {s : ByteArray} {v : Nat} (hv : v < 18446744073709551616) (hb : Begins s v) : ∀ f i, i + f = s.size → i < nl v → tk s f i (v / 128 ^ (nl v - i)) = if nl v ≤ s.size then (0, v, nl v) else (2, 0, 0)
  | 0, i, h, hi => by
    rw [if_neg (by omega)]
    rfl
  | f + 1, i, h, hi => by
    have hbi := hb i hi (by omega)
    have ha : v / 128 ^ (nl v - i) ≤ v / 128 := by
      have := Nat.div_le_div_left (a := v) (Nat.pow_le_pow_right (show 0 < 128 by omega) (show 1 ≤ nl v - i by omega)) (Nat.pow_pos (by omega))
      rw [Nat.pow_one] at this
      exact this
    have e : tk s (f + 1) i (v / 128 ^ (nl v - i)) = if 144115188075855871 < v / 128 ^ (nl v - i) then (3, 0, 0) else if (bt s i).toNat < 128 then (0, v / 128 ^ (nl v - i) * 128 + (bt s i).toNat % 128, i + 1) else tk s f (i + 1) (v / 128 ^ (nl v - i) * 128 + (bt s i).toNat % 128) := rfl
    rw [e, if_neg (by omega), hbi]
    by_cases h0 : nl v - 1 - i = 0
    · rw [h0, dg_zero, if_pos (by omega), if_pos (by omega)]
      have e1 : nl v - i = 1 := by omega
      rw [e1, Nat.pow_one]
      have e2 : v / 128 * 128 + v % 128 % 128 = v := by omega
      have e3 : i + 1 = nl v := by omega
      rw [e2, e3]
    · rw [dg_pos v h0, if_neg (by omega)]
      have e1 : nl v - i = (nl v - (i + 1)) + 1 := by omega
      have e2 : nl v - 1 - i = nl v - (i + 1) := by omega
      rw [e1, e2, ← div_back]
      have e3 : v / 128 ^ (nl v - (i + 1)) / 128 * 128 + (v / 128 ^ (nl v - (i + 1)) % 128 + 128) % 128 = v / 128 ^ (nl v - (i + 1)) := by omega
      rw [e3]
      exact tk_run hv hb f (i + 1) (by omega) (by omega)
theorem takeN_begins {s : ByteArray} {v : Nat} (hv : v < 18446744073709551616) (hb : Begins s v) : takeN s = if nl v ≤ s.size then (0, v, nl v) else (2, 0, 0) := by
  obtain ⟨h1, h2, h3⟩ := nl_spec v
  unfold takeN
  by_cases h0 : s.size = 0
  · rw [if_pos h0, if_neg (by omega)]
  · have hbi := hb 0 (by omega) (by omega)
    have hne : (bt s 0).toNat ≠ 128 := by
      rw [hbi]
      by_cases e : nl v = 1
      · rw [e, dg_zero]; omega
      · have e2 : nl v - 1 - 0 ≠ 0 := by omega
        rw [dg_pos v e2]
        have h4 : 0 < v / 128 ^ (nl v - 1) := by
          rcases h3 with h3 | h3
          · omega
          · exact h3
        have h5 : v / 128 ^ (nl v - 1) / 128 = 0 := by
          rw [div_back, show nl v - 1 + 1 = nl v by omega]; exact h2
        rw [show nl v - 1 - 0 = nl v - 1 by omega]
        omega
    rw [if_neg h0, if_neg hne]
    have := tk_run hv hb s.size 0 (by omega) (by omega)
    rw [Nat.sub_zero, h2] at this
    exact this
theorem tn_short {s : ByteArray} {v : Nat} (hv : v < 18446744073709551616) (hb : Begins s v) (h : s.size < nl v) : tnE s = 2 := by
  unfold tnE; rw [takeN_begins hv hb, if_neg (by omega)]
theorem tn_whole {s : ByteArray} {v : Nat} (hv : v < 18446744073709551616) (hb : Begins s v) (h : nl v ≤ s.size) : tnE s = 0 ∧ tnV s = v ∧ tnR s = s.extract (nl v) s.size := by
  have e := takeN_begins hv hb
  rw [if_pos h] at e
  have e1 : tnE s = 0 := by unfold tnE; rw [e]
  refine ⟨e1, by unfold tnV; rw [e], ?_⟩
  unfold tnR
  rw [if_pos e1, e]

/-! ### texts -/
def textS (x : ByteArray) : ByteArray := numS x.size ++ x
def ttE (s : ByteArray) (most : Nat) : Int := if tnE s = 0 then (if most < tnV s then 4 else if (tnR s).size < tnV s then 2 else 0) else tnE s
def ttT (s : ByteArray) (most : Nat) : ByteArray := if ttE s most = 0 then (tnR s).extract 0 (tnV s) else ByteArray.empty
def ttR (s : ByteArray) (most : Nat) : ByteArray := if ttE s most = 0 then (tnR s).extract (tnV s) (tnR s).size else ByteArray.empty
theorem tt_bad {s : ByteArray} {most : Nat} (h : tnE s ≠ 0) : ttE s most = tnE s ∧ ttT s most = ByteArray.empty ∧ ttR s most = ByteArray.empty := by
  have e : ttE s most = tnE s := if_neg h
  refine ⟨e, ?_, ?_⟩
  · unfold ttT; rw [e, if_neg h]
  · unfold ttR; rw [e, if_neg h]
theorem tt_big {s : ByteArray} {most : Nat} (h : tnE s = 0) (h2 : most < tnV s) : ttE s most = 4 ∧ ttT s most = ByteArray.empty ∧ ttR s most = ByteArray.empty := by
  have e : ttE s most = 4 := by unfold ttE; rw [if_pos h, if_pos h2]
  refine ⟨e, ?_, ?_⟩
  · unfold ttT; rw [e]; rfl
  · unfold ttR; rw [e]; rfl
theorem tt_more {s : ByteArray} {most : Nat} (h : tnE s = 0) (h2 : ¬ most < tnV s) (h3 : (tnR s).size < tnV s) : ttE s most = 2 ∧ ttT s most = ByteArray.empty ∧ ttR s most = ByteArray.empty := by
  have e : ttE s most = 2 := by unfold ttE; rw [if_pos h, if_neg h2, if_pos h3]
  refine ⟨e, ?_, ?_⟩
  · unfold ttT; rw [e]; rfl
  · unfold ttR; rw [e]; rfl
theorem tt_ok {s : ByteArray} {most : Nat} (h : tnE s = 0) (h2 : ¬ most < tnV s) (h3 : ¬ (tnR s).size < tnV s) : ttE s most = 0 ∧ ttT s most = (tnR s).extract 0 (tnV s) ∧ ttR s most = (tnR s).extract (tnV s) (tnR s).size := by
  have e : ttE s most = 0 := by unfold ttE; rw [if_pos h, if_neg h2, if_neg h3]
  refine ⟨e, ?_, ?_⟩
  · unfold ttT; rw [if_pos e]
  · unfold ttR; rw [if_pos e]

/-! ### records -/
def bodyS (t : Nat) (x : ByteArray) : ByteArray := numS t ++ textS x
def recS (t : Nat) (x : ByteArray) : ByteArray := Crc.sealS (bodyS t x)
def recE (x : ByteArray) : Int := if 1000 < x.size then 4 else 0
def recT (t : Nat) (x : ByteArray) : ByteArray := if 1000 < x.size then ByteArray.empty else recS t x
def tcB (s : ByteArray) : Bool := decide (Crc.openE s = 0 ∧ tnE (Crc.openS s) = 0 ∧ ttE (tnR (Crc.openS s)) 1000 = 0 ∧ (ttR (tnR (Crc.openS s)) 1000).size = 0)
def tcE (s : ByteArray) : Int := if tcB s = true then 0 else 3
def tcV (s : ByteArray) : Nat := if tcB s = true then tnV (Crc.openS s) else 0
def tcX (s : ByteArray) : ByteArray := if tcB s = true then ttT (tnR (Crc.openS s)) 1000 else ByteArray.empty
theorem tcB_yes {s : ByteArray} (h : tcB s = true) : Crc.openE s = 0 ∧ tnE (Crc.openS s) = 0 ∧ ttE (tnR (Crc.openS s)) 1000 = 0 ∧ (ttR (tnR (Crc.openS s)) 1000).size = 0 := of_decide_eq_true h
theorem tc_no {s : ByteArray} (h : tcB s = false) : tcE s = 3 ∧ tcV s = 0 ∧ tcX s = ByteArray.empty := by
  unfold tcE tcV tcX; rw [h]; exact ⟨rfl, rfl, rfl⟩
theorem tc_yes {s : ByteArray} (h : tcB s = true) : tcE s = 0 ∧ tcV s = tnV (Crc.openS s) ∧ tcX s = ttT (tnR (Crc.openS s)) 1000 := by
  unfold tcE tcV tcX; rw [if_pos h, if_pos h, if_pos h]; exact ⟨rfl, rfl, rfl⟩
theorem tcE_iff {s : ByteArray} : tcE s = 0 ↔ tcB s = true := by
  unfold tcE
  by_cases h : tcB s = true
  · rw [if_pos h]; exact ⟨fun _ => h, fun _ => rfl⟩
  · rw [if_neg h]; exact ⟨fun e => absurd e (by omega), fun e => absurd e h⟩
theorem bodyS_size (t : Nat) (x : ByteArray) : (bodyS t x).size = nl t + (nl x.size + x.size) := by
  unfold bodyS textS
  rw [size_app, size_app, numS_size, numS_size]
theorem sealS_size' (s : ByteArray) : (Crc.sealS s).size = s.size + 4 := by
  unfold Crc.sealS; rw [size_app]; rfl
theorem recS_size (t : Nat) (x : ByteArray) : (recS t x).size = nl t + (nl x.size + x.size) + 4 := by
  unfold recS; rw [sealS_size', bodyS_size]
theorem recS_fits {t : Nat} {x : ByteArray} (ht : t < 18446744073709551616) (hx : x.size ≤ 1000) : (recS t x).size ≤ 1024 := by
  rw [recS_size]
  have := nl_ten ht
  have := nl_two hx
  omega
theorem tcV_lt (s : ByteArray) (h : tcB s = true) : tcV s = tnV (Crc.openS s) := (tc_yes h).2.1
/-- a beginning of a record's bytes -/
structure Pre (P : ByteArray) (t : Nat) (x : ByteArray) : Prop where
  le : P.size ≤ (bodyS t x).size
  at_ : ∀ c, c < P.size → bt P c = bt (bodyS t x) c
theorem Pre.begins {P : ByteArray} {t : Nat} {x : ByteArray} (h : Pre P t x) : Begins P t := fun c hc hp => by
  rw [h.at_ c hp]
  unfold bodyS
  rw [bt_app, numS_size, if_pos hc, numS_at hc]
theorem Pre.rest {P : ByteArray} {t : Nat} {x : ByteArray} (h : Pre P t x) (_ : nl t ≤ P.size) : ∀ c, c < (P.extract (nl t) P.size).size → bt (P.extract (nl t) P.size) c = bt (textS x) c := fun c hc => by
  rw [ByteArray.size_extract] at hc
  rw [bt_ext _ _ _ _ hc, h.at_ _ (by omega)]
  unfold bodyS
  rw [bt_app, numS_size, if_neg (by omega), Nat.add_sub_cancel_left]
theorem begins_text {R x : ByteArray} (h : ∀ c, c < R.size → bt R c = bt (textS x) c) : Begins R x.size := fun c hc hp => by
  rw [h c hp]
  unfold textS
  rw [bt_app, numS_size, if_pos hc, numS_at hc]
/-- .. is none, if it isn't all -/
theorem Pre.none {P : ByteArray} {t : Nat} {x : ByteArray} (h : Pre P t x) (ht : t < 18446744073709551616) (hx : x.size ≤ 1000) (hlt : P.size < (bodyS t x).size) : ¬ (tnE P = 0 ∧ ttE (tnR P) 1000 = 0) := by
  rintro ⟨e1, e2⟩
  rcases Nat.lt_or_ge P.size (nl t) with hs | hs
  · rw [tn_short ht h.begins hs] at e1; omega
  · obtain ⟨_, _, e3⟩ := tn_whole ht h.begins hs
    rw [e3] at e2
    have hR := begins_text (h.rest hs)
    have hz : (P.extract (nl t) P.size).size = P.size - nl t := by rw [ByteArray.size_extract]; omega
    rw [bodyS_size] at hlt
    rcases Nat.lt_or_ge (P.extract (nl t) P.size).size (nl x.size) with hr | hr
    · have e4 := tn_short (by omega) hR hr
      rw [(tt_bad (by rw [e4]; omega)).1, e4] at e2; omega
    · obtain ⟨e4, e5, e6⟩ := tn_whole (by omega) hR hr
      rw [(tt_more e4 (by rw [e5]; omega) (by rw [e5, e6, ByteArray.size_extract]; omega)).1] at e2
      omega
theorem pre_self (t : Nat) (x : ByteArray) : Pre (bodyS t x) t x := ⟨Nat.le_refl _, fun _ _ => rfl⟩
theorem body_taken {t : Nat} {x : ByteArray} (ht : t < 18446744073709551616) (hx : x.size ≤ 1000) : tnE (bodyS t x) = 0 ∧ tnV (bodyS t x) = t ∧ ttE (tnR (bodyS t x)) 1000 = 0 ∧ ttT (tnR (bodyS t x)) 1000 = x ∧ (ttR (tnR (bodyS t x)) 1000).size = 0 := by
  have h := pre_self t x
  have hs : nl t ≤ (bodyS t x).size := by rw [bodyS_size]; omega
  obtain ⟨e1, e2, e3⟩ := tn_whole ht h.begins hs
  have hz : ((bodyS t x).extract (nl t) (bodyS t x).size).size = nl x.size + x.size := by rw [ByteArray.size_extract, bodyS_size]; omega
  have hR := begins_text (h.rest hs)
  obtain ⟨e4, e5, e6⟩ := tn_whole (by omega) hR (by rw [hz]; omega)
  rw [← e3] at e4 e5 e6 hz
  have hr : tnR (tnR (bodyS t x)) = x := by
    rw [e6]
    refine bt_eq.2 ⟨by rw [ByteArray.size_extract, hz]; omega, fun c hc => ?_⟩
    rw [ByteArray.size_extract, hz] at hc
    rw [bt_ext _ _ _ _ (by rw [hz]; omega), e3, h.rest hs _ (by rw [← e3, hz]; omega)]
    unfold textS
    rw [bt_app, numS_size, if_neg (by omega), Nat.add_sub_cancel_left]
  obtain ⟨f1, f2, f3⟩ := tt_ok (most := 1000) e4 (by rw [e5]; omega) (by rw [e5, hr]; omega)
  refine ⟨e1, e2, f1, ?_, ?_⟩
  · rw [f2, hr, e5, ext_whole]
  · rw [f3, hr, e5, ByteArray.size_extract]; omega
theorem open_ok {s : ByteArray} (h : Crc.openE s = 0) : Crc.openS s = s.extract 0 (s.size - 4) := by
  have hl : s.data.toList.length = s.size := by simp
  by_cases h4 : s.data.toList.length < 4
  · have e : Crc.openE s = 2 := Crc.openE_short s (by omega)
    omega
  · by_cases h2 : s.data.toList.drop (s.data.toList.length - 4) = Crc.laidL (Crc.sumL (s.data.toList.take (s.data.toList.length - 4)))
    · unfold Crc.openS
      rw [Crc.openL_ok _ h4 h2, hl, Crc.extract_front]
    · have e : Crc.openE s = 13 := by unfold Crc.openE; rw [Crc.openL_sum _ h4 h2]
      omega
theorem open_sealS (s : ByteArray) : Crc.openS (Crc.sealS s) = s ∧ Crc.openE (Crc.sealS s) = 0 := Crc.open_seal s
/-- a record is taken as it was -/
theorem rec_taken {t : Nat} {x : ByteArray} (ht : t < 18446744073709551616) (hx : x.size ≤ 1000) : tcB (recS t x) = true ∧ tcE (recS t x) = 0 ∧ tcV (recS t x) = t ∧ tcX (recS t x) = x := by
  obtain ⟨o1, o2⟩ := open_sealS (bodyS t x)
  obtain ⟨b1, b2, b3, b4, b5⟩ := body_taken ht hx
  have hb : tcB (recS t x) = true := decide_eq_true (by
    unfold recS
    rw [o1, o2]
    exact ⟨rfl, b1, b3, b5⟩)
  obtain ⟨c1, c2, c3⟩ := tc_yes hb
  refine ⟨hb, c1, ?_, ?_⟩
  · rw [c2]; unfold recS; rw [o1, b2]
  · rw [c3]; unfold recS; rw [o1, b4]
/-- a beginning of a record is none -/
theorem rec_cut {t : Nat} {x : ByteArray} (ht : t < 18446744073709551616) (hx : x.size ≤ 1000) {k : Nat} (hk : k < (recS t x).size) : tcB ((recS t x).extract 0 k) = false := by
  cases hb : tcB ((recS t x).extract 0 k) with
  | false => rfl
  | true =>
    exfalso
    obtain ⟨h1, h2, h3, h4⟩ := tcB_yes hb
    have hz : ((recS t x).extract 0 k).size = k := by rw [ByteArray.size_extract]; omega
    have h5 : ¬ ((recS t x).extract 0 k).size < 4 := by
      intro h5
      rw [Crc.openE_short _ h5] at h1; omega
    have ho : Crc.openS ((recS t x).extract 0 k) = ((recS t x).extract 0 k).extract 0 (k - 4) := by
      have := open_ok h1
      rw [hz] at this
      exact this
    rw [ho] at h2 h3
    have hb := recS_size t x
    have hc := bodyS_size t x
    refine Pre.none (t := t) (x := x) ⟨?_, fun c hc' => ?_⟩ ht hx ?_ ⟨h2, h3⟩
    · rw [ByteArray.size_extract, hz]; omega
    · rw [ByteArray.size_extract, hz] at hc'
      rw [bt_ext _ _ _ _ (by rw [hz]; exact hc'), bt_ext _ _ _ _ (by omega)]
      unfold recS Crc.sealS
      rw [bt_app, if_pos (by omega), Nat.zero_add, Nat.zero_add]
    · rw [ByteArray.size_extract, hz]; omega
end Go.Proofs.Ytofafmjkjgiccaa.Mat

