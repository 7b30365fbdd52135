/- What shards are: tables, sums, and what any k of them tell. -/
import Derived.Test.YtohbijjkkadbaaaMatH
import Derived.Test.YtohbijjkkadbaaaMatC
namespace Go.Proofs.Ytohbijjkkadbaaa.Mat
open Go.RowKit Fld

/-! ### tables -/
/-- by what shards are made -/
def tab (k : Nat) : Nat → Nat → BitVec 8 := mm k pwm (inv k pwm)
theorem pwm_inv {k : Nat} {J : Nat → Nat} (hlt : ∀ i, i < k → J i < 32) (hJ : ∀ i j, i < k → j < k → J i = J j → i = j) : Inv k (fun r c => pwm (J r) c) := by
  have h := powers_inv k (fun r => BitVec.ofNat 8 (J r)) (fun i j hi hj e => hJ i j hi hj (by
    have := congrArg BitVec.toNat e
    have h1 := hlt i hi
    have h2 := hlt j hj
    simp only [BitVec.toNat_ofNat] at this
    omega))
  exact h
theorem pwm_inv0 {k : Nat} (hk : k ≤ 32) : Inv k pwm := pwm_inv (J := fun i => i) (fun i hi => by omega) (fun i j _ _ e => e)
theorem tab_id {k : Nat} (hk : k ≤ 32) {r c : Nat} (hr : r < k) (hc : c < k) : tab k r c = idm r c := (inv_both (pwm_inv0 hk)).2 r c hr hc
theorem Inv.congr {n : Nat} {A A' : Nat → Nat → BitVec 8} (h : Inv n A) (e : ∀ r c, r < n → c < n → A r c = A' r c) : Inv n A' :=
  inv_of_left (B := inv n A) fun r c hr hc => by
    rw [← (inv_both h).1 r c hr hc]
    exact mm_congr (fun _ _ => rfl) (fun i hi => (e i c hi hc).symm)
/-- any k rows of a table have an inverse -/
theorem tab_inv {k : Nat} (hk : k ≤ 32) {J : Nat → Nat} (hlt : ∀ i, i < k → J i < 32) (hJ : ∀ i j, i < k → j < k → J i = J j → i = j) : Inv k (fun r c => tab k (J r) c) := by
  have hA := pwm_inv hlt hJ
  have hP := pwm_inv0 hk
  refine inv_of_left (B := mm k pwm (inv k (fun r c => pwm (J r) c))) fun r c hr hc => ?_
  have e1 : mm k (mm k pwm (inv k fun r c => pwm (J r) c)) (fun r c => tab k (J r) c) r c = mm k pwm (mm k (inv k fun r c => pwm (J r) c) (mm k (fun r c => pwm (J r) c) (inv k pwm))) r c := by
    rw [← mm_assoc]; rfl
  rw [e1, ← (inv_both hP).2 r c hr hc]
  refine mm_congr (fun _ _ => rfl) (fun i hi => ?_)
  rw [← mm_assoc]
  rw [← id_mm (inv k pwm) c hi]
  exact mm_congr (fun a ha => (inv_both hA).1 i a hi ha) (fun _ _ => rfl)

/-! ### texts -/
/-- the byte at c -/
def bt (s : ByteArray) (c : Nat) : BitVec 8 := ((s.data[c]?).map UInt8.toBitVec).getD 0#8
theorem bt_at (s : ByteArray) (c : Nat) (h : c < s.size) : ((s[c]'h).toNat : Int) = V (bt s c) := by
  have e : s.data[c]? = some (s[c]'h) := by
    show s.data[c]? = some (s.data[c]'h)
    exact Array.getElem?_eq_getElem h
  unfold bt V
  rw [e]; rfl
theorem bt_rs {n : Nat} {f : Nat → BitVec 8} {c : Nat} (h : c < n) : bt (rs n f) c = f c := by
  have e : (rs n f).data[c]? = some (UInt8.ofBitVec (f c)) := by
    rw [← Array.getElem?_toList, rs_list]; simp [h]
  unfold bt
  rw [e]; rfl
theorem rs_size' (n : Nat) (f : Nat → BitVec 8) : (rs n f).size = n := by unfold rs; rw [strOfNums_size]; simp
theorem rs_congr {n m : Nat} {f g : Nat → BitVec 8} (e : n = m) (h : ∀ c, c < n → f c = g c) : rs n f = rs m g := rs_eq.2 ⟨e, h⟩
theorem rs_bt (s : ByteArray) : rs s.size (bt s) = s := by
  refine ByteArray.ext (Array.ext (by have := rs_size' s.size (bt s); exact this) (fun i h1 h2 => ?_))
  have e : (rs s.size (bt s)).data[i]? = some (UInt8.ofBitVec (bt s i)) := by
    rw [← Array.getElem?_toList, rs_list]
    have : i < s.size := h2
    simp [this]
  have e2 : s.data[i]? = some s.data[i] := Array.getElem?_eq_getElem h2
  rw [Array.getElem?_eq_getElem h1] at e
  injection e with e
  rw [e]
  unfold bt
  rw [e2]
  apply UInt8.toBitVec_inj.1
  simp
theorem bt_eq {s t : ByteArray} : s = t ↔ s.size = t.size ∧ ∀ c, c < s.size → bt s c = bt t c := by
  constructor
  · rintro rfl; exact ⟨rfl, fun _ _ => rfl⟩
  · rintro ⟨h1, h2⟩
    rw [← rs_bt s, ← rs_bt t]
    exact rs_congr h1 h2

/-! ### shards -/
/-- a sum of shards, each times its factor -/
def mixS (k : Nat) (row : Nat → BitVec 8) (S : Nat → ByteArray) : ByteArray := rs (S 0).size (fun at_ => sm k (fun i => gm (row i) (bt (S i) at_)))
def enc (k : Nat) (S : Nat → ByteArray) (r : Nat) : ByteArray := mixS k (tab k r) S
def Even (n : Nat) (S : Nat → ByteArray) : Prop := ∀ i, i < n → (S i).size = (S 0).size
instance (n : Nat) (S : Nat → ByteArray) : Decidable (Even n S) := by unfold Even; infer_instance
theorem mixS_size (k : Nat) (row) (S : Nat → ByteArray) : (mixS k row S).size = (S 0).size := rs_size' _ _
theorem bt_mixS {k : Nat} {row : Nat → BitVec 8} {S : Nat → ByteArray} {c : Nat} (h : c < (S 0).size) : bt (mixS k row S) c = sm k (fun i => gm (row i) (bt (S i) c)) := bt_rs h
theorem mixS_congr {k : Nat} {row row' : Nat → BitVec 8} {S S' : Nat → ByteArray} (hk : 0 < k) (h : ∀ i, i < k → row i = row' i) (h' : ∀ i, i < k → S i = S' i) : mixS k row S = mixS k row' S' :=
  rs_congr (by rw [h' 0 hk]) fun c _ => sm_congr fun i hi => by rw [h i hi, h' i hi]
theorem enc_size (k : Nat) (S : Nat → ByteArray) (r : Nat) : (enc k S r).size = (S 0).size := mixS_size _ _ _
theorem enc_congr {k : Nat} {S S' : Nat → ByteArray} (hk : 0 < k) (h : ∀ i, i < k → S i = S' i) (r : Nat) : enc k S r = enc k S' r := mixS_congr hk (fun _ _ => rfl) h
/-- the first k shards are the data -/
theorem enc_lo {k : Nat} (hk : k ≤ 32) {S : Nat → ByteArray} (he : Even k S) {r : Nat} (hr : r < k) : enc k S r = S r := by
  refine bt_eq.2 ⟨by rw [enc_size, he r hr], fun c hc => ?_⟩
  rw [enc_size] at hc
  unfold enc
  rw [bt_mixS hc]
  have e : sm k (fun i => gm (tab k r i) (bt (S i) c)) = mm k idm (fun i j => bt (S i) j) r c := sm_congr fun i hi => by rw [tab_id hk hr hi]
  rw [e, id_mm _ _ hr]
/-- what k shards with the numbers J rebuild -/
def reb (k : Nat) (J : Nat → Nat) (S : Nat → ByteArray) (r : Nat) : ByteArray := mixS k (fun j => mm k (tab k) (inv k (fun a c => tab k (J a) c)) r j) S
theorem reb_size (k : Nat) (J) (S : Nat → ByteArray) (r : Nat) : (reb k J S r).size = (S 0).size := mixS_size _ _ _
/-- .. in two steps: the data, and all shards of them -/
def dat (k : Nat) (J : Nat → Nat) (S : Nat → ByteArray) (i : Nat) : ByteArray := mixS k (inv k (fun a c => tab k (J a) c) i) S
theorem dat_even (k : Nat) (J) (S : Nat → ByteArray) : Even k (dat k J S) := fun i _ => by unfold dat; rw [mixS_size, mixS_size]
theorem reb_dat (k : Nat) (J) (S : Nat → ByteArray) (r : Nat) : enc k (dat k J S) r = reb k J S r := by
  have h0 : (dat k J S 0).size = (S 0).size := mixS_size _ _ _
  refine bt_eq.2 ⟨by rw [enc_size, reb_size, h0], fun c hc => ?_⟩
  rw [enc_size, h0] at hc
  unfold enc reb
  rw [bt_mixS (by rw [h0]; exact hc), bt_mixS hc]
  have e1 : sm k (fun i => gm (tab k r i) (bt (dat k J S i) c)) = mm k (tab k) (mm k (inv k (fun a c => tab k (J a) c)) (fun i j => bt (S i) j)) r c := sm_congr fun i hi => by
    unfold dat; rw [bt_mixS hc]; rfl
  rw [e1, ← mm_assoc]; rfl
theorem reb_lo {k : Nat} (hk : k ≤ 32) (J) (S : Nat → ByteArray) {r : Nat} (hr : r < k) : dat k J S r = reb k J S r := by
  rw [← reb_dat, enc_lo hk (dat_even k J S) hr]
/-- any k shards tell all -/
theorem reb_enc {k : Nat} (hk : k ≤ 32) (hk0 : 0 < k) {J : Nat → Nat} (hlt : ∀ i, i < k → J i < 32) (hJ : ∀ i j, i < k → j < k → J i = J j → i = j) {S S' : Nat → ByteArray} (h : ∀ a, a < k → S' a = enc k S (J a)) (r : Nat) :
    reb k J S' r = enc k S r := by
  have h0 : (S' 0).size = (S 0).size := by rw [h 0 hk0, enc_size]
  refine bt_eq.2 ⟨by rw [enc_size, reb_size, h0], fun c hc => ?_⟩
  rw [reb_size] at hc
  have hc' : c < (S 0).size := by rw [← h0]; exact hc
  unfold enc reb
  rw [bt_mixS hc, bt_mixS hc']
  have hi := tab_inv hk hlt hJ
  have e1 : sm k (fun i => gm (mm k (tab k) (inv k fun a c => tab k (J a) c) r i) (bt (S' i) c)) = mm k (mm k (tab k) (inv k fun a c => tab k (J a) c)) (mm k (fun a c => tab k (J a) c) (fun i j => bt (S i) j)) r c :=
    sm_congr fun i hik => by
      rw [h i hik]; unfold enc; rw [bt_mixS hc']; rfl
  rw [e1, mm_assoc]
  refine mm_congr (fun _ _ => rfl) (fun i hik => ?_)
  rw [← mm_assoc]
  rw [← id_mm (fun i j => bt (S i) j) c hik]
  exact mm_congr (fun a ha => (inv_both hi).1 i a hik ha) (fun _ _ => rfl)
/-- a sum of texts -/
def xs (a b : ByteArray) : ByteArray := rs (min a.size b.size) (fun c => bt a c ^^^ bt b c)
theorem xs_size (a b : ByteArray) : (xs a b).size = min a.size b.size := rs_size' _ _
theorem bt_xs {a b : ByteArray} {c : Nat} (h : c < min a.size b.size) : bt (xs a b) c = bt a c ^^^ bt b c := bt_rs h
/-- of a sum of data the shards are the sums of the shards -/
theorem enc_xs {k : Nat} {A B : Nat → ByteArray} (hA : Even k A) (hB : Even k B) (h0 : (A 0).size = (B 0).size) (r : Nat) : enc k (fun i => xs (A i) (B i)) r = xs (enc k A r) (enc k B r) := by
  have hs : (xs (A 0) (B 0)).size = (A 0).size := by rw [xs_size]; omega
  refine bt_eq.2 ⟨by rw [enc_size, hs, xs_size, enc_size, enc_size]; omega, fun c hc => ?_⟩
  rw [enc_size, hs] at hc
  rw [bt_xs (by rw [enc_size, enc_size]; omega)]
  unfold enc
  rw [bt_mixS (by rw [hs]; exact hc), bt_mixS hc, bt_mixS (by omega), ← sm_xor]
  exact sm_congr fun i hi => by rw [bt_xs (by rw [hA i hi, hB i hi]; omega), gm_xor]
theorem xs_even {k : Nat} {A B : Nat → ByteArray} (hA : Even k A) (hB : Even k B) : Even k (fun i => xs (A i) (B i)) := fun i hi => by
  show (xs (A i) (B i)).size = (xs (A 0) (B 0)).size
  rw [xs_size, xs_size, hA i hi, hB i hi]
/-- of data of which one shard is another one, the shard k is another one -/
theorem enc_ne {k : Nat} (hk : k < 32) {S S' : Nat → ByteArray} (hS : Even k S) (hS' : Even k S') {i : Nat} (hi : i < k) (hne : S i ≠ S' i) (hs : ∀ a, a < k → a ≠ i → S a = S' a) : enc k S k ≠ enc k S' k := by
  intro e
  apply hne
  have hlt : ∀ a, a < k → (fun a => if a = i then k else a) a < 32 := fun a ha => by
    show (if a = i then k else a) < 32
    split <;> omega
  have hJ : ∀ a b, a < k → b < k → (fun a => if a = i then k else a) a = (fun a => if a = i then k else a) b → a = b := fun a b ha hb h => by
    simp only at h
    split at h <;> split at h <;> omega
  have same : ∀ a, a < k → enc k S (if a = i then k else a) = enc k S' (if a = i then k else a) := fun a ha => by
    by_cases h : a = i
    · rw [if_pos h]; exact e
    · rw [if_neg h, enc_lo (by omega) hS ha, enc_lo (by omega) hS' ha, hs a ha h]
  have e1 := reb_enc (J := fun a => if a = i then k else a) (S := S) (S' := fun a => enc k S (if a = i then k else a)) (by omega) (by omega) hlt hJ (fun _ _ => rfl) i
  have e2 := reb_enc (J := fun a => if a = i then k else a) (S := S') (S' := fun a => enc k S (if a = i then k else a)) (by omega) (by omega) hlt hJ same i
  rw [enc_lo (by omega) hS hi] at e1
  rw [enc_lo (by omega) hS' hi] at e2
  rw [← e1, e2]
/-- of one shard each is the same -/
theorem tab_one (r : Nat) : tab 1 r 0 = 1#8 := by
  have h : ∀ r, tab 1 r 0 = inv 1 pwm 0 0 := fun r => by
    show sm 1 (fun i => gm (pwm r i) (inv 1 pwm i 0)) = _
    rw [sm_succ, sm_zero_, zero_xor]
    unfold pwm
    rw [pw_zero, gm_one_left]
  rw [h r, ← h 0, tab_id (by omega) (by omega) (by omega), idm_same]
theorem enc_one (S : Nat → ByteArray) (r : Nat) : enc 1 S r = S 0 := by
  refine bt_eq.2 ⟨enc_size _ _ _, fun c hc => ?_⟩
  rw [enc_size] at hc
  unfold enc
  rw [bt_mixS hc, sm_succ, sm_zero_, zero_xor, tab_one, gm_one_left]
end Go.Proofs.Ytohbijjkkadbaaa.Mat
