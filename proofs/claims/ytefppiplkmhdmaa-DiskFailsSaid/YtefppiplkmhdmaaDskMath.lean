/- Disks, as lists of texts and of writes that wait: what the calls make of them. No walk. -/
import Derived.Test.YtefppiplkmhdmaaBlkBase
namespace Go.Proofs.Ytefppiplkmhdmaa.Mat
open Go.RowKit Fld

/-- a disk: slots, writes that wait, how many writes more, off -/
structure Dk where
  n : Nat
  S : Nat → ByteArray
  m : Nat
  I : Nat → Int
  T : Nat → ByteArray
  fuse : Int
  off : Bool

def setS (S : Nat → ByteArray) (i : Int) (t : ByteArray) : Nat → ByteArray := fun j => if (j : Int) = i then t else S j
/-- r writes are done -/
def doS (I : Nat → Int) (T S : Nat → ByteArray) : Nat → Nat → ByteArray
  | 0 => S
  | r + 1 => setS (doS I T S r) (I r) (T r)
def hasB (n : Nat) (i : Int) : Bool := decide (0 ≤ i ∧ i < n)
theorem hasB_yes {n : Nat} {i : Int} (h : 0 ≤ i ∧ i < n) : hasB n i = true := decide_eq_true h
theorem hasB_no {n : Nat} {i : Int} (h : ¬ (0 ≤ i ∧ i < n)) : hasB n i = false := decide_eq_false h
theorem hasB_iff {n : Nat} {i : Int} : hasB n i = true ↔ (0 ≤ i ∧ i < n) := decide_eq_true_iff
theorem hasB_niff {n : Nat} {i : Int} : hasB n i = false ↔ ¬ (0 ≤ i ∧ i < n) := decide_eq_false_iff_not

/-- the write stands behind those that wait -/
def addD (d : Dk) (slot : Int) (s : ByteArray) (fuse : Int) (off : Bool) : Dk :=
  { d with m := d.m + 1, I := fun j => if j = d.m then slot else d.I j, T := fun j => if j = d.m then s else d.T j, fuse := fuse, off := off }
def putE (d : Dk) (slot : Int) (s : ByteArray) : Int := if d.off = true then 6 else if hasB d.n slot = false then 1 else if 1024 < s.size then 4 else if d.fuse = 0 then 6 else 0
def putD (d : Dk) (slot : Int) (s : ByteArray) : Dk :=
  if d.off = true then d else if hasB d.n slot = false then d else if 1024 < s.size then d else if d.fuse = 0 then addD d slot s 0 true else addD d slot s (if 0 < d.fuse then d.fuse - 1 else d.fuse) false

/-- what the last one of r writes that wait for the slot has -/
def lastT (I : Nat → Int) (T : Nat → ByteArray) (slot : Int) (s : ByteArray) : Nat → ByteArray
  | 0 => s
  | r + 1 => if I r = slot then T r else lastT I T slot s r
def getE (d : Dk) (slot : Int) : Int := if hasB d.n slot = true then 0 else 1
def getS (d : Dk) (slot : Int) : ByteArray := if hasB d.n slot = true then lastT d.I d.T slot (d.S slot.toNat) d.m else ByteArray.empty

def flushE (d : Dk) : Int := if d.off = true then 6 else 0
def doneD (d : Dk) (S : Nat → ByteArray) (fuse : Int) (off : Bool) : Dk := { d with S := S, m := 0, fuse := fuse, off := off }
def flushD (d : Dk) : Dk := if d.off = true then d else doneD d (doS d.I d.T d.S d.m) d.fuse false
def keepN (m : Nat) (keep : Int) : Nat := min (max keep 0).toNat m
/-- the first bytes -/
def headS (s : ByteArray) (tear : Int) : ByteArray := s.extract 0 (min tear.toNat s.size)
def crashS (d : Dk) (k : Nat) (tear : Int) : Nat → ByteArray := if k < d.m ∧ 0 ≤ tear then setS (doS d.I d.T d.S k) (d.I k) (headS (d.T k) tear) else doS d.I d.T d.S k
def crashD (d : Dk) (keep tear : Int) : Dk := doneD d (crashS d (keepN d.m keep) tear) (-1) false
def armD (d : Dk) (fuse : Int) : Dk := { d with fuse := if fuse < 0 then -1 else fuse }

/-- the bit r of 32, the highest one first, at its place in a byte -/
def bitB (bits : BitVec 32) (at_ r : Nat) : BitVec 8 := (BitVec.ofBool (bits.getLsbD (31 - r))).setWidth 8 <<< (7 - (at_ + r) % 8)
/-- r bits are turned round -/
def trn (f : Nat → BitVec 8) (bits : BitVec 32) (at_ : Nat) : Nat → Nat → BitVec 8
  | 0, c => f c
  | r + 1, c => if c = (at_ + r) / 8 then trn f bits at_ r c ^^^ bitB bits at_ r else trn f bits at_ r c
def mayBurst (d : Dk) (slot at_ : Int) : Bool := decide (hasB d.n slot = true ∧ 0 ≤ at_ ∧ at_ ≤ 8 * (d.S slot.toNat).size - 32)
def burstE (d : Dk) (slot at_ : Int) : Int := if mayBurst d slot at_ = true then 0 else 1
def turnS (s : ByteArray) (bits : BitVec 32) (at_ : Nat) : ByteArray := rs s.size (trn (bt s) bits at_ 32)
def burstD (d : Dk) (slot at_ : Int) (bits : BitVec 32) : Dk := if mayBurst d slot at_ = true then { d with S := setS d.S slot (turnS (d.S slot.toNat) bits at_.toNat) } else d

/-- two disks are the same -/
def SameD (a b : Dk) : Prop := StSame a.n a.S b.n b.S ∧ a.m = b.m ∧ (∀ i, i < a.m → a.I i = b.I i ∧ a.T i = b.T i) ∧ a.fuse = b.fuse ∧ a.off = b.off
instance (a b : Dk) : Decidable (SameD a b) := by unfold SameD; infer_instance
def sameB (a b : Dk) : Bool := decide (SameD a b)
theorem SameD.refl (a : Dk) : SameD a a := ⟨⟨rfl, fun _ _ => rfl⟩, rfl, fun _ _ => ⟨rfl, rfl⟩, rfl, rfl⟩
theorem same_self (a : Dk) : sameB a a = true := decide_eq_true (SameD.refl a)
theorem sameB_yes {a b : Dk} (h : SameD a b) : sameB a b = true := decide_eq_true h
theorem sameB_no {a b : Dk} (h : ¬ SameD a b) : sameB a b = false := decide_eq_false h

/-! ### what follows -/
section
variable {I : Nat → Int} {T S : Nat → ByteArray} {i : Int}
theorem setS_at {k : Nat} {t : ByteArray} : setS S (k : Int) t k = t := if_pos rfl
theorem setS_ne {j : Nat} {t : ByteArray} (h : (j : Int) ≠ i) : setS S i t j = S j := if_neg h
/-- a slot behind r writes -/
theorem doS_last : ∀ (r : Nat) (j : Nat), doS I T S r j = lastT I T j (S j) r
  | 0, _ => rfl
  | r + 1, j => by
    show (if (j : Int) = I r then T r else doS I T S r j) = if I r = (j : Int) then T r else lastT I T j (S j) r
    rw [doS_last r j]
    by_cases e : (j : Int) = I r
    · rw [if_pos e, if_pos e.symm]
    · rw [if_neg e, if_neg (fun h => e h.symm)]
theorem lastT_none {s : ByteArray} : ∀ (r : Nat), (∀ j, j < r → I j ≠ i) → lastT I T i s r = s
  | 0, _ => rfl
  | r + 1, h => by
    show (if I r = i then T r else lastT I T i s r) = s
    rw [if_neg (h r (by omega)), lastT_none r (fun j hj => h j (by omega))]
/-- a slot that no write waits for -/
theorem crash_other {d : Dk} {k : Nat} {tear : Int} {j : Nat} (hk : k ≤ d.m) (h : ∀ r, r < d.m → d.I r ≠ (j : Int)) : crashS d k tear j = d.S j := by
  have e : doS d.I d.T d.S k j = d.S j := by rw [doS_last, lastT_none k (fun r hr => h r (by omega))]
  unfold crashS
  by_cases c : k < d.m ∧ 0 ≤ tear
  · rw [if_pos c, setS_ne (fun hh => h k c.1 hh.symm), e]
  · rw [if_neg c, e]
end
theorem keepN_le (m : Nat) (keep : Int) : keepN m keep ≤ m := Nat.min_le_right _ _

/-! ### bits -/
/-- what r bits turn -/
def msk (bits : BitVec 32) (at_ : Nat) (r c : Nat) : BitVec 8 := trn (fun _ => 0#8) bits at_ r c
theorem trn_msk (f : Nat → BitVec 8) (bits : BitVec 32) (at_ : Nat) : ∀ r c, trn f bits at_ r c = f c ^^^ msk bits at_ r c
  | 0, c => by unfold msk trn; simp
  | r + 1, c => by
    have ih := trn_msk f bits at_ r c
    unfold msk
    show (if c = (at_ + r) / 8 then trn f bits at_ r c ^^^ bitB bits at_ r else trn f bits at_ r c) = f c ^^^ (if c = (at_ + r) / 8 then trn (fun _ => 0#8) bits at_ r c ^^^ bitB bits at_ r else trn (fun _ => 0#8) bits at_ r c)
    rw [ih]
    unfold msk
    by_cases e : c = (at_ + r) / 8
    · rw [if_pos e, if_pos e, BitVec.xor_assoc]
    · rw [if_neg e, if_neg e]
theorem trn_twice (f : Nat → BitVec 8) (bits : BitVec 32) (at_ c : Nat) : trn (trn f bits at_ 32) bits at_ 32 c = f c := by
  rw [trn_msk, trn_msk, BitVec.xor_assoc, BitVec.xor_self, BitVec.xor_zero]
theorem bitB_zero (at_ r : Nat) : bitB 0#32 at_ r = 0#8 := by
  unfold bitB; simp
theorem msk_zero (at_ : Nat) : ∀ r c, msk 0#32 at_ r c = 0#8
  | 0, _ => rfl
  | r + 1, c => by
    have ih := msk_zero at_ r c
    unfold msk at *
    show (if c = (at_ + r) / 8 then trn (fun _ => 0#8) 0#32 at_ r c ^^^ bitB 0#32 at_ r else trn (fun _ => 0#8) 0#32 at_ r c) = 0#8
    rw [ih, bitB_zero]
    by_cases e : c = (at_ + r) / 8
    · rw [if_pos e]; rfl
    · rw [if_neg e]
theorem bitB_bit (bits : BitVec 32) (at_ r p : Nat) (hp : p < 8) : (bitB bits at_ r).getLsbD p = (bits.getLsbD (31 - r) && decide (p = 7 - (at_ + r) % 8)) := by
  unfold bitB
  rw [BitVec.getLsbD_shiftLeft, BitVec.getLsbD_setWidth]
  have hq : (at_ + r) % 8 < 8 := Nat.mod_lt _ (by omega)
  generalize (at_ + r) % 8 = q at *
  by_cases e : p = 7 - q
  · subst e
    simp
    omega
  · simp [e]
    intro _ _
    by_cases e2 : p < 7 - q
    · omega
    · intro _
      have : p - (7 - q) ≠ 0 := by omega
      simp [this]
/-- the bit p of the byte c: which of 32 is it? -/
theorem msk_bit (bits : BitVec 32) (at_ : Nat) (c p : Nat) (hp : p < 8) : ∀ r, (msk bits at_ r c).getLsbD p = (decide (at_ ≤ 8 * c + (7 - p) ∧ 8 * c + (7 - p) < at_ + r) && bits.getLsbD (31 - (8 * c + (7 - p) - at_)))
  | 0 => by
    have e : decide (at_ ≤ 8 * c + (7 - p) ∧ 8 * c + (7 - p) < at_ + 0) = false := decide_eq_false (by omega)
    rw [e]
    unfold msk trn; simp
  | r + 1 => by
    have ih := msk_bit bits at_ c p hp r
    have hs : msk bits at_ (r + 1) c = if c = (at_ + r) / 8 then msk bits at_ r c ^^^ bitB bits at_ r else msk bits at_ r c := rfl
    rw [hs]
    by_cases e : c = (at_ + r) / 8
    · rw [if_pos e, BitVec.getLsbD_xor, ih, bitB_bit _ _ _ _ hp]
      by_cases e2 : p = 7 - (at_ + r) % 8
      · have e3 : 8 * c + (7 - p) = at_ + r := by omega
        rw [e3]
        have e4 : decide (at_ ≤ at_ + r ∧ at_ + r < at_ + r) = false := decide_eq_false (by omega)
        have e5 : decide (at_ ≤ at_ + r ∧ at_ + r < at_ + (r + 1)) = true := decide_eq_true (by omega)
        rw [e4, e5, show at_ + r - at_ = r by omega, decide_eq_true e2]
        simp
      · have e3 : 8 * c + (7 - p) ≠ at_ + r := by omega
        have e4 : decide (at_ ≤ 8 * c + (7 - p) ∧ 8 * c + (7 - p) < at_ + (r + 1)) = decide (at_ ≤ 8 * c + (7 - p) ∧ 8 * c + (7 - p) < at_ + r) := by rw [decide_eq_decide]; omega
        rw [e4, decide_eq_false e2]
        simp
    · rw [if_neg e, ih]
      have e3 : 8 * c + (7 - p) ≠ at_ + r := by omega
      have e4 : decide (at_ ≤ 8 * c + (7 - p) ∧ 8 * c + (7 - p) < at_ + (r + 1)) = decide (at_ ≤ 8 * c + (7 - p) ∧ 8 * c + (7 - p) < at_ + r) := by rw [decide_eq_decide]; omega
      rw [e4]
/-- only no bits turn nothing -/
theorem msk_none {bits : BitVec 32} {at_ n : Nat} (hn : at_ + 32 ≤ 8 * n) (h : ∀ c, c < n → msk bits at_ 32 c = 0#8) : bits = 0#32 := by
  apply BitVec.eq_of_getLsbD_eq
  intro j hj
  have hb := msk_bit bits at_ ((at_ + (31 - j)) / 8) (7 - (at_ + (31 - j)) % 8) (by omega) 32
  rw [h _ (by omega)] at hb
  have e1 : 8 * ((at_ + (31 - j)) / 8) + (7 - (7 - (at_ + (31 - j)) % 8)) = at_ + (31 - j) := by omega
  rw [e1, decide_eq_true (by omega), show 31 - (at_ + (31 - j) - at_) = j by omega] at hb
  simp at hb
  simp [hb]
theorem turn_twice (s : ByteArray) (bits : BitVec 32) (at_ : Nat) : turnS (turnS s bits at_) bits at_ = s := by
  unfold turnS
  rw [rs_size]
  refine Eq.trans (rs_congr rfl (fun c hc => ?_)) (rs_bt s)
  have hh : ∀ r, trn (bt (rs s.size (trn (bt s) bits at_ 32))) bits at_ r c = trn (trn (bt s) bits at_ 32) bits at_ r c := fun r => by
    rw [trn_msk, trn_msk (trn (bt s) bits at_ 32), bt_rs hc]
  rw [hh, trn_twice]
theorem turn_same {s : ByteArray} {bits : BitVec 32} {at_ : Nat} (h : at_ + 32 ≤ 8 * s.size) : turnS s bits at_ = s ↔ bits = 0#32 := by
  constructor
  · intro e
    refine msk_none h (fun c hc => ?_)
    have e2 := congrArg (fun t => bt t c) e
    simp only [turnS] at e2
    rw [bt_rs hc, trn_msk] at e2
    have := congrArg (fun x => bt s c ^^^ x) e2
    simp only [← BitVec.xor_assoc, BitVec.xor_self, BitVec.zero_xor] at this
    exact this
  · rintro rfl
    unfold turnS
    refine Eq.trans (rs_congr rfl (fun c _ => ?_)) (rs_bt s)
    rw [trn_msk, msk_zero, BitVec.xor_zero]
theorem turnS_size (s : ByteArray) (bits : BitVec 32) (at_ : Nat) : (turnS s bits at_).size = s.size := rs_size _ _
end Go.Proofs.Ytefppiplkmhdmaa.Mat
