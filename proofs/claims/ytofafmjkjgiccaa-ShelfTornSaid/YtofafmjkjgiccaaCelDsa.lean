/- XDskMath XDskMem XDskA XDskB XDskC, as far as this dump goes. -/
import Derived.Test.YtofafmjkjgiccaaCelBas
import Derived.Lib.SmallJoins
import Derived.OneCell
import Derived.Lib.SliceRun
/- Disks, as lists of texts and of writes that wait: what the calls make of them. No walk. -/
namespace Go.Proofs.Ytofafmjkjgiccaa.Mat
open Go.RowKit Fld

/-- a disk: slots, writes that wait, how many writes more, off -/
structure Dk where
  n : Nat
  S : Nat → ByteArray
  m : Nat
  I : Nat → Int
  T : Nat → ByteArray
  fuse : Int
  off : Bool

def setS (S : Nat → ByteArray) (i : Int) (t : ByteArray) : Nat → ByteArray := fun j => if (j : Int) = i then t else S j
/-- r writes are done -/
def doS (I : Nat → Int) (T S : Nat → ByteArray) : Nat → Nat → ByteArray
  | 0 => S
  | r + 1 => setS (doS I T S r) (I r) (T r)
def hasB (n : Nat) (i : Int) : Bool := decide (0 ≤ i ∧ i < n)
theorem hasB_yes {n : Nat} {i : Int} (h : 0 ≤ i ∧ i < n) : hasB n i = true := decide_eq_true h
theorem hasB_no {n : Nat} {i : Int} (h : ¬ (0 ≤ i ∧ i < n)) : hasB n i = false := decide_eq_false h
theorem hasB_iff {n : Nat} {i : Int} : hasB n i = true ↔ (0 ≤ i ∧ i < n) := decide_eq_true_iff
theorem hasB_niff {n : Nat} {i : Int} : hasB n i = false ↔ ¬ (0 ≤ i ∧ i < n) := decide_eq_false_iff_not

/-- the write stands behind those that wait -/
def addD (d : Dk) (slot : Int) (s : ByteArray) (fuse : Int) (off : Bool) : Dk :=
  { d with m := d.m + 1, I := fun j => if j = d.m then slot else d.I j, T := fun j => if j = d.m then s else d.T j, fuse := fuse, off := off }
def putE (d : Dk) (slot : Int) (s : ByteArray) : Int := if d.off = true then 6 else if hasB d.n slot = false then 1 else if 1024 < s.size then 4 else if d.fuse = 0 then 6 else 0
def putD (d : Dk) (slot : Int) (s : ByteArray) : Dk :=
  if d.off = true then d else if hasB d.n slot = false then d else if 1024 < s.size then d else if d.fuse = 0 then addD d slot s 0 true else addD d slot s (if 0 < d.fuse then d.fuse - 1 else d.fuse) false

/-- what the last one of r writes that wait for the slot has -/
def lastT (I : Nat → Int) (T : Nat → ByteArray) (slot : Int) (s : ByteArray) : Nat → ByteArray
  | 0 => s
  | r + 1 => if I r = slot then T r else lastT I T slot s r
def getE (d : Dk) (slot : Int) : Int := if hasB d.n slot = true then 0 else 1
def getS (d : Dk) (slot : Int) : ByteArray := if hasB d.n slot = true then lastT d.I d.T slot (d.S slot.toNat) d.m else ByteArray.empty

def flushE (d : Dk) : Int := if d.off = true then 6 else 0
def doneD (d : Dk) (S : Nat → ByteArray) (fuse : Int) (off : Bool) : Dk := { d with S := S, m := 0, fuse := fuse, off := off }
def flushD (d : Dk) : Dk := if d.off = true then d else doneD d (doS d.I d.T d.S d.m) d.fuse false
def keepN (m : Nat) (keep : Int) : Nat := min (max keep 0).toNat m
/-- the first bytes -/
def headS (s : ByteArray) (tear : Int) : ByteArray := s.extract 0 (min tear.toNat s.size)
def crashS (d : Dk) (k : Nat) (tear : Int) : Nat → ByteArray := if k < d.m ∧ 0 ≤ tear then setS (doS d.I d.T d.S k) (d.I k) (headS (d.T k) tear) else doS d.I d.T d.S k
def crashD (d : Dk) (keep tear : Int) : Dk := doneD d (crashS d (keepN d.m keep) tear) (-1) false
def armD (d : Dk) (fuse : Int) : Dk := { d with fuse := if fuse < 0 then -1 else fuse }

/-- the bit r of 32, the highest one first, at its place in a byte -/
def bitB (bits : BitVec 32) (at_ r : Nat) : BitVec 8 := (BitVec.ofBool (bits.getLsbD (31 - r))).setWidth 8 <<< (7 - (at_ + r) % 8)
/-- r bits are turned round -/
def trn (f : Nat → BitVec 8) (bits : BitVec 32) (at_ : Nat) : Nat → Nat → BitVec 8
  | 0, c => f c
  | r + 1, c => if c = (at_ + r) / 8 then trn f bits at_ r c ^^^ bitB bits at_ r else trn f bits at_ r c
def mayBurst (d : Dk) (slot at_ : Int) : Bool := decide (hasB d.n slot = true ∧ 0 ≤ at_ ∧ at_ ≤ 8 * (d.S slot.toNat).size - 32)
def burstE (d : Dk) (slot at_ : Int) : Int := if mayBurst d slot at_ = true then 0 else 1
def turnS (s : ByteArray) (bits : BitVec 32) (at_ : Nat) : ByteArray := rs s.size (trn (bt s) bits at_ 32)
def burstD (d : Dk) (slot at_ : Int) (bits : BitVec 32) : Dk := if mayBurst d slot at_ = true then { d with S := setS d.S slot (turnS (d.S slot.toNat) bits at_.toNat) } else d

/-- two disks are the same -/
def SameD (a b : Dk) : Prop := StSame a.n a.S b.n b.S ∧ a.m = b.m ∧ (∀ i, i < a.m → a.I i = b.I i ∧ a.T i = b.T i) ∧ a.fuse = b.fuse ∧ a.off = b.off
instance (a b : Dk) : Decidable (SameD a b) := by unfold SameD; infer_instance
def sameB (a b : Dk) : Bool := decide (SameD a b)
theorem SameD.refl (a : Dk) : SameD a a := ⟨⟨rfl, fun _ _ => rfl⟩, rfl, fun _ _ => ⟨rfl, rfl⟩, rfl, rfl⟩
theorem same_self (a : Dk) : sameB a a = true := decide_eq_true (SameD.refl a)
theorem sameB_yes {a b : Dk} (h : SameD a b) : sameB a b = true := decide_eq_true h
theorem sameB_no {a b : Dk} (h : ¬ SameD a b) : sameB a b = false := decide_eq_false h

/-! ### what follows -/
section
variable {I : Nat → Int} {T S : Nat → ByteArray} {i : Int}
theorem setS_at {k : Nat} {t : ByteArray} : setS S (k : Int) t k = t := if_pos rfl
theorem setS_ne {j : Nat} {t : ByteArray} (h : (j : Int) ≠ i) : setS S i t j = S j := if_neg h
/-- a slot behind r writes -/
theorem doS_last : ∀ (r : Nat) (j : Nat), doS I T S r j = lastT I T j (S j) r
  | 0, _ => rfl
  | r + 1, j => by
    show (if (j : Int) = I r then T r else doS I T S r j) = if I r = (j : Int) then T r else lastT I T j (S j) r
    rw [doS_last r j]
    by_cases e : (j : Int) = I r
    · rw [if_pos e, if_pos e.symm]
    · rw [if_neg e, if_neg (fun h => e h.symm)]
theorem lastT_none {s : ByteArray} : ∀ (r : Nat), (∀ j, j < r → I j ≠ i) → lastT I T i s r = s
  | 0, _ => rfl
  | r + 1, h => by
    show (if I r = i then T r else lastT I T i s r) = s
    rw [if_neg (h r (by omega)), lastT_none r (fun j hj => h j (by omega))]
/-- a slot that no write waits for -/
theorem crash_other {d : Dk} {k : Nat} {tear : Int} {j : Nat} (hk : k ≤ d.m) (h : ∀ r, r < d.m → d.I r ≠ (j : Int)) : crashS d k tear j = d.S j := by
  have e : doS d.I d.T d.S k j = d.S j := by rw [doS_last, lastT_none k (fun r hr => h r (by omega))]
  unfold crashS
  by_cases c : k < d.m ∧ 0 ≤ tear
  · rw [if_pos c, setS_ne (fun hh => h k c.1 hh.symm), e]
  · rw [if_neg c, e]
end
theorem keepN_le (m : Nat) (keep : Int) : keepN m keep ≤ m := Nat.min_le_right _ _

/-! ### bits -/
/-- what r bits turn -/
def msk (bits : BitVec 32) (at_ : Nat) (r c : Nat) : BitVec 8 := trn (fun _ => 0#8) bits at_ r c
theorem trn_msk (f : Nat → BitVec 8) (bits : BitVec 32) (at_ : Nat) : ∀ r c, trn f bits at_ r c = f c ^^^ msk bits at_ r c
  | 0, c => by unfold msk trn; simp
  | r + 1, c => by
    have ih := trn_msk f bits at_ r c
    unfold msk
    show (if c = (at_ + r) / 8 then trn f bits at_ r c ^^^ bitB bits at_ r else trn f bits at_ r c) = f c ^^^ (if c = (at_ + r) / 8 then trn (fun _ => 0#8) bits at_ r c ^^^ bitB bits at_ r else trn (fun _ => 0#8) bits at_ r c)
    rw [ih]
    unfold msk
    by_cases e : c = (at_ + r) / 8
    · rw [if_pos e, if_pos e, BitVec.xor_assoc]
    · rw [if_neg e, if_neg e]
theorem trn_twice (f : Nat → BitVec 8) (bits : BitVec 32) (at_ c : Nat) : trn (trn f bits at_ 32) bits at_ 32 c = f c := by
  rw [trn_msk, trn_msk, BitVec.xor_assoc, BitVec.xor_self, BitVec.xor_zero]
theorem bitB_zero (at_ r : Nat) : bitB 0#32 at_ r = 0#8 := by
  unfold bitB; simp
theorem msk_zero (at_ : Nat) : ∀ r c, msk 0#32 at_ r c = 0#8
  | 0, _ => rfl
  | r + 1, c => by
    have ih := msk_zero at_ r c
    unfold msk at *
    show (if c = (at_ + r) / 8 then trn (fun _ => 0#8) 0#32 at_ r c ^^^ bitB 0#32 at_ r else trn (fun _ => 0#8) 0#32 at_ r c) = 0#8
    rw [ih, bitB_zero]
    by_cases e : c = (at_ + r) / 8
    · rw [if_pos e]; rfl
    · rw [if_neg e]
theorem bitB_bit (bits : BitVec 32) (at_ r p : Nat) (hp : p < 8) : (bitB bits at_ r).getLsbD p = (bits.getLsbD (31 - r) && decide (p = 7 - (at_ + r) % 8)) := by
  unfold bitB
  rw [BitVec.getLsbD_shiftLeft, BitVec.getLsbD_setWidth]
  have hq : (at_ + r) % 8 < 8 := Nat.mod_lt _ (by omega)
  generalize (at_ + r) % 8 = q at *
  by_cases e : p = 7 - q
  · subst e
    simp
    omega
  · simp [e]
    intro _ _
    by_cases e2 : p < 7 - q
    · omega
    · intro _
      have : p - (7 - q) ≠ 0 := by omega
      simp [this]
/-- the bit p of the byte c: which of 32 is it? -/
theorem msk_bit (bits : BitVec 32) (at_ : Nat) (c p : Nat) (hp : p < 8) : ∀ r, (msk bits at_ r c).getLsbD p = (decide (at_ ≤ 8 * c + (7 - p) ∧ 8 * c + (7 - p) < at_ + r) && bits.getLsbD (31 - (8 * c + (7 - p) - at_)))
  | 0 => by
    have e : decide (at_ ≤ 8 * c + (7 - p) ∧ 8 * c + (7 - p) < at_ + 0) = false := decide_eq_false (by omega)
    rw [e]
    unfold msk trn; simp
  | r + 1 => by
    have ih := msk_bit bits at_ c p hp r
    have hs : msk bits at_ (r + 1) c = if c = (at_ + r) / 8 then msk bits at_ r c ^^^ bitB bits at_ r else msk bits at_ r c := rfl
    rw [hs]
    by_cases e : c = (at_ + r) / 8
    · rw [if_pos e, BitVec.getLsbD_xor, ih, bitB_bit _ _ _ _ hp]
      by_cases e2 : p = 7 - (at_ + r) % 8
      · have e3 : 8 * c + (7 - p) = at_ + r := by omega
        rw [e3]
        have e4 : decide (at_ ≤ at_ + r ∧ at_ + r < at_ + r) = false := decide_eq_false (by omega)
        have e5 : decide (at_ ≤ at_ + r ∧ at_ + r < at_ + (r + 1)) = true := decide_eq_true (by omega)
        rw [e4, e5, show at_ + r - at_ = r by omega, decide_eq_true e2]
        simp
      · have e3 : 8 * c + (7 - p) ≠ at_ + r := by omega
        have e4 : decide (at_ ≤ 8 * c + (7 - p) ∧ 8 * c + (7 - p) < at_ + (r + 1)) = decide (at_ ≤ 8 * c + (7 - p) ∧ 8 * c + (7 - p) < at_ + r) := by rw [decide_eq_decide]; omega
        rw [e4, decide_eq_false e2]
        simp
    · rw [if_neg e, ih]
      have e3 : 8 * c + (7 - p) ≠ at_ + r := by omega
      have e4 : decide (at_ ≤ 8 * c + (7 - p) ∧ 8 * c + (7 - p) < at_ + (r + 1)) = decide (at_ ≤ 8 * c + (7 - p) ∧ 8 * c + (7 - p) < at_ + r) := by rw [decide_eq_decide]; omega
      rw [e4]
/-- only no bits turn nothing -/
theorem msk_none {bits : BitVec 32} {at_ n : Nat} (hn : at_ + 32 ≤ 8 * n) (h : ∀ c, c < n → msk bits at_ 32 c = 0#8) : bits = 0#32 := by
  apply BitVec.eq_of_getLsbD_eq
  intro j hj
  have hb := msk_bit bits at_ ((at_ + (31 - j)) / 8) (7 - (at_ + (31 - j)) % 8) (by omega) 32
  rw [h _ (by omega)] at hb
  have e1 : 8 * ((at_ + (31 - j)) / 8) + (7 - (7 - (at_ + (31 - j)) % 8)) = at_ + (31 - j) := by omega
  rw [e1, decide_eq_true (by omega), show 31 - (at_ + (31 - j) - at_) = j by omega] at hb
  simp at hb
  simp [hb]
theorem turn_twice (s : ByteArray) (bits : BitVec 32) (at_ : Nat) : turnS (turnS s bits at_) bits at_ = s := by
  unfold turnS
  rw [rs_size]
  refine Eq.trans (rs_congr rfl (fun c hc => ?_)) (rs_bt s)
  have hh : ∀ r, trn (bt (rs s.size (trn (bt s) bits at_ 32))) bits at_ r c = trn (trn (bt s) bits at_ 32) bits at_ r c := fun r => by
    rw [trn_msk, trn_msk (trn (bt s) bits at_ 32), bt_rs hc]
  rw [hh, trn_twice]
theorem turn_same {s : ByteArray} {bits : BitVec 32} {at_ : Nat} (h : at_ + 32 ≤ 8 * s.size) : turnS s bits at_ = s ↔ bits = 0#32 := by
  constructor
  · intro e
    refine msk_none h (fun c hc => ?_)
    have e2 := congrArg (fun t => bt t c) e
    simp only [turnS] at e2
    rw [bt_rs hc, trn_msk] at e2
    have := congrArg (fun x => bt s c ^^^ x) e2
    simp only [← BitVec.xor_assoc, BitVec.xor_self, BitVec.zero_xor] at this
    exact this
  · rintro rfl
    unfold turnS
    refine Eq.trans (rs_congr rfl (fun c _ => ?_)) (rs_bt s)
    rw [trn_msk, msk_zero, BitVec.xor_zero]
theorem turnS_size (s : ByteArray) (bits : BitVec 32) (at_ : Nat) : (turnS s bits at_).size = s.size := rs_size _ _
end Go.Proofs.Ytofafmjkjgiccaa.Mat


/- Disks in memory: their boxes, their rows, what calls answer. -/
namespace Go.Proofs.Ytofafmjkjgiccaa.Mat
open Go.RowKit Fld

/-! ### boxes of four cells -/
def four (p q r s : Value) (i : Nat) : Value := if i = 0 then p else if i = 1 then q else if i = 2 then r else s
/-- a disk's box -/
def Bx (w : World) (b : Nat) (p q r s : Value) : Prop := Has w b 39 4 (four p q r s)
def put4 (w : World) (b : Nat) (p q r s : Value) : World := (((w.setCell ⟨b, 0, none⟩ p).setCell ⟨b, 1, none⟩ q).setCell ⟨b, 2, none⟩ r).setCell ⟨b, 3, none⟩ s
section
variable {w w' w0 : World} {b B : Nat} {p q r s p' q' r' s' : Value}
theorem bx_new (w : World) (p q r s : Value) : Bx (w.alloc (.cells #[p, q, r, s] 39)) w.heap.size p q r s :=
  has_new w _ _ (fun i hi => by
    rcases (show i = 0 ∨ i = 1 ∨ i = 2 ∨ i = 3 by omega) with rfl | rfl | rfl | rfl <;> rfl)
theorem Bx.c0 (h : Bx w b p q r s) : w.cell? ⟨b, 0, none⟩ = some p := Has.cell h (by omega)
theorem Bx.c1 (h : Bx w b p q r s) : w.cell? ⟨b, 1, none⟩ = some q := Has.cell h (by omega)
theorem Bx.c2 (h : Bx w b p q r s) : w.cell? ⟨b, 2, none⟩ = some r := Has.cell h (by omega)
theorem Bx.c3 (h : Bx w b p q r s) : w.cell? ⟨b, 3, none⟩ = some s := Has.cell h (by omega)
theorem Bx.cells (h : Bx w b p q r s) : w.cell? ⟨b, 0, none⟩ = some p ∧ w.cell? ⟨b, 1, none⟩ = some q ∧ w.cell? ⟨b, 2, none⟩ = some r ∧ w.cell? ⟨b, 3, none⟩ = some s := ⟨h.c0, h.c1, h.c2, h.c3⟩
theorem Bx.free (h : Bx w b p q r s) : w.frozen? ⟨b, 0, none⟩ = false ∧ w.frozen? ⟨b, 1, none⟩ = false ∧ w.frozen? ⟨b, 2, none⟩ = false ∧ w.frozen? ⟨b, 3, none⟩ = false :=
  ⟨Has.frozen h (by omega), Has.frozen h (by omega), Has.frozen h (by omega), Has.frozen h (by omega)⟩
theorem Bx.lt_ (h : Bx w b p q r s) : b < w.heap.size := Has.lt h
theorem Bx.up (h : Bx w b p q r s) (hb : Below w.heap.size w w') : Bx w' b p q r s := Has.below h hb (Has.lt h)
theorem Bx.alloc (h : Bx w b p q r s) (o : Obj) : Bx (w.alloc o) b p q r s := Has.alloc h o
theorem Bx.drewN (h : Bx w b p q r s) (k : Nat) : Bx (w.drewN k) b p q r s := h
theorem Bx.drew (h : Bx w b p q r s) : Bx w.drew b p q r s := h
theorem Bx.grown {row : Option Nat} (h : Bx w b p q r s) (hg : w.grownBy w' row) (hne : some b ≠ row) : Bx w' b p q r s := Has.grown h hg hne
theorem Bx.set0 (h : Bx w b p q r s) (v : Value) : Bx (w.setCell ⟨b, 0, none⟩ v) b v q r s := (Has.set_ h 0 v).congr (fun i hi => by
  rcases (show i = 0 ∨ i = 1 ∨ i = 2 ∨ i = 3 by omega) with rfl | rfl | rfl | rfl <;> rfl)
theorem Bx.set1 (h : Bx w b p q r s) (v : Value) : Bx (w.setCell ⟨b, 1, none⟩ v) b p v r s := (Has.set_ h 1 v).congr (fun i hi => by
  rcases (show i = 0 ∨ i = 1 ∨ i = 2 ∨ i = 3 by omega) with rfl | rfl | rfl | rfl <;> rfl)
theorem Bx.set2 (h : Bx w b p q r s) (v : Value) : Bx (w.setCell ⟨b, 2, none⟩ v) b p q v s := (Has.set_ h 2 v).congr (fun i hi => by
  rcases (show i = 0 ∨ i = 1 ∨ i = 2 ∨ i = 3 by omega) with rfl | rfl | rfl | rfl <;> rfl)
theorem Bx.set3 (h : Bx w b p q r s) (v : Value) : Bx (w.setCell ⟨b, 3, none⟩ v) b p q r v := (Has.set_ h 3 v).congr (fun i hi => by
  rcases (show i = 0 ∨ i = 1 ∨ i = 2 ∨ i = 3 by omega) with rfl | rfl | rfl | rfl <;> rfl)
theorem Bx.setOther (h : Bx w b p q r s) {a : Addr} (ha : b ≠ a.block) (v : Value) : Bx (w.setCell a v) b p q r s := Has.setOther h ha v
theorem Bx.put (h : Bx w b p q r s) (p' q' r' s' : Value) : Bx (put4 w b p' q' r' s') b p' q' r' s' := (((h.set0 p').set1 q').set2 r').set3 s'
theorem Bx.putOther {b' : Nat} (h : Bx w b p q r s) (hne : b ≠ b') (p' q' r' s' : Value) : Bx (put4 w b' p' q' r' s') b p q r s :=
  (((h.setOther (a := ⟨b', 0, none⟩) hne _).setOther (a := ⟨b', 1, none⟩) hne _).setOther (a := ⟨b', 2, none⟩) hne _).setOther (a := ⟨b', 3, none⟩) hne _
theorem put4_below (h : Below B w0 w) (hb : B ≤ b) (p q r s : Value) : Below B w0 (put4 w b p q r s) :=
  (((h.setCell (p := ⟨b, 0, none⟩) hb _).setCell (p := ⟨b, 1, none⟩) hb _).setCell (p := ⟨b, 2, none⟩) hb _).setCell (p := ⟨b, 3, none⟩) hb _
theorem put4_size (w : World) (b : Nat) (p q r s : Value) : (put4 w b p q r s).heap.size = w.heap.size := by simp [put4, World.setCell]
end
/-- the frame of a call with two boxes -/
structure D2 (w wr : World) (p q r s p' q' r' s' : Value) : Prop where
  below : Below w.heap.size w wr
  x : Bx wr w.heap.size p q r s
  z : Bx wr (w.heap.size + 1) p' q' r' s'
section
variable {w wr w2 : World} {p q r s p' q' r' s' : Value}
theorem D2.start (w : World) (p q r s p' q' r' s' : Value) : D2 w ((w.alloc (.cells #[p, q, r, s] 39)).alloc (.cells #[p', q', r', s'] 39)) p q r s p' q' r' s' where
  below := ((Below.refl _ _).alloc (Nat.le_refl _) _).alloc (by rw [size_alloc]; omega) _
  x := (bx_new w _ _ _ _).alloc _
  z := by
    have := bx_new (w.alloc (.cells #[p, q, r, s] 39)) p' q' r' s'
    rwa [size_alloc] at this
theorem D2.up (h : D2 w wr p q r s p' q' r' s') (hb : Below wr.heap.size wr w2) : D2 w w2 p q r s p' q' r' s' := ⟨up_trans h.below hb, h.x.up hb, h.z.up hb⟩
theorem D2.drew (h : D2 w wr p q r s p' q' r' s') : D2 w wr.drew p q r s p' q' r' s' := ⟨h.below.drew, h.x, h.z⟩
theorem D2.drewN (h : D2 w wr p q r s p' q' r' s') (k : Nat) : D2 w (wr.drewN k) p q r s p' q' r' s' := ⟨below_drewN h.below k, h.x, h.z⟩
theorem D2.alloc (h : D2 w wr p q r s p' q' r' s') (o : Obj) : D2 w (wr.alloc o) p q r s p' q' r' s' := ⟨h.below.alloc h.below.size o, h.x.alloc o, h.z.alloc o⟩
theorem D2.grown {row : Option Nat} (h : D2 w wr p q r s p' q' r' s') (hg : wr.grownBy w2 row) (hr : ∀ k, row = some k → w.heap.size ≤ k) (hx : row ≠ some w.heap.size) (hz : row ≠ some (w.heap.size + 1)) : D2 w w2 p q r s p' q' r' s' :=
  ⟨h.below.grown hg h.below.size hr, h.x.grown hg (fun e => hx e.symm), h.z.grown hg (fun e => hz e.symm)⟩
theorem D2.putx (h : D2 w wr p q r s p' q' r' s') (a b c d : Value) : D2 w (put4 wr w.heap.size a b c d) a b c d p' q' r' s' := ⟨put4_below h.below (by omega) _ _ _ _, h.x.put _ _ _ _, h.z.putOther (by omega) _ _ _ _⟩
theorem D2.putz (h : D2 w wr p q r s p' q' r' s') (a b c d : Value) : D2 w (put4 wr (w.heap.size + 1) a b c d) p q r s a b c d := ⟨put4_below h.below (by omega) _ _ _ _, h.x.putOther (by omega) _ _ _ _, h.z.put _ _ _ _⟩
theorem D2.x0 (h : D2 w wr p q r s p' q' r' s') (v : Value) : D2 w (wr.setCell ⟨w.heap.size, 0, none⟩ v) v q r s p' q' r' s' := ⟨h.below.setCell (p := ⟨w.heap.size, 0, none⟩) (Nat.le_refl _) v, h.x.set0 v, h.z.setOther (by show w.heap.size + 1 ≠ w.heap.size; omega) v⟩
theorem D2.x1 (h : D2 w wr p q r s p' q' r' s') (v : Value) : D2 w (wr.setCell ⟨w.heap.size, 1, none⟩ v) p v r s p' q' r' s' := ⟨h.below.setCell (p := ⟨w.heap.size, 1, none⟩) (Nat.le_refl _) v, h.x.set1 v, h.z.setOther (by show w.heap.size + 1 ≠ w.heap.size; omega) v⟩
theorem D2.x2 (h : D2 w wr p q r s p' q' r' s') (v : Value) : D2 w (wr.setCell ⟨w.heap.size, 2, none⟩ v) p q v s p' q' r' s' := ⟨h.below.setCell (p := ⟨w.heap.size, 2, none⟩) (Nat.le_refl _) v, h.x.set2 v, h.z.setOther (by show w.heap.size + 1 ≠ w.heap.size; omega) v⟩
theorem D2.x3 (h : D2 w wr p q r s p' q' r' s') (v : Value) : D2 w (wr.setCell ⟨w.heap.size, 3, none⟩ v) p q r v p' q' r' s' := ⟨h.below.setCell (p := ⟨w.heap.size, 3, none⟩) (Nat.le_refl _) v, h.x.set3 v, h.z.setOther (by show w.heap.size + 1 ≠ w.heap.size; omega) v⟩
end

/-! ### the result, in a box -/
theorem results_disk {fn : Func} {t : Tmp} (h : fn.results = #[.cell t 39]) (tmps : Array Value) (w : World) (g : Nat) {p q r s : Value} (hp : tmps.getD t undef = .pointer (some ⟨g, 0, none⟩)) (hc : Bx w g p q r s) : (results fn tmps).run Try.prog w = .ok (.agg #[p, q, r, s]) w := by
  have hp' : tmps[t]?.getD undef = .pointer (some ⟨g, 0, none⟩) := by simpa using hp
  obtain ⟨c0, c1, c2, c3⟩ := hc.cells
  simp [results, h, hp', asAddr, go_sem, c0, c1, c2, c3]
theorem results_disk_err {fn : Func} {t u : Tmp} (h : fn.results = #[.cell t 39, .tmp u]) (tmps : Array Value) (w : World) (g : Nat) {p q r s : Value} (hp : tmps.getD t undef = .pointer (some ⟨g, 0, none⟩)) (hc : Bx w g p q r s) :
    (results fn tmps).run Try.prog w = .ok (.tuple #[.agg #[p, q, r, s], tmps.getD u undef]) w := by
  have hp' : tmps[t]?.getD undef = .pointer (some ⟨g, 0, none⟩) := by simpa using hp
  obtain ⟨c0, c1, c2, c3⟩ := hc.cells
  simp [results, h, hp', asAddr, go_sem, c0, c1, c2, c3]

/-! ### writes that wait -/
theorem add_pos (a : Addr) (n : Nat) (h : n ≠ 0) : a.add n = ⟨a.block, a.off + n, none⟩ := if_neg h
def Pc (w : World) (B : Nat) (A : Option Addr) (n : Nat) (I : Nat → Int) (S : Nat → ByteArray) : Prop :=
  0 < n → ∃ ad, A = some ad ∧ ad.block < B ∧ ∀ r, r < n → w.cell? (ad.add (r * 2)) = some (.int .i64 (I r)) ∧ w.cell? (ad.add (r * 2 + 1)) = some (.string (S r))
section
variable {w w' : World} {B B' n : Nat} {A : Option Addr} {I I' : Nat → Int} {S S' : Nat → ByteArray}
theorem Pc.below (h : Pc w B A n I S) (hb : Below B w w') (hB : B ≤ B') : Pc w' B' A n I S := fun hn => by
  obtain ⟨ad, e, hl, hc⟩ := h hn
  exact ⟨ad, e, by omega, fun r hr => ⟨(hb.cell (by rw [block_of_add]; exact hl)).trans (hc r hr).1, (hb.cell (by rw [block_of_add]; exact hl)).trans (hc r hr).2⟩⟩
theorem Pc.up (h : Pc w w.heap.size A n I S) (hb : Below w.heap.size w w') : Pc w' w'.heap.size A n I S := h.below hb hb.size
theorem Pc.at_ (h : Pc w B A n I S) {r : Nat} (hr : r < n) :
    ∃ ad, A = some ad ∧ ad.block < B ∧ w.cell? (ad.add (r * 2)) = some (.int .i64 (I r)) ∧ w.cell? ⟨(ad.add (r * 2)).block, (ad.add (r * 2)).off + 1, none⟩ = some (.string (S r)) := by
  obtain ⟨ad, e, hl, hc⟩ := h (by omega)
  exact ⟨ad, e, hl, (hc r hr).1, by rw [← add_pos _ _ (by omega), add_add]; exact (hc r hr).2⟩
theorem Pc.congr (h : Pc w B A n I S) (e : ∀ i, i < n → I i = I' i ∧ S i = S' i) : Pc w B A n I' S' := fun hn => by
  obtain ⟨ad, h1, h2, h3⟩ := h hn
  exact ⟨ad, h1, h2, fun r hr => by rw [← (e r hr).1, ← (e r hr).2]; exact h3 r hr⟩
theorem Pc.drewN (h : Pc w B A n I S) (k : Nat) : Pc (w.drewN k) B A n I S := h
end
theorem infoWrite : (Try.prog.info? 102).map (fun i => (i.zero, i.size, i.bytes)) = some (some (.agg #[.int .i64 0, .string ByteArray.empty]), 2, 24) := by kernel_rfl
/-- the cells of n writes, of n texts -/
def pcs (I : Nat → Int) (S : Nat → ByteArray) : Nat → List Value
  | 0 => []
  | n + 1 => pcs I S n ++ [.int .i64 (I n), .string (S n)]
theorem pcs_len (I : Nat → Int) (S : Nat → ByteArray) : ∀ n, (pcs I S n).length = n * 2
  | 0 => rfl
  | n + 1 => by
    unfold pcs
    rw [List.length_append, pcs_len I S n]
    simp only [List.length_cons, List.length_nil]
    omega
theorem pcs_at (I : Nat → Int) (S : Nat → ByteArray) : ∀ {n r : Nat}, r < n → (pcs I S n)[r * 2]? = some (.int .i64 (I r)) ∧ (pcs I S n)[r * 2 + 1]? = some (.string (S r))
  | n + 1, r, h => by
    unfold pcs
    by_cases e : r = n
    · subst e
      rw [List.getElem?_append_right (by rw [pcs_len]; omega), List.getElem?_append_right (by rw [pcs_len]; omega), pcs_len]
      rw [show r * 2 - r * 2 = 0 by omega, show r * 2 + 1 - r * 2 = 1 by omega]
      exact ⟨rfl, rfl⟩
    · rw [List.getElem?_append_left (by rw [pcs_len]; omega), List.getElem?_append_left (by rw [pcs_len]; omega)]
      exact pcs_at I S (by omega)
theorem pcs_one (I : Nat → Int) (S : Nat → ByteArray) : ∀ n, ∀ u ∈ pcs I S n, u.oneCell' = true
  | 0, u, h => by cases h
  | n + 1, u, h => by
    unfold pcs at h
    rcases List.mem_append.1 h with h | h
    · exact pcs_one I S n u h
    · simp only [List.mem_cons, List.not_mem_nil, or_false] at h
      rcases h with rfl | rfl <;> rfl
theorem pcs_congr {I I' : Nat → Int} {S S' : Nat → ByteArray} : ∀ {n : Nat}, (∀ i, i < n → I i = I' i ∧ S i = S' i) → pcs I S n = pcs I' S' n
  | 0, _ => rfl
  | n + 1, h => by
    unfold pcs
    rw [pcs_congr (fun i hi => h i (by omega)), (h n (by omega)).1, (h n (by omega)).2]
def strs (S : Nat → ByteArray) (n : Nat) : List Value := (List.range n).map (fun i => .string (S i))
theorem strs_len (S : Nat → ByteArray) (n : Nat) : (strs S n).length = n := by unfold strs; simp
theorem strs_at {S : Nat → ByteArray} {n i : Nat} (h : i < n) : (strs S n)[i]? = some (.string (S i)) := by unfold strs; simp [h]
theorem strs_one (S : Nat → ByteArray) (n : Nat) : ∀ u ∈ strs S n, u.oneCell' = true := by
  intro u hu
  unfold strs at hu
  obtain ⟨c, _, rfl⟩ := List.mem_map.1 hu
  rfl
/-- what is read there is what is copied -/
theorem St.news {w : World} {B n : Nat} {ad : Addr} {S : Nat → ByteArray} (h : St w B (some ad) n S) : ∀ j u, (strs S n)[j]? = some u → w.cell? (ad.add j) = some u := by
  intro j u hu
  have hj : j < n := by
    rcases Nat.lt_or_ge j n with h | h
    · exact h
    · rw [List.getElem?_eq_none (by rw [strs_len]; exact h)] at hu; cases hu
  obtain ⟨a, e, _, hc⟩ := h.at_ hj
  injection e with e
  subst e
  rw [strs_at hj] at hu
  rw [hc, hu]
theorem Pc.news {w : World} {B n : Nat} {ad : Addr} {I : Nat → Int} {S : Nat → ByteArray} (h : Pc w B (some ad) n I S) : ∀ j u, (pcs I S n)[j]? = some u → w.cell? (ad.add j) = some u := by
  intro j u hu
  have hj : j < n * 2 := by
    rcases Nat.lt_or_ge j (n * 2) with h | h
    · exact h
    · rw [List.getElem?_eq_none (by rw [pcs_len]; exact h)] at hu; cases hu
  obtain ⟨a, e, _, hc⟩ := h (by omega)
  injection e with e
  subst e
  obtain ⟨c0, c1⟩ := hc (j / 2) (by omega)
  obtain ⟨p0, p1⟩ := pcs_at I S (n := n) (r := j / 2) (by omega)
  rcases (show j = j / 2 * 2 ∨ j = j / 2 * 2 + 1 by omega) with e | e
  · rw [e] at hu ⊢
    rw [p0] at hu
    rw [c0, hu]
  · rw [e] at hu ⊢
    rw [p1] at hu
    rw [c1, hu]
/-- rows of a call's own, as they are read -/
theorem own_pc {a : World} {base n k : Nat} {B : Option Addr} {I : Nat → Int} {S : Nat → ByteArray} (h : a.ownsRow base 102 2 (.slice B n k) n (pcs I S n)) : Pc a a.heap.size B n I S := fun hn => by
  obtain ⟨g, cap, e, hg, hlt⟩ := h.form hn
  injection e with e1 e2 e3
  subst e1 e3
  refine ⟨_, rfl, hlt, fun r hr => ?_⟩
  obtain ⟨q0, q1⟩ := pcs_at I S hr
  rw [add_lit, add_lit, h.cellAt _ (by omega), h.cellAt _ (by omega), q0, q1]
  exact ⟨rfl, rfl⟩
/-- slots that may be written, at or above base -/
def Sl (w : World) (base : Nat) (A : Option Addr) (n : Nat) (S : Nat → ByteArray) : Prop := 0 < n → ∃ b, A = some ⟨b, 0, none⟩ ∧ base ≤ b ∧ Has w b 9 n (fun i => .string (S i))
theorem own_sl {a : World} {base n c : Nat} {A : Option Addr} {S : Nat → ByteArray} (h : a.ownsRow base 9 1 (.slice A n c) n (strs S n)) : Sl a base A n S := fun hn => by
  obtain ⟨b, e, hb, _, _, hh⟩ := Has.of_owns h hn (f := fun i => .string (S i)) (fun i hi => strs_at hi)
  exact ⟨b, e, hb, hh⟩
section
variable {w w' : World} {base base' n : Nat} {A : Option Addr} {S S' : Nat → ByteArray}
theorem Sl.st (h : Sl w base A n S) : St w w.heap.size A n S := fun hn => by
  obtain ⟨b, rfl, _, hh⟩ := h hn
  exact St.of_has hh hh.lt hn
theorem Sl.up (h : Sl w base A n S) (hb : Below w.heap.size w w') : Sl w' base A n S := fun hn => by
  obtain ⟨b, e, h1, hh⟩ := h hn
  exact ⟨b, e, h1, hh.below hb hh.lt⟩
theorem Sl.lower (h : Sl w base A n S) (hb : base' ≤ base) : Sl w base' A n S := fun hn => by
  obtain ⟨b, e, h1, hh⟩ := h hn
  exact ⟨b, e, by omega, hh⟩
theorem Sl.congr (h : Sl w base A n S) (e : ∀ i, i < n → S i = S' i) : Sl w base A n S' := fun hn => by
  obtain ⟨b, e1, h1, hh⟩ := h hn
  exact ⟨b, e1, h1, hh.congr (fun i hi => by rw [e i hi])⟩
/-- a box isn't among the slots -/
theorem Sl.ne {t k b : Nat} {F : Nat → Value} (h : Sl w base A n S) (hb : Has w b t k F) (ht : t ≠ 9) : ∀ g, 0 < n → A.map (·.block) = some g → g ≠ b := by
  intro g hn hg
  obtain ⟨b', rfl, _, hh⟩ := h hn
  injection hg with hg
  subst hg
  exact fun e => (hb.ne_ hh ht) e.symm
end
/-- the block of slots -/
def blk (A : Option Addr) (n : Nat) : Option Nat := if 0 < n then A.map (·.block) else none
theorem Sl.blk {w : World} {base n : Nat} {A : Option Addr} {S : Nat → ByteArray} (h : Sl w base A n S) : ∀ g, blk A n = some g → base ≤ g ∧ g < w.heap.size := by
  intro g hg
  unfold Mat.blk at hg
  by_cases hn : 0 < n
  · rw [if_pos hn] at hg
    obtain ⟨b, rfl, h1, hh⟩ := h hn
    injection hg with hg
    subst hg
    exact ⟨h1, hh.lt⟩
  · rw [if_neg hn] at hg; cases hg
theorem Sl.blk_ne {w : World} {base n t k b : Nat} {A : Option Addr} {S : Nat → ByteArray} {F : Nat → Value} (h : Sl w base A n S) (hb : Has w b t k F) (ht : t ≠ 9) : some b ≠ Mat.blk A n := by
  intro e
  unfold Mat.blk at e
  by_cases hn : 0 < n
  · rw [if_pos hn] at e
    exact h.ne hb ht b hn e.symm rfl
  · rw [if_neg hn] at e; cases e

/-! ### disks -/
/-- sizes -/
structure Sz (d : Dk) : Prop where
  bn : d.n * 16 ≤ 140737488351232
  bm : d.m * 24 ≤ 140737488355328
  zs : ∀ i, i < d.n → (d.S i).size ≤ 140737488351232
  zt : ∀ i, i < d.m → (d.T i).size ≤ 140737488351232
  fl : -9223372036854775808 ≤ d.fuse
  fh : d.fuse ≤ 9223372036854775807
/-- how a disk lies in memory -/
structure DOk (w : World) (A : Option Addr) (c : Nat) (B : Option Addr) (k : Nat) (d : Dk) : Prop where
  st : St w w.heap.size A d.n d.S
  pc : Pc w w.heap.size B d.m d.I d.T
  fa : Fit A d.n c
  fb : Fit B d.m k
  sz : Sz d
theorem DOk.up {w w' : World} {A B : Option Addr} {c k : Nat} {d : Dk} (h : DOk w A c B k d) (hb : Below w.heap.size w w') : DOk w' A c B k d := ⟨h.st.up hb, h.pc.up hb, h.fa, h.fb, h.sz⟩
/-- a disk's value -/
@[reducible] def dv (A : Option Addr) (n c : Nat) (B : Option Addr) (m k : Nat) (f : Int) (o : Bool) : Value := .agg #[.slice A n c, .slice B m k, .int .i64 f, .bool o]
/-- a call answers a disk and an error; a disk; a text and an error -/
def DErr (w : World) (D : Dk) (E : Int) (e : Ending) (w' : World) : Prop :=
  ∃ A c B k, e = .returned (.tuple #[.agg #[.slice A D.n c, .slice B D.m k, .int .i64 D.fuse, .bool D.off], .int .i64 E]) ∧ DOk w' A c B k D ∧ Below w.heap.size w w'
def DRet (w : World) (D : Dk) (e : Ending) (w' : World) : Prop :=
  ∃ A c B k, e = .returned (.agg #[.slice A D.n c, .slice B D.m k, .int .i64 D.fuse, .bool D.off]) ∧ DOk w' A c B k D ∧ Below w.heap.size w w'
def TxtRet (w : World) (E : Int) (s : ByteArray) (e : Ending) (w' : World) : Prop := e = .returned (.tuple #[.string s, .int .i64 E]) ∧ Below w.heap.size w w'
/-- a call answers nothing, and has written slots -/
def WroteRet (w : World) (base : Nat) (A : Option Addr) (n : Nat) (S : Nat → ByteArray) (e : Ending) (w' : World) : Prop := e = .returned (.tuple #[]) ∧ Sl w' base A n S ∧ w.grownBy w' (blk A n)
/-- a call answers a disk with rows of its own -/
def OwnRet (w : World) (d : Dk) (e : Ending) (w' : World) : Prop :=
  ∃ A c B k, e = .returned (.agg #[.slice A d.n c, .slice B d.m k, .int .i64 d.fuse, .bool d.off]) ∧ Fit A d.n c ∧ w'.ownsRow w.heap.size 9 1 (.slice A d.n c) d.n (strs d.S d.n) ∧ w'.ownsRow w.heap.size 102 2 (.slice B d.m k) d.m (pcs d.I d.T d.m) ∧ Below w.heap.size w w'
end Go.Proofs.Ytofafmjkjgiccaa.Mat


/- Is there such a slot? One write, many, a torn one: walked. -/
namespace Go.Proofs.Ytofafmjkjgiccaa.Mat
open Go.RowKit Fld

set_option maxRecDepth 100000 in
theorem has_any (A : Option Addr) (n c : Nat) (slot : Int) (w : World) :
    Calls Try.prog 70 #[.slice A n c, .int .i64 slot] w fun e w' => e = .returned (.bool (hasB n slot)) ∧ w = w' := by
  by_cases h0 : 0 ≤ slot
  · have g1 : decide (slot ≥ 0) = true := decide_eq_true h0
    have g2 : decide (slot < (n : Int)) = hasB n slot := by unfold hasB; rw [decide_eq_decide]; omega
    generalize hasB n slot = b at g2 ⊢
    clear h0
    go_enter Try.func70, Try.ntmps70
    go_wp2
    go_ret
    exact ⟨ret_bool (by first | rfl | simp_all), rfl⟩
  · have g1 : decide (slot ≥ 0) = false := decide_eq_false h0
    rw [hasB_no (fun h => h0 h.1)]
    clear h0
    go_enter Try.func70, Try.ntmps70
    go_wp2
    go_ret
    exact ⟨rfl, rfl⟩

/-- a write in a box of its own -/
def cell2 (i : Int) (s : ByteArray) (j : Nat) : Value := if j = 0 then .int .i64 i else .string s
theorem has_write (w : World) (i : Int) (s : ByteArray) : Has (w.alloc (.cells #[.int .i64 i, .string s] 102)) w.heap.size 102 2 (cell2 i s) :=
  has_new w _ _ (fun j hj => by
    have : j = 0 ∨ j = 1 := by omega
    rcases this with rfl | rfl <;> rfl)

section
variable {A B : Option Addr} {n c k base : Nat} {S T : Nat → ByteArray} {I : Nat → Int} {w : World}
theorem Sl.put {i : Nat} {b : Nat} {t : ByteArray} (h : Has w b 9 n (fun i => .string (S i))) : Has (w.setCell ⟨b, i, none⟩ (.string t)) b 9 n (fun j => .string (setS S (i : Int) t j)) :=
  (h.set_ i _).congr (fun j _ => by
    unfold setS
    by_cases e : j = i
    · rw [if_pos e, if_pos (by omega)]
    · rw [if_neg e, if_neg (by omega)])
end
end Go.Proofs.Ytofafmjkjgiccaa.Mat


/- Writes are done; a write is torn; rows are copied: walked. -/
namespace Go.Proofs.Ytofafmjkjgiccaa.Mat
open Go.RowKit Fld

theorem Sl.drewN {w : World} {base n : Nat} {A : Option Addr} {S : Nat → ByteArray} (h : Sl w base A n S) (q : Nat) : Sl (w.drewN q) base A n S := h
theorem results_write {fn : Func} {t : Tmp} (h : fn.results = #[.cell t 102]) (tmps : Array Value) (w : World) (g : Nat) {i : Int} {s : ByteArray} (hp : tmps.getD t undef = .pointer (some ⟨g, 0, none⟩)) (hc : Has w g 102 2 (cell2 i s)) :
    (results fn tmps).run Try.prog w = .ok (.agg #[.int .i64 i, .string s]) w := by
  have hp' : tmps[t]?.getD undef = .pointer (some ⟨g, 0, none⟩) := by simpa using hp
  have c0 : w.cell? ⟨g, 0, none⟩ = some (.int .i64 i) := hc.cell (by omega)
  have c1 : w.cell? ⟨g, 1, none⟩ = some (.string s) := hc.cell (by omega)
  simp [results, h, hp', asAddr, go_sem, c0, c1]
def WriteRet (w : World) (i : Int) (s : ByteArray) (e : Ending) (w' : World) : Prop := e = .returned (.agg #[.int .i64 i, .string s]) ∧ Below w.heap.size w w'
theorem cell2_put {w : World} {g : Nat} {i j : Int} {s t : ByteArray} (h : Has w g 102 2 (cell2 i s)) : Has ((w.setCell ⟨g, 0, none⟩ (.int .i64 j)).setCell ⟨g, 1, none⟩ (.string t)) g 102 2 (cell2 j t) :=
  ((h.set_ 0 _).set_ 1 _).congr (fun i hi => by
    rcases (show i = 0 ∨ i = 1 by omega) with rfl | rfl <;> rfl)

section
variable {A B : Option Addr} {n m c k base : Nat} {S T : Nat → ByteArray} {I : Nat → Int} {w : World}
end
end Go.Proofs.Ytofafmjkjgiccaa.Mat


/- Rows of texts and of writes, copied: walked. -/
namespace Go.Proofs.Ytofafmjkjgiccaa.Mat
open Go.RowKit Fld

/-- a row of a call's own, in its form -/
def RowRet (w : World) (e : TypeId) (size n : Nat) (l : List Value) (x : Ending) (w' : World) : Prop :=
  ∃ A c, x = .returned (.slice A n c) ∧ Fit A n c ∧ w'.ownsRow w.heap.size e size (.slice A n c) n l ∧ Below w.heap.size w w'
theorem own_form {w : World} {base n size : Nat} {e : TypeId} {v : Value} {l : List Value} (h : w.ownsRow base e size v n l) : ∃ A c, v = .slice A n c ∧ Fit A n c := by
  rcases Go.Joins.ownsRow_forms h with ⟨rfl, rfl⟩ | ⟨g, cap, rfl⟩
  · exact ⟨none, 0, rfl, own_fit h⟩
  · exact ⟨_, cap, rfl, own_fit h⟩
section
variable {A : Option Addr} {n c B : Nat} {S T : Nat → ByteArray} {I : Nat → Int} {w : World}
theorem lit_own (w : World) (base : Nat) (hb : base ≤ w.heap.size) (e : TypeId) (size : Nat) : (w.alloc (.cells #[] e)).ownsRow base e size (.slice (some ⟨w.heap.size, 0, none⟩) 0 0) 0 [] := World.ownsRow_lit w #[] 0 hb (Nat.zero_le _) (by simp)
set_option maxRecDepth 100000 in
set_option maxHeartbeats 800000 in
theorem cloneS_any (h : St w w.heap.size A n S) (hf : Fit A n c) (hn : n * 16 ≤ 140737488355328) : Calls Try.prog 67 #[.slice A n c] w (RowRet w 9 1 n (strs S n)) := by
  obtain ⟨i0, hi0, hz0, hz1, hz2⟩ := info_parts infoStr
  have qT : ∀ (w : World) (a : Option Addr) (n c n' c' : Nat), (binOp .eql 36 (.slice a n c) (.slice none n' c')).run Try.prog w = .ok (.bool a.isNone) w := fun w a n c n' c' => Lib.run_eql_slice_nil w _ _ a n c n' c' Try.underlying36
  cases A with
  | none =>
    obtain ⟨f1, f2⟩ := hf
    have hc0 := f2 rfl
    obtain rfl : c = 0 := hc0
    obtain rfl : n = 0 := by omega
    clear h f1 f2
    go_enter Try.func67, Try.ntmps67
    go_wp2
    go_ret
    exact ⟨none, 0, rfl, ⟨Nat.le_refl _, fun _ => rfl⟩, World.ownsRow_nil _ _ _ _, Below.refl _ _⟩
  | some ad =>
    have hb := (Below.refl w.heap.size w).alloc (Nat.le_refl _) (.cells #[] 9)
    have hs := h.up hb
    have HS := Lib.hid hs
    have HB := Lib.hid hb
    have HNN := Lib.hid hn
    clear h hb hs hf hn
    go_enter Try.func67, Try.ntmps67
    go_wp2_with (at_builtin; refine wpList_append_own _ rfl (.tmp 5) (.tmp 6) 36 rfl w.heap.size 9 i0 (.string ByteArray.empty) 1 16 Try.underlying36 hi0 hz0 hz1 hz2 rfl (by decide) _ _ _ rfl (lit_own w w.heap.size (Nat.le_refl _) _ _) ad n c (strs S n) rfl (by rw [strs_len]; omega) HS.out.news (strs_one _ _) (by have := HNN.out; unfold maxLen; omega) (by have := HNN.out; omega) (by rw [size_alloc]; omega) ?_)
    intro v' w' hown hgrow _
    obtain ⟨A', c', rfl, hf⟩ := own_form hown
    have HO := Lib.hid hown
    have HF := Lib.hid hf
    have HBB : Hid (Below w.heap.size w w') := Lib.hid (HB.out.grown hgrow HB.out.size (fun k hk => by
      injection hk with hk
      subst hk
      exact Nat.le_refl _))
    clear hown hgrow hf
    go_wp2
    go_ret
    exact ⟨_, _, rfl, HF.out, HO.out, HBB.out⟩
set_option maxRecDepth 100000 in
set_option maxHeartbeats 800000 in
theorem cloneW_any (h : Pc w w.heap.size A n I T) (hf : Fit A n c) (hn : n * 24 ≤ 140737488355328) : Calls Try.prog 68 #[.slice A n c] w (RowRet w 102 2 n (pcs I T n)) := by
  obtain ⟨i0, hi0, hz0, hz1, hz2⟩ := info_parts infoWrite
  have qT : ∀ (w : World) (a : Option Addr) (n c n' c' : Nat), (binOp .eql 37 (.slice a n c) (.slice none n' c')).run Try.prog w = .ok (.bool a.isNone) w := fun w a n c n' c' => Lib.run_eql_slice_nil w _ _ a n c n' c' Try.underlying37
  cases A with
  | none =>
    obtain ⟨f1, f2⟩ := hf
    have hc0 := f2 rfl
    obtain rfl : c = 0 := hc0
    obtain rfl : n = 0 := by omega
    clear h f1 f2
    go_enter Try.func68, Try.ntmps68
    go_wp2
    go_ret
    exact ⟨none, 0, rfl, ⟨Nat.le_refl _, fun _ => rfl⟩, World.ownsRow_nil _ _ _ _, Below.refl _ _⟩
  | some ad =>
    have hb := (Below.refl w.heap.size w).alloc (Nat.le_refl _) (.cells #[] 102)
    have hs := h.up hb
    have HS := Lib.hid hs
    have HB := Lib.hid hb
    have HNN := Lib.hid hn
    clear h hb hs hf hn
    go_enter Try.func68, Try.ntmps68
    go_wp2_with (at_builtin; refine wpList_append_own _ rfl (.tmp 5) (.tmp 6) 37 rfl w.heap.size 102 i0 (.agg #[.int .i64 0, .string ByteArray.empty]) 2 24 Try.underlying37 hi0 hz0 hz1 hz2 rfl (by decide) _ _ _ rfl (lit_own w w.heap.size (Nat.le_refl _) _ _) ad n c (pcs I T n) rfl (by rw [pcs_len]) HS.out.news (pcs_one _ _ _) (by have := HNN.out; unfold maxLen; omega) (by have := HNN.out; omega) (by rw [size_alloc]; omega) ?_)
    intro v' w' hown hgrow _
    obtain ⟨A', c', rfl, hf⟩ := own_form hown
    have HO := Lib.hid hown
    have HF := Lib.hid hf
    have HBB : Hid (Below w.heap.size w w') := Lib.hid (HB.out.grown hgrow HB.out.size (fun k hk => by
      injection hk with hk
      subst hk
      exact Nat.le_refl _))
    clear hown hgrow hf
    go_wp2
    go_ret
    exact ⟨_, _, rfl, HF.out, HO.out, HBB.out⟩
end
end Go.Proofs.Ytofafmjkjgiccaa.Mat

