/- XDskS XDskT XDskU XDskV XDskW XDskX XDskY, as far as this dump goes. -/
import Derived.Test.YtofafmjkjgiccaaCelDse
/- The law DiskActs: walked. -/
namespace Go.Proofs.Ytofafmjkjgiccaa.Mat
open Go.RowKit Fld

section
variable {w : World} {d : Dk} {A B : Option Addr} {c k : Nat}
theorem law_start (h : DOk w A c B k d) (X : Obj) : Vr ((w.alloc X).alloc (.cells #[.slice A d.n c, .slice B d.m k, .int .i64 d.fuse, .bool d.off] 39)) (w.heap.size + 1) d A c B k ∧ Below w.heap.size w ((w.alloc X).alloc (.cells #[.slice A d.n c, .slice B d.m k, .int .i64 d.fuse, .bool d.off] 39)) := by
  have h1 := Vr.new (h.up ((Below.refl _ _).alloc (Nat.le_refl _) X))
  rw [size_alloc] at h1
  exact ⟨h1, ((Below.refl _ _).alloc (Nat.le_refl _) X).alloc (by rw [size_alloc]; omega) _⟩
end
end Go.Proofs.Ytofafmjkjgiccaa.Mat


/- The law DiskReads: walked. -/
namespace Go.Proofs.Ytofafmjkjgiccaa.Mat
open Go.RowKit Fld

theorem put_ok {d : Dk} {slot : Int} {s : ByteArray} (h : putE d slot s = 0) : ∃ f, putD d slot s = addD d slot s f false ∧ d.off = false ∧ hasB d.n slot = true ∧ s.size ≤ 1024 := by
  cases ho : d.off
  · cases hh : hasB d.n slot
    · rw [(putD_arg slot s ho hh).2] at h; cases h
    · by_cases hb : 1024 < s.size
      · rw [(putD_big slot s ho hh hb).2] at h; cases h
      · by_cases h0 : d.fuse = 0
        · rw [(putD_zero slot s ho hh hb h0).2] at h; cases h
        · by_cases h1 : 0 < d.fuse
          · exact ⟨_, (putD_pos slot s ho hh hb h1).1, rfl, rfl, by omega⟩
          · exact ⟨_, (putD_neg slot s ho hh hb (by omega)).1, rfl, rfl, by omega⟩
  · rw [(putD_off slot s ho).2] at h; cases h
theorem last_add {d : Dk} {slot other : Int} {s : ByteArray} {f : Int} {o : Bool} (b : ByteArray) : lastT (addD d slot s f o).I (addD d slot s f o).T other b (d.m + 1) = if slot = other then s else lastT d.I d.T other b d.m := by
  have hr : ∀ r, r ≤ d.m → lastT (addD d slot s f o).I (addD d slot s f o).T other b r = lastT d.I d.T other b r := by
    intro r
    induction r with
    | zero => intro _; rfl
    | succ r ih =>
      intro hr
      show (if (if r = d.m then slot else d.I r) = other then (if r = d.m then s else d.T r) else lastT (addD d slot s f o).I (addD d slot s f o).T other b r) = (if d.I r = other then d.T r else lastT d.I d.T other b r)
      have hne : ¬ r = d.m := by omega
      rw [if_neg hne, if_neg hne, ih (by omega)]
  show (if (if d.m = d.m then slot else d.I d.m) = other then (if d.m = d.m then s else d.T d.m) else lastT (addD d slot s f o).I (addD d slot s f o).T other b d.m) = _
  rw [if_pos rfl, if_pos rfl, hr d.m (Nat.le_refl _)]
theorem get_add {d : Dk} {slot other : Int} {s : ByteArray} {f : Int} {o : Bool} (hne : other ≠ slot) : getS (addD d slot s f o) other = getS d other := by
  unfold getS
  show (if hasB d.n other = true then lastT (addD d slot s f o).I (addD d slot s f o).T other (d.S other.toNat) (d.m + 1) else ByteArray.empty) = _
  rw [last_add, if_neg (show ¬ slot = other from fun e => hne e.symm)]
theorem get_added {d : Dk} {slot : Int} {s : ByteArray} {f : Int} {o : Bool} (h : hasB d.n slot = true) : getS (addD d slot s f o) slot = s ∧ getE (addD d slot s f o) slot = 0 := by
  obtain ⟨e1, e2⟩ := get_in (d := addD d slot s f o) (slot := slot) h
  refine ⟨?_, e1⟩
  rw [e2]
  show lastT (addD d slot s f o).I (addD d slot s f o).T slot (d.S slot.toNat) (d.m + 1) = s
  rw [last_add, if_pos rfl]
theorem get_flushed {d : Dk} {slot : Int} {f : Int} {o : Bool} (h : hasB d.n slot = true) : getS (doneD d (doS d.I d.T d.S d.m) f o) slot = getS d slot := by
  obtain ⟨s0, s1⟩ := hasB_iff.1 h
  obtain ⟨j, rfl⟩ : ∃ j : Nat, slot = j := ⟨slot.toNat, by omega⟩
  rw [(get_in h).2, (get_in (d := doneD d (doS d.I d.T d.S d.m) f o) (slot := (j : Int)) h).2]
  show doS d.I d.T d.S d.m ((j : Int).toNat) = _
  rw [Int.toNat_natCast, doS_last]
theorem reads_nums {d : Dk} {slot other : Int} {s : ByteArray} (h : putE d slot s = 0) : getE (putD d slot s) slot = 0 ∧ getS (putD d slot s) slot = s ∧ (other ≠ slot → getS (putD d slot s) other = getS d other) ∧ flushE (putD d slot s) = 0 ∧ getS (flushD (putD d slot s)) slot = s := by
  obtain ⟨f, e, _, hh, _⟩ := put_ok h
  rw [e]
  obtain ⟨g1, g2⟩ := get_added (d := d) (slot := slot) (s := s) (f := f) (o := false) hh
  obtain ⟨f1, f2⟩ := flush_on (d := addD d slot s f false) rfl
  refine ⟨g2, g1, fun hne => get_add hne, f2, ?_⟩
  rw [f1, get_flushed (d := addD d slot s f false) hh, g1]

section
variable {w : World} {d : Dk} {A B : Option Addr} {c k : Nat}
end
end Go.Proofs.Ytofafmjkjgiccaa.Mat


/- The law DiskTwice: walked. -/
namespace Go.Proofs.Ytofafmjkjgiccaa.Mat
open Go.RowKit Fld

theorem burst_twice {d : Dk} {slot at_ : Int} {x : BitVec 32} : burstE (burstD d slot at_ x) slot at_ = burstE d slot at_ ∧ sameB (burstD (burstD d slot at_ x) slot at_ x) d = true ∧ (burstE d slot at_ = 0 → (sameB (burstD d slot at_ x) d = true ↔ x = 0#32)) := by
  cases h : mayBurst d slot at_
  · obtain ⟨e1, e2⟩ := burst_no h x
    rw [e1, e1]
    exact ⟨rfl, same_self d, fun e => by rw [e2] at e; cases e⟩
  · obtain ⟨e1, e2⟩ := burst_yes h x
    obtain ⟨h1, h2, h3⟩ := of_decide_eq_true h
    obtain ⟨s0, s1⟩ := hasB_iff.1 h1
    obtain ⟨j, rfl⟩ : ∃ j : Nat, slot = j := ⟨slot.toNat, by omega⟩
    obtain ⟨P, rfl⟩ : ∃ P : Nat, at_ = P := ⟨at_.toNat, by omega⟩
    rw [Int.toNat_natCast] at h3
    rw [Int.toNat_natCast, Int.toNat_natCast] at e1
    have hS : (withS d (setS d.S (j : Int) (turnS (d.S j) x P))).S j = turnS (d.S j) x P := setS_at
    have hm : mayBurst (withS d (setS d.S (j : Int) (turnS (d.S j) x P))) (j : Int) (P : Int) = true := decide_eq_true ⟨h1, h2, by rw [Int.toNat_natCast, hS, turnS_size]; exact h3⟩
    obtain ⟨e3, e4⟩ := burst_yes hm x
    rw [Int.toNat_natCast, Int.toNat_natCast, hS, turn_twice] at e3
    rw [e1, e3, e4, e2]
    refine ⟨rfl, sameB_yes ⟨⟨rfl, fun i _ => ?_⟩, rfl, fun _ _ => ⟨rfl, rfl⟩, rfl, rfl⟩, fun _ => ?_⟩
    · show setS (setS d.S (j : Int) (turnS (d.S j) x P)) (j : Int) (d.S j) i = d.S i
      rw [setS_twice]
      unfold setS
      by_cases e : (i : Int) = j
      · rw [if_pos e, show i = j by omega]
      · rw [if_neg e]
    · have hb : P + 32 ≤ 8 * (d.S j).size := by omega
      constructor
      · intro hs
        obtain ⟨⟨_, h5⟩, _⟩ := of_decide_eq_true hs
        have h6 := h5 j (by show j < d.n; omega)
        rw [hS] at h6
        exact (turn_same hb).1 h6
      · intro hx
        refine sameB_yes ⟨⟨rfl, fun i _ => ?_⟩, rfl, fun _ _ => ⟨rfl, rfl⟩, rfl, rfl⟩
        show setS d.S (j : Int) (turnS (d.S j) x P) i = d.S i
        unfold setS
        by_cases e : (i : Int) = j
        · rw [if_pos e, show i = j by omega, (turn_same hb).2 hx]
        · rw [if_neg e]
theorem V32_zero (x : BitVec 32) : (V32 x == 0) = decide (x = 0#32) := by
  rw [Bool.eq_iff_iff, beq_iff_eq, decide_eq_true_iff]
  unfold V32
  constructor
  · intro h
    apply BitVec.eq_of_toNat_eq
    simp
    omega
  · rintro rfl; rfl
section
variable {w : World} {d : Dk} {A B : Option Addr} {c k : Nat}
end
end Go.Proofs.Ytofafmjkjgiccaa.Mat


/- The law DiskTorn: walked. -/
namespace Go.Proofs.Ytofafmjkjgiccaa.Mat
open Go.RowKit Fld

theorem flush_ok {d : Dk} (h : flushE d = 0) : d.off = false ∧ flushD d = doneD d (doS d.I d.T d.S d.m) d.fuse false := by
  cases ho : d.off
  · exact ⟨rfl, (flush_on ho).1⟩
  · rw [(flush_off ho).2] at h; cases h
theorem flush_m {d : Dk} (h : (d.m + 1) * 24 ≤ 140737488355328) : ((flushD d).m + 1) * 24 ≤ 140737488355328 := by
  cases ho : d.off
  · rw [(flush_on ho).1]; show (0 + 1) * 24 ≤ _; omega
  · rw [(flush_off ho).1]; exact h
theorem head_facts (s : ByteArray) (x : Nat) : (headS s (x : Int)).size ≤ s.size ∧ s.extract 0 (headS s (x : Int)).size = headS s (x : Int) ∧ ((headS s (x : Int)).size < s.size → (headS s (x : Int)).size = x) := by
  rcases Nat.lt_or_ge x s.size with h | h
  · have e := headS_some (s := s) (x := x) (by omega)
    have hz : (s.extract 0 x).size = x := by rw [ByteArray.size_extract]; omega
    rw [e, hz]
    exact ⟨by omega, rfl, fun _ => rfl⟩
  · rw [headS_all h]
    exact ⟨Nat.le_refl _, by simp, fun hh => absurd hh (Nat.lt_irrefl _)⟩
theorem torn_nums {d : Dk} {slot tear : Int} {s : ByteArray} (h1 : flushE d = 0) (h2 : putE (flushD d) slot s = 0) (h3 : 0 ≤ tear) :
    getE (crashD (putD (flushD d) slot s) 0 tear) slot = 0 ∧ getS (crashD (putD (flushD d) slot s) 0 tear) slot = headS s tear ∧ (crashD (putD (flushD d) slot s) 0 tear).n = (flushD d).n ∧
      ∀ i : Nat, (i : Int) ≠ slot → (crashD (putD (flushD d) slot s) 0 tear).S i = (flushD d).S i := by
  obtain ⟨_, e1⟩ := flush_ok h1
  obtain ⟨f, e2, _, hh, _⟩ := put_ok h2
  rw [e2]
  rw [e1] at hh ⊢
  have hm0 : (doneD d (doS d.I d.T d.S d.m) d.fuse false).m = 0 := rfl
  generalize doneD d (doS d.I d.T d.S d.m) d.fuse false = D at *
  have hk : keepN (addD D slot s f false).m 0 = 0 := by unfold keepN; simp
  have hS : crashS (addD D slot s f false) 0 tear = setS D.S slot (headS s tear) := by
    rw [crash_yes ⟨Nat.succ_pos _, h3⟩]
    show setS D.S (if 0 = D.m then slot else D.I 0) (headS (if 0 = D.m then s else D.T 0) tear) = _
    rw [if_pos hm0.symm, if_pos hm0.symm]
  have hC : crashD (addD D slot s f false) 0 tear = doneD (addD D slot s f false) (setS D.S slot (headS s tear)) (-1) false := by
    unfold crashD
    rw [hk, hS]
  rw [hC]
  obtain ⟨g1, g2⟩ := get_in (d := doneD (addD D slot s f false) (setS D.S slot (headS s tear)) (-1) false) (slot := slot) hh
  refine ⟨g1, ?_, rfl, fun i hi => setS_ne hi⟩
  rw [g2]
  show setS D.S slot (headS s tear) slot.toNat = _
  obtain ⟨s0, s1⟩ := hasB_iff.1 hh
  unfold setS
  rw [if_pos (by omega)]
section
variable {w : World} {d : Dk} {A B : Option Addr} {c k : Nat}
end
end Go.Proofs.Ytofafmjkjgiccaa.Mat


/- The law DiskFails: walked. -/
namespace Go.Proofs.Ytofafmjkjgiccaa.Mat
open Go.RowKit Fld

section
variable {w : World} {d o : Dk} {A B A' B' : Option Addr} {c k c' k' : Nat}
theorem law_start2 (h : DOk w A c B k d) (h' : DOk w A' c' B' k' o) (X : Obj) : Vr (((w.alloc X).alloc (.cells #[.slice A d.n c, .slice B d.m k, .int .i64 d.fuse, .bool d.off] 39)).alloc (.cells #[.slice A' o.n c', .slice B' o.m k', .int .i64 o.fuse, .bool o.off] 39)) (w.heap.size + 1) d A c B k ∧
    Vr (((w.alloc X).alloc (.cells #[.slice A d.n c, .slice B d.m k, .int .i64 d.fuse, .bool d.off] 39)).alloc (.cells #[.slice A' o.n c', .slice B' o.m k', .int .i64 o.fuse, .bool o.off] 39)) (w.heap.size + 1 + 1) o A' c' B' k' ∧
    Below w.heap.size w (((w.alloc X).alloc (.cells #[.slice A d.n c, .slice B d.m k, .int .i64 d.fuse, .bool d.off] 39)).alloc (.cells #[.slice A' o.n c', .slice B' o.m k', .int .i64 o.fuse, .bool o.off] 39)) := by
  obtain ⟨h1, h2⟩ := law_start h X
  have h3 := Vr.new (h'.up h2)
  rw [size_alloc, size_alloc] at h3
  exact ⟨h1.alloc _, h3, h2.alloc h2.size _⟩
end
end Go.Proofs.Ytofafmjkjgiccaa.Mat


/- The law DiskLasts: walked. -/
namespace Go.Proofs.Ytofafmjkjgiccaa.Mat
open Go.RowKit Fld

/-- what was flushed, and writes of other slots since -/
structure Since (D0 D : Dk) (slot : Int) (i : Nat) : Prop where
  n : D.n = D0.n
  S : D.S = D0.S
  m : D.m ≤ i
  ne : ∀ r, r < D.m → D.I r ≠ slot
theorem Since.more {D0 D : Dk} {slot : Int} {i : Nat} (h : Since D0 D slot i) : Since D0 D slot (i + 1) := ⟨h.n, h.S, by have := h.m; omega, h.ne⟩
theorem Since.add {D0 D : Dk} {slot : Int} {i : Nat} (h : Since D0 D slot i) {sl : Int} (hne : sl ≠ slot) (s : ByteArray) (f : Int) (o : Bool) : Since D0 (addD D sl s f o) slot (i + 1) :=
  ⟨h.n, h.S, by show D.m + 1 ≤ _; have := h.m; omega, fun r hr => by
    show (if r = D.m then sl else D.I r) ≠ slot
    by_cases e : r = D.m
    · rw [if_pos e]; exact hne
    · rw [if_neg e]; exact h.ne r (by have : r < D.m + 1 := hr; omega)⟩
theorem Since.put {D0 D : Dk} {slot : Int} {i : Nat} (h : Since D0 D slot i) {sl : Int} (hne : sl ≠ slot) (s : ByteArray) : Since D0 (putD D sl s) slot (i + 1) := by
  unfold putD
  split
  · exact h.more
  split
  · exact h.more
  split
  · exact h.more
  split
  · exact h.add hne s _ _
  · exact h.add hne s _ _
theorem get_E {d : Dk} {slot : Int} (h : getE d slot = 0) : hasB d.n slot = true := by
  cases hh : hasB d.n slot
  · rw [(get_out hh).1] at h; cases h
  · rfl
theorem Since.last {D0 D : Dk} {slot : Int} {i : Nat} (h : Since D0 D slot i) (h0 : D0.m = 0) (hE : getE D0 slot = 0) (keep tear : Int) : getE (crashD D keep tear) slot = 0 ∧ getS (crashD D keep tear) slot = getS D0 slot := by
  have hh := get_E hE
  obtain ⟨s0, s1⟩ := hasB_iff.1 hh
  obtain ⟨j, rfl⟩ : ∃ j : Nat, slot = j := ⟨slot.toNat, by omega⟩
  have hh2 : hasB (crashD D keep tear).n (j : Int) = true := by show hasB D.n (j : Int) = true; rw [h.n]; exact hh
  obtain ⟨g1, g2⟩ := get_in hh2
  obtain ⟨_, g3⟩ := get_in hh
  refine ⟨g1, ?_⟩
  rw [g2, g3, h0]
  show crashS D (keepN D.m keep) tear ((j : Int).toNat) = D0.S ((j : Int).toNat)
  rw [Int.toNat_natCast, crash_other (keepN_le _ _) h.ne, h.S]
theorem since_start {d : Dk} {slot : Int} (h : flushE d = 0) : Since (flushD d) (flushD d) slot 0 ∧ (flushD d).m = 0 := by
  obtain ⟨_, e⟩ := flush_ok h
  rw [e]
  exact ⟨⟨rfl, rfl, Nat.le_refl _, fun r hr => absurd hr (Nat.not_lt_zero _)⟩, rfl⟩
def Vrs (w : World) (D : Dk) (wx : World) : Prop := ∃ A c B k, Vr wx (w.heap.size + 1) D A c B k ∧ Below w.heap.size w wx
section
variable {w : World} {d : Dk} {A B C : Option Addr} {c k ln lc : Nat} {I : Nat → Int} {T : Nat → ByteArray}
end
end Go.Proofs.Ytofafmjkjgiccaa.Mat


/- The law DiskArms: walked. -/
namespace Go.Proofs.Ytofafmjkjgiccaa.Mat
open Go.RowKit Fld

/-- a disk that was armed, behind i writes -/
structure Armed (d D : Dk) (fuse : Int) (i : Nat) : Prop where
  n : D.n = d.n
  m : D.m ≤ d.m + i
  on : (i : Int) ≤ fuse → D.off = false ∧ D.fuse = fuse - i
  off : fuse < (i : Int) → D.off = true
theorem armed_start {d : Dk} {fuse : Int} (h0 : d.off = false) (h1 : 0 ≤ fuse) : Armed d (armD d fuse) fuse 0 :=
  ⟨rfl, by show d.m ≤ _; omega, fun _ => ⟨h0, by show (if fuse < 0 then -1 else fuse) = _; rw [if_neg (by omega)]; omega⟩, fun h => by omega⟩
/-- a write: it is taken, or not -/
theorem Armed.put {d D : Dk} {fuse : Int} {i : Nat} (h : Armed d D fuse i) (hn : 0 < d.n) {s : ByteArray} (hs : ¬ 1024 < s.size) :
    Armed d (putD D (((i % D.n : Nat) : Int)) s) fuse (i + 1) ∧ ((i : Int) < fuse → putE D (((i % D.n : Nat) : Int)) s = 0) ∧ (fuse ≤ (i : Int) → putE D (((i % D.n : Nat) : Int)) s = 6 ∧ (putD D (((i % D.n : Nat) : Int)) s).off = true) := by
  have hh : hasB D.n (((i % D.n : Nat) : Int)) = true := hasB_yes ⟨by omega, by have := Nat.mod_lt i (show 0 < D.n by rw [h.n]; exact hn); omega⟩
  have hm := h.m
  rcases Int.lt_trichotomy (i : Int) fuse with hl | hl | hl
  · obtain ⟨o1, o2⟩ := h.on (by omega)
    obtain ⟨e1, e2⟩ := putD_pos (d := D) _ s o1 hh hs (by omega)
    rw [e1, e2]
    refine ⟨⟨h.n, by show D.m + 1 ≤ _; omega, fun _ => ⟨rfl, by show D.fuse - 1 = _; omega⟩, fun hf => by omega⟩, fun _ => rfl, fun hf => by omega⟩
  · obtain ⟨o1, o2⟩ := h.on (by omega)
    obtain ⟨e1, e2⟩ := putD_zero (d := D) _ s o1 hh hs (by omega)
    rw [e1, e2]
    refine ⟨⟨h.n, by show D.m + 1 ≤ _; omega, fun hf => by omega, fun _ => rfl⟩, fun hf => by omega, fun _ => ⟨rfl, rfl⟩⟩
  · have o1 := h.off (by omega)
    obtain ⟨e1, e2⟩ := putD_off (d := D) (((i % D.n : Nat) : Int)) s o1
    rw [e1, e2]
    refine ⟨⟨h.n, by omega, fun hf => by omega, fun _ => o1⟩, fun hf => by omega, fun _ => ⟨rfl, o1⟩⟩
theorem Armed.bound {d D : Dk} {fuse : Int} {i ln : Nat} (h : Armed d D fuse i) (hi : i < ln) (hm : (d.m + ln + 1) * 24 ≤ 140737488355328) : (D.m + 1) * 24 ≤ 140737488355328 := by
  have h1 := h.m
  have h2 : D.m + 1 ≤ d.m + ln + 1 := by clear hm; omega
  exact Nat.le_trans (Nat.mul_le_mul_right 24 h2) hm
theorem mod_bound {i n ln : Nat} (hi : i < ln) (hl : ln ≤ 9223372036854775807) : i % n ≤ 9223372036854775807 := Nat.le_trans (Nat.mod_le i n) (by omega)
theorem void_ok (W : World) : DOk W none 0 none 0 voidD := ⟨fun hn => absurd hn (Nat.lt_irrefl 0), fun hn => absurd hn (Nat.lt_irrefl 0), ⟨Nat.le_refl _, fun _ => rfl⟩, ⟨Nat.le_refl _, fun _ => rfl⟩, sz_void⟩
theorem void_new (W : World) : Vr (W.alloc (.cells #[.slice none 0 0, .slice none 0 0, .int .i64 0, .bool false] 39)) W.heap.size voidD none 0 none 0 := Vr.new (void_ok W)
theorem below_dr (w : World) (k : Nat) : Below w.heap.size w (w.drewN k) := ⟨rfl, rfl, rfl, Nat.le_refl _, fun _ _ => rfl⟩
theorem box_tr {w w' : World} {o : Obj} (h : Below (w.alloc o).heap.size (w.alloc o) w') : Below w.heap.size w w' := up_trans ((Below.refl _ _).alloc (Nat.le_refl _) o) h
/-- behind a write: what is laid into a new box -/
def Step (w : World) (D D1 : Dk) (E : Int) (A : Option Addr) (c : Nat) (B : Option Addr) (k : Nat) (s9 s10 : Value) (wx : World) : Prop :=
  ∃ g A' c' B' k', s9 = .pointer (some ⟨g, 0, none⟩) ∧ s10 = .int .i64 E ∧ g ≠ w.heap.size ∧ w.heap.size ≤ g ∧ Vr wx g D1 A' c' B' k' ∧ Vr wx w.heap.size D A c B k ∧ Below w.heap.size w wx
section
variable {w wr w5 : World} {D D1 : Dk} {A B A5 B5 : Option Addr} {c k c5 k5 : Nat} {E : Int}
theorem step_after (hV : Vr wr w.heap.size D A c B k) (hB : Below w.heap.size w wr) (hb : Below wr.heap.size wr w5) (ok : DOk w5 A5 c5 B5 k5 D1) :
    Step w D D1 E A c B k (.pointer (some ⟨w5.heap.size, 0, none⟩)) (.int .i64 E) (w5.alloc (.cells #[.slice A5 D1.n c5, .slice B5 D1.m k5, .int .i64 D1.fuse, .bool D1.off] 39)) := by
  have h5 := hV.up hb
  have hl := h5.bx.lt_
  have hbb := up_trans hB hb
  exact ⟨_, A5, c5, B5, k5, rfl, rfl, by omega, by omega, Vr.new ok, h5.alloc _, hbb.alloc hbb.size _⟩
theorem step_before (hV : Vr wr w.heap.size D A c B k) (hB : Below w.heap.size w wr)
    (hb : Below (wr.alloc (.cells #[.slice none 0 0, .slice none 0 0, .int .i64 0, .bool false] 39)).heap.size (wr.alloc (.cells #[.slice none 0 0, .slice none 0 0, .int .i64 0, .bool false] 39)) w5) (ok : DOk w5 A5 c5 B5 k5 D1) :
    Vr w5 wr.heap.size voidD none 0 none 0 ∧ Step w D D1 E A c B k (.pointer (some ⟨wr.heap.size, 0, none⟩)) (.int .i64 E) (put4 w5 wr.heap.size (.slice A5 D1.n c5) (.slice B5 D1.m k5) (.int .i64 D1.fuse) (.bool D1.off)) := by
  have hz := (void_new wr).up hb
  have h5 := (hV.alloc (.cells #[.slice none 0 0, .slice none 0 0, .int .i64 0, .bool false] 39)).up hb
  have hl := hV.bx.lt_
  have hbb := up_trans (hB.alloc hB.size (.cells #[.slice none 0 0, .slice none 0 0, .int .i64 0, .bool false] 39)) hb
  exact ⟨hz, _, A5, c5, B5, k5, rfl, rfl, by omega, by omega, hz.put ok, h5.other hz (by omega) _ _ _ _, put4_below hbb (by omega) _ _ _ _⟩
theorem Step.drew {s9 s10 : Value} {wx : World} (h : Step w D D1 E A c B k s9 s10 wx) : Step w D D1 E A c B k s9 s10 wx.drew := by
  obtain ⟨g, A', c', B', k', h1, h2, h3, h4, h5, h6, h7⟩ := h
  exact ⟨g, A', c', B', k', h1, h2, h3, h4, h5.drew, h6.drew, h7.drew⟩
end
section
variable {w : World} {d : Dk} {A B C : Option Addr} {c k ln lc : Nat} {T : Nat → ByteArray}
end
end Go.Proofs.Ytofafmjkjgiccaa.Mat

