/- A cell that was written again and again since a flush; what a crash leaves of it. No walk. -/
import Derived.Test.YtnpognhgncnnpaaCelFact
namespace Go.Proofs.Ytnpognhgncnnpaa.Mat
open Go.RowKit Fld

/-- the two slots, when j of the writes that wait are done -/
def pa (D : Dk) (base : Int) (j : Nat) : ByteArray := doS D.I D.T D.S j base.toNat
def pb (D : Dk) (base : Int) (j : Nat) : ByteArray := doS D.I D.T D.S j (base + 1).toNat
structure Hist (D0 D : Dk) (base : Int) (t0 i : Nat) (vals : Nat → ByteArray) : Prop where
  n : D.n = D0.n
  S : D.S = D0.S
  m : D.m ≤ i
  row : ∀ j, j < D.m → D.I j = base + 1 - (cuAt (pa D base j) (pb D base j) : Int) ∧ D.T j = recS (cuT (pa D base j) (pb D base j) + 1) (vals j) ∧ (vals j).size ≤ 1000
  t : ∀ j, j ≤ D.m → cuT (pa D base j) (pb D base j) = t0 + j
theorem s_of_doS {D : Dk} {slot : Int} (h : hasB D.n slot = true) : getS D slot = doS D.I D.T D.S D.m slot.toNat := by
  obtain ⟨a0, a1⟩ := hasB_iff.1 h
  obtain ⟨j, rfl⟩ : ∃ j : Nat, slot = j := ⟨slot.toNat, by omega⟩
  rw [(get_in h).2, Int.toNat_natCast, doS_last]
theorem pab_end {D : Dk} {base : Int} (hb : bothB D.n base = true) : s0 D base = pa D base D.m ∧ s1 D base = pb D base D.m := by
  obtain ⟨h0, h1⟩ := both_has hb
  exact ⟨s_of_doS h0, s_of_doS h1⟩
theorem doS_add {D : Dk} {slot : Int} {s : ByteArray} {f : Int} {o : Bool} : ∀ j, j ≤ D.m → ∀ k, doS (addD D slot s f o).I (addD D slot s f o).T (addD D slot s f o).S j k = doS D.I D.T D.S j k
  | 0, _, _ => rfl
  | j + 1, h, k => by
    show setS (doS (addD D slot s f o).I (addD D slot s f o).T (addD D slot s f o).S j) (if j = D.m then slot else D.I j) (if j = D.m then s else D.T j) k = setS (doS D.I D.T D.S j) (D.I j) (D.T j) k
    rw [if_neg (by omega), if_neg (by omega)]
    unfold setS
    rw [doS_add j (by omega) k]
/-- a write to the slot that doesn't count -/
theorem pair_put {S : Nat → ByteArray} {base : Int} (h0 : 0 ≤ base) {at_ : Nat} (hat : at_ = 0 ∨ at_ = 1) (s : ByteArray) :
    setS S (base + 1 - (at_ : Int)) s base.toNat = (if at_ = 0 then S base.toNat else s) ∧ setS S (base + 1 - (at_ : Int)) s (base + 1).toNat = (if at_ = 0 then s else S (base + 1).toNat) := by
  unfold setS
  have e0 : ((base.toNat : Nat) : Int) = base := by omega
  have e1 : (((base + 1).toNat : Nat) : Int) = base + 1 := by omega
  rw [e0, e1]
  rcases hat with rfl | rfl
  · have n0 : ¬ base = base + 1 - ((0 : Nat) : Int) := by omega
    have n1 : base + 1 = base + 1 - ((0 : Nat) : Int) := by omega
    exact ⟨if_neg n0, if_pos n1⟩
  · have n0 : base = base + 1 - ((1 : Nat) : Int) := by omega
    have n1 : ¬ base + 1 = base + 1 - ((1 : Nat) : Int) := by omega
    exact ⟨if_pos n0, if_neg n1⟩
section
variable {D0 D : Dk} {base : Int} {t0 i : Nat} {vals : Nat → ByteArray}
theorem Hist.next (h : Hist D0 D base t0 i vals) (h0 : 0 ≤ base) {j : Nat} (hj : j < D.m) : pa D base (j + 1) = nw0 (pa D base j) (pb D base j) (vals j) ∧ pb D base (j + 1) = nw1 (pa D base j) (pb D base j) (vals j) := by
  obtain ⟨r1, r2, _⟩ := h.row j hj
  have e : ∀ k, doS D.I D.T D.S (j + 1) k = setS (doS D.I D.T D.S j) (D.I j) (D.T j) k := fun _ => rfl
  obtain ⟨q0, q1⟩ := pair_put (S := doS D.I D.T D.S j) h0 (cuAt_lt (pa D base j) (pb D base j)) (recS (cuT (pa D base j) (pb D base j) + 1) (vals j))
  constructor
  · show doS D.I D.T D.S (j + 1) base.toNat = _
    rw [e, r1, r2, q0]; rfl
  · show doS D.I D.T D.S (j + 1) (base + 1).toNat = _
    rw [e, r1, r2, q1]; rfl
theorem Hist.more (h : Hist D0 D base t0 i vals) : Hist D0 D base t0 (i + 1) vals := ⟨h.n, h.S, by have := h.m; omega, h.row, h.t⟩
theorem Hist.add (h : Hist D0 D base t0 i vals) (hb : bothB D0.n base = true) (ht : t0 + i + 1 < 18446744073709551616) {x : ByteArray} (hx : x.size ≤ 1000) (f : Int) (o : Bool) :
    Hist D0 (addD D (base + 1 - (rdA D base : Int)) (recS (rdT D base + 1) x) f o) base t0 (i + 1) (fun j => if j = D.m then x else vals j) := by
  have hb' : bothB D.n base = true := by rw [h.n]; exact hb
  obtain ⟨a0, _⟩ := both_iff.1 hb
  obtain ⟨g0, g1⟩ := pab_end hb'
  obtain ⟨_, r2, r3, _⟩ := rd_in hb'
  rw [g0, g1] at r2 r3
  have hm := h.m
  have hp : ∀ j, j ≤ D.m → pa (addD D (base + 1 - (rdA D base : Int)) (recS (rdT D base + 1) x) f o) base j = pa D base j ∧ pb (addD D (base + 1 - (rdA D base : Int)) (recS (rdT D base + 1) x) f o) base j = pb D base j := fun j hj => ⟨doS_add j hj _, doS_add j hj _⟩
  have hrow : ∀ j, j < D.m + 1 → (addD D (base + 1 - (rdA D base : Int)) (recS (rdT D base + 1) x) f o).I j = base + 1 - (cuAt (pa D base j) (pb D base j) : Int) ∧ (addD D (base + 1 - (rdA D base : Int)) (recS (rdT D base + 1) x) f o).T j = recS (cuT (pa D base j) (pb D base j) + 1) (if j = D.m then x else vals j) ∧ (if j = D.m then x else vals j).size ≤ 1000 := fun j hj => by
    show (if j = D.m then _ else D.I j) = _ ∧ (if j = D.m then _ else D.T j) = _ ∧ _
    by_cases e : j = D.m
    · rw [if_pos e, if_pos e, if_pos e, e, r2, r3]
      exact ⟨rfl, rfl, hx⟩
    · rw [if_neg e, if_neg e, if_neg e]
      exact h.row j (by omega)
  refine ⟨h.n, h.S, by show D.m + 1 ≤ _; omega, fun j hj => ?_, fun j hj => ?_⟩
  · obtain ⟨p0, p1⟩ := hp j (by have : j < D.m + 1 := hj; omega)
    rw [p0, p1]
    exact hrow j hj
  · by_cases e : j ≤ D.m
    · obtain ⟨p0, p1⟩ := hp j e
      rw [p0, p1]
      exact h.t j e
    · have ej : j = D.m + 1 := by have : j ≤ D.m + 1 := hj; omega
      subst ej
      obtain ⟨p0, p1⟩ := hp D.m (Nat.le_refl _)
      obtain ⟨w1, w2, _⟩ := hrow D.m (Nat.lt_succ_self _)
      rw [if_pos rfl] at w2
      have htm := h.t D.m (Nat.le_refl _)
      have e2 : ∀ k, doS (addD D (base + 1 - (rdA D base : Int)) (recS (rdT D base + 1) x) f o).I (addD D (base + 1 - (rdA D base : Int)) (recS (rdT D base + 1) x) f o).T (addD D (base + 1 - (rdA D base : Int)) (recS (rdT D base + 1) x) f o).S (D.m + 1) k = setS (doS D.I D.T D.S D.m) (base + 1 - (cuAt (pa D base D.m) (pb D base D.m) : Int)) (recS (cuT (pa D base D.m) (pb D base D.m) + 1) x) k := fun k => by
        rw [← w1, ← w2]
        show setS (doS (addD D (base + 1 - (rdA D base : Int)) (recS (rdT D base + 1) x) f o).I (addD D (base + 1 - (rdA D base : Int)) (recS (rdT D base + 1) x) f o).T (addD D (base + 1 - (rdA D base : Int)) (recS (rdT D base + 1) x) f o).S D.m) _ _ k = _
        unfold setS
        rw [doS_add D.m (Nat.le_refl _) k]
      obtain ⟨q0, q1⟩ := pair_put (S := doS D.I D.T D.S D.m) a0 (cuAt_lt (pa D base D.m) (pb D base D.m)) (recS (cuT (pa D base D.m) (pb D base D.m) + 1) x)
      have k0 : pa (addD D (base + 1 - (rdA D base : Int)) (recS (rdT D base + 1) x) f o) base (D.m + 1) = nw0 (pa D base D.m) (pb D base D.m) x := (e2 _).trans q0
      have k1 : pb (addD D (base + 1 - (rdA D base : Int)) (recS (rdT D base + 1) x) f o) base (D.m + 1) = nw1 (pa D base D.m) (pb D base D.m) x := (e2 _).trans q1
      rw [k0, k1, (cu_new hx (by rw [htm]; omega)).1, htm]
      omega
/-- a write, whatever comes of it -/
theorem Hist.write (h : Hist D0 D base t0 i vals) (hb : bothB D0.n base = true) (ht : t0 + i + 1 < 18446744073709551615) (x : ByteArray) :
    (wrE D base x = 4 ∧ wrD D base x = D) ∨ ((wrE D base x = 0 ∨ wrE D base x = 6) ∧ ∃ vals', Hist D0 (wrD D base x) base t0 (i + 1) vals' ∧ ∀ j, j < (wrD D base x).m → vals' j = x ∨ (j < D.m ∧ vals' j = vals j)) := by
  have hb' : bothB D.n base = true := by rw [h.n]; exact hb
  by_cases hx : 1000 < x.size
  · exact .inl (wr_big hb' hx)
  · refine .inr ?_
    obtain ⟨g0, g1⟩ := pab_end hb'
    obtain ⟨_, _, r3, _⟩ := rd_in hb'
    rw [g0, g1, h.t D.m (Nat.le_refl _)] at r3
    have hm := h.m
    obtain ⟨e1, e2⟩ := wr_put (x := x) hb' hx (by rw [r3]; omega)
    obtain ⟨h0, h1⟩ := both_has hb'
    have hh : hasB D.n (base + 1 - (rdA D base : Int)) = true := by
      rcases rdA_in D base with e | e <;> rw [e]
      · rw [show base + 1 - ((0 : Nat) : Int) = base + 1 by omega]; exact h1
      · rw [show base + 1 - ((1 : Nat) : Int) = base by omega]; exact h0
    have hfit := recS_fits (t := rdT D base + 1) (x := x) (by rw [r3]; omega) (by omega)
    have hadd := fun f o => h.add hb (by omega) (x := x) (by omega) f o
    have hvals : ∀ f o j, j < (addD D (base + 1 - (rdA D base : Int)) (recS (rdT D base + 1) x) f o).m → (if j = D.m then x else vals j) = x ∨ (j < D.m ∧ (if j = D.m then x else vals j) = vals j) := fun f o j hj => by
      by_cases e : j = D.m
      · rw [if_pos e]; exact .inl rfl
      · rw [if_neg e]; exact .inr ⟨by have : j < D.m + 1 := hj; omega, rfl⟩
    rw [e1, e2]
    cases ho : D.off
    · by_cases f0 : D.fuse = 0
      · obtain ⟨p1, p2⟩ := putD_zero (d := D) (base + 1 - (rdA D base : Int)) (recS (rdT D base + 1) x) ho hh (by omega) f0
        rw [p1, p2]
        exact ⟨.inr rfl, _, hadd _ _, hvals 0 true⟩
      · by_cases f1 : 0 < D.fuse
        · obtain ⟨p1, p2⟩ := putD_pos (d := D) (base + 1 - (rdA D base : Int)) (recS (rdT D base + 1) x) ho hh (by omega) f1
          rw [p1, p2]
          exact ⟨.inl rfl, _, hadd _ _, hvals (D.fuse - 1) false⟩
        · obtain ⟨p1, p2⟩ := putD_neg (d := D) (base + 1 - (rdA D base : Int)) (recS (rdT D base + 1) x) ho hh (by omega) (by omega)
          rw [p1, p2]
          exact ⟨.inl rfl, _, hadd _ _, hvals D.fuse false⟩
    · obtain ⟨p1, p2⟩ := putD_off (d := D) (base + 1 - (rdA D base : Int)) (recS (rdT D base + 1) x) ho
      rw [p1, p2]
      exact ⟨.inr rfl, vals, h.more, fun j hj => .inr ⟨hj, rfl⟩⟩
theorem crash_slots {slot keep tear : Int} (hh : hasB D.n slot = true) : getS (crashD D keep tear) slot = crashS D (keepN D.m keep) tear slot.toNat := by
  have hh2 : hasB (crashD D keep tear).n slot = true := hh
  rw [(get_in hh2).2]
  rfl
/-- what a crash leaves -/
theorem Hist.crash (h : Hist D0 D base t0 i vals) (hb : bothB D0.n base = true) (ht : t0 + i + 1 < 18446744073709551616) (keep tear : Int) :
    ∃ j, j ≤ D.m ∧ rdE (crashD D keep tear) base = cuE (pa D base j) (pb D base j) ∧ rdX (crashD D keep tear) base = cuX (pa D base j) (pb D base j) := by
  have hb' : bothB D.n base = true := by rw [h.n]; exact hb
  obtain ⟨a0, _⟩ := both_iff.1 hb
  obtain ⟨h0, h1⟩ := both_has hb'
  have hk := keepN_le D.m keep
  obtain ⟨q1, _, _, q4⟩ := rd_in (d := crashD D keep tear) (base := base) hb'
  have k0 : s0 (crashD D keep tear) base = crashS D (keepN D.m keep) tear base.toNat := crash_slots h0
  have k1 : s1 (crashD D keep tear) base = crashS D (keepN D.m keep) tear (base + 1).toNat := crash_slots h1
  rw [q1, q4, k0, k1]
  generalize keepN D.m keep = k at *
  have hm := h.m
  by_cases c : k < D.m ∧ 0 ≤ tear
  · have e : ∀ s, crashS D k tear s = setS (doS D.I D.T D.S k) (D.I k) (headS (D.T k) tear) s := fun s => by unfold crashS; rw [if_pos c]
    obtain ⟨r1, r2, r3⟩ := h.row k c.1
    have htk := h.t k (by omega)
    rw [e, e, r1]
    obtain ⟨p0, p1⟩ := pair_put (S := doS D.I D.T D.S k) a0 (cuAt_lt (pa D base k) (pb D base k)) (headS (D.T k) tear)
    rw [p0, p1]
    obtain ⟨tr, rfl⟩ : ∃ tr : Nat, tear = tr := ⟨tear.toNat, by omega⟩
    by_cases hw : (D.T k).size ≤ tr
    · refine ⟨k + 1, c.1, ?_⟩
      obtain ⟨n0, n1⟩ := h.next a0 c.1
      rw [headS_all hw, n0, n1, r2]
      exact ⟨rfl, rfl⟩
    · refine ⟨k, by omega, ?_⟩
      have hcut : tcB (headS (D.T k) (tr : Int)) = false := by
        rw [headS_some (by omega), r2]
        exact rec_cut (by rw [htk]; omega) r3 (by rw [← r2]; omega)
      obtain ⟨t0', t1'⟩ := cu_torn (a := pa D base k) (b := pb D base k) hcut
      rcases cuAt_lt (pa D base k) (pb D base k) with e | e
      · rw [if_pos e, if_pos e]
        obtain ⟨x1, x2⟩ := t0' e
        exact ⟨x2, x1⟩
      · rw [if_neg (by omega), if_neg (by omega)]
        obtain ⟨x1, x2⟩ := t1' e
        exact ⟨x2, x1⟩
  · have e : ∀ s, crashS D k tear s = doS D.I D.T D.S k s := fun s => by unfold crashS; rw [if_neg c]
    rw [e, e]
    exact ⟨k, hk, rfl, rfl⟩
/-- .. in the law's words -/
theorem Hist.told (h : Hist D0 D base t0 i vals) (hb : bothB D0.n base = true) (ht : t0 + i + 1 < 18446744073709551616) (hm0 : D0.m = 0) (keep tear : Int) :
    (rdE (crashD D keep tear) base = rdE D0 base ∧ rdX (crashD D keep tear) base = rdX D0 base) ∨ (rdE (crashD D keep tear) base = 0 ∧ ∃ j, j < D.m ∧ rdX (crashD D keep tear) base = vals j) := by
  obtain ⟨a0, _⟩ := both_iff.1 hb
  obtain ⟨j, hj, e1, e2⟩ := h.crash hb ht keep tear
  cases j with
  | zero =>
    left
    obtain ⟨g0, g1⟩ := pab_end hb
    obtain ⟨r1, _, _, r4⟩ := rd_in hb
    have z0 : pa D base 0 = pa D0 base D0.m := by rw [hm0]; show D.S _ = D0.S _; rw [h.S]
    have z1 : pb D base 0 = pb D0 base D0.m := by rw [hm0]; show D.S _ = D0.S _; rw [h.S]
    rw [e1, e2, r1, r4, g0, g1, z0, z1]
    exact ⟨rfl, rfl⟩
  | succ j =>
    right
    obtain ⟨n0, n1⟩ := h.next a0 (show j < D.m by omega)
    obtain ⟨_, _, r3⟩ := h.row j (by omega)
    have hm := h.m
    obtain ⟨_, c2, c3⟩ := cu_new (a := pa D base j) (b := pb D base j) r3 (by rw [h.t j (by omega)]; omega)
    rw [e1, e2, n0, n1]
    exact ⟨c3, j, by omega, c2⟩
end
theorem hist_start {d : Dk} {base : Int} (hE : flushE d = 0) (hb : bothB (flushD d).n base = true) : Hist (flushD d) (flushD d) base (rdT (flushD d) base) 0 (fun _ => ByteArray.empty) ∧ (flushD d).m = 0 := by
  obtain ⟨_, e⟩ := flush_ok hE
  have hm : (flushD d).m = 0 := by rw [e]; rfl
  obtain ⟨g0, g1⟩ := pab_end hb
  obtain ⟨_, _, r3, _⟩ := rd_in hb
  refine ⟨⟨rfl, rfl, by omega, fun j hj => by omega, fun j hj => ?_⟩, hm⟩
  have ej : j = 0 := by omega
  subst ej
  rw [r3, g0, g1, hm]
  omega
end Go.Proofs.Ytnpognhgncnnpaa.Mat
