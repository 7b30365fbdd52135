/- What follows of shelves: what was put is found, at once, behind a flush and behind a crash; what was dropped isn't; what is listed is found. No walk. -/
import Derived.Test.YtofafmjkjgiccaaSheDisk
namespace Go.Proofs.Ytofafmjkjgiccaa.Mat
open Go.RowKit Fld

section
variable {d D D' : Dk} {v i : Int} {x : ByteArray} {j r : Nat}
theorem hasB_nat (h : j < d.n) : hasB d.n (j : Int) = true := hasB_yes ⟨by omega, by omega⟩
theorem gs_added {f : Int} {o : Bool} {s : ByteArray} (h : j < d.n) : gs (addD d j s f o) j = s := (get_added (hasB_nat h)).1
theorem gs_add {f : Int} {o : Bool} {s : ByteArray} (h : r ≠ j) : gs (addD d j s f o) r = gs d r := get_add (by omega)
theorem gs_flushed (h : flushE d = 0) (hr : r < d.n) : gs (flushD d) r = gs d r ∧ (flushD d).n = d.n ∧ (flushD d).m = 0 := by
  obtain ⟨_, e⟩ := flush_ok h
  rw [e]
  exact ⟨get_flushed (hasB_nat hr), rfl, rfl⟩
theorem flushed_n (h : flushE d = 0) : (flushD d).n = d.n ∧ (flushD d).m = 0 := by
  obtain ⟨_, e⟩ := flush_ok h
  rw [e]; exact ⟨rfl, rfl⟩
/-- a put, whatever comes of it -/
theorem putD_or (d : Dk) (slot : Int) (s : ByteArray) : putD d slot s = d ∨ ∃ f o, putD d slot s = addD d slot s f o := by
  unfold putD
  by_cases e1 : d.off = true
  · rw [if_pos e1]; exact .inl rfl
  · rw [if_neg e1]
    by_cases e2 : hasB d.n slot = false
    · rw [if_pos e2]; exact .inl rfl
    · rw [if_neg e2]
      by_cases e3 : 1024 < s.size
      · rw [if_pos e3]; exact .inl rfl
      · rw [if_neg e3]
        by_cases e4 : d.fuse = 0
        · rw [if_pos e4]; exact .inr ⟨_, _, rfl⟩
        · rw [if_neg e4]; exact .inr ⟨_, _, rfl⟩
/-- two disks of which the same is read -/
theorem fd_same (hn : D.n = d.n) (h : ∀ r, r < d.n → hasK v i (gs D r) = hasK v i (gs d r)) (h2 : ∀ r, r < d.n → hasK v i (gs d r) = true → gs D r = gs d r) : fdE D v i = fdE d v i ∧ fdX D v i = fdX d v i := by
  rcases fd_or d v i with ⟨j, hj, hk, hb, e1, e2⟩ | ⟨hb, e1, e2⟩
  · obtain ⟨q1, q2⟩ := fd_at (d := D) (by rw [hn]; exact hj) (by rw [h j hj]; exact hk) (fun r hr => by rw [h r (by omega)]; exact hb r hr)
    rw [e1, e2, q1, q2, h2 j hj hk]
    exact ⟨rfl, rfl⟩
  · obtain ⟨q1, q2⟩ := fd_none (d := D) (v := v) (i := i) (fun r hr => by rw [hn] at hr; rw [h r hr]; exact hb r hr)
    rw [e1, e2, q1, q2]
    exact ⟨rfl, rfl⟩
theorem fd_flushed (h : flushE d = 0) : fdE (flushD d) v i = fdE d v i ∧ fdX (flushD d) v i = fdX d v i :=
  fd_same (flushed_n h).1 (fun r hr => by rw [(gs_flushed h hr).1]) (fun r hr _ => (gs_flushed h hr).1)
/-- a shard's record -/
theorem rec_of (h : mayB v i x = true) : shB (srT v i x) = true ∧ (shV (srT v i x) : Int) = v ∧ (shI (srT v i x) : Int) = i ∧ shX (srT v i x) = x ∧ (srT v i x).size ≤ 1024 ∧ ∀ v' i' : Int, hasK v' i' (srT v i x) = true ↔ v = v' ∧ i = i' := by
  obtain ⟨a0, a1, a2, a3, a4⟩ := may_iff.1 h
  obtain ⟨_, e⟩ := srT_yes h
  obtain ⟨t1, _, t3, t4, t5⟩ := sh_taken (v := v.toNat) (i := i.toNat) (x := x) (by omega) (by omega) (by omega) a4
  rw [e]
  refine ⟨t1, by rw [t3]; omega, by rw [t4]; omega, t5, shR_fits (by omega) (by omega) a4, fun v' i' => ?_⟩
  rw [hasK_iff, t3, t4]
  constructor
  · rintro ⟨_, q1, q2⟩; exact ⟨by omega, by omega⟩
  · rintro ⟨q1, q2⟩; exact ⟨t1, by omega, by omega⟩
theorem rec_head (h : mayB v i x = true) {k : Nat} (hk : k < (srT v i x).size) : shB ((srT v i x).extract 0 k) = false := by
  obtain ⟨a0, a1, a2, a3, a4⟩ := may_iff.1 h
  obtain ⟨_, e⟩ := srT_yes h
  rw [e] at hk ⊢
  exact sh_cut (by omega) (by omega) a4 hk
/-- what was put is found -/
theorem put_found (h : spE d v i x = 0) : fdE (spD d v i x) v i = 0 ∧ fdX (spD d v i x) v i = x := by
  rcases sp_or d v i x with ⟨_, e, _⟩ | ⟨_, e1, e2, _, e3⟩ | ⟨_, _, _, e, _⟩ | ⟨hm, e7, j, hj, hs, hb, e1, e2⟩ | ⟨_, _, _, e, _⟩
  · omega
  · rw [e3]; exact ⟨e1, e2⟩
  · omega
  · rw [e1] at h
    obtain ⟨f, ef, _⟩ := put_ok h
    rw [e2, ef]
    obtain ⟨r1, r2, r3, r4, _, r6⟩ := rec_of hm
    have hno : ∀ r, r < d.n → hasK v i (gs d r) = false := by
      rcases fd_or d v i with ⟨_, _, _, _, q, _⟩ | ⟨q, _⟩
      · omega
      · exact q
    obtain ⟨q1, q2⟩ := fd_at (d := addD d j (srT v i x) f false) (v := v) (i := i) (j := j) hj (by rw [gs_added hj]; exact (r6 v i).2 ⟨rfl, rfl⟩) (fun r hr => by rw [gs_add (by omega)]; exact hno r (by omega))
    rw [q1, q2, gs_added hj, r4]
    exact ⟨rfl, rfl⟩
  · omega

/-! ### behind a crash -/
/-- puts since a flush: the slot j0 has the key and isn't written; no put is of the key -/
structure Stays (D0 D : Dk) (v i : Int) (j0 : Nat) : Prop where
  n : D.n = D0.n
  S : D.S = D0.S
  row : ∀ r, r < D.m → D.I r ≠ (j0 : Int) ∧ ∃ v' i' x', D.T r = srT v' i' x' ∧ mayB v' i' x' = true ∧ ¬ (v' = v ∧ i' = i)
theorem Stays.start (h : D.m = 0) : Stays D D v i j := ⟨rfl, rfl, fun r hr => by omega⟩
theorem Stays.slot {D0 : Dk} (h : Stays D0 D v i j) (hj : j < D0.n) : gs D j = D0.S j := by
  unfold gs
  rw [(get_in (hasB_nat (by rw [h.n]; exact hj))).2, Int.toNat_natCast, lastT_none _ (fun r hr => (h.row r hr).1), h.S]
theorem Stays.put {D0 : Dk} (h : Stays D0 D v i j) (hj : j < D0.n) (hk : hasK v i (D0.S j) = true) (v' i' : Int) (x' : ByteArray) : Stays D0 (spD D v' i' x') v i j ∧ (spD D v' i' x').m ≤ D.m + 1 := by
  have hs := h.slot hj
  rcases sp_or D v' i' x' with ⟨_, _, e⟩ | ⟨_, _, _, _, e⟩ | ⟨_, _, _, _, e⟩ | ⟨hm, e7, q, hq, hq2, _, _, e⟩ | ⟨_, _, _, _, e⟩
  · rw [e]; exact ⟨h, by omega⟩
  · rw [e]; exact ⟨h, by omega⟩
  · rw [e]; exact ⟨h, by omega⟩
  · have hne : ¬ (v' = v ∧ i' = i) := by
      rintro ⟨rfl, rfl⟩
      rcases fd_or D v' i' with ⟨_, _, _, _, q, _⟩ | ⟨q, _⟩
      · omega
      · have := q j (by rw [h.n]; exact hj)
        rw [hs, hk] at this; cases this
    have hqj : q ≠ j := by
      rintro rfl
      rw [hs] at hq2
      have := (hasK_iff.1 hk).1
      rw [hq2] at this; cases this
    rw [e]
    rcases putD_or D (q : Int) (srT v' i' x') with e2 | ⟨f, o, e2⟩
    · rw [e2]; exact ⟨h, by omega⟩
    · rw [e2]
      refine ⟨⟨h.n, h.S, fun r hr => ?_⟩, Nat.le_refl _⟩
      show (if r = D.m then (q : Int) else D.I r) ≠ _ ∧ ∃ _ _ _, (if r = D.m then srT v' i' x' else D.T r) = _ ∧ _
      by_cases er : r = D.m
      · rw [if_pos er, if_pos er]
        exact ⟨by omega, v', i', x', rfl, hm, hne⟩
      · rw [if_neg er, if_neg er]
        exact h.row r (by have : r < D.m + 1 := hr; omega)
  · rw [e]; exact ⟨h, by omega⟩
theorem doS_or {I : Nat → Int} {T S : Nat → ByteArray} {q : Nat} : ∀ k, doS I T S k q = S q ∨ ∃ r, r < k ∧ I r = (q : Int) ∧ doS I T S k q = T r
  | 0 => .inl rfl
  | k + 1 => by
    show (if (q : Int) = I k then T k else doS I T S k q) = S q ∨ ∃ r, r < k + 1 ∧ I r = (q : Int) ∧ (if (q : Int) = I k then T k else doS I T S k q) = T r
    by_cases e : (q : Int) = I k
    · rw [if_pos e]; exact .inr ⟨k, by omega, e.symm, rfl⟩
    · rw [if_neg e]
      rcases doS_or (I := I) (T := T) (S := S) (q := q) k with h | ⟨r, h1, h2, h3⟩
      · exact .inl h
      · exact .inr ⟨r, by omega, h2, h3⟩
theorem headS_or (s : ByteArray) {tear : Int} (ht : 0 ≤ tear) : headS s tear = s ∨ ∃ k, k < s.size ∧ headS s tear = s.extract 0 k := by
  obtain ⟨t, rfl⟩ := Int.eq_ofNat_of_zero_le ht
  rcases Nat.lt_or_ge t s.size with q | q
  · exact .inr ⟨t, q, headS_some (by omega)⟩
  · exact .inl (headS_all q)
theorem crash_or {d : Dk} {k : Nat} {tear : Int} {q : Nat} (hk : k ≤ d.m) : crashS d k tear q = d.S q ∨ ∃ r, r < d.m ∧ d.I r = (q : Int) ∧ (crashS d k tear q = d.T r ∨ ∃ p, p < (d.T r).size ∧ crashS d k tear q = (d.T r).extract 0 p) := by
  have ho : doS d.I d.T d.S k q = d.S q ∨ ∃ r, r < d.m ∧ d.I r = (q : Int) ∧ (doS d.I d.T d.S k q = d.T r ∨ ∃ p, p < (d.T r).size ∧ doS d.I d.T d.S k q = (d.T r).extract 0 p) := by
    rcases doS_or (I := d.I) (T := d.T) (S := d.S) (q := q) k with h | ⟨r, h1, h2, h3⟩
    · exact .inl h
    · exact .inr ⟨r, by omega, h2, .inl h3⟩
  unfold crashS
  by_cases c : k < d.m ∧ 0 ≤ tear
  · rw [if_pos c]
    unfold setS
    by_cases e : (q : Int) = d.I k
    · rw [if_pos e]
      refine .inr ⟨k, c.1, e.symm, ?_⟩
      exact headS_or _ c.2
    · rw [if_neg e]; exact ho
  · rw [if_neg c]; exact ho
theorem gs_crash {keep tear : Int} (hr : r < D.n) : gs (crashD D keep tear) r = crashS D (keepN D.m keep) tear r := by
  have hh : hasB (crashD D keep tear).n (r : Int) = true := hasB_nat (d := D) hr
  unfold gs
  rw [(get_in hh).2]
  rfl
theorem Stays.crash {D0 : Dk} (h : Stays D0 D v i j) (hj : j < D0.n) (hk : hasK v i (D0.S j) = true) (hb : ∀ r, r < j → hasK v i (D0.S r) = false) (keep tear : Int) : fdE (crashD D keep tear) v i = 0 ∧ fdX (crashD D keep tear) v i = shX (D0.S j) := by
  have hkn := keepN_le D.m keep
  have hn : (crashD D keep tear).n = D0.n := h.n
  have key : ∀ q, q < D0.n → crashS D (keepN D.m keep) tear q = D0.S q ∨ (q ≠ j ∧ hasK v i (crashS D (keepN D.m keep) tear q) = false) := fun q hq => by
    rcases crash_or (d := D) (tear := tear) (q := q) hkn with e | ⟨r, hr, e1, e2⟩
    · rw [e, h.S]; exact .inl rfl
    · obtain ⟨n1, v', i', x', t1, t2, t3⟩ := h.row r hr
      refine .inr ⟨fun e => n1 (by rw [e1, e]), ?_⟩
      rw [t1] at e2
      rcases e2 with e2 | ⟨p, hp, e2⟩
      · rw [e2]
        cases hh : hasK v i (srT v' i' x')
        · rfl
        · exact absurd (((rec_of t2).2.2.2.2.2 v i).1 hh) t3
      · rw [e2]
        exact hasK_no (rec_head t2 hp)
  have hgj : gs (crashD D keep tear) j = D0.S j := by
    rw [gs_crash (by rw [h.n]; exact hj)]
    rcases key j hj with e | ⟨e, _⟩
    · exact e
    · exact absurd rfl e
  obtain ⟨q1, q2⟩ := fd_at (d := crashD D keep tear) (v := v) (i := i) (j := j) (by rw [hn]; exact hj) (by rw [hgj]; exact hk) (fun r hr => by
    rw [gs_crash (by rw [h.n]; omega)]
    rcases key r (by omega) with e | ⟨_, e⟩
    · rw [e]; exact hb r hr
    · exact e)
  rw [q1, q2, hgj]
  exact ⟨rfl, rfl⟩
/-- .. in the law's words: put, flushed -/
theorem kept_start (h : spE d v i x = 0) (hf : flushE (spD d v i x) = 0) : ∃ j, j < (flushD (spD d v i x)).n ∧ hasK v i ((flushD (spD d v i x)).S j) = true ∧ (∀ r, r < j → hasK v i ((flushD (spD d v i x)).S r) = false) ∧ shX ((flushD (spD d v i x)).S j) = x ∧ Stays (flushD (spD d v i x)) (flushD (spD d v i x)) v i j ∧ (flushD (spD d v i x)).m = 0 := by
  obtain ⟨p1, p2⟩ := put_found h
  obtain ⟨n1, n2⟩ := flushed_n hf
  rw [← (fd_flushed (v := v) (i := i) hf).1] at p1
  rw [← (fd_flushed (v := v) (i := i) hf).2] at p2
  generalize flushD (spD d v i x) = E at *
  have hS : ∀ r, r < E.n → gs E r = E.S r := fun r hr => by
    unfold gs
    rw [(get_in (hasB_nat hr)).2, Int.toNat_natCast, n2]; rfl
  rcases fd_or E v i with ⟨j, hj, hk, hb, _, e2⟩ | ⟨_, e1, _⟩
  · refine ⟨j, hj, by rw [← hS j hj]; exact hk, fun r hr => by rw [← hS r (by omega)]; exact hb r hr, ?_, Stays.start n2, n2⟩
    rw [← hS j hj, ← e2, p2]
  · omega
/-- a put that a crash tears -/
theorem torn_told (hm : d.m = 0) (h7 : fdE d v i = 7) (h : spE d v i x = 0) (keep tear : Int) : fdE (crashD (spD d v i x) keep tear) v i = 7 ∨ (fdE (crashD (spD d v i x) keep tear) v i = 0 ∧ fdX (crashD (spD d v i x) keep tear) v i = x) := by
  rcases sp_or d v i x with ⟨_, e, _⟩ | ⟨_, e1, _⟩ | ⟨_, _, _, e, _⟩ | ⟨hmay, _, j, hj, hs, hb, e1, e2⟩ | ⟨_, _, _, e, _⟩
  · omega
  · omega
  · omega
  · rw [e1] at h
    obtain ⟨f, ef, _⟩ := put_ok h
    rw [e2, ef]
    have hno : ∀ r, r < d.n → hasK v i (gs d r) = false := by
      rcases fd_or d v i with ⟨_, _, _, _, q, _⟩ | ⟨q, _⟩
      · omega
      · exact q
    have hS : ∀ r, r < d.n → gs d r = d.S r := fun r hr => by
      unfold gs
      rw [(get_in (hasB_nat hr)).2, Int.toNat_natCast, hm]; rfl
    have hrow : ∀ q, q < d.n → (gs (crashD (addD d j (srT v i x) f false) keep tear) q = gs d q) ∨ (q = j ∧ (gs (crashD (addD d j (srT v i x) f false) keep tear) q = srT v i x ∨ hasK v i (gs (crashD (addD d j (srT v i x) f false) keep tear) q) = false)) := fun q hq => by
      rw [gs_crash (D := addD d j (srT v i x) f false) hq]
      rcases crash_or (d := addD d j (srT v i x) f false) (tear := tear) (q := q) (keepN_le _ keep) with e | ⟨r, hr, r1, r2⟩
      · rw [e, hS q hq]; exact .inl rfl
      · have er : r = d.m := by have : r < d.m + 1 := hr; omega
        have i1 : (addD d j (srT v i x) f false).I r = (j : Int) := if_pos er
        have i2 : (addD d j (srT v i x) f false).T r = srT v i x := if_pos er
        rw [i1] at r1
        rw [i2] at r2
        refine .inr ⟨by omega, ?_⟩
        rcases r2 with e | ⟨p, hp, e⟩
        · exact .inl e
        · rw [e]; exact .inr (hasK_no (rec_head hmay hp))
    obtain ⟨r1, r2, r3, r4, _, r6⟩ := rec_of hmay
    have hother : ∀ q, q < d.n → q ≠ j → hasK v i (gs (crashD (addD d j (srT v i x) f false) keep tear) q) = false := fun q hq hne => by
      rcases hrow q hq with e | ⟨e, _⟩
      · rw [e]; exact hno q hq
      · exact absurd e hne
    have hwhole : gs (crashD (addD d j (srT v i x) f false) keep tear) j = srT v i x → fdE (crashD (addD d j (srT v i x) f false) keep tear) v i = 0 ∧ fdX (crashD (addD d j (srT v i x) f false) keep tear) v i = x := fun e => by
      obtain ⟨q1, q2⟩ := fd_at (d := crashD (addD d j (srT v i x) f false) keep tear) (v := v) (i := i) (j := j) hj (by rw [e]; exact (r6 v i).2 ⟨rfl, rfl⟩) (fun r hr => hother r (by omega) (by omega))
      rw [q1, q2, e, r4]; exact ⟨rfl, rfl⟩
    have hnone : hasK v i (gs (crashD (addD d j (srT v i x) f false) keep tear) j) = false → fdE (crashD (addD d j (srT v i x) f false) keep tear) v i = 7 := fun e =>
      (fd_none (d := crashD (addD d j (srT v i x) f false) keep tear) (v := v) (i := i) (fun r hr => by
        by_cases q : r = j
        · rw [q]; exact e
        · exact hother r hr q)).1
    rcases hrow j hj with e | ⟨_, e | e⟩
    · exact .inl (hnone (by rw [e]; exact hno j hj))
    · exact .inr (hwhole e)
    · exact .inl (hnone e)
  · omega

/-! ### what was dropped -/
/-- behind the first slots, where no put has failed -/
theorem drS_slots : ∀ q, q ≤ d.n → (drS d v i q).2 = 0 → (drS d v i q).1.n = d.n ∧ ∀ r, r < d.n → gs (drS d v i q).1 r = if r < q ∧ hasK v i (gs d r) = true then ByteArray.empty else gs d r
  | 0, _, _ => ⟨rfl, fun r _ => by rw [if_neg (by omega)]; rfl⟩
  | q + 1, hq, h => by
    cases hk : hasK v i (gs d q)
    · rw [drS_no hk] at h ⊢
      obtain ⟨n1, n2⟩ := drS_slots q (by omega) h
      refine ⟨n1, fun r hr => ?_⟩
      rw [n2 r hr]
      by_cases e : r = q
      · subst e; rw [if_neg (by omega), if_neg (by rw [hk]; simp)]
      · by_cases e2 : r < q
        · have : (r < q ∧ hasK v i (gs d r) = true) ↔ (r < q + 1 ∧ hasK v i (gs d r) = true) := by constructor <;> rintro ⟨_, e⟩ <;> exact ⟨by omega, e⟩
          simp only [this]
        · rw [if_neg (by omega), if_neg (by omega)]
    · have h2 : (drS d v i q).2 = 0 := by
        cases Classical.em ((drS d v i q).2 = 0) with
        | inl e => exact e
        | inr e => rw [drS_end e (q + 1) (by omega)] at h; exact absurd h e
      obtain ⟨n1, n2⟩ := drS_slots q (by omega) h2
      rw [drS_yes hk h2] at h ⊢
      obtain ⟨f, ef, _⟩ := put_ok (d := (drS d v i q).1) (slot := (q : Int)) (s := ByteArray.empty) h
      show (putD (drS d v i q).1 (q : Int) ByteArray.empty).n = d.n ∧ ∀ r, r < d.n → gs (putD (drS d v i q).1 (q : Int) ByteArray.empty) r = _
      rw [ef]
      refine ⟨n1, fun r hr => ?_⟩
      by_cases e : r = q
      · subst e
        rw [gs_added (by rw [n1]; exact hr), if_pos ⟨by omega, hk⟩]
      · rw [gs_add e, n2 r hr]
        by_cases e2 : r < q
        · have : (r < q ∧ hasK v i (gs d r) = true) ↔ (r < q + 1 ∧ hasK v i (gs d r) = true) := by constructor <;> rintro ⟨_, e⟩ <;> exact ⟨by omega, e⟩
          simp only [this]
        · rw [if_neg (by omega), if_neg (by omega)]
theorem drop_slots (h : sdE d v i = 0) : (sdD d v i).n = d.n ∧ ∀ r, r < d.n → gs (sdD d v i) r = if hasK v i (gs d r) = true then ByteArray.empty else gs d r := by
  have h0 : fdE d v i = 0 := by
    rcases fdE_or d v i with e | e
    · exact e
    · unfold sdE at h; rw [if_neg (by omega)] at h; omega
  unfold sdE at h
  unfold sdD
  rw [if_pos h0] at h ⊢
  obtain ⟨n1, n2⟩ := drS_slots d.n (Nat.le_refl _) h
  refine ⟨n1, fun r hr => ?_⟩
  rw [n2 r hr]
  have : (r < d.n ∧ hasK v i (gs d r) = true) ↔ hasK v i (gs d r) = true := ⟨fun e => e.2, fun e => ⟨hr, e⟩⟩
  simp only [this]
theorem drop_gone (h : sdE d v i = 0) : fdE (sdD d v i) v i = 7 := by
  obtain ⟨n1, n2⟩ := drop_slots h
  refine (fd_none (fun r hr => ?_)).1
  rw [n1] at hr
  rw [n2 r hr]
  by_cases e : hasK v i (gs d r) = true
  · rw [if_pos e]; exact hasK_no shB_empty
  · rw [if_neg e]; simpa using e
theorem drop_other (h : sdE d v i = 0) {v' i' : Int} (hne : ¬ (v' = v ∧ i' = i)) : fdE (sdD d v i) v' i' = fdE d v' i' ∧ fdX (sdD d v i) v' i' = fdX d v' i' := by
  obtain ⟨n1, n2⟩ := drop_slots h
  have hex : ∀ s, hasK v i s = true → hasK v' i' s = false := fun s hs => by
    obtain ⟨a1, a2, a3⟩ := hasK_iff.1 hs
    exact hasK_niff.2 (fun q => hne ⟨by omega, by omega⟩)
  refine fd_same n1 (fun r hr => ?_) (fun r hr hk => ?_)
  · rw [n2 r hr]
    by_cases e : hasK v i (gs d r) = true
    · rw [if_pos e, hex _ e, hasK_no shB_empty]
    · rw [if_neg e]
  · rw [n2 r hr]
    by_cases e : hasK v i (gs d r) = true
    · rw [hex _ e] at hk; cases hk
    · rw [if_neg e]

/-! ### what is listed -/
theorem list_found {a b : Nat} : (a, b) ∈ ks (gs d) d.n ↔ fdE d (a : Int) (b : Int) = 0 := by
  rw [ks_mem]
  rcases fd_or d (a : Int) (b : Int) with ⟨j, hj, hk, _, e, _⟩ | ⟨hb, e, _⟩
  · obtain ⟨k1, k2, k3⟩ := hasK_iff.1 hk
    exact ⟨fun _ => e, fun _ => ⟨j, hj, k1, by omega, by omega⟩⟩
  · constructor
    · rintro ⟨j, hj, k1, k2, k3⟩
      have := hb j hj
      rw [hasK_niff] at this
      exact absurd ⟨k1, by omega, by omega⟩ this
    · intro q; omega
end
end Go.Proofs.Ytofafmjkjgiccaa.Mat
