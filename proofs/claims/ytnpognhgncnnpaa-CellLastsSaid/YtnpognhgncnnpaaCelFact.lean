/- What follows of cells: what was written is read, at once and behind a flush; crashes. No walk. -/
import Derived.Test.YtnpognhgncnnpaaCelShow
namespace Go.Proofs.Ytnpognhgncnnpaa.Mat
open Go.RowKit Fld

theorem cu_new0 {a b x : ByteArray} (h : cuAt a b = 0) (hx : x.size ≤ 1000) (ht : cuT a b + 1 < 18446744073709551616) :
    cuAt a (recS (cuT a b + 1) x) = 1 ∧ cuT a (recS (cuT a b + 1) x) = cuT a b + 1 ∧ cuX a (recS (cuT a b + 1) x) = x ∧ cuE a (recS (cuT a b + 1) x) = 0 := by
  obtain ⟨r1, _, r3, r4⟩ := rec_taken ht hx
  have e : cuT a b = tcV a := by unfold cuT; rw [if_pos h]
  obtain ⟨h1, h2, h3, h4, _⟩ := cuAt_one (a := a) r1 (.inr (by rw [r3, ← e]; exact Nat.lt_succ_self _))
  exact ⟨h1, by rw [h2, r3], by rw [h3, r4], h4⟩
theorem cu_new1 {a b x : ByteArray} (h : cuAt a b = 1) (hx : x.size ≤ 1000) (ht : cuT a b + 1 < 18446744073709551616) :
    cuAt (recS (cuT a b + 1) x) b = 0 ∧ cuT (recS (cuT a b + 1) x) b = cuT a b + 1 ∧ cuX (recS (cuT a b + 1) x) b = x ∧ cuE (recS (cuT a b + 1) x) b = 0 := by
  obtain ⟨r1, _, r3, r4⟩ := rec_taken ht hx
  have e : cuT a b = tcV b := by unfold cuT; rw [h]; rfl
  obtain ⟨h1, h2, h3, h4, _⟩ := cuAt_zero (b := b) r1 (.inr (by rw [r3, ← e]; exact Nat.le_succ _))
  exact ⟨h1, by rw [h2, r3], by rw [h3, r4], h4⟩
/-- a write to a pair of slots -/
def nw0 (a b x : ByteArray) : ByteArray := if cuAt a b = 0 then a else recS (cuT a b + 1) x
def nw1 (a b x : ByteArray) : ByteArray := if cuAt a b = 0 then recS (cuT a b + 1) x else b
theorem cu_new {a b x : ByteArray} (hx : x.size ≤ 1000) (ht : cuT a b + 1 < 18446744073709551616) :
    cuT (nw0 a b x) (nw1 a b x) = cuT a b + 1 ∧ cuX (nw0 a b x) (nw1 a b x) = x ∧ cuE (nw0 a b x) (nw1 a b x) = 0 := by
  rcases cuAt_lt a b with h | h
  · have e0 : nw0 a b x = a := if_pos h
    have e1 : nw1 a b x = recS (cuT a b + 1) x := if_pos h
    rw [e0, e1]
    exact (cu_new0 h hx ht).2
  · have e0 : nw0 a b x = recS (cuT a b + 1) x := if_neg (by omega)
    have e1 : nw1 a b x = b := if_neg (by omega)
    rw [e0, e1]
    exact (cu_new1 h hx ht).2
/-- the other slot has a text that is no record: the cell is what it was -/
theorem cu_torn {a b h : ByteArray} (hh : tcB h = false) : (cuAt a b = 0 → cuX a h = cuX a b ∧ cuE a h = cuE a b) ∧ (cuAt a b = 1 → cuX h b = cuX a b ∧ cuE h b = cuE a b) := by
  constructor
  · intro e
    have ha : tcB a = true := by
      cases ha : tcB a
      · have : cuAt a b = 1 := if_neg (fun q => by rw [ha] at q; cases q.1)
        omega
      · rfl
    obtain ⟨_, _, h3, h4, _⟩ := cuAt_zero (b := h) ha (.inl hh)
    have e2 : cuX a b = tcX a := by unfold cuX; rw [if_pos e]
    have e3 : cuE a b = 0 := by unfold cuE cuB; rw [ha]; rfl
    exact ⟨by rw [h3, e2], by rw [h4, e3]⟩
  · intro e
    cases hb : tcB b
    · have ha : tcB a = false := by
        cases ha : tcB a
        · rfl
        · have := (cuAt_zero (b := b) ha (.inl hb)).1
          omega
      obtain ⟨_, _, h3, h4, _⟩ := cuAt_none hh hb
      obtain ⟨_, _, g3, g4, _⟩ := cuAt_none ha hb
      exact ⟨by rw [h3, g3], by rw [h4, g4]⟩
    · obtain ⟨_, _, h3, h4, _⟩ := cuAt_one (a := h) hb (.inl hh)
      have e2 : cuX a b = tcX b := by unfold cuX; rw [e]; rfl
      have e3 : cuE a b = 0 := by unfold cuE cuB; rw [hb, Bool.or_true]; rfl
      exact ⟨by rw [h3, e2], by rw [h4, e3]⟩

/-! ### a disk's cell -/
theorem both_has {n : Nat} {base : Int} (h : bothB n base = true) : hasB n base = true ∧ hasB n (base + 1) = true := by
  obtain ⟨a0, a1⟩ := both_iff.1 h
  exact ⟨hasB_yes ⟨a0, by omega⟩, hasB_yes ⟨by omega, a1⟩⟩
theorem wr_ok {d : Dk} {base : Int} {x : ByteArray} (h : wrE d base x = 0) : bothB d.n base = true ∧ x.size ≤ 1000 ∧ rdT d base + 1 < 18446744073709551616 ∧ putE d (base + 1 - (rdA d base : Int)) (recS (rdT d base + 1) x) = 0 ∧ wrD d base x = putD d (base + 1 - (rdA d base : Int)) (recS (rdT d base + 1) x) := by
  cases hb : bothB d.n base
  · rw [(wr_out x hb).1] at h; omega
  · by_cases hx : 1000 < x.size
    · rw [(wr_big hb hx).1] at h; omega
    · by_cases ht : rdT d base = 18446744073709551615
      · rw [(wr_full hb hx ht).1] at h; omega
      · obtain ⟨e1, e2⟩ := wr_put hb hx ht
        have := rdT_max d base
        exact ⟨rfl, by omega, by omega, by rw [← e1]; exact h, e2⟩
/-- a cell behind a write that stands among those that wait -/
theorem add_cell {d : Dk} {base : Int} (hb : bothB d.n base = true) (x : ByteArray) (f : Int) (o : Bool) :
    s0 (addD d (base + 1 - (rdA d base : Int)) (recS (rdT d base + 1) x) f o) base = nw0 (s0 d base) (s1 d base) x ∧ s1 (addD d (base + 1 - (rdA d base : Int)) (recS (rdT d base + 1) x) f o) base = nw1 (s0 d base) (s1 d base) x := by
  obtain ⟨h0, h1⟩ := both_has hb
  obtain ⟨_, r2, r3, _⟩ := rd_in hb
  rw [r2, r3]
  rcases cuAt_lt (s0 d base) (s1 d base) with e | e
  · have e0 : nw0 (s0 d base) (s1 d base) x = s0 d base := if_pos e
    have e1 : nw1 (s0 d base) (s1 d base) x = recS (cuT (s0 d base) (s1 d base) + 1) x := if_pos e
    rw [e0, e1, e, show base + 1 - ((0 : Nat) : Int) = base + 1 by omega]
    exact ⟨get_add (by omega), (get_added h1).1⟩
  · have e0 : nw0 (s0 d base) (s1 d base) x = recS (cuT (s0 d base) (s1 d base) + 1) x := if_neg (by omega)
    have e1 : nw1 (s0 d base) (s1 d base) x = s1 d base := if_neg (by omega)
    rw [e0, e1, e, show base + 1 - ((1 : Nat) : Int) = base by omega]
    exact ⟨(get_added h0).1, get_add (by omega)⟩
theorem rd_of {d D : Dk} {base : Int} {a b : ByteArray} (hn : D.n = d.n) (hb : bothB d.n base = true) (h0 : s0 D base = a) (h1 : s1 D base = b) : rdE D base = cuE a b ∧ rdT D base = cuT a b ∧ rdX D base = cuX a b := by
  obtain ⟨e1, _, e3, e4⟩ := rd_in (d := D) (base := base) (by rw [hn]; exact hb)
  rw [e1, e3, e4, h0, h1]
  exact ⟨rfl, rfl, rfl⟩
theorem flush_cell {d : Dk} {base : Int} (hb : bothB d.n base = true) (ho : d.off = false) : s0 (flushD d) base = s0 d base ∧ s1 (flushD d) base = s1 d base ∧ (flushD d).n = d.n := by
  obtain ⟨h0, h1⟩ := both_has hb
  have e : flushD d = doneD d (doS d.I d.T d.S d.m) d.fuse false := by unfold flushD; rw [ho]; rfl
  rw [e]
  exact ⟨get_flushed h0, get_flushed h1, rfl⟩
theorem reads_all {d : Dk} {base : Int} {x : ByteArray} (h : wrE d base x = 0) :
    rdE (wrD d base x) base = 0 ∧ rdX (wrD d base x) base = x ∧ rdT (wrD d base x) base = rdT d base + 1 ∧ flushE (wrD d base x) = 0 ∧
    rdE (flushD (wrD d base x)) base = 0 ∧ rdX (flushD (wrD d base x)) base = x ∧ rdT (flushD (wrD d base x)) base = rdT d base + 1 := by
  obtain ⟨hb, hx, ht, hp, hD⟩ := wr_ok h
  obtain ⟨f, e, ho, _, _⟩ := put_ok hp
  rw [hD, e]
  obtain ⟨k0, k1⟩ := add_cell hb x f false
  obtain ⟨_, _, r3, _⟩ := rd_in hb
  rw [r3] at ht
  obtain ⟨n1, n2, n3⟩ := cu_new hx ht
  obtain ⟨q1, q2, q3⟩ := rd_of (d := d) (D := addD d (base + 1 - (rdA d base : Int)) (recS (rdT d base + 1) x) f false) rfl hb k0 k1
  obtain ⟨g0, g1, g2⟩ := flush_cell (d := addD d (base + 1 - (rdA d base : Int)) (recS (rdT d base + 1) x) f false) (base := base) hb rfl
  obtain ⟨p1, p2, p3⟩ := rd_of (d := d) (D := flushD (addD d (base + 1 - (rdA d base : Int)) (recS (rdT d base + 1) x) f false)) g2 hb (g0.trans k0) (g1.trans k1)
  exact ⟨by rw [q1, n3], by rw [q3, n2], by rw [q2, n1, r3], rfl, by rw [p1, n3], by rw [p3, n2], by rw [p2, n1, r3]⟩
/-- another slot -/
theorem apart_slot {d : Dk} {base slot : Int} {x : ByteArray} (h0 : slot ≠ base) (h1 : bothB d.n base = true → slot ≠ base + 1) : getS (wrD d base x) slot = getS d slot := by
  cases hb : bothB d.n base
  · rw [(wr_out x hb).2]
  · by_cases hx : 1000 < x.size
    · rw [(wr_big hb hx).2]
    · by_cases ht : rdT d base = 18446744073709551615
      · rw [(wr_full hb hx ht).2]
      · rw [(wr_put hb hx ht).2]
        have h2 := h1 hb
        have hne : slot ≠ base + 1 - (rdA d base : Int) := by
          rcases rdA_in d base with e | e <;> rw [e] <;> omega
        unfold putD
        by_cases e1 : d.off = true
        · rw [if_pos e1]
        · rw [if_neg e1]
          by_cases e2 : hasB d.n (base + 1 - (rdA d base : Int)) = false
          · rw [if_pos e2]
          · rw [if_neg e2]
            by_cases e3 : 1024 < (recS (rdT d base + 1) x).size
            · rw [if_pos e3]
            · rw [if_neg e3]
              by_cases e4 : d.fuse = 0
              · rw [if_pos e4]; exact get_add hne
              · rw [if_neg e4]; exact get_add hne
end Go.Proofs.Ytnpognhgncnnpaa.Mat
