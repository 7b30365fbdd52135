/- The law ShelfLists: walked from what it asks of the program. -/
import Derived.Test.YtofafmjkjgiccaaSheLawC
namespace Go.Proofs.Ytofafmjkjgiccaa.Mat
open Go.RowKit Fld

/-- is the key among the first ones? -/
def inZ (l : List (Nat × Nat)) (v i : Int) : Nat → Bool
  | 0 => false
  | q + 1 => inZ l v i q || decide (∃ p, l[q]? = some p ∧ (p.1 : Int) = v ∧ (p.2 : Int) = i)
theorem inZ_mem {l : List (Nat × Nat)} {v i : Int} : ∀ {q : Nat}, inZ l v i q = true ↔ ∃ r, r < q ∧ ∃ p, l[r]? = some p ∧ (p.1 : Int) = v ∧ (p.2 : Int) = i
  | 0 => by simp [inZ]
  | q + 1 => by
    unfold inZ
    rw [Bool.or_eq_true, inZ_mem, decide_eq_true_iff]
    constructor
    · rintro (⟨r, h1, h2⟩ | h)
      · exact ⟨r, by omega, h2⟩
      · exact ⟨q, by omega, h⟩
    · rintro ⟨r, h1, h2⟩
      rcases Nat.lt_or_ge r q with e | e
      · exact .inl ⟨r, e, h2⟩
      · rw [show r = q by omega] at h2; exact .inr h2
theorem inZ_on {l : List (Nat × Nat)} {v i : Int} {q : Nat} (h : inZ l v i q = true) : inZ l v i (q + 1) = true := by unfold inZ; rw [h]; rfl
theorem inZ_yes {l : List (Nat × Nat)} {v i : Int} {q : Nat} {p : Nat × Nat} (h : l[q]? = some p) (h1 : (p.1 : Int) = v) (h2 : (p.2 : Int) = i) : inZ l v i (q + 1) = true := inZ_mem.2 ⟨q, by omega, p, h, h1, h2⟩
theorem inZ_no {l : List (Nat × Nat)} {v i : Int} {q : Nat} {p : Nat × Nat} (h : l[q]? = some p) (h1 : ¬ ((p.1 : Int) = v ∧ (p.2 : Int) = i)) (h0 : inZ l v i q = false) : inZ l v i (q + 1) = false := by
  unfold inZ
  rw [h0, Bool.false_or, decide_eq_false_iff_not]
  rintro ⟨p', e, e1, e2⟩
  rw [h] at e
  injection e with e
  subst e
  exact h1 ⟨e1, e2⟩
theorem inZ_all {d : Dk} {v i : Int} : inZ (ks (gs d) d.n) v i (ks (gs d) d.n).length = (fdE d v i == 0) := by
  rw [Bool.eq_iff_iff, inZ_mem, beq_iff_eq]
  constructor
  · rintro ⟨r, hr, ⟨a, b⟩, h, h1, h2⟩
    have hm := list_found.1 (List.mem_of_getElem? h)
    rw [← h1, ← h2]; exact hm
  · intro h
    rcases fd_or d v i with ⟨j, hj, hk, _⟩ | ⟨_, e, _⟩
    · obtain ⟨k1, k2, k3⟩ := hasK_iff.1 hk
      obtain ⟨r, hr⟩ := List.mem_iff_getElem?.1 (ks_mem.2 ⟨j, hj, k1, rfl, rfl⟩ : (shV (gs d j), shI (gs d j)) ∈ ks (gs d) d.n)
      exact ⟨r, (List.getElem?_eq_some_iff.1 hr).1, _, hr, k2, k3⟩
    · omega
section
variable {w : World} {d : Dk} {A B : Option Addr} {c k : Nat}
theorem lists_start (h : DOk w A c B k d) (v i : Int) : ∃ W, W = (w.alloc (.cells #[.slice A d.n c, .slice B d.m k, .int .i64 d.fuse, .bool d.off] 39)).alloc (.cells #[.int .i64 v, .int .i64 i] 41) ∧ Vr W w.heap.size d A c B k ∧ Kx W (w.heap.size + 1) v i ∧ Below w.heap.size w W := by
  obtain ⟨W, hW, hX, hK, hD, hB⟩ := find_start h v i
  exact ⟨W, hW, ⟨hX, hD⟩, hK, hB⟩
set_option maxRecDepth 100000 in
set_option maxHeartbeats 6400000 in
theorem lawLists (C : ShelfOk) (h : DOk w A c B k d) (v i : Int) :
    Calls Try.prog 8 #[.agg #[.slice A d.n c, .slice B d.m k, .int .i64 d.fuse, .bool d.off], .agg #[.int .i64 v, .int .i64 i]] w (BoolRet w true) := by
  have hbn := h.sz.bn
  have c1 := fun W A c B k (h : DOk W A c B k d) => C.list W A c B k d h
  have c2 := fun W A c B k (h : DOk W A c B k d) (a b : Nat) (hm : (a, b) ∈ ks (gs d) d.n) => (by
    have := C.find W A c B k d h (a : Int) (b : Int)
    rw [list_found.1 hm] at this
    exact this : Calls Try.prog 24 #[.agg #[.slice A d.n c, .slice B d.m k, .int .i64 d.fuse, .bool d.off], .agg #[.int .i64 (a : Int), .int .i64 (b : Int)]] W (TxtRet W 0 (fdX d (a : Int) (b : Int))))
  have c3 := fun W A c B k (h : DOk W A c B k d) => C.find W A c B k d h v i
  have hall := inZ_all (d := d) (v := v) (i := i)
  have hlen := ks_len (gs d) d.n
  have CS := Lib.hid (shelfShown_any C)
  obtain ⟨W, hW, hV, hK, hB⟩ := lists_start h v i
  generalize ks (gs d) d.n = l at *
  generalize fdE d v i = E1 at *
  generalize fdX d v i = X1 at *
  have hlb : l.length ≤ 140737488351232 := by omega
  have C1 := Lib.hid c1
  have C2 := Lib.hid c2
  have C3 := Lib.hid c3
  have HALL := Lib.hid hall
  have Hd := Lib.hid hV
  have Hk := Lib.hid hK
  have HB0 := Lib.hid hB
  clear c1 c2 c3 hall hV hK hB h C hlen hbn
  go_enter Try.func8, Try.ntmps8
  go_upto_region 1 with fail
  rw [← hW]
  clear hW
  go_wp2_with fail
  refine (CS.out _).mono ?_; rintro e w1 ⟨rfl, hb1⟩
  have Nd := Lib.hid (Hd.out.up hb1)
  have Nk := Lib.hid (Hk.out.up hb1)
  clear Hd Hk
  have Hd := Nd
  have Hk := Nk
  clear Nd Nk
  have HB1 := Lib.hid (up_trans HB0.out hb1)
  clear hb1 HB0
  obtain ⟨da, db, dc, dd⟩ := Hd.out.cells
  go_wp2_with fail
  clear da db dc dd
  refine (C1.out _ _ _ _ _ Hd.out.ok).mono ?_; rintro e w2 ⟨A2, c2, rfl, hk2, hb2⟩
  have Nd := Lib.hid (Hd.out.up hb2)
  have Nk := Lib.hid (Hk.out.up hb2)
  clear Hd Hk
  have Hd := Nd
  have Hk := Nk
  clear Nd Nk
  have HB2 := Lib.hid (up_trans HB1.out hb2)
  have HK := Lib.hid hk2
  clear hb2 hk2 HB1
  go_wp2
  go_loopg [7, 8] l.length (fun gh u y wr => ∃ q : Nat, q ≤ l.length ∧ gh = l.length - q ∧ u = .bool (inZ l v i q) ∧ y = .int .i64 (q : Nat) ∧ Below w2.heap.size w2 wr)
  case atStart => exact ⟨0, Nat.zero_le _, rfl, rfl, rfl, Below.refl _ _⟩
  case round =>
    obtain ⟨q, hq, hgh, rfl, rfl, hr⟩ := hrel
    have HR := Lib.hid hr
    have HDR := Lib.hid (Hd.out.up hr)
    have HKR := Lib.hid (Hk.out.up hr)
    have HLR := Lib.hid (HK.out.up hr)
    clear hr
    by_cases hlt : q < l.length
    rotate_left
    · have hqz : ¬ (q : Int) < (l.length : Int) := by omega
      obtain rfl : q = l.length := by omega
      rw [HALL.out]
      obtain ⟨x0, x1, x2, x3⟩ := HDR.out.cells
      obtain ⟨k0, k1⟩ := HKR.out.cells
      go_wp2_with fail
      refine (C3.out _ _ _ _ _ HDR.out.ok).mono ?_; rintro e w5 ⟨rfl, hb5⟩
      have HB5 := Lib.hid (up_trans (up_trans HB2.out HR.out) hb5)
      clear hb5 x0 x1 x2 x3 k0 k1
      go_wp2
      go_ret
      exact ⟨ret_bool (by first | rfl | simp), HB5.out⟩
    have hqz : (q : Int) < (l.length : Int) := by omega
    obtain ⟨ad, rfl, _, k0, k1⟩ := HLR.out.at_ hlt
    have e1 := List.getElem?_eq_getElem hlt
    have hmem := List.getElem_mem hlt
    have KL : Hid (∀ W, Below wr.heap.size wr W → W.cell? (ad.add (q * 2)) = some (.int .i64 ((l[q].1 : Nat) : Int)) ∧ W.cell? ⟨(ad.add (q * 2)).block, (ad.add (q * 2)).off + 1, none⟩ = some (.int .i64 ((l[q].2 : Nat) : Int))) := Lib.hid (fun W hb => by
      obtain ⟨ad', e, _, q0, q1⟩ := (HLR.out.up hb).at_ hlt
      injection e with e
      subst e
      exact ⟨q0, q1⟩)
    generalize l[q] = p at *
    obtain ⟨p1, p2⟩ := p
    dsimp only at k0 k1 KL
    have hc := fun W A c B k h => C2.out W A c B k h p1 p2 hmem
    have hyes := fun (h1 : (p1 : Int) = v) (h2 : (p2 : Int) = i) => inZ_yes (v := v) (i := i) e1 h1 h2
    have hno := fun h1 h0 => inZ_no (v := v) (i := i) e1 h1 h0
    have hq2 := fun W => eqlK (p1 : Int) (p2 : Int) v i W
    generalize fdX d (p1 : Int) (p2 : Int) = X3 at *
    have HC := Lib.hid hc
    have HYES := Lib.hid hyes
    have HNO := Lib.hid hno
    have HQ2 := Lib.hid hq2
    clear hc hyes hno e1 hmem hq2
    obtain ⟨x0, x1, x2, x3⟩ := HDR.out.cells
    have K : Hid (∀ W, Below wr.heap.size wr W → (W.cell? ⟨w.heap.size, 0, none⟩ = some (.slice A d.n c) ∧ W.cell? ⟨w.heap.size, 1, none⟩ = some (.slice B d.m k) ∧ W.cell? ⟨w.heap.size, 2, none⟩ = some (.int .i64 d.fuse) ∧ W.cell? ⟨w.heap.size, 3, none⟩ = some (.bool d.off)) ∧ W.cell? (ad.add (q * 2)) = some (.int .i64 (p1 : Nat)) ∧ W.cell? ⟨(ad.add (q * 2)).block, (ad.add (q * 2)).off + 1, none⟩ = some (.int .i64 (p2 : Nat))) := Lib.hid (fun W hb => ⟨(HDR.out.up hb).cells, KL.out W hb⟩)
    go_upto_region 7 with fail
    go_region_held3 (fun W => (W.cell? ⟨w.heap.size, 0, none⟩ = some (.slice A d.n c) ∧ W.cell? ⟨w.heap.size, 1, none⟩ = some (.slice B d.m k) ∧ W.cell? ⟨w.heap.size, 2, none⟩ = some (.int .i64 d.fuse) ∧ W.cell? ⟨w.heap.size, 3, none⟩ = some (.bool d.off)) ∧ W.cell? (ad.add (q * 2)) = some (.int .i64 (p1 : Nat)) ∧ W.cell? ⟨(ad.add (q * 2)).block, (ad.add (q * 2)).off + 1, none⟩ = some (.int .i64 (p2 : Nat)))
      (first | exact ⟨⟨x0, x1, x2, x3⟩, k0, k1⟩ | exact K.out _ b5.out | go_keep)
      (first
        | (go_at_call 24; (with_reducible refine Calls.mono (HC.out _ _ _ _ _ HDR.out.ok.drew) ?_); rintro e w5 ⟨rfl, hb5⟩; have b5 : Hid (Below wr.heap.size wr w5) := Lib.hid (below_of_drew hb5); clear hb5))
    clear x0 x1 x2 x3 k0 k1 K
    obtain ⟨k0, k1⟩ := KL.out _ b5.out
    obtain ⟨l0, l1⟩ := (HKR.out.up b5.out).cells
    have H5 := Lib.hid (up_trans HR.out b5.out)
    cases hb : inZ l v i q
    · by_cases he : (p1 : Int) = v ∧ (p2 : Int) = i
      · have t1 : ((p1 : Int) == v && (p2 : Int) == i) = true := by rw [he.1, he.2]; simp
        have hnq := HQ2.out
        rw [t1] at hnq
        have HT := Lib.hid (HYES.out he.1 he.2)
        clear t1 he hb
        go_wp2_with fail
        go_quiet (fail)
        go_wp2
        go_roundg (l.length - (q + 1))
        case measure => go_light; omega
        case rel => go_light; exact ⟨q + 1, by omega, rfl, by rw [HT.out], by simp, below_drewN H5.out _⟩
      · have t1 : ((p1 : Int) == v && (p2 : Int) == i) = false := by
          rw [Bool.and_eq_false_iff, beq_eq_false_iff_ne, beq_eq_false_iff_ne]
          omega
        have hnq := HQ2.out
        rw [t1] at hnq
        have HT := Lib.hid (HNO.out he hb)
        clear t1 he hb
        go_wp2_with fail
        go_quiet (fail)
        go_wp2
        go_roundg (l.length - (q + 1))
        case measure => go_light; omega
        case rel => go_light; exact ⟨q + 1, by omega, rfl, by rw [HT.out], by simp, below_drewN H5.out _⟩
    · have HT := Lib.hid (inZ_on hb)
      clear hb
      go_wp2_with fail
      go_quiet (fail)
      go_wp2
      go_roundg (l.length - (q + 1))
      case measure => go_light; omega
      case rel => go_light; exact ⟨q + 1, by omega, rfl, by rw [HT.out], by simp, below_drewN H5.out _⟩
end
end Go.Proofs.Ytofafmjkjgiccaa.Mat
