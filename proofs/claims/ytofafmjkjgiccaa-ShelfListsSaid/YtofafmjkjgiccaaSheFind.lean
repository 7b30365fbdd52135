/- The document's Find and Free: walked. -/
import Derived.Test.YtofafmjkjgiccaaSheTake
import Derived.Test.YtofafmjkjgiccaaSheDisk
namespace Go.Proofs.Ytofafmjkjgiccaa.Mat
open Go.RowKit Fld

/-- a key in memory -/
def kv (v i : Int) (j : Nat) : Value := if j = 0 then .int .i64 v else .int .i64 i
def Kx (w : World) (b : Nat) (v i : Int) : Prop := Has w b 41 2 (kv v i)
section
variable {w w' : World} {b : Nat} {v i : Int}
theorem Kx.cells (h : Kx w b v i) : w.cell? ⟨b, 0, none⟩ = some (.int .i64 v) ∧ w.cell? ⟨b, 1, none⟩ = some (.int .i64 i) := ⟨Has.cell h (show 0 < 2 by omega), Has.cell h (show 1 < 2 by omega)⟩
theorem Kx.up (h : Kx w b v i) (hb : Below w.heap.size w w') : Kx w' b v i := Has.below h hb (Has.lt h)
theorem Kx.alloc (h : Kx w b v i) (o : Obj) : Kx (w.alloc o) b v i := Has.alloc h o
theorem kx_new (w : World) (v i : Int) : Kx (w.alloc (.cells #[.int .i64 v, .int .i64 i] 41)) w.heap.size v i :=
  has_new w _ _ (fun j hj => by
    have : j = 0 ∨ j = 1 := by omega
    rcases this with rfl | rfl <;> rfl)
end
section
variable {w : World} {A B : Option Addr} {c k : Nat} {d : Dk}
/-- a disk's box alone -/
theorem box_start (h : DOk w A c B k d) : ∃ W, W = w.alloc (.cells #[.slice A d.n c, .slice B d.m k, .int .i64 d.fuse, .bool d.off] 39) ∧
    Bx W w.heap.size (.slice A d.n c) (.slice B d.m k) (.int .i64 d.fuse) (.bool d.off) ∧ DOk W A c B k d ∧ Below w.heap.size w W := by
  have hx := bx_new w (.slice A d.n c) (.slice B d.m k) (.int .i64 d.fuse) (.bool d.off)
  have hb := (Below.refl w.heap.size w).alloc (Nat.le_refl _) (.cells #[.slice A d.n c, .slice B d.m k, .int .i64 d.fuse, .bool d.off] 39)
  exact ⟨_, rfl, hx, h.up hb, hb⟩
theorem find_start (h : DOk w A c B k d) (v i : Int) : ∃ W, W = (w.alloc (.cells #[.slice A d.n c, .slice B d.m k, .int .i64 d.fuse, .bool d.off] 39)).alloc (.cells #[.int .i64 v, .int .i64 i] 41) ∧
    Bx W w.heap.size (.slice A d.n c) (.slice B d.m k) (.int .i64 d.fuse) (.bool d.off) ∧ Kx W (w.heap.size + 1) v i ∧ DOk W A c B k d ∧ Below w.heap.size w W := by
  obtain ⟨W, hW, hX, hD, hB⟩ := box_start h
  have hk := kx_new W v i
  have hs : W.heap.size = w.heap.size + 1 := by rw [hW, size_alloc]
  rw [hs] at hk
  exact ⟨W.alloc (.cells #[.int .i64 v, .int .i64 i] 41), by rw [hW], hX.alloc _, hk, hD.up ((Below.refl _ _).alloc (Nat.le_refl _) _), hB.alloc hB.size _⟩

set_option maxRecDepth 100000 in
set_option maxHeartbeats 3200000 in
theorem refFind_any (h : DOk w A c B k d) (v i : Int) :
    Calls Try.prog 25 #[.agg #[.slice A d.n c, .slice B d.m k, .int .i64 d.fuse, .bool d.off], .agg #[.int .i64 v, .int .i64 i]] w (TxtRet w (fdE d v i) (fdX d v i)) := by
  obtain ⟨W, hW, hX, hK, hD, hB⟩ := find_start h v i
  have hbn := h.sz.bn
  have c1 := fun W' (hb : Below W.heap.size W W') (j : Nat) (hj : j < d.n) => refAt_any (hD.up hb) j hj
  have C1 := Lib.hid c1
  have HX := Lib.hid hX
  have HK := Lib.hid hK
  have HB := Lib.hid hB
  clear c1 hX hK hB hD h
  go_enter Try.func25, Try.ntmps25
  go_upto_region 1 with fail
  rw [← hW]
  clear hW
  go_wp2
  go_loopg [6] d.n (fun gh x wr => ∃ j : Nat, j ≤ d.n ∧ gh = d.n - j ∧ x = .int .i64 (j : Nat) ∧ (∀ r, r < j → hasK v i (gs d r) = false) ∧ Below W.heap.size W wr)
  case atStart => exact ⟨0, Nat.zero_le _, rfl, rfl, fun r hr => absurd hr (Nat.not_lt_zero _), Below.refl _ _⟩
  case round =>
    obtain ⟨j, hj, hgh, rfl, hb, hr⟩ := hrel
    have HR := Lib.hid hr
    have HBF := Lib.hid hb
    obtain ⟨x0, x1, x2, x3⟩ := (HX.out.up hr).cells
    obtain ⟨k0, k1⟩ := (HK.out.up hr).cells
    clear hr hb
    by_cases hlt : j < d.n
    rotate_left
    · have hjz : ¬ (j : Int) < (d.n : Int) := by omega
      have E := Lib.hid (fd_none (d := d) (v := v) (i := i) (fun r hr => HBF.out r (by omega)))
      go_wp2
      go_ret2
      exact ⟨by rw [E.out.1, E.out.2]; rfl, up_trans HB.out HR.out⟩
    have hjz : (j : Int) < (d.n : Int) := by omega
    have hc1 := fun w2 (hb : Below W.heap.size W w2) => C1.out w2 hb j hlt
    have hfd := fun (hk : hasK v i (gs d j) = true) => fd_at hlt hk HBF.out
    have hno := fun (hk : hasK v i (gs d j) = false) r (hr : r < j + 1) => (by
      rcases Nat.lt_or_ge r j with q | q
      · exact HBF.out r q
      · rw [show r = j by omega]; exact hk : hasK v i (gs d r) = false)
    have hki := hasK_iff (v := v) (i := i) (s := gs d j)
    have q0 : getS d (j : Int) = gs d j := rfl
    rw [q0] at hc1
    generalize shX (gs d j) = sx at *
    generalize shV (gs d j) = sv at *
    generalize shI (gs d j) = si at *
    generalize ((gs d j).size == 0) = em at *
    have HNO := Lib.hid hno
    have HFD := Lib.hid hfd
    have HKI := Lib.hid hki
    have HC := Lib.hid hc1
    clear hc1 hfd hno hki q0
    generalize hasK v i (gs d j) = hk at *
    cases hsb : shB (gs d j)
    · have hkf : hk = false := by
        cases hk
        · rfl
        · have := (HKI.out.1 rfl).1; rw [hsb] at this; cases this
      rw [hsb] at HC
      have HN := Lib.hid (HNO.out hkf)
      clear hsb hkf HKI HFD HNO
      go_wp2_with fail
      refine (HC.out _ HR.out).mono ?_; rintro e w2 ⟨rfl, hb2⟩
      have H2 := Lib.hid (up_trans HR.out hb2)
      have H3 := Lib.hid (H2.out.alloc H2.out.size (.cells #[.int .i64 (sv : Int), .int .i64 (si : Int), .string sx] 23))
      clear hb2 x0 x1 x2 x3 k0 k1
      go_wp2
      go_roundg (d.n - (j + 1))
      case measure => go_light; omega
      case rel => go_light; exact ⟨j + 1, by omega, rfl, by simp, HN.out, H3.out⟩
    rw [hsb] at HC
    by_cases hv : (sv : Int) = v
    rotate_left
    · have hkf : hk = false := by
        cases hk
        · rfl
        · exact absurd (HKI.out.1 rfl).2.1 hv
      have g1 : ((sv : Int) == v) = false := beq_eq_false_iff_ne.2 hv
      have HN := Lib.hid (HNO.out hkf)
      clear hsb hkf hv HKI HFD HNO
      go_wp2_with fail
      refine (HC.out _ HR.out).mono ?_; rintro e w2 ⟨rfl, hb2⟩
      have H2 := Lib.hid (up_trans HR.out hb2)
      have H3 := Lib.hid (H2.out.alloc H2.out.size (.cells #[.int .i64 (sv : Int), .int .i64 (si : Int), .string sx] 23))
      obtain ⟨y0, y1, y2⟩ := (sx_new w2 (sv : Int) (si : Int) sx).cells
      obtain ⟨l0, l1⟩ := (HK.out.up H3.out).cells
      clear hb2 x0 x1 x2 x3 k0 k1
      go_wp2
      go_roundg (d.n - (j + 1))
      case measure => go_light; omega
      case rel => go_light; exact ⟨j + 1, by omega, rfl, by simp, HN.out, H3.out⟩
    by_cases hi : (si : Int) = i
    rotate_left
    · have hkf : hk = false := by
        cases hk
        · rfl
        · exact absurd (HKI.out.1 rfl).2.2 hi
      have g1 : ((sv : Int) == v) = true := beq_iff_eq.2 hv
      have g2 : ((si : Int) == i) = false := beq_eq_false_iff_ne.2 hi
      have HN := Lib.hid (HNO.out hkf)
      clear hsb hkf hv hi HKI HFD HNO
      go_wp2_with fail
      refine (HC.out _ HR.out).mono ?_; rintro e w2 ⟨rfl, hb2⟩
      have H2 := Lib.hid (up_trans HR.out hb2)
      have H3 := Lib.hid (H2.out.alloc H2.out.size (.cells #[.int .i64 (sv : Int), .int .i64 (si : Int), .string sx] 23))
      obtain ⟨y0, y1, y2⟩ := (sx_new w2 (sv : Int) (si : Int) sx).cells
      obtain ⟨l0, l1⟩ := (HK.out.up H3.out).cells
      clear hb2 x0 x1 x2 x3 k0 k1
      go_wp2
      go_roundg (d.n - (j + 1))
      case measure => go_light; omega
      case rel => go_light; exact ⟨j + 1, by omega, rfl, by simp, HN.out, H3.out⟩
    have hkt : hk = true := HKI.out.2 ⟨hsb, hv, hi⟩
    have g1 : ((sv : Int) == v) = true := beq_iff_eq.2 hv
    have g2 : ((si : Int) == i) = true := beq_iff_eq.2 hi
    have E := Lib.hid (HFD.out hkt)
    clear hsb hkt hv hi HKI HFD HNO
    go_wp2_with fail
    refine (HC.out _ HR.out).mono ?_; rintro e w2 ⟨rfl, hb2⟩
    have H2 := Lib.hid (up_trans HR.out hb2)
    have H3 := Lib.hid (H2.out.alloc H2.out.size (.cells #[.int .i64 (sv : Int), .int .i64 (si : Int), .string sx] 23))
    obtain ⟨y0, y1, y2⟩ := (sx_new w2 (sv : Int) (si : Int) sx).cells
    obtain ⟨l0, l1⟩ := (HK.out.up H3.out).cells
    clear hb2 x0 x1 x2 x3 k0 k1
    go_wp2
    go_ret2
    exact ⟨by rw [E.out.1, E.out.2]; rfl, up_trans HB.out H3.out⟩

/-- a number is answered -/
def IntRet (w : World) (n : Int) (e : Ending) (w' : World) : Prop := e = .returned (.int .i64 n) ∧ Below w.heap.size w w'
set_option maxRecDepth 100000 in
set_option maxHeartbeats 1600000 in
theorem refFree_any (h : DOk w A c B k d) :
    Calls Try.prog 27 #[.agg #[.slice A d.n c, .slice B d.m k, .int .i64 d.fuse, .bool d.off]] w (IntRet w (em (gs d) d.n : Nat)) := by
  obtain ⟨W, hW, hX, hD, hB⟩ := box_start h
  have hbn := h.sz.bn
  have c1 := fun W' (hb : Below W.heap.size W W') (j : Nat) (hj : j < d.n) => refAt_any (hD.up hb) j hj
  have C1 := Lib.hid c1
  have HX := Lib.hid hX
  have HB := Lib.hid hB
  clear c1 hX hB hD h
  go_enter Try.func27, Try.ntmps27
  go_upto_region 1 with fail
  rw [← hW]
  clear hW
  go_wp2
  go_loopg [3, 4] d.n (fun gh y x wr => ∃ j : Nat, j ≤ d.n ∧ gh = d.n - j ∧ y = .int .i64 (em (gs d) j : Nat) ∧ x = .int .i64 (j : Nat) ∧ Below W.heap.size W wr)
  case atStart => exact ⟨0, Nat.zero_le _, rfl, rfl, rfl, Below.refl _ _⟩
  case round =>
    obtain ⟨j, hj, hgh, rfl, rfl, hr⟩ := hrel
    have HR := Lib.hid hr
    obtain ⟨x0, x1, x2, x3⟩ := (HX.out.up hr).cells
    clear hr
    by_cases hlt : j < d.n
    rotate_left
    · have hjz : ¬ (j : Int) < (d.n : Int) := by omega
      obtain rfl : j = d.n := by omega
      go_wp2
      go_ret
      exact ⟨rfl, up_trans HB.out HR.out⟩
    have hjz : (j : Int) < (d.n : Int) := by omega
    have hc1 := fun w2 (hb : Below W.heap.size W w2) => C1.out w2 hb j hlt
    have q0 : getS d (j : Int) = gs d j := rfl
    rw [q0] at hc1
    have hle := em_le (gs d) j
    generalize shX (gs d j) = sx at *
    generalize shV (gs d j) = sv at *
    generalize shI (gs d j) = si at *
    generalize shB (gs d j) = sb at *
    have hy := em_yes (S := gs d) (k := j)
    have hn := em_no (S := gs d) (k := j)
    generalize em (gs d) j = u at *
    by_cases hz : (gs d j).size = 0
    · rw [beq_iff_eq.2 hz] at hc1
      have HT := Lib.hid (hy hz)
      have HC := Lib.hid hc1
      clear hc1 hy hn hz q0
      go_wp2_with fail
      refine (HC.out _ HR.out).mono ?_; rintro e w2 ⟨rfl, hb2⟩
      have H2 := Lib.hid (up_trans HR.out hb2)
      have H3 := Lib.hid (H2.out.alloc H2.out.size (.cells #[.int .i64 (sv : Int), .int .i64 (si : Int), .string sx] 23))
      clear hb2 x0 x1 x2 x3
      go_wp2
      go_roundg (d.n - (j + 1))
      case measure => go_light; omega
      case rel => go_light; exact ⟨j + 1, by omega, rfl, by rw [HT.out]; simp, by simp, H3.out⟩
    · rw [beq_eq_false_iff_ne.2 hz] at hc1
      have HT := Lib.hid (hn hz)
      have HC := Lib.hid hc1
      clear hc1 hy hn hz q0
      go_wp2_with fail
      refine (HC.out _ HR.out).mono ?_; rintro e w2 ⟨rfl, hb2⟩
      have H2 := Lib.hid (up_trans HR.out hb2)
      have H3 := Lib.hid (H2.out.alloc H2.out.size (.cells #[.int .i64 (sv : Int), .int .i64 (si : Int), .string sx] 23))
      clear hb2 x0 x1 x2 x3
      go_wp2
      go_roundg (d.n - (j + 1))
      case measure => go_light; omega
      case rel => go_light; exact ⟨j + 1, by omega, rfl, by rw [HT.out], by simp, H3.out⟩
end
end Go.Proofs.Ytofafmjkjgiccaa.Mat
