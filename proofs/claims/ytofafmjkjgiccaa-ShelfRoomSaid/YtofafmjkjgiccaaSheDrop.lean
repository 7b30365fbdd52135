/- The document's Drop of shards: walked. -/
import Derived.Test.YtofafmjkjgiccaaShePut
namespace Go.Proofs.Ytofafmjkjgiccaa.Mat
open Go.RowKit Fld

theorem putD_m (d : Dk) (slot : Int) (s : ByteArray) : (putD d slot s).m ≤ d.m + 1 := by
  unfold putD
  by_cases e1 : d.off = true
  · rw [if_pos e1]; omega
  · rw [if_neg e1]
    by_cases e2 : hasB d.n slot = false
    · rw [if_pos e2]; omega
    · rw [if_neg e2]
      by_cases e3 : 1024 < s.size
      · rw [if_pos e3]; omega
      · rw [if_neg e3]
        by_cases e4 : d.fuse = 0
        · rw [if_pos e4]; exact Nat.le_refl _
        · rw [if_neg e4]; exact Nat.le_refl _
theorem sd_no {d : Dk} {v i : Int} (h : ¬ fdE d v i = 0) : sdE d v i = 7 ∧ sdD d v i = d := by unfold sdE sdD; rw [if_neg h, if_neg h]; exact ⟨rfl, rfl⟩
theorem sd_yes {d : Dk} {v i : Int} (h : fdE d v i = 0) : sdE d v i = (drS d v i d.n).2 ∧ sdD d v i = (drS d v i d.n).1 := by unfold sdE sdD; rw [if_pos h, if_pos h]; exact ⟨rfl, rfl⟩
theorem Kx.put4 {w : World} {b g : Nat} {v i : Int} (h : Kx w b v i) (hne : b ≠ g) (p q r s : Value) : Kx (put4 w g p q r s) b v i :=
  Has.setOther (Has.setOther (Has.setOther (Has.setOther h (a := ⟨g, 0, none⟩) hne p) (a := ⟨g, 1, none⟩) hne q) (a := ⟨g, 2, none⟩) hne r) (a := ⟨g, 3, none⟩) hne s
theorem drop_bound {m a n j : Nat} (h : m ≤ a + j) (hj : j < n) (hm : (a + n + 1) * 24 ≤ 140737488355328) : (m + 1) * 24 ≤ 140737488355328 := Nat.le_trans (Nat.mul_le_mul_right 24 (by omega)) hm
section
variable {w : World} {A B : Option Addr} {c k : Nat} {d : Dk}
theorem drop_start (h : DOk w A c B k d) (v i : Int) : ∃ W, W = ((w.alloc (.cells #[.slice A d.n c, .slice B d.m k, .int .i64 d.fuse, .bool d.off] 39)).alloc (.cells #[.int .i64 v, .int .i64 i] 41)).alloc (.cells #[.slice none 0 0, .slice none 0 0, .int .i64 0, .bool false] 39) ∧
    Vr W w.heap.size d A c B k ∧ Kx W (w.heap.size + 1) v i ∧ Vr W (w.heap.size + 1 + 1) voidD none 0 none 0 ∧ Below w.heap.size w W ∧ w.heap.size + 1 + 1 < W.heap.size := by
  have h1 := Vr.new h
  have hs := kx_new (w.alloc (.cells #[.slice A d.n c, .slice B d.m k, .int .i64 d.fuse, .bool d.off] 39)) v i
  rw [size_alloc] at hs
  have hz := void_new ((w.alloc (.cells #[.slice A d.n c, .slice B d.m k, .int .i64 d.fuse, .bool d.off] 39)).alloc (.cells #[.int .i64 v, .int .i64 i] 41))
  rw [size_alloc, size_alloc] at hz
  have b1 := (Below.refl w.heap.size w).alloc (Nat.le_refl _) (.cells #[.slice A d.n c, .slice B d.m k, .int .i64 d.fuse, .bool d.off] 39)
  have b2 := b1.alloc b1.size (.cells #[.int .i64 v, .int .i64 i] 41)
  exact ⟨_, rfl, (h1.alloc _).alloc _, hs.alloc _, hz, b2.alloc b2.size _, hz.bx.lt_⟩

set_option maxRecDepth 100000 in
set_option maxHeartbeats 1000000 in
theorem refShDrop_any (h : DOk w A c B k d) (hm : (d.m + d.n + 1) * 24 ≤ 140737488355328) (v i : Int) :
    Calls Try.prog 31 #[.agg #[.slice A d.n c, .slice B d.m k, .int .i64 d.fuse, .bool d.off], .agg #[.int .i64 v, .int .i64 i]] w (DErr w (sdD d v i) (sdE d v i)) := by
  obtain ⟨W, hW, hV, hS, hZ, hB, hsz⟩ := drop_start h v i
  have hbn := h.sz.bn
  have c2 := fun W' (hb : Below W.heap.size W W') => refFind_any (hV.ok.up hb) v i
  have HV := Lib.hid hV
  have HS := Lib.hid hS
  have HZ := Lib.hid hZ
  have HB := Lib.hid hB
  have HM := Lib.hid hm
  have HSZ := Lib.hid hsz
  obtain ⟨x0, x1, x2, x3⟩ := hV.cells
  obtain ⟨y0, y1⟩ := hS.cells
  clear hV hS hZ hB h hm hsz
  by_cases hE : fdE d v i = 0
  rotate_left
  · have hE7 : fdE d v i = 7 := by rcases fdE_or d v i with e | e <;> omega
    obtain ⟨q1, q2⟩ := sd_no hE
    rw [q1, q2]
    rw [hE7] at c2
    generalize fdX d v i = y at *
    have C2 := Lib.hid c2
    clear c2 q1 q2 hE hE7
    go_enter Try.func31, Try.ntmps31
    go_upto_region 1 with fail
    rw [← hW]
    clear hW
    go_wp2_with fail
    refine (C2.out _ (Below.refl _ _)).mono ?_; rintro e w2 ⟨rfl, hb2⟩
    have H2 := Lib.hid hb2
    clear hb2 x0 x1 x2 x3 y0 y1
    obtain ⟨x0, x1, x2, x3⟩ := (HV.out.up H2.out).cells
    have hf := fin_disk (HZ.out.up H2.out) (HV.out.up H2.out).ok (up_trans HB.out H2.out)
    have HF := Lib.hid hf
    obtain ⟨z0, z1, z2, z3⟩ := (HZ.out.up H2.out).cells
    obtain ⟨f0, f1, f2, f3⟩ := (HZ.out.up H2.out).bx.free
    clear hf
    go_wp2
    exact bodyPost_ret (results_disk_err rfl _ _ (w.heap.size + 1 + 1) rfl HF.out.1.bx) rfl ⟨A, c, B, k, rfl, HF.out.1.ok, HF.out.2⟩
  obtain ⟨q1, q2⟩ := sd_yes hE
  rw [q1, q2]
  rw [hE] at c2
  generalize fdX d v i = y at *
  have C2 := Lib.hid c2
  have hend := fun (q : Nat) (hq : q ≤ d.n) (hz : (drS d v i q).2 ≠ 0) => drS_end hz d.n hq
  have HEND := Lib.hid hend
  clear c2 q1 q2 hE hend
  go_enter Try.func31, Try.ntmps31
  go_upto_region 1 with fail
  rw [← hW]
  clear hW
  go_wp2_with fail
  refine (C2.out _ (Below.refl _ _)).mono ?_; rintro e w2 ⟨rfl, hb2⟩
  have H2 := Lib.hid hb2
  clear hb2 x0 x1 x2 x3 y0 y1
  obtain ⟨x0, x1, x2, x3⟩ := (HV.out.up H2.out).cells
  have ha := (Below.refl w2.heap.size w2).alloc (Nat.le_refl _) (.cells #[.slice A d.n c, .slice B d.m k, .int .i64 d.fuse, .bool d.off] 39)
  have h3 := up_trans H2.out ha
  have V3 := Lib.hid (HV.out.up h3)
  have S3 := Lib.hid (HS.out.up h3)
  have Z3 := Lib.hid (HZ.out.up h3)
  have B3 := Lib.hid (up_trans HB.out h3)
  have W3 := Lib.hid (Vr.new (HV.out.up H2.out).ok)
  have G3 : Hid (w.heap.size + 1 + 1 < w2.heap.size) := Lib.hid (by have := HSZ.out; have := H2.out.size; omega)
  clear ha h3 HV HS HZ HB HSZ H2
  go_wp2
  clear x0 x1 x2 x3
  generalize w2.alloc (.cells #[.slice A d.n c, .slice B d.m k, .int .i64 d.fuse, .bool d.off] 39) = w3 at *
  generalize w2.heap.size = gw at *
  go_loopg [9] d.n (fun gh u wr => ∃ (q : Nat) (A' : Option Addr) (c' : Nat) (B' : Option Addr) (k' : Nat), q ≤ d.n ∧ gh = d.n - q ∧ u = .int .i64 (q : Nat) ∧ (drS d v i q).2 = 0 ∧ (drS d v i q).1.m ≤ d.m + q ∧ Vr wr w.heap.size (drS d v i q).1 A' c' B' k' ∧ Vr wr gw d A c B k ∧ Kx wr (w.heap.size + 1) v i ∧ Vr wr (w.heap.size + 1 + 1) voidD none 0 none 0 ∧ Below w.heap.size w wr)
  case atStart => exact ⟨0, A, c, B, k, Nat.zero_le _, rfl, rfl, rfl, Nat.le_refl _, V3.out, W3.out, S3.out, Z3.out, B3.out⟩
  case round =>
    obtain ⟨j, A1, c1, B1, k1, hj, hgh, rfl, he0, hme, hV, hX, hK, hZ, hB⟩ := hrel
    clear V3 W3 S3 Z3 B3
    have HZ0 := Lib.hid he0
    have HME := Lib.hid hme
    have HV := Lib.hid hV
    have HX := Lib.hid hX
    have HK := Lib.hid hK
    have HZ := Lib.hid hZ
    have HB := Lib.hid hB
    obtain ⟨x0, x1, x2, x3⟩ := hX.cells
    clear he0 hme hV hX hK hZ hB
    by_cases hlt : j < d.n
    rotate_left
    · have hjz : ¬ (j : Int) < (d.n : Int) := by omega
      obtain rfl : j = d.n := by omega
      generalize (drS d v i d.n).1 = D at *
      obtain ⟨y0, y1, y2, y3⟩ := HV.out.cells
      have hf := fin_disk HZ.out HV.out.ok HB.out
      have HF := Lib.hid hf
      obtain ⟨z0, z1, z2, z3⟩ := HZ.out.cells
      obtain ⟨f0, f1, f2, f3⟩ := HZ.out.bx.free
      clear hf
      go_wp2
      exact bodyPost_ret (results_disk_err rfl _ _ (w.heap.size + 1 + 1) rfl HF.out.1.bx) rfl ⟨A1, c1, B1, k1, by rw [HZ0.out]; rfl, HF.out.1.ok, HF.out.2⟩
    have hjz : (j : Int) < (d.n : Int) := by omega
    have hc3 := refAt_any HX.out.ok j hlt
    have q0 : getS d (j : Int) = gs d j := rfl
    rw [q0] at hc3
    have hyes := fun (hk : hasK v i (gs d j) = true) => drS_yes hk HZ0.out
    have hno := fun (hk : hasK v i (gs d j) = false) => drS_no hk
    have hki := hasK_iff (v := v) (i := i) (s := gs d j)
    generalize shX (gs d j) = sx at *
    generalize shV (gs d j) = sv at *
    generalize shI (gs d j) = si at *
    generalize ((gs d j).size == 0) = em at *
    have HYES := Lib.hid hyes
    have HNO := Lib.hid hno
    have HKI := Lib.hid hki
    clear hyes hno hki q0
    generalize hasK v i (gs d j) = hk at *
    cases hsb : shB (gs d j)
    · have hkf : hk = false := by
        cases hk
        · rfl
        · have := (HKI.out.1 rfl).1; rw [hsb] at this; cases this
      rw [hsb] at hc3
      have HN := Lib.hid (HNO.out hkf)
      have HC := Lib.hid hc3
      clear hc3 hsb hkf HKI HYES HNO
      go_wp2_with fail
      refine HC.out.mono ?_; rintro e w4 ⟨rfl, hb4⟩
      have H4 := Lib.hid (hb4.alloc hb4.size (.cells #[.int .i64 (sv : Int), .int .i64 (si : Int), .string sx] 23))
      obtain ⟨l0, l1⟩ := (HK.out.up H4.out).cells
      obtain ⟨y0, y1, y2⟩ := (sx_new w4 (sv : Int) (si : Int) sx).cells
      clear hb4 x0 x1 x2 x3
      go_wp2
      go_roundg (d.n - (j + 1))
      case measure => go_light; omega
      case rel => go_light; exact ⟨j + 1, A1, c1, B1, k1, by omega, rfl, by simp, by rw [HN.out]; exact HZ0.out, by rw [HN.out]; have := HME.out; omega, by rw [HN.out]; exact HV.out.up H4.out, HX.out.up H4.out, HK.out.up H4.out, HZ.out.up H4.out, up_trans HB.out H4.out⟩
    rw [hsb] at hc3
    by_cases hv : (sv : Int) = v
    rotate_left
    · have hkf : hk = false := by
        cases hk
        · rfl
        · exact absurd (HKI.out.1 rfl).2.1 hv
      have g1 : ((sv : Int) != v) = true := bne_iff_ne.2 hv
      clear hv
      have HN := Lib.hid (HNO.out hkf)
      have HC := Lib.hid hc3
      clear hc3 hsb hkf HKI HYES HNO
      go_wp2_with fail
      refine HC.out.mono ?_; rintro e w4 ⟨rfl, hb4⟩
      have H4 := Lib.hid (hb4.alloc hb4.size (.cells #[.int .i64 (sv : Int), .int .i64 (si : Int), .string sx] 23))
      obtain ⟨l0, l1⟩ := (HK.out.up H4.out).cells
      obtain ⟨y0, y1, y2⟩ := (sx_new w4 (sv : Int) (si : Int) sx).cells
      clear hb4 x0 x1 x2 x3
      go_wp2
      go_roundg (d.n - (j + 1))
      case measure => go_light; omega
      case rel => go_light; exact ⟨j + 1, A1, c1, B1, k1, by omega, rfl, by simp, by rw [HN.out]; exact HZ0.out, by rw [HN.out]; have := HME.out; omega, by rw [HN.out]; exact HV.out.up H4.out, HX.out.up H4.out, HK.out.up H4.out, HZ.out.up H4.out, up_trans HB.out H4.out⟩
    by_cases hi : (si : Int) = i
    rotate_left
    · have hkf : hk = false := by
        cases hk
        · rfl
        · exact absurd (HKI.out.1 rfl).2.2 hi
      have g1 : ((sv : Int) != v) = false := by rw [hv]; simp
      have g2 : ((si : Int) != i) = true := bne_iff_ne.2 hi
      clear hv hi
      have HN := Lib.hid (HNO.out hkf)
      have HC := Lib.hid hc3
      clear hc3 hsb hkf HKI HYES HNO
      go_wp2_with fail
      refine HC.out.mono ?_; rintro e w4 ⟨rfl, hb4⟩
      have H4 := Lib.hid (hb4.alloc hb4.size (.cells #[.int .i64 (sv : Int), .int .i64 (si : Int), .string sx] 23))
      obtain ⟨l0, l1⟩ := (HK.out.up H4.out).cells
      obtain ⟨y0, y1, y2⟩ := (sx_new w4 (sv : Int) (si : Int) sx).cells
      clear hb4 x0 x1 x2 x3
      go_wp2
      go_roundg (d.n - (j + 1))
      case measure => go_light; omega
      case rel => go_light; exact ⟨j + 1, A1, c1, B1, k1, by omega, rfl, by simp, by rw [HN.out]; exact HZ0.out, by rw [HN.out]; have := HME.out; omega, by rw [HN.out]; exact HV.out.up H4.out, HX.out.up H4.out, HK.out.up H4.out, HZ.out.up H4.out, up_trans HB.out H4.out⟩
    have hkt : hk = true := HKI.out.2 ⟨hsb, hv, hi⟩
    have g1 : ((sv : Int) != v) = false := by rw [hv]; simp
    have g2 : ((si : Int) != i) = false := by rw [hi]; simp
    have hY := HYES.out hkt
    have hend := HEND.out (j + 1) hlt
    have hpm := putD_m (drS d v i j).1 (j : Int) ByteArray.empty
    have hc4 := fun W' (hb : Below wr.heap.size wr W') => refPut_any (HV.out.ok.up hb) (drop_bound HME.out hlt HM.out) (j : Int) ByteArray.empty (by simp)
    rw [hY] at hend
    generalize hE5 : putE (drS d v i j).1 (j : Int) ByteArray.empty = E5 at *
    generalize hD5 : putD (drS d v i j).1 (j : Int) ByteArray.empty = D5 at *
    have HY := Lib.hid hY
    have HPM : Hid (D5.m ≤ d.m + (j + 1)) := Lib.hid (by have := HME.out; omega)
    have HE := Lib.hid hend
    have HC4 := Lib.hid hc4
    have HC := Lib.hid hc3
    clear hc3 hsb hkt hv hi HKI HYES HNO hY hend hpm hc4 hE5 hD5 HME HZ0
    generalize (drS d v i j).1 = D4 at *
    go_wp2_with fail
    refine HC.out.mono ?_; rintro e w4 ⟨rfl, hb4⟩
    have H4 := Lib.hid (hb4.alloc hb4.size (.cells #[.int .i64 (sv : Int), .int .i64 (si : Int), .string sx] 23))
    obtain ⟨l0, l1⟩ := (HK.out.up H4.out).cells
    obtain ⟨y0, y1, y2⟩ := (sx_new w4 (sv : Int) (si : Int) sx).cells
    clear hb4 x0 x1 x2 x3
    obtain ⟨x0, x1, x2, x3⟩ := (HV.out.up H4.out).cells
    go_wp2_with fail
    refine (HC4.out _ H4.out).mono ?_; rintro e w5 ⟨A5, c5, B5, k5, rfl, ok5, hb5⟩
    have hb6 := (up_trans H4.out hb5).alloc (up_trans H4.out hb5).size (.cells #[.slice A5 D5.n c5, .slice B5 D5.m k5, .int .i64 D5.fuse, .bool D5.off] 39)
    have hok6 := ok5.up ((Below.refl w5.heap.size w5).alloc (Nat.le_refl _) (.cells #[.slice A5 D5.n c5, .slice B5 D5.m k5, .int .i64 D5.fuse, .bool D5.off] 39))
    have hv6 := HV.out.up hb6
    have V9 := Lib.hid (hv6.put hok6)
    have X9 := Lib.hid ((HX.out.up hb6).other hv6 (by have := G3.out; omega) (.slice A5 D5.n c5) (.slice B5 D5.m k5) (.int .i64 D5.fuse) (.bool D5.off))
    have K9 := Lib.hid ((HK.out.up hb6).put4 (g := w.heap.size) (by omega) (.slice A5 D5.n c5) (.slice B5 D5.m k5) (.int .i64 D5.fuse) (.bool D5.off))
    have Z9 := Lib.hid ((HZ.out.up hb6).other hv6 (by omega) (.slice A5 D5.n c5) (.slice B5 D5.m k5) (.int .i64 D5.fuse) (.bool D5.off))
    have B9 := Lib.hid (put4_below (up_trans HB.out hb6) (Nat.le_refl _) (.slice A5 D5.n c5) (.slice B5 D5.m k5) (.int .i64 D5.fuse) (.bool D5.off))
    obtain ⟨u0, u1, u2, u3⟩ := hv6.bx.free
    obtain ⟨s0, s1, s2, s3⟩ := hv6.cells
    obtain ⟨t0, t1, t2, t3⟩ := (Vr.new ok5).cells
    clear hb5 ok5 hb6 hok6 hv6 x0 x1 x2 x3 y0 y1 y2 l0 l1 HV HX HK HZ HB
    go_upto_region 12 with fail
    change Code.wp _ _ _ _ (put4 (w5.alloc (.cells #[.slice A5 D5.n c5, .slice B5 D5.m k5, .int .i64 D5.fuse, .bool D5.off] 39)) w.heap.size (.slice A5 D5.n c5) (.slice B5 D5.m k5) (.int .i64 D5.fuse) (.bool D5.off))
    generalize put4 (w5.alloc (.cells #[.slice A5 D5.n c5, .slice B5 D5.m k5, .int .i64 D5.fuse, .bool D5.off] 39)) w.heap.size (.slice A5 D5.n c5) (.slice B5 D5.m k5) (.int .i64 D5.fuse) (.bool D5.off) = W9 at *
    clear u0 u1 u2 u3 t0 t1 t2 t3 s0 s1 s2 s3
    by_cases hE5 : E5 = 0
    · have t1 : (E5 != 0) = false := by rw [hE5]; rfl
      have HE5 := Lib.hid hE5
      clear hE5
      go_wp2
      go_roundg (d.n - (j + 1))
      case measure => go_light; omega
      case rel => go_light; exact ⟨j + 1, A5, c5, B5, k5, by omega, rfl, by simp, by rw [HY.out]; exact HE5.out, by rw [HY.out]; exact HPM.out, by rw [HY.out]; exact V9.out, X9.out, K9.out, Z9.out, B9.out⟩
    · have t1 : (E5 != 0) = true := bne_iff_ne.2 hE5
      have HEE := Lib.hid (HE.out hE5)
      clear hE5
      obtain ⟨y0, y1, y2, y3⟩ := V9.out.cells
      have hf := fin_disk Z9.out V9.out.ok B9.out
      have HF := Lib.hid hf
      obtain ⟨z0, z1, z2, z3⟩ := Z9.out.cells
      obtain ⟨f0, f1, f2, f3⟩ := Z9.out.bx.free
      clear hf
      go_wp2
      exact bodyPost_ret (results_disk_err rfl _ _ (w.heap.size + 1 + 1) rfl HF.out.1.bx) rfl ⟨A5, c5, B5, k5, by rw [HEE.out]; rfl, by rw [HEE.out]; exact HF.out.1.ok, HF.out.2⟩
end
end Go.Proofs.Ytofafmjkjgiccaa.Mat
