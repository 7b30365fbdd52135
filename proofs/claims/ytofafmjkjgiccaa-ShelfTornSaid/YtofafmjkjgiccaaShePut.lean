/- The document's Put of shards: walked. -/
import Derived.Test.YtofafmjkjgiccaaSheList
namespace Go.Proofs.Ytofafmjkjgiccaa.Mat
open Go.RowKit Fld

section
variable {w : World} {A B : Option Addr} {c k : Nat} {d : Dk}
theorem put_start (h : DOk w A c B k d) (v i : Int) (x : ByteArray) : ∃ W, W = ((w.alloc (.cells #[.slice A d.n c, .slice B d.m k, .int .i64 d.fuse, .bool d.off] 39)).alloc (.cells #[.int .i64 v, .int .i64 i, .string x] 23)).alloc (.cells #[.slice none 0 0, .slice none 0 0, .int .i64 0, .bool false] 39) ∧
    Vr W w.heap.size d A c B k ∧ Sx W (w.heap.size + 1) v i x ∧ Vr W (w.heap.size + 1 + 1) voidD none 0 none 0 ∧ Below w.heap.size w W := by
  have h1 := Vr.new h
  have hs := sx_new (w.alloc (.cells #[.slice A d.n c, .slice B d.m k, .int .i64 d.fuse, .bool d.off] 39)) v i x
  rw [size_alloc] at hs
  have hz := void_new ((w.alloc (.cells #[.slice A d.n c, .slice B d.m k, .int .i64 d.fuse, .bool d.off] 39)).alloc (.cells #[.int .i64 v, .int .i64 i, .string x] 23))
  rw [size_alloc, size_alloc] at hz
  have b1 := (Below.refl w.heap.size w).alloc (Nat.le_refl _) (.cells #[.slice A d.n c, .slice B d.m k, .int .i64 d.fuse, .bool d.off] 39)
  have b2 := b1.alloc b1.size (.cells #[.int .i64 v, .int .i64 i, .string x] 23)
  exact ⟨_, rfl, (h1.alloc _).alloc _, hs.alloc _, hz, b2.alloc b2.size _⟩
theorem fin_disk {n : Nat} {Wk : World} {D : Dk} {A1 B1 : Option Addr} {c1 k1 : Nat} (hz : Vr Wk (n + 1 + 1) voidD none 0 none 0) (ok : DOk Wk A1 c1 B1 k1 D) (hb : Below n w Wk) :
    Vr (put4 Wk (n + 1 + 1) (.slice A1 D.n c1) (.slice B1 D.m k1) (.int .i64 D.fuse) (.bool D.off)) (n + 1 + 1) D A1 c1 B1 k1 ∧ Below n w (put4 Wk (n + 1 + 1) (.slice A1 D.n c1) (.slice B1 D.m k1) (.int .i64 D.fuse) (.bool D.off)) :=
  ⟨hz.put ok, put4_below hb (by omega) _ _ _ _⟩

set_option maxRecDepth 100000 in
set_option maxHeartbeats 6400000 in
theorem refShPut_any (h : DOk w A c B k d) (hm : (d.m + 1) * 24 ≤ 140737488355328) (v i : Int) (x : ByteArray) (hx : x.size ≤ 140737488351232) :
    Calls Try.prog 29 #[.agg #[.slice A d.n c, .slice B d.m k, .int .i64 d.fuse, .bool d.off], .agg #[.int .i64 v, .int .i64 i, .string x]] w (DErr w (spD d v i x) (spE d v i x)) := by
  obtain ⟨W, hW, hV, hS, hZ, hB⟩ := put_start h v i x
  have hbn := h.sz.bn
  have c1 := fun W => refShRec_any v i x hx W
  have c2 := fun W' (hb : Below W.heap.size W W') => refFind_any (hV.ok.up hb) v i
  have HV := Lib.hid hV
  have HS := Lib.hid hS
  have HZ := Lib.hid hZ
  have HB := Lib.hid hB
  obtain ⟨x0, x1, x2, x3⟩ := hV.cells
  obtain ⟨y0, y1, y2⟩ := hS.cells
  clear hV hS hZ hB h
  cases hmay : mayB v i x
  · obtain ⟨e1, e2⟩ := srT_no hmay
    obtain ⟨q1, q2⟩ := sp_not hmay
    rw [e1, e2] at c1
    rw [q1, q2]
    have C1 := Lib.hid c1
    clear c1 c2 e1 e2 q1 q2 hmay
    go_enter Try.func29, Try.ntmps29
    go_upto_region 1 with fail
    rw [← hW]
    clear hW
    go_wp2_with fail
    refine (C1.out _).mono ?_; rintro e w1 ⟨rfl, hb1⟩
    have H1 := Lib.hid hb1
    clear hb1 x0 x1 x2 x3 y0 y1 y2
    obtain ⟨x0, x1, x2, x3⟩ := (HV.out.up H1.out).cells
    obtain ⟨y0, y1, y2⟩ := (HS.out.up H1.out).cells
    have hf := fin_disk (HZ.out.up H1.out) (HV.out.up H1.out).ok (up_trans HB.out H1.out)
    have HF := Lib.hid hf
    obtain ⟨z0, z1, z2, z3⟩ := (HZ.out.up H1.out).cells
    obtain ⟨f0, f1, f2, f3⟩ := (HZ.out.up H1.out).bx.free
    clear hf
    go_wp2
    exact bodyPost_ret (results_disk_err rfl _ _ (w.heap.size + 1 + 1) rfl HF.out.1.bx) rfl ⟨A, c, B, k, rfl, HF.out.1.ok, HF.out.2⟩
  obtain ⟨e1, e2⟩ := srT_yes hmay
  have hfit : (shR v.toNat i.toNat x).size ≤ 1024 := by
    obtain ⟨a0, a1, a2, a3, a4⟩ := may_iff.1 hmay
    exact shR_fits (by omega) (by omega) a4
  by_cases hE : fdE d v i = 0
  · by_cases hX : fdX d v i = x
    · obtain ⟨q1, q2⟩ := sp_same hmay hE hX
      rw [e1] at c1
      rw [hE, hX] at c2
      rw [q1, q2]
      have g1 := (str_yes (s := x) rfl).1
      generalize srT v i x = t at *
      have C1 := Lib.hid c1
      have C2 := Lib.hid c2
      clear c1 c2 e1 e2 q1 q2 hmay hE hX hfit
      go_enter Try.func29, Try.ntmps29
      go_upto_region 1 with fail
      rw [← hW]
      clear hW
      go_wp2_with fail
      refine (C1.out _).mono ?_; rintro e w1 ⟨rfl, hb1⟩
      have H1 := Lib.hid hb1
      clear hb1 x0 x1 x2 x3 y0 y1 y2
      obtain ⟨x0, x1, x2, x3⟩ := (HV.out.up H1.out).cells
      obtain ⟨y0, y1, y2⟩ := (HS.out.up H1.out).cells
      go_wp2_with fail
      refine (C2.out _ H1.out).mono ?_; rintro e w2 ⟨rfl, hb2⟩
      have H2 := Lib.hid (up_trans H1.out hb2)
      clear hb2 x0 x1 x2 x3 y0 y1 y2
      obtain ⟨x0, x1, x2, x3⟩ := (HV.out.up H2.out).cells
      obtain ⟨y0, y1, y2⟩ := (HS.out.up H2.out).cells
      have hf := fin_disk (HZ.out.up H2.out) (HV.out.up H2.out).ok (up_trans HB.out H2.out)
      have HF := Lib.hid hf
      obtain ⟨z0, z1, z2, z3⟩ := (HZ.out.up H2.out).cells
      obtain ⟨f0, f1, f2, f3⟩ := (HZ.out.up H2.out).bx.free
      clear hf
      go_wp2
      exact bodyPost_ret (results_disk_err rfl _ _ (w.heap.size + 1 + 1) rfl HF.out.1.bx) rfl ⟨A, c, B, k, rfl, HF.out.1.ok, HF.out.2⟩
    · obtain ⟨q1, q2⟩ := sp_there hmay hE hX
      rw [e1] at c1
      rw [hE] at c2
      rw [q1, q2]
      have g1 := (str_no hX).1
      generalize fdX d v i = y at *
      generalize srT v i x = t at *
      have C1 := Lib.hid c1
      have C2 := Lib.hid c2
      clear c1 c2 e1 e2 q1 q2 hmay hE hX hfit
      go_enter Try.func29, Try.ntmps29
      go_upto_region 1 with fail
      rw [← hW]
      clear hW
      go_wp2_with fail
      refine (C1.out _).mono ?_; rintro e w1 ⟨rfl, hb1⟩
      have H1 := Lib.hid hb1
      clear hb1 x0 x1 x2 x3 y0 y1 y2
      obtain ⟨x0, x1, x2, x3⟩ := (HV.out.up H1.out).cells
      obtain ⟨y0, y1, y2⟩ := (HS.out.up H1.out).cells
      go_wp2_with fail
      refine (C2.out _ H1.out).mono ?_; rintro e w2 ⟨rfl, hb2⟩
      have H2 := Lib.hid (up_trans H1.out hb2)
      clear hb2 x0 x1 x2 x3 y0 y1 y2
      obtain ⟨x0, x1, x2, x3⟩ := (HV.out.up H2.out).cells
      obtain ⟨y0, y1, y2⟩ := (HS.out.up H2.out).cells
      have hf := fin_disk (HZ.out.up H2.out) (HV.out.up H2.out).ok (up_trans HB.out H2.out)
      have HF := Lib.hid hf
      obtain ⟨z0, z1, z2, z3⟩ := (HZ.out.up H2.out).cells
      obtain ⟨f0, f1, f2, f3⟩ := (HZ.out.up H2.out).bx.free
      clear hf
      go_wp2
      exact bodyPost_ret (results_disk_err rfl _ _ (w.heap.size + 1 + 1) rfl HF.out.1.bx) rfl ⟨A, c, B, k, rfl, HF.out.1.ok, HF.out.2⟩
  have hE7 : fdE d v i = 7 := by rcases fdE_or d v i with e | e <;> omega
  have hput := fun (j : Nat) hj hs hb => sp_put (d := d) (v := v) (i := i) (x := x) (j := j) hmay hE hj hs hb
  have hfull := fun hb => sp_full (d := d) (v := v) (i := i) (x := x) hmay hE hb
  have c3 := fun W' (hb : Below W.heap.size W W') (j : Nat) (hj : j < d.n) => refAt_any (HV.out.ok.up hb) j hj
  rw [← e2] at hfit
  have c4 := fun W' (hb : Below W.heap.size W W') (j : Nat) => refPut_any (HV.out.ok.up hb) hm (j : Int) (srT v i x) (by omega)
  rw [e1] at c1
  rw [hE7] at c2
  generalize srT v i x = t at *
  generalize fdX d v i = y at *
  generalize spE d v i x = E at *
  generalize spD d v i x = D at *
  have C1 := Lib.hid c1
  have C2 := Lib.hid c2
  have C3 := Lib.hid c3
  have C4 := Lib.hid c4
  have HP := Lib.hid hput
  have HFU := Lib.hid hfull
  clear c1 c2 c3 c4 hput hfull e1 e2 hmay hE hE7 hfit hm hx
  go_enter Try.func29, Try.ntmps29
  go_upto_region 1 with fail
  rw [← hW]
  clear hW
  go_wp2_with fail
  refine (C1.out _).mono ?_; rintro e w1 ⟨rfl, hb1⟩
  have H1 := Lib.hid hb1
  clear hb1 x0 x1 x2 x3 y0 y1 y2
  obtain ⟨x0, x1, x2, x3⟩ := (HV.out.up H1.out).cells
  obtain ⟨y0, y1, y2⟩ := (HS.out.up H1.out).cells
  go_wp2_with fail
  refine (C2.out _ H1.out).mono ?_; rintro e w2 ⟨rfl, hb2⟩
  have H2 := Lib.hid (up_trans H1.out hb2)
  clear hb2 x0 x1 x2 x3 y0 y1 y2
  obtain ⟨x0, x1, x2, x3⟩ := (HV.out.up H2.out).cells
  obtain ⟨y0, y1, y2⟩ := (HS.out.up H2.out).cells
  go_wp2
  clear x0 x1 x2 x3 y0 y1 y2
  go_loopg [10] d.n (fun gh u wr => ∃ q : Nat, q ≤ d.n ∧ gh = d.n - q ∧ u = .int .i64 (q : Nat) ∧ (∀ r, r < q → shB (gs d r) = true) ∧ Below W.heap.size W wr)
  case atStart => exact ⟨0, Nat.zero_le _, rfl, rfl, fun r hr => absurd hr (Nat.not_lt_zero _), H2.out⟩
  case round =>
    obtain ⟨j, hj, hgh, rfl, hb, hr⟩ := hrel
    have HR := Lib.hid hr
    have HBF := Lib.hid hb
    obtain ⟨x0, x1, x2, x3⟩ := (HV.out.up hr).cells
    clear hr hb
    by_cases hlt : j < d.n
    rotate_left
    · have hjz : ¬ (j : Int) < (d.n : Int) := by omega
      obtain rfl : j = d.n := by omega
      obtain ⟨q1, q2⟩ := HFU.out HBF.out
      subst q1 q2
      have hf := fin_disk (HZ.out.up HR.out) (HV.out.up HR.out).ok (up_trans HB.out HR.out)
      have HF := Lib.hid hf
      obtain ⟨z0, z1, z2, z3⟩ := (HZ.out.up HR.out).cells
      obtain ⟨f0, f1, f2, f3⟩ := (HZ.out.up HR.out).bx.free
      clear hf
      go_wp2
      exact bodyPost_ret (results_disk_err rfl _ _ (w.heap.size + 1 + 1) rfl HF.out.1.bx) rfl ⟨A, c, B, k, rfl, HF.out.1.ok, HF.out.2⟩
    have hjz : (j : Int) < (d.n : Int) := by omega
    have hc3 := fun w2 (hb : Below W.heap.size W w2) => C3.out w2 hb j hlt
    have q0 : getS d (j : Int) = gs d j := rfl
    rw [q0] at hc3
    generalize shX (gs d j) = sx at *
    generalize shV (gs d j) = sv at *
    generalize shI (gs d j) = si at *
    generalize ((gs d j).size == 0) = em at *
    cases hsb : shB (gs d j)
    rotate_left
    · have HN : Hid (∀ r, r < j + 1 → shB (gs d r) = true) := Lib.hid (fun r hr => by
        rcases Nat.lt_or_ge r j with q | q
        · exact HBF.out r q
        · rw [show r = j by omega]; exact hsb)
      rw [hsb] at hc3
      have HC := Lib.hid hc3
      clear hc3 hsb q0
      go_wp2_with fail
      refine (HC.out _ HR.out).mono ?_; rintro e w3 ⟨rfl, hb3⟩
      have H3 := Lib.hid (up_trans HR.out hb3)
      have H4 := Lib.hid (H3.out.alloc H3.out.size (.cells #[.int .i64 (sv : Int), .int .i64 (si : Int), .string sx] 23))
      clear hb3 x0 x1 x2 x3
      go_wp2
      go_roundg (d.n - (j + 1))
      case measure => go_light; omega
      case rel => go_light; exact ⟨j + 1, by omega, rfl, by simp, HN.out, H4.out⟩
    obtain ⟨q1, q2⟩ := HP.out j hlt hsb HBF.out
    subst q1 q2
    rw [hsb] at hc3
    have HC := Lib.hid hc3
    clear hc3 hsb q0
    go_wp2_with fail
    refine (HC.out _ HR.out).mono ?_; rintro e w3 ⟨rfl, hb3⟩
    have H3 := Lib.hid (up_trans HR.out hb3)
    have H4 := Lib.hid (H3.out.alloc H3.out.size (.cells #[.int .i64 (sv : Int), .int .i64 (si : Int), .string sx] 23))
    clear hb3 x0 x1 x2 x3
    obtain ⟨x0, x1, x2, x3⟩ := (HV.out.up H4.out).cells
    go_wp2_with fail
    refine (C4.out _ H4.out j).mono ?_; rintro e w5 ⟨A5, c5, B5, k5, rfl, ok5, hb5⟩
    have H5 := Lib.hid (up_trans H4.out hb5)
    have OK5 := Lib.hid ok5
    clear hb5 ok5 x0 x1 x2 x3
    generalize putD d (j : Int) t = D5 at *
    generalize putE d (j : Int) t = E5 at *
    have hf := fin_disk (HZ.out.up H5.out) OK5.out (up_trans HB.out H5.out)
    have HF := Lib.hid hf
    obtain ⟨z0, z1, z2, z3⟩ := (HZ.out.up H5.out).cells
    obtain ⟨f0, f1, f2, f3⟩ := (HZ.out.up H5.out).bx.free
    clear hf
    go_wp2
    exact bodyPost_ret (results_disk_err rfl _ _ (w.heap.size + 1 + 1) rfl HF.out.1.bx) rfl ⟨A5, c5, B5, k5, rfl, HF.out.1.ok, HF.out.2⟩
end
end Go.Proofs.Ytofafmjkjgiccaa.Mat
