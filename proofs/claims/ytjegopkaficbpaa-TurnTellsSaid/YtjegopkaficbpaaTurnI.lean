/- Prints that go on by a byte: walked. -/
import Derived.Test.YtjegopkaficbpaaTurnF
import Derived.Deep.Cut
namespace Go.Proofs.Ytjegopkaficbpaa.Mat
open Go.RowKit Fld Flt Trn

/-- what is left of a print without its first byte, and the print with another one behind -/
def kept (z : Tn) (m : Nat) (o : Int) : Tn := ad z (ng (mu (o + 1, 0) (md (px st m))))
def roll (z : Tn) (m : Nat) (o i : Int) : Tn := nx (kept z m o) i
theorem nx_of_md {x y : Tn} (h : md x = md y) (c : Int) : nx x c = nx y c := by
  have e : ∀ z, nx z c = md (ad (md (mu z st)) (c + 1, 0)) := fun z => by unfold nx; rw [md_ad1]
  rw [e, e, ← md_mu1 x, ← md_mu1 y, h]
theorem worth_bd {o p : Int} (h0 : 0 ≤ o) (h1 : o < 256) (p0 : 0 ≤ p) (p1 : p < 8191) : 0 ≤ (o + 1) * p ∧ (o + 1) * p ≤ 2096640 :=
  ⟨Int.mul_nonneg (by omega) p0, Int.le_trans (Int.mul_le_mul (show o + 1 ≤ 256 by omega) (show p ≤ 8190 by omega) p0 (by omega)) (by omega)⟩
theorem mu_worth (o : Int) (p : Tn) : mu (o + 1, 0) p = ((o + 1) * p.1, (o + 1) * p.2) := by unfold mu; ext <;> simp
theorem kept_parts (z : Tn) (m : Nat) (o : Int) : kept z m o = (z.1 - (o + 1) * (md (px st m)).1, z.2 - (o + 1) * (md (px st m)).2) := by
  unfold kept ad ng
  rw [mu_worth]
  ext <;> simp only <;> omega
theorem cmul_worth {o : Int} (h0 : 0 ≤ o) (h1 : o < 256) {p : Tn} (h : may p) : cMulBits (R (o + 1)) (R 0) (R p.1) (R p.2) = some (R ((o + 1) * p.1), R ((o + 1) * p.2)) := by
  obtain ⟨a, b, c, d⟩ := h
  have := cmul_R (a := o + 1) (b := 0) (c := p.1) (d := p.2) (by omega) (by decide) (by omega) (by omega) (.inl ⟨by omega, by omega, a, c⟩)
  rw [this]
  congr 3 <;> omega

theorem box_trans {w w1 : World} {o : Obj} (h : Below (w.alloc o).heap.size (w.alloc o) w1) : Below w.heap.size w w1 := up_trans ((Below.refl _ _).alloc (Nat.le_refl _) o) h
theorem box_trans2 {w w1 : World} {o p : Obj} (h : Below ((w.alloc o).alloc p).heap.size ((w.alloc o).alloc p) w1) : Below w.heap.size w w1 := box_trans (box_trans h)

def rollE (z : Tn) (n : Int) : Int := if may z ∧ 1 ≤ n then 0 else 1
def rollT (z : Tn) (n o i : Int) : Tn := if may z ∧ 1 ≤ n then roll z (n - 1).toNat o i else (0, 0)

set_option maxRecDepth 100000 in
set_option maxHeartbeats 800000 in
theorem roll_yes {a b : Int} {m : Nat} {o i : Int} (h : may (a, b)) (hm : m < 9223372036854775807) (o0 : 0 ≤ o) (o1 : o < 256) (i0 : 0 ≤ i) (i1 : i < 256) (w : World) :
    Calls Try.prog 19 #[tv a b, .int .i64 (m + 1 : Int), .int .u8 o, .int .u8 i] w (TurnErrRet w (roll (a, b) m o i) 0) := by
  have HF := Lib.hid (mayB_yes h)
  have HM := Lib.hid h
  have HI := Lib.hid (And.intro i0 i1)
  have HO := Lib.hid (And.intro o0 o1)
  have hp := may_md (px st m)
  have m1 := mulc_run (cmul_worth o0 o1 hp)
  have hk := kept_parts (a, b) m o
  have HPW : Hid (m < 18446744073709551616) := Lib.hid (by omega)
  obtain ⟨a0, a1, b0, b1⟩ := h
  obtain ⟨p0, p1, q0, q1⟩ := hp
  simp only at a0 a1 b0 b1
  have w1 := worth_bd o0 o1 p0 p1
  have w2 := worth_bd o0 o1 q0 q1
  have m2 := subc_run (cdif_R (a := a) (b := b) (c := (o + 1) * (md (px st m)).1) (d := (o + 1) * (md (px st m)).2) (by omega) (by omega) (by omega) (by omega))
  have HB := Lib.hid (behind_any (a - (o + 1) * (md (px st m)).1) (b - (o + 1) * (md (px st m)).2) i (Sm.of (by omega)) (Sm.of (by omega)) i0 i1)
  have HR : Hid (roll (a, b) m o i = nx (a - (o + 1) * (md (px st m)).1, b - (o + 1) * (md (px st m)).2) i) := Lib.hid (by unfold roll; rw [hk])
  have HS : Hid (may (roll (a, b) m o i)) := Lib.hid (may_md _)
  rw [HR.out]
  rw [HR.out] at HS
  clear a0 a1 b0 b1 p0 p1 q0 q1 w1 w2 hk o0 o1 i0 i1
  generalize (o + 1) * (md (px st m)).1 = g at *
  generalize (o + 1) * (md (px st m)).2 = k at *
  generalize nx (a - g, b - k) i = z at *
  have hm0 : (0 : Int) ≤ (m : Int) := by omega
  go_enter Try.func19, Try.ntmps19
  go_wp2_with fail
  have f0 := F2.start w a b 0 0
  refine (may_any a b _).mono ?_; rintro e w1 ⟨rfl, hb1⟩
  rw [HF.out]
  have h1 := f0.up hb1
  obtain ⟨x0, x1, _, _⟩ := h1.cx
  have H1 := Lib.hid h1
  clear f0 h1 hb1
  go_wp2_with fail
  refine (number_any a b HM.out _).mono ?_; rintro e w2 ⟨rfl, hb2⟩
  have H2 := Lib.hid (H1.out.up hb2)
  clear hb2 H1 x0 x1
  go_wp2_with fail
  refine (worth_any o HO.out.1 HO.out.2 _).mono ?_; rintro e w' ⟨rfl, rfl⟩
  go_wp2_with fail
  refine (power_any m HPW.out _).mono ?_; rintro e w' ⟨rfl, rfl⟩
  go_wp2_with fail
  refine (HB.out _).mono ?_; rintro e w' ⟨rfl, rfl⟩
  go_wp2_with fail
  refine (told_any _ _ (small40 HS.out).1 (small40 HS.out).2 _).mono ?_; rintro e w3 ⟨rfl, hb3⟩
  have h3 := H2.out.up hb3
  obtain ⟨z0, z1, z2, z3⟩ := h3.cz
  have H3 := Lib.hid h3
  clear h3 hb3 H2
  go_wp2
  have hp := H3.out.putz z.1 z.2
  refine bodyPost_ret (results_turn_err rfl _ _ (w.heap.size + 1) rfl hp.z.pair) rfl ⟨rfl, hp.below⟩

set_option maxRecDepth 100000 in
set_option maxHeartbeats 800000 in
theorem roll_no1 {a b n o i : Int} (h : ¬ may (a, b)) (w : World) : Calls Try.prog 19 #[tv a b, .int .i64 n, .int .u8 o, .int .u8 i] w (TurnErrRet w (0, 0) 1) := by
  have HF := Lib.hid (mayB_no h)
  clear h
  go_enter Try.func19, Try.ntmps19
  go_wp2_with fail
  have f0 := F2.start w a b 0 0
  refine (may_any a b _).mono ?_; rintro e w1 ⟨rfl, hb1⟩
  rw [HF.out]
  have h1 := f0.up hb1
  obtain ⟨z0, z1, z2, z3⟩ := h1.cz
  have H1 := Lib.hid h1
  clear f0 h1 hb1
  go_wp2
  have hp := H1.out.putz 0 0
  refine bodyPost_ret (results_turn_err rfl _ _ (w.heap.size + 1) rfl hp.z.pair) rfl ⟨rfl, hp.below⟩
set_option maxRecDepth 100000 in
set_option maxHeartbeats 800000 in
theorem roll_no2 {a b n o i : Int} (h : may (a, b)) (hn : n < 1) (w : World) : Calls Try.prog 19 #[tv a b, .int .i64 n, .int .u8 o, .int .u8 i] w (TurnErrRet w (0, 0) 1) := by
  have HF := Lib.hid (mayB_yes h)
  clear h
  go_enter Try.func19, Try.ntmps19
  go_wp2_with fail
  have f0 := F2.start w a b 0 0
  refine (may_any a b _).mono ?_; rintro e w1 ⟨rfl, hb1⟩
  rw [HF.out]
  have h1 := f0.up hb1
  obtain ⟨z0, z1, z2, z3⟩ := h1.cz
  have H1 := Lib.hid h1
  clear f0 h1 hb1
  go_wp2
  have hp := H1.out.putz 0 0
  refine bodyPost_ret (results_turn_err rfl _ _ (w.heap.size + 1) rfl hp.z.pair) rfl ⟨rfl, hp.below⟩

set_option maxRecDepth 100000 in
set_option maxHeartbeats 800000 in
theorem refRoll_no1 {a b n o i : Int} (h : ¬ may (a, b)) (w : World) : Calls Try.prog 20 #[tv a b, .int .i64 n, .int .u8 o, .int .u8 i] w (TurnErrRet w (0, 0) 1) := by
  have HF := Lib.hid (mayB_no h)
  clear h
  go_enter Try.func20, Try.ntmps20
  go_wp2_with fail
  have f0 := F2.start w a b 0 0
  refine (refMay_any a b _).mono ?_; rintro e w1 ⟨rfl, hb1⟩
  rw [HF.out]
  have h1 := f0.up hb1
  obtain ⟨z0, z1, z2, z3⟩ := h1.cz
  have H1 := Lib.hid h1
  clear f0 h1 hb1
  go_wp2
  have hp := H1.out.putz 0 0
  refine bodyPost_ret (results_turn_err rfl _ _ (w.heap.size + 1) rfl hp.z.pair) rfl ⟨rfl, hp.below⟩
set_option maxRecDepth 100000 in
set_option maxHeartbeats 800000 in
theorem refRoll_no2 {a b n o i : Int} (h : may (a, b)) (hn : n < 1) (w : World) : Calls Try.prog 20 #[tv a b, .int .i64 n, .int .u8 o, .int .u8 i] w (TurnErrRet w (0, 0) 1) := by
  have HF := Lib.hid (mayB_yes h)
  clear h
  go_enter Try.func20, Try.ntmps20
  go_wp2_with fail
  have f0 := F2.start w a b 0 0
  refine (refMay_any a b _).mono ?_; rintro e w1 ⟨rfl, hb1⟩
  rw [HF.out]
  have h1 := f0.up hb1
  obtain ⟨z0, z1, z2, z3⟩ := h1.cz
  have H1 := Lib.hid h1
  clear f0 h1 hb1
  go_wp2
  have hp := H1.out.putz 0 0
  refine bodyPost_ret (results_turn_err rfl _ _ (w.heap.size + 1) rfl hp.z.pair) rfl ⟨rfl, hp.below⟩

theorem roll_ref (a b : Int) (m : Nat) (o i : Int) :
    nx ((a + 8191 - (md (mu (md (px st m)) (o + 1, 0))).1) % 8191, (b + 8191 - (md (mu (md (px st m)) (o + 1, 0))).2) % 8191) i = roll (a, b) m o i := by
  unfold roll
  apply nx_of_md
  rw [kept_parts, mu_comm, mu_worth]
  unfold md
  ext <;> simp only <;> omega
set_option maxRecDepth 100000 in
set_option maxHeartbeats 800000 in
theorem refRoll_yes {a b : Int} {m : Nat} {o i : Int} (h : may (a, b)) (hm : m < 9223372036854775807) (o0 : 0 ≤ o) (o1 : o < 256) (i0 : 0 ≤ i) (i1 : i < 256) (w : World) :
    Calls Try.prog 20 #[tv a b, .int .i64 (m + 1 : Int), .int .u8 o, .int .u8 i] w (TurnErrRet w (roll (a, b) m o i) 0) := by
  have HF := Lib.hid (mayB_yes h)
  have HI := Lib.hid (And.intro i0 i1)
  have HPW : Hid (m < 18446744073709551616) := Lib.hid (by omega)
  have HM := Lib.hid (refMul_yes (a := (md (px st m)).1) (b := (md (px st m)).2) (c := o + 1) (d := 0) (may_md _) ⟨by simp only; omega, by simp only; omega, by simp only; omega, by simp only; omega⟩)
  have hr := roll_ref a b m o i
  have hg := may_md (mu (md (px st m)) (o + 1, 0))
  change Hid (∀ w, Calls _ _ _ w (TurnRet w (md (mu (md (px st m)) (o + 1, 0))))) at HM
  obtain ⟨a0, a1, b0, b1⟩ := h
  obtain ⟨g0, g1, k0, k1⟩ := hg
  simp only at a0 a1 b0 b1
  have HR := Lib.hid hr.symm
  clear hr i0 i1
  rw [HR.out]
  clear HR
  generalize md (mu (md (px st m)) (o + 1, 0)) = z at *
  have HP : Hid (may ((a + 8191 - z.1) % 8191, (b + 8191 - z.2) % 8191)) := Lib.hid ⟨by simp only; omega, by simp only; omega, by simp only; omega, by simp only; omega⟩
  have hm0 : (0 : Int) ≤ (m : Int) := by omega
  go_enter Try.func20, Try.ntmps20
  go_wp2_with fail
  have f0 := F2.start w a b 0 0
  refine (refMay_any a b _).mono ?_; rintro e w1 ⟨rfl, hb1⟩
  rw [HF.out]
  have H1 := Lib.hid (f0.up hb1)
  clear f0 hb1
  go_wp2_with fail
  refine (refPower_any m HPW.out _).mono ?_; rintro e w2 ⟨rfl, hb2⟩
  have H2 := Lib.hid (H1.out.up hb2)
  clear hb2 H1
  go_wp2_with fail
  refine (HM.out _).mono ?_; rintro e w3 ⟨rfl, hb3⟩
  have h3 := H2.out.up hb3
  obtain ⟨x0, x1, _, _⟩ := h3.cx
  have x2 := h3.x.lt
  have H3 := Lib.hid h3
  clear h3 hb3 H2
  go_wp2_with fail
  refine (refPut_any HP.out HI.out.1 HI.out.2 _).mono ?_; rintro e w4 ⟨rfl, hb4⟩
  have h4 := H3.out.up (box_trans2 hb4)
  obtain ⟨z0, z1, z2, z3⟩ := h4.cz
  have H4 := Lib.hid h4
  clear h4 hb4 H3
  go_wp2
  have hp := H4.out.putz (nx ((a + 8191 - z.1) % 8191, (b + 8191 - z.2) % 8191) i).1 (nx ((a + 8191 - z.1) % 8191, (b + 8191 - z.2) % 8191) i).2
  refine bodyPost_ret (results_turn_err rfl _ _ (w.heap.size + 1) rfl hp.z.pair) rfl ⟨rfl, hp.below⟩

theorem roll_any (a b n o i : Int) (hn : n ≤ 9223372036854775807) (o0 : 0 ≤ o) (o1 : o < 256) (i0 : 0 ≤ i) (i1 : i < 256) (w : World) :
    Calls Try.prog 19 #[tv a b, .int .i64 n, .int .u8 o, .int .u8 i] w (TurnErrRet w (rollT (a, b) n o i) (rollE (a, b) n)) := by
  unfold rollT rollE
  by_cases h : may (a, b)
  · by_cases h' : 1 ≤ n
    · rw [if_pos ⟨h, h'⟩, if_pos ⟨h, h'⟩]
      obtain ⟨m, rfl⟩ : ∃ m : Nat, n = m + 1 := ⟨(n - 1).toNat, by omega⟩
      rw [show ((m : Int) + 1 - 1).toNat = m by omega]
      exact roll_yes h (by omega) o0 o1 i0 i1 w
    · rw [if_neg (fun e => h' e.2), if_neg (fun e => h' e.2)]; exact roll_no2 h (by omega) w
  · rw [if_neg (fun e => h e.1), if_neg (fun e => h e.1)]; exact roll_no1 h w
theorem refRoll_any (a b n o i : Int) (hn : n ≤ 9223372036854775807) (o0 : 0 ≤ o) (o1 : o < 256) (i0 : 0 ≤ i) (i1 : i < 256) (w : World) :
    Calls Try.prog 20 #[tv a b, .int .i64 n, .int .u8 o, .int .u8 i] w (TurnErrRet w (rollT (a, b) n o i) (rollE (a, b) n)) := by
  unfold rollT rollE
  by_cases h : may (a, b)
  · by_cases h' : 1 ≤ n
    · rw [if_pos ⟨h, h'⟩, if_pos ⟨h, h'⟩]
      obtain ⟨m, rfl⟩ : ∃ m : Nat, n = m + 1 := ⟨(n - 1).toNat, by omega⟩
      rw [show ((m : Int) + 1 - 1).toNat = m by omega]
      exact refRoll_yes h (by omega) o0 o1 i0 i1 w
    · rw [if_neg (fun e => h' e.2), if_neg (fun e => h' e.2)]; exact refRoll_no2 h (by omega) w
  · rw [if_neg (fun e => h e.1), if_neg (fun e => h e.1)]; exact refRoll_no1 h w
end Go.Proofs.Ytjegopkaficbpaa.Mat
