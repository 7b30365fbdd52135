/- The law DiskTwice: walked. -/
import Derived.Test.YtefppiplkmhdmaaDskT
namespace Go.Proofs.Ytefppiplkmhdmaa.Mat
open Go.RowKit Fld

theorem burst_twice {d : Dk} {slot at_ : Int} {x : BitVec 32} : burstE (burstD d slot at_ x) slot at_ = burstE d slot at_ ∧ sameB (burstD (burstD d slot at_ x) slot at_ x) d = true ∧ (burstE d slot at_ = 0 → (sameB (burstD d slot at_ x) d = true ↔ x = 0#32)) := by
  cases h : mayBurst d slot at_
  · obtain ⟨e1, e2⟩ := burst_no h x
    rw [e1, e1]
    exact ⟨rfl, same_self d, fun e => by rw [e2] at e; cases e⟩
  · obtain ⟨e1, e2⟩ := burst_yes h x
    obtain ⟨h1, h2, h3⟩ := of_decide_eq_true h
    obtain ⟨s0, s1⟩ := hasB_iff.1 h1
    obtain ⟨j, rfl⟩ : ∃ j : Nat, slot = j := ⟨slot.toNat, by omega⟩
    obtain ⟨P, rfl⟩ : ∃ P : Nat, at_ = P := ⟨at_.toNat, by omega⟩
    rw [Int.toNat_natCast] at h3
    rw [Int.toNat_natCast, Int.toNat_natCast] at e1
    have hS : (withS d (setS d.S (j : Int) (turnS (d.S j) x P))).S j = turnS (d.S j) x P := setS_at
    have hm : mayBurst (withS d (setS d.S (j : Int) (turnS (d.S j) x P))) (j : Int) (P : Int) = true := decide_eq_true ⟨h1, h2, by rw [Int.toNat_natCast, hS, turnS_size]; exact h3⟩
    obtain ⟨e3, e4⟩ := burst_yes hm x
    rw [Int.toNat_natCast, Int.toNat_natCast, hS, turn_twice] at e3
    rw [e1, e3, e4, e2]
    refine ⟨rfl, sameB_yes ⟨⟨rfl, fun i _ => ?_⟩, rfl, fun _ _ => ⟨rfl, rfl⟩, rfl, rfl⟩, fun _ => ?_⟩
    · show setS (setS d.S (j : Int) (turnS (d.S j) x P)) (j : Int) (d.S j) i = d.S i
      rw [setS_twice]
      unfold setS
      by_cases e : (i : Int) = j
      · rw [if_pos e, show i = j by omega]
      · rw [if_neg e]
    · have hb : P + 32 ≤ 8 * (d.S j).size := by omega
      constructor
      · intro hs
        obtain ⟨⟨_, h5⟩, _⟩ := of_decide_eq_true hs
        have h6 := h5 j (by show j < d.n; omega)
        rw [hS] at h6
        exact (turn_same hb).1 h6
      · intro hx
        refine sameB_yes ⟨⟨rfl, fun i _ => ?_⟩, rfl, fun _ _ => ⟨rfl, rfl⟩, rfl, rfl⟩
        show setS d.S (j : Int) (turnS (d.S j) x P) i = d.S i
        unfold setS
        by_cases e : (i : Int) = j
        · rw [if_pos e, show i = j by omega, (turn_same hb).2 hx]
        · rw [if_neg e]
theorem V32_zero (x : BitVec 32) : (V32 x == 0) = decide (x = 0#32) := by
  rw [Bool.eq_iff_iff, beq_iff_eq, decide_eq_true_iff]
  unfold V32
  constructor
  · intro h
    apply BitVec.eq_of_toNat_eq
    simp
    omega
  · rintro rfl; rfl
section
variable {w : World} {d : Dk} {A B : Option Addr} {c k : Nat}
set_option maxRecDepth 100000 in
set_option maxHeartbeats 3200000 in
theorem lawTwice (h : DOk w A c B k d) (slot at_ : Int) (a1 : at_ ≤ 9223372036854775807) (x : BitVec 32) :
    Calls Try.prog 8 #[.agg #[.slice A d.n c, .slice B d.m k, .int .i64 d.fuse, .bool d.off, .int .i64 slot, .int .i64 at_, .int .u32 (V32 x)]] w (BoolRet w true) := by
  have c1 := fun W A c B k (h : DOk W A c B k d) => burst_any h slot at_ a1 x
  have c2 := fun W A c B k (h : DOk W A c B k (burstD d slot at_ x)) => burst_any h slot at_ a1 x
  obtain ⟨e1, e2, e3⟩ := burst_twice (d := d) (slot := slot) (at_ := at_) (x := x)
  rw [e1] at c2
  have hb : burstE d slot at_ = 0 ∨ burstE d slot at_ = 1 := by unfold burstE; split <;> simp
  have hs2 : burstE d slot at_ = 0 → (sameB (burstD d slot at_ x) d == (V32 x == 0)) = true := fun h => by
    rw [V32_zero, beq_iff_eq, Bool.eq_iff_iff, decide_eq_true_iff]
    exact e3 h
  generalize burstD (burstD d slot at_ x) slot at_ x = D2 at *
  generalize burstD d slot at_ x = D1 at *
  generalize burstE d slot at_ = E1 at *
  generalize V32 x = v at *
  have S1 := Lib.hid e2
  obtain ⟨sb, hsb⟩ : ∃ sb, sameB D1 d = sb := ⟨_, rfl⟩
  have S2 := Lib.hid hsb
  rw [hsb] at hs2
  have C1 := Lib.hid c1
  have C2 := Lib.hid c2
  have HS2 := Lib.hid hs2
  have HE := Lib.hid hb
  obtain ⟨hV, hB⟩ := law_start h (.cells #[.slice A d.n c, .slice B d.m k, .int .i64 d.fuse, .bool d.off, .int .i64 slot, .int .i64 at_, .int .u32 v] 64)
  have Hd := Lib.hid hV
  have HB0 := Lib.hid hB
  clear c1 c2 hs2 hb h hV hB e1 e2 e3 hsb
  go_enter Try.func8, Try.ntmps8
  go_upto_region 5 with fail
  generalize (w.alloc (.cells #[.slice A d.n c, .slice B d.m k, .int .i64 d.fuse, .bool d.off, .int .i64 slot, .int .i64 at_, .int .u32 v] 64)).alloc (.cells #[.slice A d.n c, .slice B d.m k, .int .i64 d.fuse, .bool d.off] 25) = w0 at *
  go_wp2_with fail
  refine (shown_any _).mono ?_; rintro e w1 ⟨rfl, hb1⟩
  have Nd := Lib.hid (Hd.out.up hb1)
  clear Hd
  have Hd := Nd
  clear Nd
  have HB1 := Lib.hid (up_trans HB0.out hb1)
  clear hb1 HB0
  obtain ⟨da, db, dc, dd⟩ := Hd.out.cells
  go_wp2_with fail
  clear da db dc dd
  refine (C1.out _ _ _ _ _ Hd.out.ok).mono ?_; rintro e w2 ⟨A2, c2, B2, k2, rfl, ok2, hb2⟩
  have Nd := Lib.hid ((Hd.out.up hb2).alloc (.cells #[.slice A2 D1.n c2, .slice B2 D1.m k2, .int .i64 D1.fuse, .bool D1.off] 25))
  clear Hd
  have Hd := Nd
  clear Nd
  have Ha := Lib.hid (Vr.new ok2)
  have hbb := up_trans HB1.out hb2
  have HB2 := Lib.hid (hbb.alloc hbb.size (.cells #[.slice A2 D1.n c2, .slice B2 D1.m k2, .int .i64 D1.fuse, .bool D1.off] 25))
  clear hbb ok2 hb2 HB1
  go_upto_region 7 with fail
  generalize w2.alloc (.cells #[.slice A2 D1.n c2, .slice B2 D1.m k2, .int .i64 D1.fuse, .bool D1.off] 25) = W2 at *
  generalize w2.heap.size = g2 at *
  obtain ⟨aa, ab, ac, ad⟩ := Ha.out.cells
  go_wp2_with fail
  clear aa ab ac ad
  refine (C2.out _ _ _ _ _ Ha.out.ok).mono ?_; rintro e w3 ⟨A3, c3, B3, k3, rfl, ok3, hb3⟩
  have Nd := Lib.hid ((Hd.out.up hb3).alloc (.cells #[.slice A3 D2.n c3, .slice B3 D2.m k3, .int .i64 D2.fuse, .bool D2.off] 25))
  have Na := Lib.hid ((Ha.out.up hb3).alloc (.cells #[.slice A3 D2.n c3, .slice B3 D2.m k3, .int .i64 D2.fuse, .bool D2.off] 25))
  clear Hd Ha
  have Hd := Nd
  have Ha := Na
  clear Nd Na
  have Hb := Lib.hid (Vr.new ok3)
  have hbb := up_trans HB2.out hb3
  have HB3 := Lib.hid (hbb.alloc hbb.size (.cells #[.slice A3 D2.n c3, .slice B3 D2.m k3, .int .i64 D2.fuse, .bool D2.off] 25))
  clear hbb ok3 hb3 HB2
  go_upto_region 8 with fail
  generalize w3.alloc (.cells #[.slice A3 D2.n c3, .slice B3 D2.m k3, .int .i64 D2.fuse, .bool D2.off] 25) = W3 at *
  generalize w3.heap.size = g3 at *
  obtain ⟨ba, bb, bc, bd⟩ := Hb.out.cells
  obtain ⟨da, db, dc, dd⟩ := Hd.out.cells
  go_wp2_with fail
  clear ba bb bc bd da db dc dd
  refine (refSame_any Hb.out.ok Hd.out.ok).mono ?_; rintro e w4 ⟨rfl, hb4⟩
  rw [S1.out]
  have Nd := Lib.hid (Hd.out.up hb4)
  have Na := Lib.hid (Ha.out.up hb4)
  have Nb := Lib.hid (Hb.out.up hb4)
  clear Hd Ha Hb
  have Hd := Nd
  have Ha := Na
  have Hb := Nb
  clear Nd Na Nb
  have HB4 := Lib.hid (up_trans HB3.out hb4)
  clear hb4 HB3
  obtain ⟨aa, ab, ac, ad⟩ := Ha.out.cells
  obtain ⟨da, db, dc, dd⟩ := Hd.out.cells
  go_wp2_with fail
  clear aa ab ac ad da db dc dd
  refine (refSame_any Ha.out.ok Hd.out.ok).mono ?_; rintro e w5 ⟨rfl, hb5⟩
  rw [S2.out]
  have Nd := Lib.hid (Hd.out.up hb5)
  have Na := Lib.hid (Ha.out.up hb5)
  have Nb := Lib.hid (Hb.out.up hb5)
  clear Hd Ha Hb
  have Hd := Nd
  have Ha := Na
  have Hb := Nb
  clear Nd Na Nb
  have HB5 := Lib.hid (up_trans HB4.out hb5)
  clear hb5 HB4
  rcases HE.out with he | he
  · have g1 : (E1 != 0) = false := by rw [he]; rfl
    have g2 := HS2.out he
    clear he
    go_wp2
    go_ret
    exact ⟨ret_bool (by first | rfl | simp | simp_all), HB5.out⟩
  · have g1 : (E1 != 0) = true := by rw [he]; rfl
    clear he
    go_wp2
    go_ret
    exact ⟨ret_bool (by first | rfl | simp), HB5.out⟩
end
end Go.Proofs.Ytefppiplkmhdmaa.Mat
