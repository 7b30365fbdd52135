/- Which texts, writes, disks are the same: walked. -/
import Derived.Test.YtefppiplkmhdmaaDskL
namespace Go.Proofs.Ytefppiplkmhdmaa.Mat
open Go.RowKit Fld

section
variable {A A' : Option Addr} {n n' cap cap' B B' : Nat} {S S' : Nat → ByteArray} {w : World}
set_option maxRecDepth 100000 in
set_option maxHeartbeats 800000 in
theorem strSame_any (h : St w B A n S) (h' : St w B' A' n' S') (hn : n ≤ 9223372036854775807) (hn' : n' ≤ 9223372036854775807) :
    Calls Try.prog 31 #[.slice A n cap, .slice A' n' cap'] w fun e w' => e = .returned (.bool (stB n S n' S')) ∧ ∃ q, w' = w.drewN q := by
  have H := Lib.hid h
  have H' := Lib.hid h'
  clear h h'
  by_cases e : n = n'
  · subst e
    have e1 : ((n : Int) != (n : Int)) = false := by rw [bne_eq_false_iff_eq]
    go_enter Try.func31, Try.ntmps31
    go_wp2
    go_loopg [5] n (fun gh i wr => ∃ k q : Nat, k ≤ n ∧ gh = n - k ∧ i = .int .i64 k ∧ wr = w.drewN q ∧ Hid (∀ r, r < k → S r = S' r))
    case atStart => exact ⟨0, 0, by omega, rfl, rfl, rfl, Lib.hid (fun r hr => absurd hr (by omega))⟩
    case round =>
      obtain ⟨k, q, hk, rfl, rfl, rfl, hall⟩ := hrel
      by_cases hlt : k < n
      · have hkz : (k : Int) < (n : Int) := by omega
        obtain ⟨ad, rfl, _, c1⟩ := H.out.at_ hlt
        obtain ⟨ad', rfl, _, c2⟩ := H'.out.at_ hlt
        by_cases he : S k = S' k
        · obtain ⟨t, t2⟩ := str_yes he
          have He := Lib.hid he; clear he
          go_wp2_with fail
          go_quiet (fail)
          go_wp2
          go_roundg (n - (k + 1))
          case measure => go_light; omega
          case rel => go_light; exact ⟨k + 1, _, by omega, rfl, by simp, rfl, Lib.hid (fun r hr => by
            by_cases e : r = k
            · subst e; exact He.out
            · exact hall.out r (by omega))⟩
        · obtain ⟨t, t2⟩ := str_no he
          have HF : Hid (stB n S n S' = false) := Lib.hid (stB_no (fun h => he (h.2 k hlt)))
          clear he
          go_wp2_with fail
          go_quiet (fail)
          go_wp2
          go_ret
          exact ⟨by rw [HF.out]; rfl, _, World.drewN_drewN _ _ _⟩
      · have hkz : ¬ (k : Int) < (n : Int) := by omega
        have HF : Hid (stB n S n S' = true) := Lib.hid (stB_yes ⟨rfl, fun r hr => hall.out r (by omega)⟩)
        go_wp2
        go_ret
        exact ⟨by rw [HF.out]; rfl, _, rfl⟩
  · have e1 : ((n : Int) != (n' : Int)) = true := by rw [bne_iff_ne]; omega
    have HF : Hid (stB n S n' S' = false) := Lib.hid (stB_no (fun h => e h.1))
    clear e
    go_enter Try.func31, Try.ntmps31
    go_wp2
    go_ret
    exact ⟨by rw [HF.out]; rfl, 0, rfl⟩
set_option maxRecDepth 100000 in
set_option maxHeartbeats 800000 in
theorem strEqual_any (h : St w B A n S) (h' : St w B' A' n' S') (hn : n ≤ 9223372036854775807) (hn' : n' ≤ 9223372036854775807) :
    Calls Try.prog 35 #[.slice A n cap, .slice A' n' cap'] w fun e w' => e = .returned (.bool (stB n S n' S')) ∧ ∃ q, w' = w.drewN q := by
  have H := Lib.hid h
  have H' := Lib.hid h'
  clear h h'
  by_cases e : n = n'
  · subst e
    have e1 : ((n : Int) != (n : Int)) = false := by rw [bne_eq_false_iff_eq]
    go_enter Try.func35, Try.ntmps35
    go_wp2
    go_loopg [13] n (fun gh i wr => ∃ k q : Nat, k ≤ n ∧ gh = n - k ∧ i = .int .i64 k ∧ wr = w.drewN q ∧ Hid (∀ r, r < k → S r = S' r))
    case atStart => exact ⟨0, 0, by omega, rfl, rfl, rfl, Lib.hid (fun r hr => absurd hr (by omega))⟩
    case round =>
      obtain ⟨k, q, hk, rfl, rfl, rfl, hall⟩ := hrel
      by_cases hlt : k < n
      · have hkz : (k : Int) < (n : Int) := by omega
        obtain ⟨ad, rfl, _, c1⟩ := H.out.at_ hlt
        obtain ⟨ad', rfl, _, c2⟩ := H'.out.at_ hlt
        by_cases he : S k = S' k
        · obtain ⟨t, t2⟩ := str_yes he
          have He := Lib.hid he; clear he
          go_wp2_with fail
          go_quiet (fail)
          go_wp2
          go_roundg (n - (k + 1))
          case measure => go_light; omega
          case rel => go_light; exact ⟨k + 1, _, by omega, rfl, by simp, rfl, Lib.hid (fun r hr => by
            by_cases e : r = k
            · subst e; exact He.out
            · exact hall.out r (by omega))⟩
        · obtain ⟨t, t2⟩ := str_no he
          have HF : Hid (stB n S n S' = false) := Lib.hid (stB_no (fun h => he (h.2 k hlt)))
          clear he
          go_wp2_with fail
          go_quiet (fail)
          go_wp2
          go_ret
          exact ⟨by rw [HF.out]; rfl, _, World.drewN_drewN _ _ _⟩
      · have hkz : ¬ (k : Int) < (n : Int) := by omega
        have HF : Hid (stB n S n S' = true) := Lib.hid (stB_yes ⟨rfl, fun r hr => hall.out r (by omega)⟩)
        go_wp2
        go_ret
        exact ⟨by rw [HF.out]; rfl, _, rfl⟩
  · have e1 : ((n : Int) != (n' : Int)) = true := by rw [bne_iff_ne]; omega
    have HF : Hid (stB n S n' S' = false) := Lib.hid (stB_no (fun h => e h.1))
    clear e
    go_enter Try.func35, Try.ntmps35
    go_wp2
    go_ret
    exact ⟨by rw [HF.out]; rfl, 0, rfl⟩
theorem neqW (a b : Int) (s t : ByteArray) (w : World) : (binOp .neq 55 (.agg #[.int .i64 a, .string s]) (.agg #[.int .i64 b, .string t])).run Try.prog w = .ok (.bool (!(a == b && s.toList == t.toList))) w := by
  have ht : Try.prog.underlying 55 = some (.struct (Try.prog.fieldsOf 55)) := by kernel_rfl
  have hs : Try.prog.stoodInHeld 55 = false := by kernel_rfl
  have u := Try.underlying55
  have u0 := Try.underlying3
  have u1 := Try.underlying9
  rw [run_neq_struct, run_equalIn_agg w 9999 _ _ _ ht hs]
  unfold Program.fieldsOf
  rw [u]
  simp [Op.eqFields, go_sem, u0, u1]
  by_cases h1 : a = b
  · by_cases h2 : s.toList = t.toList
    · simp [h1, h2]
    · simp [h1, h2]
  · simp [h1]
theorem neqW_no {a b : Int} {s t : ByteArray} (h : a = b ∧ s = t) (w : World) : (binOp .neq 55 (.agg #[.int .i64 a, .string s]) (.agg #[.int .i64 b, .string t])).run Try.prog w = .ok (.bool false) w := by
  rw [neqW, h.1, h.2]
  simp
theorem neqW_yes {a b : Int} {s t : ByteArray} (h : ¬ (a = b ∧ s = t)) (w : World) : (binOp .neq 55 (.agg #[.int .i64 a, .string s]) (.agg #[.int .i64 b, .string t])).run Try.prog w = .ok (.bool true) w := by
  rw [neqW]
  have e : (a == b && s.toList == t.toList) = false := by
    rw [Bool.and_eq_false_iff, beq_eq_false_iff_ne, str_beq, decide_eq_false_iff_not]
    by_cases h1 : a = b
    · exact .inr (fun h2 => h ⟨h1, h2⟩)
    · exact .inl h1
  rw [e]
  rfl
/-- writes are the same -/
def WrSame (n : Nat) (I : Nat → Int) (S : Nat → ByteArray) (n' : Nat) (I' : Nat → Int) (S' : Nat → ByteArray) : Prop := n = n' ∧ ∀ i, i < n → I i = I' i ∧ S i = S' i
instance (n : Nat) (I : Nat → Int) (S : Nat → ByteArray) (n' : Nat) (I' : Nat → Int) (S' : Nat → ByteArray) : Decidable (WrSame n I S n' I' S') := by unfold WrSame; infer_instance
def wrB (n : Nat) (I : Nat → Int) (S : Nat → ByteArray) (n' : Nat) (I' : Nat → Int) (S' : Nat → ByteArray) : Bool := decide (WrSame n I S n' I' S')
theorem wrB_yes {I I' : Nat → Int} (h : WrSame n I S n' I' S') : wrB n I S n' I' S' = true := decide_eq_true h
theorem wrB_no {I I' : Nat → Int} (h : ¬ WrSame n I S n' I' S') : wrB n I S n' I' S' = false := decide_eq_false h
set_option maxRecDepth 100000 in
set_option maxHeartbeats 800000 in
theorem wrEqual_any {I I' : Nat → Int} (h : Pc w B A n I S) (h' : Pc w B' A' n' I' S') (hn : n ≤ 9223372036854775807) (hn' : n' ≤ 9223372036854775807) :
    Calls Try.prog 36 #[.slice A n cap, .slice A' n' cap'] w fun e w' => e = .returned (.bool (wrB n I S n' I' S')) ∧ ∃ q, w' = w.drewN q := by
  have H := Lib.hid h
  have H' := Lib.hid h'
  clear h h'
  by_cases e : n = n'
  · subst e
    have e1 : ((n : Int) != (n : Int)) = false := by rw [bne_eq_false_iff_eq]
    go_enter Try.func36, Try.ntmps36
    go_wp2
    go_loopg [13] n (fun gh i wr => ∃ k q : Nat, k ≤ n ∧ gh = n - k ∧ i = .int .i64 k ∧ wr = w.drewN q ∧ Hid (∀ r, r < k → I r = I' r ∧ S r = S' r))
    case atStart => exact ⟨0, 0, by omega, rfl, rfl, rfl, Lib.hid (fun r hr => absurd hr (by omega))⟩
    case round =>
      obtain ⟨k, q, hk, rfl, rfl, rfl, hall⟩ := hrel
      by_cases hlt : k < n
      · have hkz : (k : Int) < (n : Int) := by omega
        obtain ⟨ad, rfl, _, c1, c1'⟩ := H.out.at_ hlt
        obtain ⟨ad', rfl, _, c2, c2'⟩ := H'.out.at_ hlt
        by_cases he : I k = I' k ∧ S k = S' k
        · have t1 := neqW_no he
          have He := Lib.hid he; clear he
          go_wp2_with fail
          go_quiet (fail)
          go_wp2
          go_roundg (n - (k + 1))
          case measure => go_light; omega
          case rel => go_light; exact ⟨k + 1, _, by omega, rfl, by simp, rfl, Lib.hid (fun r hr => by
            by_cases e : r = k
            · subst e; exact He.out
            · exact hall.out r (by omega))⟩
        · have t1 := neqW_yes he
          have HF : Hid (wrB n I S n I' S' = false) := Lib.hid (wrB_no (fun h => he (h.2 k hlt)))
          clear he
          go_wp2_with fail
          go_quiet (fail)
          go_wp2
          go_ret
          exact ⟨by rw [HF.out]; rfl, _, World.drewN_drewN _ _ _⟩
      · have hkz : ¬ (k : Int) < (n : Int) := by omega
        have HF : Hid (wrB n I S n I' S' = true) := Lib.hid (wrB_yes ⟨rfl, fun r hr => hall.out r (by omega)⟩)
        go_wp2
        go_ret
        exact ⟨by rw [HF.out]; rfl, _, rfl⟩
  · have e1 : ((n : Int) != (n' : Int)) = true := by rw [bne_iff_ne]; omega
    have HF : Hid (wrB n I S n' I' S' = false) := Lib.hid (wrB_no (fun h => e h.1))
    clear e
    go_enter Try.func36, Try.ntmps36
    go_wp2
    go_ret
    exact ⟨by rw [HF.out]; rfl, 0, rfl⟩
end
theorem same_split (a b : Dk) : sameB a b = (stB a.n a.S b.n b.S && wrB a.m a.I a.T b.m b.I b.T && decide (a.fuse = b.fuse) && (a.off == b.off)) := by
  unfold sameB stB wrB
  rw [Bool.eq_iff_iff]
  simp only [decide_eq_true_iff, Bool.and_eq_true, beq_iff_eq]
  unfold SameD WrSame
  constructor
  · rintro ⟨h1, h2, h3, h4, h5⟩; exact ⟨⟨⟨h1, h2, h3⟩, h4⟩, h5⟩
  · rintro ⟨⟨⟨h1, h2, h3⟩, h4⟩, h5⟩; exact ⟨h1, h2, h3, h4, h5⟩
section
variable {A A' B B' : Option Addr} {c c' k k' : Nat} {a b : Dk} {w : World}
set_option maxRecDepth 100000 in
set_option maxHeartbeats 1600000 in
theorem same_any (h : DOk w A c B k a) (h' : DOk w A' c' B' k' b) :
    Calls Try.prog 26 #[.agg #[.slice A a.n c, .slice B a.m k, .int .i64 a.fuse, .bool a.off], .agg #[.slice A' b.n c', .slice B' b.m k', .int .i64 b.fuse, .bool b.off]] w (BoolRet w (sameB a b)) := by
  have h0 := D2.start w (.slice A a.n c) (.slice B a.m k) (.int .i64 a.fuse) (.bool a.off) (.slice A' b.n c') (.slice B' b.m k') (.int .i64 b.fuse) (.bool b.off)
  have HA := Lib.hid (h.up h0.below)
  have HB := Lib.hid (h'.up h0.below)
  have H0 := Lib.hid h0
  have n1 : a.n ≤ 9223372036854775807 := by have := h.sz.bn; omega
  have n2 : b.n ≤ 9223372036854775807 := by have := h'.sz.bn; omega
  have m1 : a.m ≤ 9223372036854775807 := by have := h.sz.bm; omega
  have m2 : b.m ≤ 9223372036854775807 := by have := h'.sz.bm; omega
  have HS := Lib.hid (same_split a b)
  clear h h' h0
  go_enter Try.func26, Try.ntmps26
  go_upto_region 1 with fail
  generalize (w.alloc (.cells #[.slice A a.n c, .slice B a.m k, .int .i64 a.fuse, .bool a.off] 25)).alloc (.cells #[.slice A' b.n c', .slice B' b.m k', .int .i64 b.fuse, .bool b.off] 25) = wb at *
  obtain ⟨x0, x1, x2, x3⟩ := H0.out.x.cells
  obtain ⟨z0, z1, z2, z3⟩ := H0.out.z.cells
  go_wp2_with fail
  refine (strEqual_any HA.out.st HB.out.st n1 n2).mono ?_; rintro e w1 ⟨rfl, q1, rfl⟩
  cases hs : stB a.n a.S b.n b.S
  · have HF : Hid (sameB a b = false) := Lib.hid (by rw [HS.out, hs]; rfl)
    clear hs
    go_wp2
    go_ret
    exact ⟨by rw [HF.out]; rfl, below_drewN H0.out.below q1⟩
  · have HST := Lib.hid hs
    clear hs
    go_wp2_with fail
    refine (wrEqual_any (Pc.drewN HA.out.pc q1) (Pc.drewN HB.out.pc q1) m1 m2).mono ?_; rintro e w1 ⟨rfl, q2, rfl⟩
    cases hs : wrB a.m a.I a.T b.m b.I b.T
    · have HF : Hid (sameB a b = false) := Lib.hid (by rw [HS.out, HST.out, hs]; rfl)
      clear hs
      go_wp2
      go_ret
      exact ⟨by rw [HF.out]; rfl, below_drewN H0.out.below _⟩
    · have HWR := Lib.hid hs
      clear hs
      by_cases hf : a.fuse = b.fuse
      · have g1 : (a.fuse == b.fuse) = true := beq_iff_eq.2 hf
        have HF : Hid (sameB a b = (a.off == b.off)) := Lib.hid (by rw [HS.out, HST.out, HWR.out, decide_eq_true hf]; rfl)
        clear hf
        go_wp2
        go_ret
        exact ⟨by rw [HF.out]; rfl, below_drewN H0.out.below _⟩
      · have g1 : (a.fuse == b.fuse) = false := beq_eq_false_iff_ne.2 hf
        have HF : Hid (sameB a b = false) := Lib.hid (by rw [HS.out, HST.out, HWR.out, decide_eq_false hf]; rfl)
        clear hf
        go_wp2
        go_ret
        exact ⟨by rw [HF.out]; rfl, below_drewN H0.out.below _⟩
set_option maxRecDepth 100000 in
set_option maxHeartbeats 1600000 in
theorem refSame_any (h : DOk w A c B k a) (h' : DOk w A' c' B' k' b) :
    Calls Try.prog 19 #[.agg #[.slice A a.n c, .slice B a.m k, .int .i64 a.fuse, .bool a.off], .agg #[.slice A' b.n c', .slice B' b.m k', .int .i64 b.fuse, .bool b.off]] w (BoolRet w (sameB a b)) := by
  have h0 := D2.start w (.slice A a.n c) (.slice B a.m k) (.int .i64 a.fuse) (.bool a.off) (.slice A' b.n c') (.slice B' b.m k') (.int .i64 b.fuse) (.bool b.off)
  have HA := Lib.hid (h.up h0.below)
  have HB := Lib.hid (h'.up h0.below)
  have H0 := Lib.hid h0
  have n1 : a.n ≤ 9223372036854775807 := by have := h.sz.bn; omega
  have n2 : b.n ≤ 9223372036854775807 := by have := h'.sz.bn; omega
  have m1 : a.m ≤ 9223372036854775807 := by have := h.sz.bm; omega
  have HS := Lib.hid (same_split a b)
  clear h h' h0
  go_enter Try.func19, Try.ntmps19
  go_upto_region 1 with fail
  generalize (w.alloc (.cells #[.slice A a.n c, .slice B a.m k, .int .i64 a.fuse, .bool a.off] 25)).alloc (.cells #[.slice A' b.n c', .slice B' b.m k', .int .i64 b.fuse, .bool b.off] 25) = wb at *
  obtain ⟨x0, x1, x2, x3⟩ := H0.out.x.cells
  obtain ⟨z0, z1, z2, z3⟩ := H0.out.z.cells
  go_wp2_with fail
  refine (strSame_any HA.out.st HB.out.st n1 n2).mono ?_; rintro e w1 ⟨rfl, q1, rfl⟩
  cases hs : stB a.n a.S b.n b.S
  · have HF : Hid (sameB a b = false) := Lib.hid (by rw [HS.out, hs]; rfl)
    clear hs
    go_wp2
    go_ret
    exact ⟨by rw [HF.out]; rfl, below_drewN H0.out.below q1⟩
  · have HST := Lib.hid hs
    clear hs
    by_cases hm : a.m = b.m
    rotate_left
    · have g1 : ((a.m : Int) != (b.m : Int)) = true := by rw [bne_iff_ne]; omega
      have HF : Hid (sameB a b = false) := Lib.hid (by rw [HS.out, HST.out, wrB_no (fun h => hm h.1)]; rfl)
      clear hm
      go_wp2
      go_ret
      exact ⟨by rw [HF.out]; rfl, below_drewN H0.out.below q1⟩
    · have g1 : ((a.m : Int) != (b.m : Int)) = false := by rw [bne_eq_false_iff_eq]; omega
      have HM := Lib.hid hm
      clear hm
      by_cases hf : a.fuse = b.fuse
      rotate_left
      · have g2 : (a.fuse != b.fuse) = true := by rw [bne_iff_ne]; exact hf
        have HF : Hid (sameB a b = false) := Lib.hid (by rw [HS.out, HST.out, decide_eq_false hf]; simp)
        clear hf
        go_wp2
        go_ret
        exact ⟨by rw [HF.out]; rfl, below_drewN H0.out.below q1⟩
      · have g2 : (a.fuse != b.fuse) = false := by rw [bne_eq_false_iff_eq]; exact hf
        have HFU := Lib.hid hf
        clear hf
        cases ho : (a.off == b.off)
        · have HF : Hid (sameB a b = false) := Lib.hid (by
            rw [HS.out, ho]; simp)
          have g3 : (!(a.off == b.off)) = true := by rw [ho]; rfl
          clear ho
          go_wp2
          go_ret
          exact ⟨by rw [HF.out]; rfl, below_drewN H0.out.below q1⟩
        · have HOF : Hid (sameB a b = wrB a.m a.I a.T b.m b.I b.T) := Lib.hid (by
            rw [HS.out, HST.out, decide_eq_true HFU.out, ho]; simp)
          have g3 : (!(a.off == b.off)) = false := by rw [ho]; rfl
          clear ho
          go_wp2
          go_loopg [6] a.m (fun gh i wr => ∃ r q : Nat, r ≤ a.m ∧ gh = a.m - r ∧ i = .int .i64 (r : Nat) ∧ wr = wb.drewN q ∧ Hid (∀ j, j < r → a.I j = b.I j ∧ a.T j = b.T j))
          case atStart => exact ⟨0, q1, Nat.zero_le _, rfl, rfl, rfl, Lib.hid (fun r hr => absurd hr (by omega))⟩
          case round =>
            obtain ⟨r, q, hr, rfl, rfl, rfl, hall⟩ := hrel
            by_cases hlt : r < a.m
            · have hkz : (r : Int) < (a.m : Int) := by omega
              have hkz2 : (r : Int) < (b.m : Int) := by have := HM.out; omega
              have hlt2 : r < b.m := by have := HM.out; omega
              obtain ⟨ad, rfl, _, k0, k1⟩ := HA.out.pc.at_ hlt
              obtain ⟨bd, rfl, _, l0, l1⟩ := HB.out.pc.at_ hlt2
              by_cases he : a.I r = b.I r ∧ a.T r = b.T r
              · have t1 := neqW_no he
                have He := Lib.hid he; clear he
                go_wp2_with fail
                go_quiet (fail)
                go_wp2
                go_roundg (a.m - (r + 1))
                case measure => go_light; omega
                case rel => go_light; exact ⟨r + 1, _, by omega, rfl, by simp, rfl, Lib.hid (fun j hj => by
                  by_cases e : j = r
                  · subst e; exact He.out
                  · exact hall.out j (by omega))⟩
              · have t1 := neqW_yes he
                have HF : Hid (sameB a b = false) := Lib.hid (by rw [HOF.out]; exact wrB_no (fun h => he (h.2 r hlt)))
                clear he
                go_wp2_with fail
                go_quiet (fail)
                go_wp2
                go_ret
                exact ⟨by rw [HF.out]; rfl, below_drewN (below_drewN H0.out.below _) _⟩
            · have hkz : ¬ (r : Int) < (a.m : Int) := by omega
              have HF : Hid (sameB a b = true) := Lib.hid (by rw [HOF.out]; exact wrB_yes ⟨HM.out, fun j hj => hall.out j (by omega)⟩)
              go_wp2
              go_ret
              exact ⟨by rw [HF.out]; rfl, below_drewN H0.out.below _⟩
end
end Go.Proofs.Ytefppiplkmhdmaa.Mat
