/- The print of two texts, as the document says: walked. -/
import Derived.Test.YtjegopkaficbpaaTurnJ
namespace Go.Proofs.Ytjegopkaficbpaa.Mat
open Go.RowKit Fld Flt Trn

set_option maxRecDepth 100000 in
set_option maxHeartbeats 800000 in
theorem refJoin_no1 {a b c d n : Int} (h : ¬ may (a, b)) (w : World) : Calls Try.prog 22 #[tv a b, tv c d, .int .i64 n] w (TurnErrRet w (0, 0) 1) := by
  have HF := Lib.hid (mayB_no h)
  clear h
  go_enter Try.func22, Try.ntmps22
  go_wp2_with fail
  have h0 := F3.start w a b c d 0 0
  refine (refMay_any a b _).mono ?_; rintro e w1 ⟨rfl, hb1⟩
  rw [HF.out]
  have h1 := h0.up hb1
  obtain ⟨y0, y1⟩ := h1.cy
  have H1 := Lib.hid h1
  clear h0 h1 hb1
  go_wp2_with fail
  refine (refMay_any c d _).mono ?_; rintro e w2 ⟨rfl, hb2⟩
  have h2 := H1.out.up hb2
  obtain ⟨z0, z1, z2, z3⟩ := h2.cz
  have H2 := Lib.hid h2
  clear h2 hb2 H1 y0 y1
  go_wp2
  have hp := H2.out.put 0 0
  refine bodyPost_ret (results_turn_err rfl _ _ (w.heap.size + 1 + 1) rfl hp.z.pair) rfl ⟨rfl, hp.below⟩
set_option maxRecDepth 100000 in
set_option maxHeartbeats 800000 in
theorem refJoin_no2 {a b c d n : Int} (h : may (a, b)) (h' : ¬ may (c, d)) (w : World) : Calls Try.prog 22 #[tv a b, tv c d, .int .i64 n] w (TurnErrRet w (0, 0) 1) := by
  have HF := Lib.hid (mayB_yes h)
  have HG := Lib.hid (mayB_no h')
  clear h h'
  go_enter Try.func22, Try.ntmps22
  go_wp2_with fail
  have h0 := F3.start w a b c d 0 0
  refine (refMay_any a b _).mono ?_; rintro e w1 ⟨rfl, hb1⟩
  rw [HF.out]
  have h1 := h0.up hb1
  obtain ⟨y0, y1⟩ := h1.cy
  have H1 := Lib.hid h1
  clear h0 h1 hb1
  go_wp2_with fail
  refine (refMay_any c d _).mono ?_; rintro e w2 ⟨rfl, hb2⟩
  rw [HG.out]
  have h2 := H1.out.up hb2
  obtain ⟨z0, z1, z2, z3⟩ := h2.cz
  have H2 := Lib.hid h2
  clear h2 hb2 H1 y0 y1
  go_wp2
  have hp := H2.out.put 0 0
  refine bodyPost_ret (results_turn_err rfl _ _ (w.heap.size + 1 + 1) rfl hp.z.pair) rfl ⟨rfl, hp.below⟩
set_option maxRecDepth 100000 in
set_option maxHeartbeats 800000 in
theorem refJoin_no3 {a b c d n : Int} (h : may (a, b)) (h' : may (c, d)) (hn : n < 0) (w : World) : Calls Try.prog 22 #[tv a b, tv c d, .int .i64 n] w (TurnErrRet w (0, 0) 1) := by
  have HF := Lib.hid (mayB_yes h)
  have HG := Lib.hid (mayB_yes h')
  clear h h'
  go_enter Try.func22, Try.ntmps22
  go_wp2_with fail
  have h0 := F3.start w a b c d 0 0
  refine (refMay_any a b _).mono ?_; rintro e w1 ⟨rfl, hb1⟩
  rw [HF.out]
  have h1 := h0.up hb1
  obtain ⟨y0, y1⟩ := h1.cy
  have H1 := Lib.hid h1
  clear h0 h1 hb1
  go_wp2_with fail
  refine (refMay_any c d _).mono ?_; rintro e w2 ⟨rfl, hb2⟩
  rw [HG.out]
  have h2 := H1.out.up hb2
  obtain ⟨z0, z1, z2, z3⟩ := h2.cz
  have H2 := Lib.hid h2
  clear h2 hb2 H1 y0 y1
  go_wp2
  have hp := H2.out.put 0 0
  refine bodyPost_ret (results_turn_err rfl _ _ (w.heap.size + 1 + 1) rfl hp.z.pair) rfl ⟨rfl, hp.below⟩

/-- what stands behind the document's product: a new turn at g -/
def Prod (w : World) (a b c d : Int) (z : Tn) (s : Value) (wc : World) : Prop := ∃ g, s = .pointer (some ⟨g, 0, none⟩) ∧ F3 w wc a b c d 0 0 ∧ Has wc g 23 2 (two z.1 z.2)
theorem below_dr (w : World) (k : Nat) : Below w.heap.size w (w.drewN k) := below_of_drew (Below.refl _ _)
section
variable {w w2 w3 w4 : World} {a b c d : Int} {z : Tn} {q : Nat}
theorem prod1 (h : F3 w w2 a b c d 0 0) (h3 : Below ((w2.drewN q).alloc (.cells #[.int .i64 0, .int .i64 0] 23)).heap.size ((w2.drewN q).alloc (.cells #[.int .i64 0, .int .i64 0] 23)) w3) (h4 : Below w3.heap.size w3 w4) :
    Has w4 w2.heap.size 23 2 (two 0 0) ∧ Prod w a b c d z (.pointer (some ⟨w2.heap.size, 0, none⟩)) (put2 w4 w2.heap.size z.1 z.2) := by
  have h5 := up_trans h3 h4
  have hx := (has_two (w2.drewN q) 0 0 23)
  have hx4 := hx.below h5 hx.lt
  have hf := h.up (below_of_drew (box_trans h5))
  have h1 := h.x.lt
  have h2 := h.y.lt
  have h6 := h.z.lt
  exact ⟨hx4, _, rfl, ⟨put2_below hf.below (by omega), put2_other hf.x (by omega), put2_other hf.y (by omega), put2_other hf.z (by omega)⟩, put2_two hx4⟩
theorem prod2 (h : F3 w w2 a b c d 0 0) (h3 : Below (w2.drewN q).heap.size (w2.drewN q) w3) (h4 : Below (w3.alloc (.cells #[.int .i64 0, .int .i64 0] 23)).heap.size (w3.alloc (.cells #[.int .i64 0, .int .i64 0] 23)) w4) :
    Has w4 w3.heap.size 23 2 (two 0 0) ∧ Prod w a b c d z (.pointer (some ⟨w3.heap.size, 0, none⟩)) (put2 w4 w3.heap.size z.1 z.2) := by
  have hx := (has_two w3 0 0 23)
  have hx4 := hx.below h4 hx.lt
  have hf3 := h.up (below_of_drew h3)
  have hf := hf3.up (box_trans h4)
  have h1 := hf3.x.lt
  have h2 := hf3.y.lt
  have h6 := hf3.z.lt
  exact ⟨hx4, _, rfl, ⟨put2_below hf.below (by omega), put2_other hf.x (by omega), put2_other hf.y (by omega), put2_other hf.z (by omega)⟩, put2_two hx4⟩
theorem prod3 (h : F3 w w2 a b c d 0 0) (h3 : Below (w2.drewN q).heap.size (w2.drewN q) w3) (h4 : Below w3.heap.size w3 w4) :
    Prod w a b c d z (.pointer (some ⟨w4.heap.size, 0, none⟩)) (w4.alloc (.cells #[.int .i64 z.1, .int .i64 z.2] 23)) := by
  have hf := (h.up (below_of_drew h3)).up h4
  exact ⟨_, rfl, ⟨hf.below.alloc hf.below.size _, hf.x.alloc _, hf.y.alloc _, hf.z.alloc _⟩, has_two w4 z.1 z.2 _⟩
end
theorem join_ref (a b c d : Int) (n : Nat) : (join (a, b) (c, d) n) = (((md (mu (a, b) (md (px st n)))).1 + c) % 8191, ((md (mu (a, b) (md (px st n)))).2 + d) % 8191) := by
  unfold join md ad
  ext <;> simp only <;> omega
set_option maxRecDepth 100000 in
set_option maxHeartbeats 1600000 in
theorem refJoin_yes {a b c d : Int} {n : Nat} (h : may (a, b)) (h' : may (c, d)) (hn : n ≤ 9223372036854775807) (w : World) :
    Calls Try.prog 22 #[tv a b, tv c d, .int .i64 (n : Nat)] w (TurnErrRet w (join (a, b) (c, d) n) 0) := by
  have HF := Lib.hid (mayB_yes h)
  have HG := Lib.hid (mayB_yes h')
  have HN : Hid (n < 18446744073709551616) := Lib.hid (by omega)
  have HW : Hid (IntKind.u64.wrap (n : Int) = (n : Int)) := Lib.hid (IntWalk.u64_in _ (by omega))
  have hg := may_md (mu (a, b) (md (px st n)))
  have HM := Lib.hid (refMul_yes (a := a) (b := b) (c := (md (px st n)).1) (d := (md (px st n)).2) h (may_md _))
  change Hid (∀ w, Calls _ _ _ w (TurnRet w (md (mu (a, b) (md (px st n)))))) at HM
  obtain ⟨c0, c1, d0, d1⟩ := h'
  simp only at c0 c1 d0 d1
  rw [join_ref]
  generalize md (mu (a, b) (md (px st n))) = z at *
  obtain ⟨g0, g1, k0, k1⟩ := hg
  have hn0 : (0 : Int) ≤ (n : Int) := by omega
  clear h
  go_enter Try.func22, Try.ntmps22
  go_wp2_with fail
  have h0 := F3.start w a b c d 0 0
  refine (refMay_any a b _).mono ?_; rintro e w1 ⟨rfl, hb1⟩
  rw [HF.out]
  have h1 := h0.up hb1
  obtain ⟨y0, y1⟩ := h1.cy
  have H1 := Lib.hid h1
  clear h0 h1 hb1
  go_wp2_with fail
  refine (refMay_any c d _).mono ?_; rintro e w2 ⟨rfl, hb2⟩
  rw [HG.out]
  have h2 := H1.out.up hb2
  obtain ⟨x0, x1⟩ := h2.cx
  have H2 := Lib.hid h2
  clear h2 hb2 H1 y0 y1
  have K : Hid (∀ W, Below w2.heap.size w2 W → W.cell? ⟨w.heap.size, 0, none⟩ = some (.int .i64 a) ∧ W.cell? ⟨w.heap.size, 1, none⟩ = some (.int .i64 b)) :=
    Lib.hid (fun W hb => ⟨(H2.out.up hb).cx.1, (H2.out.up hb).cx.2⟩)
  go_upto_region 5 with fail
  go_cut [10] from 26 to 30 (fun s wc => Prod w a b c d z s wc)
  case first =>
    go_region_held3 (fun W => W.cell? ⟨w.heap.size, 0, none⟩ = some (.int .i64 a) ∧ W.cell? ⟨w.heap.size, 1, none⟩ = some (.int .i64 b))
      (first | exact ⟨x0, x1⟩ | exact K.out _ b3.out | exact K.out _ b4.out | exact K.out _ ((below_dr _ _).alloc (Nat.le_refl _) _) | exact K.out _ (b3.out.alloc b3.out.size _) | exact K.out _ (b4.out.alloc b4.out.size _) | exact K.out _ (put2_below b4.out (Nat.le_refl _)) | exact K.out _ (put2_below b4.out b3.out.size) | go_keep)
      (first
        | (go_at_call 16; rw [HW.out]; (with_reducible refine Calls.mono (refPower_any n HN.out _) ?_); rintro e w3 ⟨rfl, hb3⟩; have b3 : Hid (Below w2.heap.size w2 w3) := Lib.hid (by first | exact below_of_drew hb3 | exact below_of_drew (box_trans hb3)))
        | (go_at_call 14; (with_reducible refine Calls.mono (HM.out _) ?_); rintro e w4 ⟨rfl, hb4⟩; have b4 : Hid (Below w2.heap.size w2 w4) := Lib.hid (by first | exact up_trans b3.out hb4 | exact up_trans b3.out (box_trans hb4)); (first | (have q4 := prod1 (z := z) H2.out hb3 hb4; obtain ⟨qh, qp⟩ := q4; have q0 := qh.cell (i := 0) (by omega); have q1 := qh.cell (i := 1) (by omega); have q2 := qh.frozen (i := 0) (by omega); have q3 := qh.frozen (i := 1) (by omega); have QP := Lib.hid qp; clear qp qh) | (have q4 := prod2 (z := z) H2.out hb3 hb4; obtain ⟨qh, qp⟩ := q4; have q0 := qh.cell (i := 0) (by omega); have q1 := qh.cell (i := 1) (by omega); have q2 := qh.frozen (i := 0) (by omega); have q3 := qh.frozen (i := 1) (by omega); have QP := Lib.hid qp; clear qp qh) | skip)))
    all_goals
      go_wp2_with fail
      go_meet
      case rel =>
        go_light
        first | exact QP.out | exact prod3 H2.out hb3 hb4
  case rest =>
    obtain ⟨g, rfl, h3, hz⟩ := hcut
    obtain ⟨z0, z1, z2, z3⟩ := h3.cz
    obtain ⟨y0, y1⟩ := h3.cy
    obtain ⟨x0, x1⟩ := hz.pair
    have H3 := Lib.hid h3
    clear h3 hz
    go_wp2
    have hp := H3.out.put ((z.1 + c) % 8191) ((z.2 + d) % 8191)
    refine bodyPost_ret (results_turn_err rfl _ _ (w.heap.size + 1 + 1) rfl hp.z.pair) rfl ⟨rfl, hp.below⟩
theorem refJoin_any (a b c d n : Int) (hn : n ≤ 9223372036854775807) (w : World) :
    Calls Try.prog 22 #[tv a b, tv c d, .int .i64 n] w (TurnErrRet w (joinT (a, b) (c, d) n) (joinE (a, b) (c, d) n)) := by
  unfold joinT joinE
  by_cases h : may (a, b)
  · by_cases h' : may (c, d)
    · by_cases h0 : 0 ≤ n
      · rw [if_pos ⟨h, h', h0⟩, if_pos ⟨h, h', h0⟩]
        obtain ⟨m, rfl⟩ : ∃ m : Nat, n = m := ⟨n.toNat, by omega⟩
        rw [Int.toNat_natCast]
        exact refJoin_yes h h' (by omega) w
      · rw [if_neg (fun e => h0 e.2.2), if_neg (fun e => h0 e.2.2)]; exact refJoin_no3 h h' (by omega) w
    · rw [if_neg (fun e => h' e.2.1), if_neg (fun e => h' e.2.1)]; exact refJoin_no2 h h' w
  · rw [if_neg (fun e => h e.1), if_neg (fun e => h e.1)]; exact refJoin_no1 h w
end Go.Proofs.Ytjegopkaficbpaa.Mat
