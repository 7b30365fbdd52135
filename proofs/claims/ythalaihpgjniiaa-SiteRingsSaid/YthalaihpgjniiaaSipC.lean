/- The program's Spread: walked (a range over a function that is left by a break). -/
import Derived.Test.YthalaihpgjniiaaSipB
namespace Go.Proofs.Ythalaihpgjniiaa.Mat
open Go.RowKit Go.Shelf Fld

attribute [local go_sem] Oper.semAt_some

theorem boxed_row {W X : World} {b : Nat} {t : TypeId} {v : Value} {row : Option Nat} (h : Boxed W b t v) (hg : W.grownBy X row) (hr : ∀ r, row = some r → ∃ o : Obj, W.heap[r]? = some o ∧ o.isCells = false) : Boxed X b t v := boxed_own b t (fun (_ : Unit) => v) () W X row h hg hr
theorem boxed_set {W : World} {b b' : Nat} {t : TypeId} {v : Value} (h : Boxed W b t v) (hne : b ≠ b') (j : Nat) (u : Value) : Boxed (W.setCell ⟨b', j, none⟩ u) b t v := (Below.heap_setCell _ _ _ _ hne).trans h
theorem own_less {W : World} {base base' size n : Nat} {e : TypeId} {v : Value} {l : List Value} (h : W.ownsRow base e size v n l) (hb : base' ≤ base) : W.ownsRow base' e size v n l := by
  refine ⟨h.1, ?_⟩
  rcases h.2 with hn | ⟨g, cap, cur, hv, hb', r⟩
  · exact .inl hn
  · exact .inr ⟨g, cap, cur, hv, Nat.le_trans hb hb', r⟩
theorem results_two {fn : Func} {t u : Tmp} (h : fn.results = #[.tmp t, .tmp u]) (tmps : Array Value) (w : World) {p q : Value} (hp : tmps.getD t undef = p) (hq : tmps.getD u undef = q) : (results fn tmps).run Try.prog w = .ok (.tuple #[p, q]) w := by
  rw [results_tmp2 h, hp, hq]
/-- places of a region -/
def rgP (region : Int) (l : List Nat) : List (Int × Int) := l.map (fun (n : Nat) => (region, (n : Int)))
theorem rgP_add (region : Int) (l : List Nat) (x : Nat) : rgP region (l ++ [x]) = rgP region l ++ [(region, (x : Int))] := by unfold rgP; simp
theorem rgP_len (region : Int) (l : List Nat) : (rgP region l).length = l.length := List.length_map _
/-- Spread's answer where all is well -/
theorem st_ans {p : Nat → Bool} {v n m : Nat} {region : Int} (hn1 : 1 ≤ n) (hn2 : n ≤ 64) (hok : spOk (v : Int) region (m : Int) (n : Int) = true) :
    ((ar p (v % n) n n).length < m → stE p (v : Int) region (m : Int) (n : Int) = 10 ∧ stL p (v : Int) region (m : Int) (n : Int) = []) ∧
    (¬ (ar p (v % n) n n).length < m → stE p (v : Int) region (m : Int) (n : Int) = 0 ∧ stL p (v : Int) region (m : Int) (n : Int) = (rgP region (ar p (v % n) n n)).take m) := by
  have e : rgL p (v : Int) (n : Int) = ar p (v % n) n n := by rw [rgL_yes hn1 hn2, ar_rg hn1]
  refine ⟨fun h => ?_, fun h => ?_⟩
  · obtain ⟨h1, h2⟩ := st_few (p := p) hok (by rw [e]; omega)
    exact ⟨h1, h2⟩
  · obtain ⟨h1, h2⟩ := st_yes (p := p) hok (by rw [e]; omega)
    exact ⟨h1, by rw [h2, e]; rfl⟩

section
variable {w : World} {A : Option Addr} {N c : Nat}
set_option maxRecDepth 100000 in
set_option maxHeartbeats 6400000 in
theorem spread_yes (v n m : Nat) (region : Int) (hv : v ≤ 9223372036854775807) (hm : m ≤ 9223372036854775807) (hr1 : 1 ≤ region) (hr2 : region ≤ 3) (hn1 : 1 ≤ n) (hn2 : n ≤ 64) (f : Nat → Bool) (hf : Bl w w.heap.size A N f) :
    Calls Try.prog 13 #[.int .i64 (v : Int), .int .i64 region, .int .i64 (m : Int), .int .i64 (n : Int), .slice A N c] w (PlsRet w (stE (lv f N) v region m n) (stL (lv f N) v region m n)) := by
  obtain ⟨i0, ii, iz0, iz1, iz2⟩ := info_parts infoPlace
  have hok : spOk (v : Int) region (m : Int) (n : Int) = true := decide_eq_true ⟨hr1, hr2, by omega, by omega, by omega, by omega⟩
  obtain ⟨few, yes⟩ := st_ans (p := lv f N) hn1 hn2 hok
  have hmod := Nat.mod_lt v hn1
  have hlenR := ar_len (lv f N) (v % n) n
  have hr := fun W => isRegion_any region W
  have ha := fun W => areNodes_any (n : Int) W
  rw [show (decide (1 ≤ region) && decide (region ≤ 3)) = true by rw [Bool.and_eq_true, decide_eq_true_iff, decide_eq_true_iff]; exact ⟨hr1, hr2⟩] at hr
  rw [show (decide (1 ≤ (n : Int)) && decide ((n : Int) ≤ 64)) = true by rw [Bool.and_eq_true, decide_eq_true_iff, decide_eq_true_iff]; omega] at ha
  have har := fun W => around_any (A := A) (N := N) (c := c) v n hn1 hn2 hv W
  have b0 := (Boxed.new w 3 (.int .i64 region)).alloc (.cells #[.int .i64 (m : Int)] 3)
  have b1 := Boxed.new (w.alloc (.cells #[.int .i64 region] 3)) 3 (.int .i64 (m : Int))
  rw [size_alloc] at b1
  have HB0 := Lib.hid (((Below.refl w.heap.size w).alloc (Nat.le_refl _) (.cells #[.int .i64 region] 3)).alloc (by rw [size_alloc]; omega) (.cells #[.int .i64 (m : Int)] 3))
  have HR := Lib.hid hr
  have HA := Lib.hid ha
  have HAR := Lib.hid har
  have HF := Lib.hid hf
  generalize v % n = a at *
  have ANS := Lib.hid (And.intro few yes)
  clear hr ha har hok hf few yes
  refine (callsIn_wide (n := 6)).1 ?_
  refine callsIn_of_wp_marks Try.func13 rfl trivial ?_ rfl
  simp only [Try.ntmps13, List.size_toArray, List.length_cons, List.length_nil, Nat.reduceAdd, Nat.reduceSub, Array.replicate_succ, Array.replicate_zero, List.push_toArray, List.append_toArray, List.nil_append, List.cons_append]
  have B0 := Lib.hid b0
  have B1 := Lib.hid b1
  clear b0 b1
  gi_wp2_with fail
  refine ⟨trivial, (callsIn_wide.2 (HR.out _)).mono ?_⟩
  rintro e w1 ⟨rfl, hb1⟩
  have C0 := Lib.hid (boxed_past B0.out hb1)
  have C1 := Lib.hid (boxed_past B1.out hb1)
  have HB1 := Lib.hid (up_trans HB0.out hb1)
  have x1 := C1.out.cell
  clear hb1
  gi_wp2_with fail
  refine ⟨trivial, (callsIn_wide.2 (HA.out _)).mono ?_⟩
  rintro e w2 ⟨rfl, hb2⟩
  have D0 := Lib.hid ((boxed_past C0.out hb2).alloc (.cells #[.slice none 0 0] 29))
  have D1 := Lib.hid ((boxed_past C1.out hb2).alloc (.cells #[.slice none 0 0] 29))
  have D2 := Lib.hid (Boxed.new w2 29 (.slice none 0 0))
  have HB2 := Lib.hid (up_trans HB1.out hb2)
  have HB3 := Lib.hid (HB2.out.alloc HB2.out.size (.cells #[.slice none 0 0] 29))
  have hlt1 := (boxed_past C1.out hb2).lt
  clear x1 hb2
  gi_wp2_with fail
  refine ⟨trivial, (callsIn_wide.2 (HAR.out _)).mono ?_⟩
  rintro e W0 ⟨rfl, hR0, hb3, hsz⟩
  rw [size_alloc] at hR0 hsz
  have e0 := boxed_past D0.out hb3
  have e1 := boxed_past D1.out hb3
  have e2 := boxed_past D2.out hb3
  have hB0 := up_trans HB3.out hb3
  gi_wp2_with fail
  generalize w2.heap.size = b at *
  have hfin : ∀ {V : World} {D' : Nat}, W0.heap.size ≤ D' → Below w.heap.size w V → V.heap[D']? = some (.deferred (some [])) → Below w.heap.size w (V.putObj D' (.deferred none)) := fun hD hB hK => hB.trans (belowK_b (w := w) (Nat.le_refl _) _ _ _ _ (Nat.le_trans hB0.size hD) hK rfl rfl)
  refine wpIn_rangeFunc_ownH (F := Fence.wide) (n := 6) rfl (by omega) (gf := 30) (lb := #[.pointer (some ⟨b + 1 + 1, 0, none⟩), .pointer (some ⟨b + 1, 0, none⟩), .pointer (some ⟨b + 1 + 2, 0, none⟩)]) rfl trivial (enters_of Try.func30 (by kernel_rfl) rfl)
    (encs := fun x => #[.int .i64 ((x : Nat) : Int)]) (Kp := Kg w.heap.size (b + 1)) (S := fun xs => xs = ar (lv f N) a n n) (Sp := fun pre => (∃ k x, k < n ∧ pre = ar (lv f N) a n k ++ [x] ∧ pre = ar (lv f N) a n (k + 1))) (N := n) (w0 := W0)
    (fun l' J' Jx' W' hW hJ' _ hY' h0' => around1_in l' (b + 1) a n w.heap.size f hmod hn2 J' Jx' W' (hR0.up hW) (HF.out.below (hB0.trans (hW.mono hB0.size)) (Nat.le_refl _)) hY' h0')
    Kg.trans (kg_put hB0.size (by omega)) (Below.refl _ _) (fun _ => rfl)
    (fun pre V => ((∃ v, Boxed V b 29 v ∧ V.ownsRow (b + 4) 44 2 v (rgP region pre).length (pls (rgP region pre))) ∧ Boxed V w.heap.size 3 (.int .i64 region) ∧ Boxed V (w.heap.size + 1) 3 (.int .i64 (m : Int)) ∧ pre.length ≤ m ∧ b + 4 ≤ V.heap.size) ∧ Below w.heap.size w V)
    (fun cd pre V => (cd = .exit 0 ∧ ∃ pre0 x, pre = pre0 ++ [x] ∧ (∃ v, Boxed V b 29 v ∧ V.ownsRow (b + 4) 44 2 v (rgP region pre0).length (pls (rgP region pre0))) ∧ Boxed V (w.heap.size + 1) 3 (.int .i64 (m : Int)) ∧ pre0.length = m) ∧ Below w.heap.size w V)
    (OwnFrom.and (fun s X Y row hs hg hr => by
      obtain ⟨⟨v, h1, h2⟩, h3, h4, h5, h6⟩ := hs
      have hr' := fun r e => (hr r e).2
      exact ⟨⟨v, boxed_row h1 hg hr', row_own h2 hg hr'⟩, boxed_row h3 hg hr', boxed_row h4 hg hr', h5, Nat.le_trans h6 hg.size⟩) (ownFrom_below (Nat.le_refl _) hB0.size))
    (fun cd => OwnFrom.and (fun s X Y row hs hg hr => by
      obtain ⟨h0, pre0, x, hp, ⟨v, h1, h2⟩, h4, h5⟩ := hs
      have hr' := fun r e => (hr r e).2
      exact ⟨h0, pre0, x, hp, ⟨v, boxed_row h1 hg hr', row_own h2 hg hr'⟩, boxed_row h4 hg hr', h5⟩) (ownFrom_below (Nat.le_refl _) hB0.size))
    ⟨⟨⟨_, e2, World.ownsRow_nil _ _ _ _⟩, e0, e1, Nat.zero_le _, (by omega)⟩, hB0⟩
    (fun x a' _ => a' = { tmps := #[.int .i64 (v : Int), .int .i64 region, .int .i64 (m : Int), .int .i64 (n : Int), .slice A N c, undef, .pointer (some ⟨w.heap.size, 0, none⟩), .pointer (some ⟨w.heap.size + 1, 0, none⟩), undef, undef, .slice none 0 0, .int .i64 0, .pointer (some ⟨b, 0, none⟩), .int .i64 ((x : Nat) : Int), .int .i64 region, .bool true, .bool false, .bool false, .int .i64 (m : Int), .bool (decide ((m : Int) < 0)), .bool (decide ((m : Int) < 0)), .bool (decide ((m : Int) < 0)), .int .i64 (v : Int), .bool (decide ((v : Int) < 0)), .bool (decide ((m : Int) < 0) || decide ((v : Int) < 0)), .bool (decide ((m : Int) < 0) || decide ((v : Int) < 0)), .int .i64 (n : Int), .bool true, .bool false, .bool (decide ((m : Int) < 0) || decide ((v : Int) < 0)), .int .i64 (v : Int), .int .i64 (n : Int), .slice A N c, ring1 (b + 1), .int .i64 ((x : Nat) : Int), undef, undef, undef, undef, undef, undef, undef, undef, undef, undef, undef, undef, undef, undef, undef], defers := [] })
    (fun _ _ _ _ _ _ hs _ _ => hs)
    ?assign ?body ?done ?stop
  case assign =>
    rintro l' pre x V K hi hK
    gi_wp2
    exact hK _ _ (KeepsFrom.refl _ _) (Kg.refl _ _ _) hi rfl
  case body =>
    rintro l' pre x a' V hl _ ⟨⟨⟨vv, hv, hrow⟩, h0, h1, hle, hVz⟩, hB⟩ rfl hlen
    have c1 := hv.cell
    have c2 := h1.cell
    have c3 := h0.cell
    have hnl := rgP_len region pre
    have HNL := Lib.hid hnl
    obtain ⟨A0, k0, rfl⟩ := own_form_ hrow
    by_cases hq : pre.length = m
    · have g1 : (((rgP region pre).length : Int) == (m : Int)) = true := beq_iff_eq.2 (by omega)
      clear hnl
      gi_wp2_with fail
      exact ⟨KeepsFrom.refl _ _, ⟨rfl, pre, x, rfl, ⟨_, hv, hrow⟩, h1, hq⟩, hB⟩
    · have g1 : (((rgP region pre).length : Int) == (m : Int)) = false := beq_eq_false_iff_ne.2 (by omega)
      have HLEN : Hid ((rgP region pre).length ≤ 64) := Lib.hid (by omega)
      have HM : Hid ((pre ++ [x]).length ≤ m) := Lib.hid (by rw [List.length_append]; simp only [List.length_cons, List.length_nil]; omega)
      have hzz := hB.size
      have hbz := hv.lt
      clear hnl hq
      gi_wp2_with (gi_at_builtin; refine wpListIn_append_own _ rfl (.tmp 39) (.tmp 43) 29 rfl (b + 4) 44 i0 (.agg #[.int .i64 0, .int .i64 0]) 2 16 Try.underlying29 ii iz0 iz1 iz2 rfl (by decide) _ _ _ rfl (hrow.alloc _) ⟨V.heap.size, 0, none⟩ 1 1 [.int .i64 region, .int .i64 (x : Int)] rfl rfl (two_newsP _ _ _) (by simp [Value.oneCell']) (by have := HLEN.out; unfold maxLen; omega) (by have := HLEN.out; omega) (by rw [size_alloc]; omega) ?_)
      intro v' w' hown hgrow _
      obtain ⟨A', c', rfl⟩ := own_form_ hown
      have hne := hv.not_row (by decide) hrow
      have hrow' := hrow.alloc (.cells #[.int .i64 region, .int .i64 (x : Int)] 44)
      have hv3 := (hv.alloc (.cells #[.int .i64 region, .int .i64 (x : Int)] 44)).kept hgrow hne
      have h03 := (h0.alloc (.cells #[.int .i64 region, .int .i64 (x : Int)] 44)).kept hgrow (h0.not_row (by decide) hrow)
      have h13 := (h1.alloc (.cells #[.int .i64 region, .int .i64 (x : Int)] 44)).kept hgrow (h1.not_row (by decide) hrow)
      have c4 := hv3.cell
      have f4 := hv3.frozen
      have ha := (Below.refl V.heap.size V).alloc (Nat.le_refl _) (.cells #[.int .i64 region, .int .i64 (x : Int)] 44)
      have t3 : Kg w.heap.size (b + 1) _ w' := kg_grown hgrow (by rw [size_alloc]; omega) (by rw [size_alloc]; omega) (fun k hk => by have := (hrow'.lt k hk).1; exact ⟨by omega, by omega⟩)
      have k3 := others_row hrow' hgrow
      have t4 := (kg_of_below (n₀ := w.heap.size) (g := b + 1) ha hzz (by omega)).trans t3
      have k4 := (keepsFrom_below (B := W0.heap.size) ha).trans (k3.from W0.heap.size)
      have hB3 := hB.trans t4.below
      have hz3 := hgrow.size
      rw [size_alloc] at hz3
      clear c1 c2 c3
      gi_wp2_with fail
      refine ⟨k4.trans ((KeepsOthers.setCell _ _ _).from _), t4.trans (kg_set _ _ _ (by show w.heap.size ≤ b; omega) (.inl (Nat.lt_succ_self _))), ⟨⟨.slice A' ((rgP region pre).length + 1) c', hv3.set _, ?_⟩, h03.other (by omega) _, h13.other (by omega) _, HM.out, by simp [World.setCell]; omega⟩, hB3.setCell (p := ⟨b, 0, none⟩) (by show w.heap.size ≤ b; omega) _⟩
      rw [rgP_add, pls_add, List.length_append]
      exact ownsRow_setCell_other hown (fun e => hv3.not_row (by decide) hown e.symm) _
  case done =>
    rintro D ys V hD rfl ⟨⟨⟨vv, hv, hrow⟩, h0, h1, hle, hVz⟩, hB⟩ hK
    have c1 := hv.cell
    have c2 := h1.cell
    have hnl := rgP_len region (ar (lv f N) a n n)
    obtain ⟨few, yes⟩ := ANS.out
    obtain ⟨A0, k0, rfl⟩ := own_form_ hrow
    have hB9 := hfin hD hB hK
    by_cases hq : (ar (lv f N) a n n).length < m
    · obtain ⟨q1, q2⟩ := few hq
      have g1 : ((rgP region (ar (lv f N) a n n)).length : Int) < (m : Int) := by omega
      have FIN : Hid (PlsRet w (stE (lv f N) v region m n) (stL (lv f N) v region m n) (.returned (.tuple #[.slice none 0 0, .int .i64 10])) (V.putObj D (.deferred none))) := Lib.hid (by rw [q1, q2]; exact ⟨none, 0, rfl, fun hh => absurd hh (Nat.lt_irrefl _), hB9⟩)
      clear few yes hnl q1 q2
      gi_wp2_with fail
      refine ⟨by simp, .inl ⟨_, _, rfl, run_takeDeferred hK, ?_⟩⟩
      exact ⟨.tuple #[.slice none 0 0, .int .i64 10], results_two rfl _ _ rfl rfl, FIN.out⟩
    · obtain ⟨q1, q2⟩ := yes hq
      have g1 : ¬ ((rgP region (ar (lv f N) a n n)).length : Int) < (m : Int) := by omega
      rw [List.take_of_length_le (by omega)] at q2
      have hr9 := row_own hrow (grownBy_putObj' V D (.deferred none)) (fun r e => by cases e; exact ⟨_, hK, rfl⟩)
      obtain ⟨A9, c9, e9, hN⟩ := PRow.pl ⟨own_less hr9 (show w.heap.size ≤ b + 4 by omega), hB9⟩
      have FIN : Hid (PlsRet w (stE (lv f N) v region m n) (stL (lv f N) v region m n) (.returned (.tuple #[.slice A0 (rgP region (ar (lv f N) a n n)).length k0, .int .i64 0])) (V.putObj D (.deferred none))) := Lib.hid (by rw [q1, q2]; exact ⟨A9, c9, by rw [e9], hN, hB9⟩)
      clear few yes hnl q1 q2 e9 hN
      gi_wp2_with fail
      refine ⟨by simp, .inl ⟨_, _, rfl, run_takeDeferred hK, ?_⟩⟩
      exact ⟨.tuple #[.slice A0 (rgP region (ar (lv f N) a n n)).length k0, .int .i64 0], results_two rfl _ _ rfl rfl, FIN.out⟩
  case stop =>
    rintro D cd pre V hD ⟨k, x, hk, hp1, hp2⟩ ⟨⟨rfl, pre0, x0, hpre, ⟨vv, hv, hrow⟩, h1, hlen⟩, hB⟩ hK
    have c1 := hv.cell
    have c2 := h1.cell
    have hnl := rgP_len region pre0
    obtain ⟨few, yes⟩ := ANS.out
    obtain ⟨A0, k0, rfl⟩ := own_form_ hrow
    have hB9 := hfin hD hB hK
    obtain ⟨l9, e9⟩ := ar_pre (p := lv f N) (a := a) (n := n) (k := k + 1) (m := n) (by omega)
    rw [← hp2, hpre] at e9
    have hl9 := congrArg List.length e9
    simp only [List.length_append, List.length_cons, List.length_nil] at hl9
    obtain ⟨q1, q2⟩ := yes (by omega)
    have htk : (rgP region (ar (lv f N) a n n)).take m = rgP region pre0 := by
      rw [e9, List.append_assoc]
      unfold rgP
      rw [List.map_append, List.take_left' (by rw [List.length_map]; exact hlen)]
    have g1 : ¬ ((rgP region pre0).length : Int) < (m : Int) := by omega
    have hr9 := row_own hrow (grownBy_putObj' V D (.deferred none)) (fun r e => by cases e; exact ⟨_, hK, rfl⟩)
    obtain ⟨A9, c9, e8, hN⟩ := PRow.pl ⟨own_less hr9 (show w.heap.size ≤ b + 4 by omega), hB9⟩
    have FIN : Hid (PlsRet w (stE (lv f N) v region m n) (stL (lv f N) v region m n) (.returned (.tuple #[.slice A0 (rgP region pre0).length k0, .int .i64 0])) (V.putObj D (.deferred none))) := Lib.hid (by rw [q1, q2, htk]; exact ⟨A9, c9, by rw [e8], hN, hB9⟩)
    clear few yes hnl q1 q2 htk e9 hp1 hp2 hpre hl9 e8 hN
    gi_wp2_with fail
    refine ⟨by simp, .inl ⟨_, _, rfl, run_takeDeferred hK, ?_⟩⟩
    exact ⟨.tuple #[.slice A0 (rgP region pre0).length k0, .int .i64 0], results_two rfl _ _ rfl rfl, FIN.out⟩
set_option maxRecDepth 100000 in
set_option maxHeartbeats 1600000 in
theorem spread_any (vol region many nodes : Int) (hv : I64 vol) (hm : I64 many) (f : Nat → Bool) (hf : Bl w w.heap.size A N f) :
    Calls Try.prog 13 #[.int .i64 vol, .int .i64 region, .int .i64 many, .int .i64 nodes, .slice A N c] w (PlsRet w (stE (lv f N) vol region many nodes) (stL (lv f N) vol region many nodes)) := by
  have NO : Hid (∀ w' : World, Below w.heap.size w w' → ¬ (1 ≤ region ∧ region ≤ 3 ∧ 0 ≤ many ∧ 0 ≤ vol ∧ 1 ≤ nodes ∧ nodes ≤ 64) → PlsRet w (stE (lv f N) vol region many nodes) (stL (lv f N) vol region many nodes) (.returned (.tuple #[.slice none 0 0, .int .i64 1])) w') := Lib.hid (fun w' hb q => by
    obtain ⟨e1, e2⟩ := st_bad (p := lv f N) (decide_eq_false q : spOk vol region many nodes = false)
    rw [e1, e2]
    exact ⟨none, 0, rfl, fun hh => absurd hh (Nat.lt_irrefl _), hb⟩)
  have hr := fun W => isRegion_any region W
  have ha := fun W => areNodes_any nodes W
  have HB0 := Lib.hid (((Below.refl w.heap.size w).alloc (Nat.le_refl _) (.cells #[.int .i64 region] 3)).alloc (by rw [size_alloc]; omega) (.cells #[.int .i64 many] 3))
  by_cases b1 : 1 ≤ region ∧ region ≤ 3
  rotate_left
  · rw [show (decide (1 ≤ region) && decide (region ≤ 3)) = false by rw [Bool.and_eq_false_iff, decide_eq_false_iff_not, decide_eq_false_iff_not]; omega] at hr
    have HR := Lib.hid hr
    have Q := Lib.hid (fun w' hb => NO.out w' hb (fun q => b1 ⟨q.1, q.2.1⟩))
    clear hr ha hf NO b1 hv hm
    go_enter Try.func13, Try.ntmps13
    go_wp2_with fail
    refine (HR.out _).mono ?_; rintro e w1 ⟨rfl, hb1⟩
    have HB1 := Lib.hid (up_trans HB0.out hb1)
    clear hb1
    go_wp2
    go_ret2
    exact Q.out _ HB1.out
  rw [show (decide (1 ≤ region) && decide (region ≤ 3)) = true by rw [Bool.and_eq_true, decide_eq_true_iff, decide_eq_true_iff]; exact b1] at hr
  have HR := Lib.hid hr
  have X1 := (Boxed.new (w.alloc (.cells #[.int .i64 region] 3)) 3 (.int .i64 many))
  rw [size_alloc] at X1
  have HX1 := Lib.hid X1
  clear hr X1
  by_cases b2 : many < 0
  · have Q := Lib.hid (fun w' hb => NO.out w' hb (fun q => by omega))
    clear ha hf NO b1 hv hm
    go_enter Try.func13, Try.ntmps13
    go_wp2_with fail
    refine (HR.out _).mono ?_; rintro e w1 ⟨rfl, hb1⟩
    have HB1 := Lib.hid (up_trans HB0.out hb1)
    have x1 := (boxed_past HX1.out hb1).cell
    clear hb1
    go_wp2
    go_ret2
    exact Q.out _ HB1.out
  by_cases b3 : vol < 0
  · have Q := Lib.hid (fun w' hb => NO.out w' hb (fun q => by omega))
    clear ha hf NO b1 hv hm
    go_enter Try.func13, Try.ntmps13
    go_wp2_with fail
    refine (HR.out _).mono ?_; rintro e w1 ⟨rfl, hb1⟩
    have HB1 := Lib.hid (up_trans HB0.out hb1)
    have x1 := (boxed_past HX1.out hb1).cell
    clear hb1
    go_wp2
    go_ret2
    exact Q.out _ HB1.out
  by_cases b4 : 1 ≤ nodes ∧ nodes ≤ 64
  rotate_left
  · rw [show (decide (1 ≤ nodes) && decide (nodes ≤ 64)) = false by rw [Bool.and_eq_false_iff, decide_eq_false_iff_not, decide_eq_false_iff_not]; omega] at ha
    have HA := Lib.hid ha
    have Q := Lib.hid (fun w' hb => NO.out w' hb (fun q => b4 ⟨q.2.2.2.2.1, q.2.2.2.2.2⟩))
    clear ha hf NO b1 hv hm b4
    go_enter Try.func13, Try.ntmps13
    go_wp2_with fail
    refine (HR.out _).mono ?_; rintro e w1 ⟨rfl, hb1⟩
    have HB1 := Lib.hid (up_trans HB0.out hb1)
    have x1 := (boxed_past HX1.out hb1).cell
    clear hb1
    go_wp2_with fail
    refine (HA.out _).mono ?_; rintro e w2 ⟨rfl, hb2⟩
    have HB2 := Lib.hid (up_trans HB1.out hb2)
    clear hb2 x1
    go_wp2
    go_ret2
    exact Q.out _ HB2.out
  obtain ⟨v, rfl⟩ := Int.eq_ofNat_of_zero_le (show 0 ≤ vol by omega)
  obtain ⟨n, rfl⟩ := Int.eq_ofNat_of_zero_le (show 0 ≤ nodes by omega)
  obtain ⟨m, rfl⟩ := Int.eq_ofNat_of_zero_le (show 0 ≤ many by omega)
  exact spread_yes v n m region (by have := hv.2; omega) (by have := hm.2; omega) b1.1 b1.2 (by omega) (by omega) f hf
end
end Go.Proofs.Ythalaihpgjniiaa.Mat
