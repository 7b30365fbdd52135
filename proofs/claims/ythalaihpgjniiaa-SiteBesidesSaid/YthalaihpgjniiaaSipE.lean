/- The program's Next: walked (a range over a function that is left by a return). -/
import Derived.Test.YthalaihpgjniiaaSipD
import Derived.Laws.EntriesVeiled
namespace Go.Proofs.Ythalaihpgjniiaa.Mat
open Go.RowKit Go.Shelf Fld

attribute [local go_sem] Oper.semAt_some

/-! ### no walk -/
theorem nx_ring {p : Nat → Bool} {l : List (Int × Int)} {n v : Nat} (hn1 : 1 ≤ n) (hn2 : n ≤ 64) (hv : (v : Int) = if (pq l (l.length - 1)).2 < 0 then 0 else (pq l (l.length - 1)).2) : rgL p (nxV l (n : Int)) (n : Int) = ar p (v % n) n n := by
  have e : nxV l (n : Int) = ((v % n : Nat) : Int) := by
    unfold nxV
    show (if (pq l (l.length - 1)).2.tmod (n : Int) < 0 then 0 else (pq l (l.length - 1)).2.tmod (n : Int)) = _
    generalize (pq l (l.length - 1)).2 = z at *
    by_cases hz : z < 0
    · rw [if_pos hz] at hv
      have h0 : v = 0 := by omega
      subst h0
      have hq := Int.tmod_nonneg (n : Int) (show 0 ≤ -z by omega)
      rw [Int.neg_tmod] at hq
      by_cases q : z.tmod (n : Int) < 0
      · rw [if_pos q]; simp
      · rw [if_neg q]; simp; omega
    · rw [if_neg hz] at hv
      rw [← hv, show ((v : Int)).tmod (n : Int) = ((v % n : Nat) : Int) from rfl, if_neg (by omega)]
  rw [e, rgL_yes hn1 hn2, ← ar_rg hn1, Nat.mod_mod]
theorem on_mem {l : List (Int × Int)} {x r : Int} (h : on1 l l.length = true) (hr : r = (pq l 0).1) : decide ((r, x) ∈ l) = tk l x l.length := by
  rw [Bool.eq_iff_iff, decide_eq_true_iff, tk_iff]
  constructor
  · intro hm
    obtain ⟨i, hi, e⟩ := List.getElem_of_mem hm
    exact ⟨i, hi, by rw [List.getElem?_eq_getElem hi, e]; rfl⟩
  · rintro ⟨j, hj, e⟩
    have h1 := on1_iff.1 h j hj
    have e1 : pq l j = l[j] := by unfold pq; rw [List.getElem?_eq_getElem hj]; rfl
    have : (r, x) = l[j] := by
      rw [← e1]
      exact Prod.ext (by rw [hr]; exact h1.symm) e.symm
    rw [this]; exact List.getElem_mem hj
/-- a place and an error, in boxes -/
theorem results_plerr {fn : Func} {t u : Tmp} (h : fn.results = #[.cell t 44, .cell u 30]) (tmps : Array Value) (w : World) (g g' : Nat) {r n : Int} {v : Value} (hp : tmps.getD t undef = .pointer (some ⟨g, 0, none⟩)) (hp2 : tmps.getD u undef = .pointer (some ⟨g', 0, none⟩)) (hc : Has w g 44 2 (pl2 r n)) (hb : Boxed w g' 30 v) :
    (results fn tmps).run Try.prog w = .ok (.tuple #[.agg #[.int .i64 r, .int .i64 n], v]) w := by
  have hp' : tmps[t]?.getD undef = .pointer (some ⟨g, 0, none⟩) := by simpa using hp
  have hp2' : tmps[u]?.getD undef = .pointer (some ⟨g', 0, none⟩) := by simpa using hp2
  have c0 : w.cell? ⟨g, 0, none⟩ = some (.int .i64 r) := hc.cell (show 0 < 2 by omega)
  have c1 : w.cell? ⟨g, 1, none⟩ = some (.int .i64 n) := hc.cell (show 1 < 2 by omega)
  have e0 := hb.cell
  simp [results, h, hp', hp2', asAddr, go_sem, c0, c1, e0]

section
variable {w : World} {A B : Option Addr} {c k N : Nat}
/-- what lies ahead -/
theorem nx_start (w : World) (v : Value) : ∃ W, W = ((w.alloc (.cells #[v] 29)).alloc (.cells #[.int .i64 0, .int .i64 0] 44)).alloc (.cells #[.int .i64 0] 30) ∧
    Boxed W w.heap.size 29 v ∧ Has W (w.heap.size + 1) 44 2 (pl2 0 0) ∧ Boxed W (w.heap.size + 1 + 1) 30 (.int .i64 0) ∧ Below w.heap.size w W ∧ W.heap.size = w.heap.size + 3 := by
  have h0 := Boxed.new w 29 v
  have h1 := has_pl (w.alloc (.cells #[v] 29)) 0 0
  have h2 := Boxed.new ((w.alloc (.cells #[v] 29)).alloc (.cells #[.int .i64 0, .int .i64 0] 44)) 30 (.int .i64 0)
  rw [size_alloc] at h1
  rw [size_alloc, size_alloc] at h2
  have hb := (((Below.refl w.heap.size w).alloc (Nat.le_refl _) (.cells #[v] 29)).alloc (by rw [size_alloc]; omega) (.cells #[.int .i64 0, .int .i64 0] 44)).alloc (by rw [size_alloc, size_alloc]; omega) (.cells #[.int .i64 0] 30)
  exact ⟨_, rfl, (h0.alloc _).alloc _, h1.alloc _, h2, hb, by rw [size_alloc, size_alloc, size_alloc]⟩
/-- the place, its closure, and the closure that tells whether a node is taken, in boxes -/
theorem nx_boxes (W : World) (g : Nat) (r n : Int) : ∃ W', W' = ((W.alloc (.cells #[.int .i64 r, .int .i64 n] 44)).alloc (.cells #[at1 W.heap.size] 62)).alloc (.cells #[.func (.func 27) #[] #[.pointer (some ⟨g, 0, none⟩), .pointer (some ⟨W.heap.size + 1, 0, none⟩)]] 56) ∧
    Has W' W.heap.size 44 2 (pl2 r n) ∧ Boxed W' (W.heap.size + 1) 62 (at1 W.heap.size) ∧ Boxed W' (W.heap.size + 2) 56 (.func (.func 27) #[] #[.pointer (some ⟨g, 0, none⟩), .pointer (some ⟨W.heap.size + 1, 0, none⟩)]) ∧ Below W.heap.size W W' ∧ W'.heap.size = W.heap.size + 3 := by
  have h0 := has_pl W r n
  have h1 := Boxed.new (W.alloc (.cells #[.int .i64 r, .int .i64 n] 44)) 62 (at1 W.heap.size)
  have h2 := Boxed.new ((W.alloc (.cells #[.int .i64 r, .int .i64 n] 44)).alloc (.cells #[at1 W.heap.size] 62)) 56 (.func (.func 27) #[] #[.pointer (some ⟨g, 0, none⟩), .pointer (some ⟨W.heap.size + 1, 0, none⟩)])
  rw [size_alloc] at h1
  rw [size_alloc, size_alloc] at h2
  have hb := (((Below.refl W.heap.size W).alloc (Nat.le_refl _) (.cells #[.int .i64 r, .int .i64 n] 44)).alloc (by rw [size_alloc]; omega) (.cells #[at1 W.heap.size] 62)).alloc (by rw [size_alloc, size_alloc]; omega) (.cells #[.func (.func 27) #[] #[.pointer (some ⟨g, 0, none⟩), .pointer (some ⟨W.heap.size + 1, 0, none⟩)]] 56)
  exact ⟨_, rfl, (h0.alloc _).alloc _, h1.alloc _, h2, hb, by rw [size_alloc, size_alloc, size_alloc]⟩

set_option maxRecDepth 100000 in
set_option maxHeartbeats 6400000 in
theorem next_yes (l : List (Int × Int)) (n : Nat) (f : Nat → Bool) (hl : l.length * 16 ≤ 140737488355328) (hI : I64 (pq l (l.length - 1)).2) (hn1 : 1 ≤ n) (hn2 : n ≤ 64) (hok : on1 l l.length = true) (h0 : 0 < l.length) (hp : Pl w w.heap.size A l) (hf : Bl w w.heap.size B N f) :
    Calls Try.prog 18 #[.slice A l.length c, .int .i64 (n : Int), .slice B N k] w (PlErr w (nxE (lv f N) l n) (nxR (lv f N) l n) (nxN (lv f N) l n)) := by
  have hnok : nxOk l (n : Int) = true := nxOk_iff.2 ⟨⟨h0, by omega, by omega⟩, hok⟩
  obtain ⟨v, hv⟩ : ∃ v : Nat, (v : Int) = if (pq l (l.length - 1)).2 < 0 then 0 else (pq l (l.length - 1)).2 := by
    by_cases q : (pq l (l.length - 1)).2 < 0
    · exact ⟨0, by rw [if_pos q]; rfl⟩
    · exact ⟨(pq l (l.length - 1)).2.toNat, by rw [if_neg q]; omega⟩
  have hring := nx_ring (p := lv f N) hn1 hn2 hv
  have hv2 : v ≤ 9223372036854775807 := by
    have := hI.2
    by_cases q : (pq l (l.length - 1)).2 < 0
    · rw [if_pos q] at hv; omega
    · rw [if_neg q] at hv; omega
  have hmod := Nat.mod_lt v hn1
  have hreg : (pq l (l.length - 1)).1 = (pq l 0).1 := on1_iff.1 hok _ (by omega)
  have few := fun hb => nx_few (p := lv f N) hnok hb
  have at_ := fun i hi hn hb => nx_at (p := lv f N) (i := i) hnok hi hn hb
  rw [hring] at few at_
  have hone := fun W (hb : Below w.heap.size w W) => oneRegion_any (w := W) (c := c) l (hp.up hb) (by omega)
  rw [hok, decide_eq_true h0] at hone
  have ha := fun W => areNodes_any (n : Int) W
  rw [show (decide (1 ≤ (n : Int)) && decide ((n : Int) ≤ 64)) = true by rw [Bool.and_eq_true, decide_eq_true_iff, decide_eq_true_iff]; omega] at ha
  have har := fun W => around_any (A := B) (N := N) (c := k) v n hn1 hn2 hv2 W
  have htk := fun x => on_mem (x := x) hok hreg
  obtain ⟨j, hj⟩ : ∃ j, l.length = j + 1 := ⟨l.length - 1, by omega⟩
  obtain ⟨ad, hA, hlt, k0, k1⟩ := hp.at_ (show j < l.length by omega)
  have hpj : pq l (l.length - 1) = pq l j := by rw [hj]; rfl
  rw [hpj] at hv htk hI
  obtain ⟨W0, hW0, e0, e1, e2, hB0, hs0⟩ := nx_start w (.slice A (j + 1) c)
  rw [hj] at hone
  rw [hj]
  have HJ := Lib.hid hj
  have H1 := Lib.hid hone
  have HA := Lib.hid ha
  have HAR := Lib.hid har
  have HTK := Lib.hid htk
  have ANS := Lib.hid (And.intro few at_)
  have HP := Lib.hid hp
  have HF := Lib.hid hf
  have HL := Lib.hid hl
  generalize v % n = a at *
  generalize hpl : pq l j = pj at *
  obtain ⟨r, m⟩ := pj
  dsimp only at k0 k1 hv
  have HV := Lib.hid hv
  have HRG : Hid (r = (pq l 0).1) := Lib.hid (by rw [← hreg, hpj])
  clear hone ha har htk few at_ hp hf hreg hok hring hnok hpj hpl hl hj
  subst hA
  refine (callsIn_wide (n := 6)).1 ?_
  refine callsIn_of_wp_marks Try.func18 rfl trivial ?_ rfl
  simp only [Try.ntmps18, List.size_toArray, List.length_cons, List.length_nil, Nat.reduceAdd, Nat.reduceSub, Array.replicate_succ, Array.replicate_zero, List.push_toArray, List.append_toArray, List.nil_append, List.cons_append]
  have E0 := Lib.hid e0
  have x0 := e0.cell
  rw [hW0] at x0
  gi_wp2_with fail
  rw [← hW0]
  refine ⟨trivial, (callsIn_wide.2 (H1.out _ hB0)).mono ?_⟩
  rintro e w1 ⟨rfl, hb1⟩
  gi_wp2_with fail
  refine ⟨trivial, (callsIn_wide.2 (HA.out _)).mono ?_⟩
  rintro e w2 ⟨rfl, hb2⟩
  have hB2 := up_trans (up_trans hB0 hb1) hb2
  have E2 := Lib.hid (boxed_past (boxed_past E0.out hb1) hb2)
  have P2 := Lib.hid ((e1.below hb1 e1.lt).below hb2 (by have := e1.lt; have := hb1.size; omega))
  have R2 := Lib.hid (boxed_past (boxed_past e2 hb1) hb2)
  have hz2 : w.heap.size + 3 ≤ w2.heap.size := by have := hb1.size; have := hb2.size; omega
  have y0 := E2.out.cell
  have q0 := (hB2.cell (by rw [block_of_add]; exact hlt : (ad.add (j * 2)).block < w.heap.size)).trans k0
  have q1 := (hB2.cell (by show (ad.add (j * 2)).block < w.heap.size; rw [block_of_add]; exact hlt : (⟨(ad.add (j * 2)).block, (ad.add (j * 2)).off + 1, none⟩ : Addr).block < w.heap.size)).trans k1
  have HB2 := Lib.hid hB2
  have HZ := Lib.hid (HL.out)
  obtain ⟨W3, hW3, p3, t3, u3, hb3, hs3⟩ := nx_boxes w2 w.heap.size r m
  have k3 : W3.cell? ⟨w2.heap.size, 1, none⟩ = some (.int .i64 m) := p3.cell (show 1 < 2 by omega)
  have hjb : (j + 1) * 16 ≤ 140737488355328 := by rw [← HJ.out]; exact HL.out
  rw [hW3] at k3
  clear hW0 x0 hb1 hb2 hB0 e0 E0 hv k0 k1 hB2
  have HA1 : Hid (0 ≤ m → ∀ W, Calls Try.prog 23 #[.int .i64 m, .int .i64 (n : Int), .slice B N k] W (RingRet W a n B N k)) := Lib.hid (fun q W => by
    have h := HAR.out W
    have hv := HV.out
    rw [if_neg (by omega)] at hv
    rw [hv] at h
    exact h)
  have HA2 : Hid (m < 0 → ∀ W, Calls Try.prog 23 #[.int .i64 0, .int .i64 (n : Int), .slice B N k] W (RingRet W a n B N k)) := Lib.hid (fun q W => by
    have h := HAR.out W
    have hv := HV.out
    rw [if_pos q] at hv
    rw [hv] at h
    exact h)
  have HB3 := Lib.hid (HB2.out.trans (hb3.mono HB2.out.size))
  have T3 := Lib.hid (And.intro p3 (And.intro t3 u3))
  have E3 := Lib.hid (boxed_past E2.out hb3)
  have P3 := Lib.hid (P2.out.below hb3 P2.out.lt)
  have R3 := Lib.hid (boxed_past R2.out hb3)
  have HG3 := Lib.hid hs3
  clear p3 t3 u3 hb3 e1 e2 hs3 HAR
  gi_wp2_with fail
  all_goals
    rw [← hW3]
    first
      | (have ha1 := HA1.out (by omega); refine ⟨trivial, (callsIn_wide.2 (ha1 _)).mono ?_⟩; clear ha1)
      | (have ha1 := HA2.out (by omega); refine ⟨trivial, (callsIn_wide.2 (ha1 _)).mono ?_⟩; clear ha1)
    rintro e V0 ⟨rfl, hR0, hb4, hsz⟩
    have e4 := Lib.hid (boxed_past E3.out hb4)
    have p4 := Lib.hid (P3.out.below hb4 P3.out.lt)
    have r4 := Lib.hid (boxed_past R3.out hb4)
    have t4 := Lib.hid (T3.out.1.below hb4 T3.out.1.lt)
    have t5 := Lib.hid (boxed_past T3.out.2.1 hb4)
    have t6 := Lib.hid (boxed_past T3.out.2.2 hb4)
    have hB0 := up_trans HB3.out hb4
    clear hW3 k3 q0 q1 y0 E2 P2 R2 HB2 T3 E3 P3 R3 HB3 hb4
    gi_wp2_with fail
    have hfin : ∀ {V : World} {D' : Nat}, V0.heap.size ≤ D' → Below w.heap.size w V → V.heap[D']? = some (.deferred (some [])) → Below w.heap.size w (V.putObj D' (.deferred none)) := fun hD hB hK => hB.trans (belowK_b (w := w) (Nat.le_refl _) _ _ _ _ (Nat.le_trans hB0.size hD) hK rfl rfl)
    refine wpIn_rangeFunc_ownH (F := Fence.wide) (n := 6) rfl (by omega) (gf := 30) (lb := #[.pointer (some ⟨W3.heap.size + 1, 0, none⟩), .pointer (some ⟨W3.heap.size, 0, none⟩), .pointer (some ⟨W3.heap.size + 2, 0, none⟩)]) rfl trivial (enters_of Try.func30 (by kernel_rfl) rfl)
      (encs := fun x => #[.int .i64 ((x : Nat) : Int)]) (Kp := Kg w.heap.size W3.heap.size) (S := fun xs => xs = ar (lv f N) a n n) (Sp := fun pre => (∃ k x, k < n ∧ pre = ar (lv f N) a n k ++ [x] ∧ pre = ar (lv f N) a n (k + 1))) (N := n) (w0 := V0)
      (fun l' J' Jx' W' hW hJ' _ hY' h0' => around1_in l' W3.heap.size a n w.heap.size f hmod hn2 J' Jx' W' (hR0.up hW) (HF.out.below (hB0.trans (hW.mono hB0.size)) (Nat.le_refl _)) hY' h0')
      Kg.trans (kg_put hB0.size (by omega)) (Below.refl _ _) (fun _ => rfl)
      (fun pre V => (∀ y ∈ pre, tk l ((y : Nat) : Int) l.length = true) ∧ Below V0.heap.size V0 V)
      (fun cd pre V => (cd = .ret ∧ ∃ pre0 x, pre = pre0 ++ [x] ∧ (∀ y ∈ pre0, tk l ((y : Nat) : Int) l.length = true) ∧ tk l ((x : Nat) : Int) l.length = false ∧ Has V (w.heap.size + 1) 44 2 (pl2 r (x : Int)) ∧ Boxed V (w.heap.size + 1 + 1) 30 (.int .i64 0)) ∧ Below w.heap.size w V)
      (OwnFrom.and (fun s X Y row hs hg hr => hs) (ownFrom_below (Nat.le_refl _) (Nat.le_refl _)))
      (fun cd => OwnFrom.and (fun s X Y row hs hg hr => by
        obtain ⟨h0, pre0, x, hp, h1, h2, h3, h4⟩ := hs
        have hr' := fun r e => (hr r e).2
        exact ⟨h0, pre0, x, hp, h1, h2, has_any_own (β := Unit) _ _ _ _ () X Y row h3 hg hr', boxed_row h4 hg hr'⟩) (ownFrom_below (Nat.le_refl _) hB0.size))
      ⟨(fun y hy => by cases hy), Below.refl _ _⟩
      (fun x a' _ => ∃ q : Int, a' = { tmps := #[.slice (some ad) (j + 1) c, .int .i64 (n : Int), .slice B N k, .pointer (some ⟨w.heap.size, 0, none⟩), undef, undef, .pointer (some ⟨w.heap.size + 1, 0, none⟩), .pointer (some ⟨w.heap.size + 1 + 1, 0, none⟩), .pointer (some ⟨w2.heap.size, 0, none⟩), .pointer (some ⟨w2.heap.size + 1, 0, none⟩), .pointer (some ⟨w2.heap.size + 1 + 1, 0, none⟩), .int .i64 ((x : Nat) : Int), .slice (some ad) (j + 1) c, .bool true, .bool false, .bool false, .int .i64 (n : Int), .bool true, .bool false, .bool false, undef, .slice (some ad) (j + 1) c, .slice (some ad) (j + 1) c, .int .i64 ((j : Int) + 1), .int .i64 (j : Int), .pointer (some (ad.add (j * 2))), .agg #[.int .i64 r, .int .i64 m], at1 w2.heap.size, .func (.func 27) #[] #[.pointer (some ⟨w.heap.size, 0, none⟩), .pointer (some ⟨w2.heap.size + 1, 0, none⟩)], .pointer (some ⟨w2.heap.size, 1, none⟩), .int .i64 m, .int .i64 q, .int .i64 (n : Int), .slice B N k, ring1 W3.heap.size, .int .i64 ((x : Nat) : Int), undef, undef, undef, undef, undef, undef, undef, undef], defers := [] })
      (fun _ _ _ _ _ _ hs _ _ => hs)
      ?assign ?body ?done ?stop
    case assign =>
      rintro l' pre x V K hi hK
      gi_wp2
      exact hK _ _ (KeepsFrom.refl _ _) (Kg.refl _ _ _) hi ⟨_, rfl⟩
    case body =>
      rintro l' pre x a' V hl _ ⟨hall, hB⟩ ⟨q, rfl⟩ hlen
      have htk := HTK.out ((x : Nat) : Int)
      have HK := Lib.hid (fun W (hb : Below V0.heap.size V0 W) => And.intro (taken_any (w := W) (c := c) w.heap.size (w2.heap.size + 1) w2.heap.size l r m ((x : Nat) : Int) (by rw [HJ.out]; exact boxed_past e4.out hb) (boxed_past t5.out hb) (t4.out.below hb t4.out.lt) ((HP.out.up hB0).up hb) (by have := HL.out; omega)) (at1_any (w := W) w2.heap.size r m ((x : Nat) : Int) (t4.out.below hb t4.out.lt)))
      rw [htk] at HK
      have g10 := (boxed_past t6.out hB).cell
      have g9 := (boxed_past t5.out hB).cell
      clear hR0 htk
      cases hb : tk l ((x : Nat) : Int) l.length
      · rw [hb] at HK
        have hk1 := (HK.out V hB).1
        gi_wp2_with fail
        refine ⟨trivial, (callsIn_wide.2 hk1).mono ?_⟩
        rintro e V2 ⟨rfl, hb2⟩
        have hB2 := up_trans hB hb2
        have hk2 := (HK.out V2 hB2).2
        have g9' := (boxed_past t5.out hB2).cell
        clear g9 g10 hk1
        gi_wp2_with fail
        refine ⟨trivial, (callsIn_wide.2 hk2).mono ?_⟩
        rintro e V3 ⟨rfl, hb3⟩
        have hB3 := up_trans hB2 hb3
        have P5 := p4.out.below hB3 p4.out.lt
        have R5 := boxed_past r4.out hB3
        have z0 : V3.cell? ⟨w.heap.size + 1, 0, none⟩ = some (.int .i64 0) := P5.cell (show 0 < 2 by omega)
        have z1 : V3.cell? ⟨w.heap.size + 1, 1, none⟩ = some (.int .i64 0) := P5.cell (show 1 < 2 by omega)
        have z2 := P5.frozen (show 0 < 2 by omega)
        have z3 := P5.frozen (show 1 < 2 by omega)
        have z4 := R5.cell
        have z5 := R5.frozen
        have kf := (keepsFrom_below (B := V0.heap.size) hb2).trans (keepsFrom_below (B := V0.heap.size) hb3)
        clear g9' hk2
        gi_wp2_with fail
        have hPn : Has (V3.setCell ⟨w.heap.size + 1, 0, none⟩ (.int .i64 r) |>.setCell ⟨w.heap.size + 1, 1, none⟩ (.int .i64 (x : Int))) (w.heap.size + 1) 44 2 (pl2 r (x : Int)) := ((P5.set_ 0 (.int .i64 r)).set_ 1 (.int .i64 (x : Int))).congr (fun i hi => by rcases (show i = 0 ∨ i = 1 by omega) with rfl | rfl <;> rfl)
        have hBn := (((up_trans hB0 hB3).setCell (p := ⟨w.heap.size + 1, 0, none⟩) (Nat.le_succ _) (.int .i64 r)).setCell (p := ⟨w.heap.size + 1, 1, none⟩) (Nat.le_succ _) (.int .i64 (x : Int))).setCell (p := ⟨w.heap.size + 1 + 1, 0, none⟩) (by show w.heap.size ≤ w.heap.size + 1 + 1; omega) (.int .i64 0)
        exact ⟨kf.trans ((((KeepsOthers.setCell _ _ _).trans (KeepsOthers.setCell _ _ _)).trans (KeepsOthers.setCell _ _ _)).from _), ⟨rfl, pre, x, rfl, hall, hb, Has.setOther hPn (a := ⟨w.heap.size + 1 + 1, 0, none⟩) (by show w.heap.size + 1 ≠ w.heap.size + 1 + 1; omega) _, (boxed_set (boxed_set R5 (by omega) _ _) (by omega) _ _).set _⟩, hBn⟩
      · rw [hb] at HK
        have hk1 := (HK.out V hB).1
        gi_wp2_with fail
        refine ⟨trivial, (callsIn_wide.2 hk1).mono ?_⟩
        rintro e V2 ⟨rfl, hb2⟩
        gi_wp2_with fail
        exact ⟨keepsFrom_below hb2, kg_of_below hb2 (by have := hB.size; have := hB0.size; omega) (by have := hB.size; have := hB0.size; omega), (fun y hy => by
          rcases List.mem_append.1 hy with hy | hy
          · exact hall y hy
          · rw [List.mem_singleton.1 hy]; exact hb), up_trans hB hb2⟩
    case done =>
      rintro D ys V hD rfl ⟨hall, hB⟩ hK
      obtain ⟨few, _⟩ := ANS.out
      obtain ⟨q1, q2, q3⟩ := few (fun i hi => hall _ (by rw [List.getElem?_eq_getElem hi]; exact List.getElem_mem hi))
      have P5 := p4.out.below hB p4.out.lt
      have R5 := boxed_past r4.out hB
      have z0 : V.cell? ⟨w.heap.size + 1, 0, none⟩ = some (.int .i64 0) := P5.cell (show 0 < 2 by omega)
      have z1 : V.cell? ⟨w.heap.size + 1, 1, none⟩ = some (.int .i64 0) := P5.cell (show 1 < 2 by omega)
      have z2 := P5.frozen (show 0 < 2 by omega)
      have z3 := P5.frozen (show 1 < 2 by omega)
      have z4 := R5.cell
      have z5 := R5.frozen
      obtain ⟨V9, hV9⟩ : ∃ V9, V9 = ((V.setCell ⟨w.heap.size + 1, 0, none⟩ (.int .i64 0)).setCell ⟨w.heap.size + 1, 1, none⟩ (.int .i64 0)).setCell ⟨w.heap.size + 1 + 1, 0, none⟩ (.int .i64 10) := ⟨_, rfl⟩
      have hPn : Has (V.setCell ⟨w.heap.size + 1, 0, none⟩ (.int .i64 0) |>.setCell ⟨w.heap.size + 1, 1, none⟩ (.int .i64 0)) (w.heap.size + 1) 44 2 (pl2 0 0) := ((P5.set_ 0 (.int .i64 0)).set_ 1 (.int .i64 0)).congr (fun i hi => by rcases (show i = 0 ∨ i = 1 by omega) with rfl | rfl <;> rfl)
      have hP9 : Has V9 (w.heap.size + 1) 44 2 (pl2 0 0) := by rw [hV9]; exact Has.setOther hPn (a := ⟨w.heap.size + 1 + 1, 0, none⟩) (by show w.heap.size + 1 ≠ w.heap.size + 1 + 1; omega) _
      have hR9 : Boxed V9 (w.heap.size + 1 + 1) 30 (.int .i64 10) := by rw [hV9]; exact (boxed_set (boxed_set R5 (by omega) _ _) (by omega) _ _).set _
      have hB9 : Below w.heap.size w V9 := by rw [hV9]; exact (((up_trans hB0 hB).setCell (p := ⟨w.heap.size + 1, 0, none⟩) (Nat.le_succ _) (.int .i64 0)).setCell (p := ⟨w.heap.size + 1, 1, none⟩) (Nat.le_succ _) (.int .i64 0)).setCell (p := ⟨w.heap.size + 1 + 1, 0, none⟩) (by show w.heap.size ≤ w.heap.size + 1 + 1; omega) (.int .i64 10)
      have hK9 : V9.heap[D]? = some (.deferred (some [])) := by rw [hV9]; exact (((KeepsOthers.setCell V ⟨w.heap.size + 1, 0, none⟩ (.int .i64 0)).trans (KeepsOthers.setCell _ ⟨w.heap.size + 1, 1, none⟩ (.int .i64 0))).trans (KeepsOthers.setCell _ ⟨w.heap.size + 1 + 1, 0, none⟩ (.int .i64 10))).same _ _ hK rfl
      have FIN : Hid (PlErr w (nxE (lv f N) l n) (nxR (lv f N) l n) (nxN (lv f N) l n) (.returned (.tuple #[.agg #[.int .i64 0, .int .i64 0], .int .i64 10])) (V9.putObj D (.deferred none))) := Lib.hid (by rw [q1, q2, q3]; exact ⟨rfl, hfin hD hB9 hK9⟩)
      have hg := grownBy_putObj' V9 D (.deferred none)
      have hgr : ∀ r, some D = some r → ∃ o : Obj, V9.heap[r]? = some o ∧ o.isCells = false := fun r e => by cases e; exact ⟨_, hK9, rfl⟩
      have hV9' := Lib.hid hV9
      clear q1 q2 q3 few hV9 hR0
      gi_wp2_with fail
      rw [← hV9'.out]
      refine ⟨by simp, .inl ⟨_, _, rfl, run_takeDeferred hK9, ?_⟩⟩
      exact ⟨.tuple #[.agg #[.int .i64 0, .int .i64 0], .int .i64 10], results_plerr rfl _ _ (w.heap.size + 1) (w.heap.size + 1 + 1) rfl rfl (has_any_own (β := Unit) _ _ _ _ () V9 _ (some D) hP9 hg hgr) (boxed_row hR9 hg hgr), FIN.out⟩
    case stop =>
      rintro D cd pre V hD ⟨kk, x, hk, hp1, hp2⟩ ⟨⟨rfl, pre0, x0, hpre, h1, h2, h3, h4⟩, hB⟩ hK
      obtain ⟨_, at_⟩ := ANS.out
      obtain ⟨l9, e9⟩ := ar_pre (p := lv f N) (a := a) (n := n) (k := kk + 1) (m := n) (by omega)
      rw [← hp2, hpre] at e9
      have hix : (ar (lv f N) a n n)[pre0.length]? = some x0 := by rw [e9]; simp
      have hil : pre0.length < (ar (lv f N) a n n).length := (List.getElem?_eq_some_iff.1 hix).1
      obtain ⟨q1, q2, q3⟩ := at_ pre0.length hil (by rw [hix]; exact h2) (fun i hi => by
        have : (ar (lv f N) a n n)[i]? = some pre0[i] := by rw [e9, List.append_assoc, List.getElem?_append_left hi, List.getElem?_eq_getElem hi]
        rw [this]
        exact h1 _ (List.getElem_mem hi))
      rw [hix] at q3
      have FIN : Hid (PlErr w (nxE (lv f N) l n) (nxR (lv f N) l n) (nxN (lv f N) l n) (.returned (.tuple #[.agg #[.int .i64 r, .int .i64 (x0 : Int)], .int .i64 0])) (V.putObj D (.deferred none))) := Lib.hid (by rw [q1, q2, q3]; exact ⟨by rw [HRG.out]; rfl, hfin hD hB hK⟩)
      have hg := grownBy_putObj' V D (.deferred none)
      have hgr : ∀ r, some D = some r → ∃ o : Obj, V.heap[r]? = some o ∧ o.isCells = false := fun r e => by cases e; exact ⟨_, hK, rfl⟩
      clear q1 q2 q3 at_ hix hil e9 hpre hp1 hp2 hR0
      gi_wp2_with fail
      refine ⟨by simp, .inl ⟨_, _, rfl, run_takeDeferred hK, ?_⟩⟩
      exact ⟨.tuple #[.agg #[.int .i64 r, .int .i64 (x0 : Int)], .int .i64 0], results_plerr rfl _ _ (w.heap.size + 1) (w.heap.size + 1 + 1) rfl rfl (has_any_own (β := Unit) _ _ _ _ () V _ (some D) h3 hg hgr) (boxed_row h4 hg hgr), FIN.out⟩
/-- how a bad call ends -/
theorem nx_end {W : World} (hB : Below w.heap.size w W) (P : Has W (w.heap.size + 1) 44 2 (pl2 0 0)) (R : Boxed W (w.heap.size + 1 + 1) 30 (.int .i64 0)) : ∃ W', W' = ((W.setCell ⟨w.heap.size + 1, 0, none⟩ (.int .i64 0)).setCell ⟨w.heap.size + 1, 1, none⟩ (.int .i64 0)).setCell ⟨w.heap.size + 1 + 1, 0, none⟩ (.int .i64 1) ∧
    Has W' (w.heap.size + 1) 44 2 (pl2 0 0) ∧ Boxed W' (w.heap.size + 1 + 1) 30 (.int .i64 1) ∧ Below w.heap.size w W' := by
  have hPn : Has (W.setCell ⟨w.heap.size + 1, 0, none⟩ (.int .i64 0) |>.setCell ⟨w.heap.size + 1, 1, none⟩ (.int .i64 0)) (w.heap.size + 1) 44 2 (pl2 0 0) := ((P.set_ 0 (.int .i64 0)).set_ 1 (.int .i64 0)).congr (fun i hi => by rcases (show i = 0 ∨ i = 1 by omega) with rfl | rfl <;> rfl)
  refine ⟨_, rfl, Has.setOther hPn (a := ⟨w.heap.size + 1 + 1, 0, none⟩) (by show w.heap.size + 1 ≠ w.heap.size + 1 + 1; omega) _, (boxed_set (boxed_set R (by omega) _ _) (by omega) _ _).set _, ?_⟩
  exact ((hB.setCell (p := ⟨w.heap.size + 1, 0, none⟩) (Nat.le_succ _) _).setCell (p := ⟨w.heap.size + 1, 1, none⟩) (Nat.le_succ _) _).setCell (p := ⟨w.heap.size + 1 + 1, 0, none⟩) (by show w.heap.size ≤ w.heap.size + 1 + 1; omega) _
set_option maxRecDepth 100000 in
set_option maxHeartbeats 6400000 in
theorem next_any (l : List (Int × Int)) (nodes : Int) (f : Nat → Bool) (hl : l.length * 16 ≤ 140737488355328) (hI : ∀ r, r < l.length → I64 (pq l r).1 ∧ I64 (pq l r).2) (hp : Pl w w.heap.size A l) (hf : Bl w w.heap.size B N f) :
    Calls Try.prog 18 #[.slice A l.length c, .int .i64 nodes, .slice B N k] w (PlErr w (nxE (lv f N) l nodes) (nxR (lv f N) l nodes) (nxN (lv f N) l nodes)) := by
  by_cases b1 : (decide (0 < l.length) && on1 l l.length) = true
  rotate_left
  · obtain ⟨q1, q2, q3⟩ := nx_bad (p := lv f N) (nxOk_niff.2 (fun q => b1 (by rw [decide_eq_true q.1.1, q.2]; rfl)) : nxOk l nodes = false)
    rw [q1, q2, q3]
    have hb1 : (decide (0 < l.length) && on1 l l.length) = false := by simpa using b1
    obtain ⟨W0, hW0, e0, e1, e2, hB0, hs0⟩ := nx_start w (.slice A l.length c)
    have hone := oneRegion_any (w := W0) (c := c) l (hp.up hB0) (by omega)
    rw [hb1] at hone
    have HO := Lib.hid hone
    have x0 := e0.cell
    rw [hW0] at x0
    have HW := Lib.hid hW0
    clear q1 q2 q3 b1 hb1 hone hI hp hf hl
    go_enter Try.func18, Try.ntmps18
    go_wp2_with fail
    rw [← HW.out]
    refine HO.out.mono ?_; rintro e w1 ⟨rfl, hb1⟩
    have P5 := e1.below hb1 e1.lt
    have R5 := boxed_past e2 hb1
    have z0 : w1.cell? ⟨w.heap.size + 1, 0, none⟩ = some (.int .i64 0) := P5.cell (show 0 < 2 by omega)
    have z1 : w1.cell? ⟨w.heap.size + 1, 1, none⟩ = some (.int .i64 0) := P5.cell (show 1 < 2 by omega)
    have z2 := P5.frozen (show 0 < 2 by omega)
    have z3 := P5.frozen (show 1 < 2 by omega)
    have z4 := R5.cell
    have z5 := R5.frozen
    obtain ⟨W9, hW9, p9, r9, b9⟩ := nx_end (up_trans hB0 hb1) P5 R5
    have H9 := Lib.hid hW9
    clear x0 hW0 hW9 e0
    go_wp2
    rw [← H9.out]
    exact bodyPost_ret (results_plerr rfl _ _ (w.heap.size + 1) (w.heap.size + 1 + 1) rfl rfl p9 r9) rfl ⟨rfl, b9⟩
  by_cases b2 : 1 ≤ nodes ∧ nodes ≤ 64
  rotate_left
  · obtain ⟨q1, q2, q3⟩ := nx_bad (p := lv f N) (nxOk_niff.2 (fun q => b2 ⟨q.1.2.1, q.1.2.2⟩) : nxOk l nodes = false)
    rw [q1, q2, q3]
    obtain ⟨W0, hW0, e0, e1, e2, hB0, hs0⟩ := nx_start w (.slice A l.length c)
    have hone := oneRegion_any (w := W0) (c := c) l (hp.up hB0) (by omega)
    rw [b1] at hone
    have ha := fun W => areNodes_any nodes W
    rw [show (decide (1 ≤ nodes) && decide (nodes ≤ 64)) = false by rw [Bool.and_eq_false_iff, decide_eq_false_iff_not, decide_eq_false_iff_not]; omega] at ha
    have HO := Lib.hid hone
    have HA := Lib.hid ha
    have x0 := e0.cell
    rw [hW0] at x0
    have HW := Lib.hid hW0
    clear q1 q2 q3 b1 b2 hone ha hI hp hf hl
    go_enter Try.func18, Try.ntmps18
    go_wp2_with fail
    rw [← HW.out]
    refine HO.out.mono ?_; rintro e w1 ⟨rfl, hb1⟩
    go_wp2_with fail
    refine (HA.out _).mono ?_; rintro e w2 ⟨rfl, hb2⟩
    have hb3 := up_trans hb1 hb2
    have P5 := e1.below hb3 e1.lt
    have R5 := boxed_past e2 hb3
    have z0 : w2.cell? ⟨w.heap.size + 1, 0, none⟩ = some (.int .i64 0) := P5.cell (show 0 < 2 by omega)
    have z1 : w2.cell? ⟨w.heap.size + 1, 1, none⟩ = some (.int .i64 0) := P5.cell (show 1 < 2 by omega)
    have z2 := P5.frozen (show 0 < 2 by omega)
    have z3 := P5.frozen (show 1 < 2 by omega)
    have z4 := R5.cell
    have z5 := R5.frozen
    obtain ⟨W9, hW9, p9, r9, b9⟩ := nx_end (up_trans hB0 hb3) P5 R5
    have H9 := Lib.hid hW9
    clear x0 hW0 hW9 e0
    go_wp2
    rw [← H9.out]
    exact bodyPost_ret (results_plerr rfl _ _ (w.heap.size + 1) (w.heap.size + 1 + 1) rfl rfl p9 r9) rfl ⟨rfl, b9⟩
  obtain ⟨n, rfl⟩ := Int.eq_ofNat_of_zero_le (show 0 ≤ nodes by omega)
  rw [Bool.and_eq_true, decide_eq_true_iff] at b1
  exact next_yes l n f hl (hI _ (by omega)).2 (by omega) (by omega) b1.2 b1.1 hp hf
end
/-- each call of package site answers as the document's -/
theorem siteOk : SiteOk where
  ring := fun _ vol nodes _ _ _ f hv _ _ _ h => ring_any vol nodes hv f h
  spread := fun _ vol region many nodes _ _ _ f hv _ hm _ _ _ h => spread_any vol region many nodes hv hm f h
  third := fun w a b _ _ => third_any a b w
  next := fun _ l nodes _ _ _ _ _ f hl hI _ _ _ _ hp hf => next_any l nodes f hl hI hp hf
end Go.Proofs.Ythalaihpgjniiaa.Mat
