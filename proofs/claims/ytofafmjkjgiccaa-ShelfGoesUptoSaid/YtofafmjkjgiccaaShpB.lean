/- The slots of a disk, one by one; those that have a shard, one by one: walked (iterators; the second ranges over the first). -/
import Derived.Test.YtofafmjkjgiccaaShpA
namespace Go.Proofs.Ytofafmjkjgiccaa.Mat
open Go.RowKit Go.Shelf Fld

attribute [local go_sem] Oper.semAt_some

/-- a slot's number and its text -/
structure Sl1 where
  i : Nat
  s : ByteArray
  le : s.size ≤ 140737488351232
def slo (S : Nat → Sl1) : Nat → List Sl1
  | 0 => []
  | k + 1 => slo S k ++ [S k]
theorem slo_len (S : Nat → Sl1) : ∀ k, (slo S k).length = k
  | 0 => rfl
  | k + 1 => by
    show (slo S k ++ [S k]).length = k + 1
    rw [List.length_append, slo_len S k]; rfl
/-- one that has a shard -/
abbrev Sd := { x : Sl1 // shB x.s = true }
def shA (l : List Sd) (x : Sl1) : List Sd := if h : shB x.s = true then l ++ [⟨x, h⟩] else l
def shs (l : List Sl1) : List Sd := l.foldl shA []
theorem shs_snoc (l : List Sl1) (x : Sl1) : shs (l ++ [x]) = shA (shs l) x := by unfold shs; rw [List.foldl_append]; rfl
theorem shs_yes (l : List Sl1) {x : Sl1} (h : shB x.s = true) : shs (l ++ [x]) = shs l ++ [⟨x, h⟩] := by rw [shs_snoc]; exact dif_pos h
theorem shs_no (l : List Sl1) {x : Sl1} (h : shB x.s = false) : shs (l ++ [x]) = shs l := by rw [shs_snoc]; exact dif_neg (by rw [h]; exact Bool.false_ne_true)
theorem shs_len : ∀ (l : List Sl1), (shs l).length ≤ l.length := fun l => by
  have h : ∀ (l : List Sl1) (acc : List Sd), (l.foldl shA acc).length ≤ acc.length + l.length := by
    intro l
    induction l with
    | nil => intro acc; exact Nat.le_refl _
    | cons x l ih =>
      intro acc
      refine Nat.le_trans (ih (shA acc x)) ?_
      have : (shA acc x).length ≤ acc.length + 1 := by
        by_cases hb : shB x.s = true
        · rw [show shA acc x = acc ++ [⟨x, hb⟩] from dif_pos hb]; simp
        · rw [show shA acc x = acc from dif_neg hb]; omega
      simp only [List.length_cons]
      omega
  have := h l []
  simpa [shs] using this
/-- a disk's slots -/
def dsl (d : Dk) (hz : Sz d) (j : Nat) : Sl1 := ⟨j, gs d j, getS_size hz j⟩
abbrev enc1 (x : Sl1) : Array Value := #[.int .i64 (x.i : Int), .string x.s]
abbrev enc2 (x : Sd) : Array Value := #[.int .i64 (x.1.i : Int), .agg #[.int .i64 (shV x.1.s : Int), .int .i64 (shI x.1.s : Int), .string (shX x.1.s)]]

section
variable {W W' : World} {b : Nat} {t n : Nat} {f : Nat → Value} {n₀ b₁ : Nat}
theorem Has.kt (h : Has W b t n f) (k : Kt n₀ b₁ W W') (hb : b₁ ≤ b) (ht : t = 39 ∨ t = 111) : Has W' b t n f := by
  obtain ⟨c, lo, hi, e, r⟩ := h
  exact ⟨c, lo, hi, k.boxes b c t _ hb ht e, r⟩
theorem keepsFrom_below {B : Nat} (h : Below W.heap.size W W') : KeepsFrom B W W' := ⟨h.size, fun k _ _ hk _ => (h.block k (Array.getElem?_eq_some_iff.1 hk).1).trans hk⟩
theorem has_any_own {β : Type} (b t n : Nat) (f : Nat → Value) : _root_.Go.Own (fun (_ : β) W => Has W b t n f) := fun s X Y row hs hg hrow =>
  Has.grown hs hg (fun e' => by
    obtain ⟨o, ho, hc⟩ := hrow b e'.symm
    obtain ⟨c, lo, hi', hb, _⟩ := hs
    rw [hb] at ho; cases ho; cases hc)
theorem own_below_none {β : Type} {B : Nat} {J : β → World → Prop} (hJ : OwnFrom B J) {s : β} (h : J s W) (hb : Below W.heap.size W W') : J s W' := hJ s W W' none h (grownBy_of_below hb none) (fun r e => by cases e)
end
theorem roundIn_wide {m m' : Nat} {P : Program} {l : Nat} {fn : FuncId} {tmps : Array Value} {assign body : Code} {W : World} {R : Ending → World → Prop} (l' : Nat) (h : RoundIn Fence.wide m P l fn tmps assign body W R) : RoundIn (Fence.wide.inRound l') m' P l fn tmps assign body W R := ⟨h.1, fun c cs _ => h.2 c cs (fun D hD => by cases hD)⟩

section
variable {A B : Option Addr} {c k : Nat} {d : Dk} {w : World}
set_option maxRecDepth 100000 in
set_option maxHeartbeats 1000000 in
theorem slots_in (p q r s : Value) (w : World) (m : Nat) :
    CallsIn Fence.wide m Try.prog 51 #[.agg #[p, q, r, s]] w fun e w' => e = .returned (.func (.func 65) #[] #[.pointer (some ⟨w.heap.size, 0, none⟩)]) ∧ w' = w.alloc (.cells #[p, q, r, s] 39) := by
  refine callsIn_of_wp Try.func51 rfl trivial ?_ rfl
  simp only [Try.ntmps51, List.size_toArray, List.length_cons, List.length_nil, Nat.reduceAdd, Nat.reduceSub, Array.replicate_succ, Array.replicate_zero, List.push_toArray, List.append_toArray, List.nil_append, List.cons_append]
  gi_wp2
  go_ret
  exact ⟨rfl, rfl⟩
set_option maxRecDepth 100000 in
set_option maxHeartbeats 1000000 in
theorem shards_in (p q r s : Value) (w : World) (m : Nat) :
    CallsIn Fence.wide m Try.prog 48 #[.agg #[p, q, r, s]] w fun e w' => e = .returned (.func (.func 63) #[] #[.pointer (some ⟨w.heap.size, 0, none⟩)]) ∧ w' = w.alloc (.cells #[p, q, r, s] 39) := by
  refine callsIn_of_wp Try.func48 rfl trivial ?_ rfl
  simp only [Try.ntmps48, List.size_toArray, List.length_cons, List.length_nil, Nat.reduceAdd, Nat.reduceSub, Array.replicate_succ, Array.replicate_zero, List.push_toArray, List.append_toArray, List.nil_append, List.cons_append]
  gi_wp2
  go_ret
  exact ⟨rfl, rfl⟩

set_option maxRecDepth 100000 in
set_option maxHeartbeats 4000000 in
theorem slots1_in (l Bs b₁ : Nat) (h : DOk w A c B k d) (J Jx : List Sl1 → World → Prop) (W : World) (hb : Below w.heap.size w W)
    (hBs : Bx W Bs (.slice A d.n c) (.slice B d.m k) (.int .i64 d.fuse) (.bool d.off)) (hb1 : b₁ ≤ Bs) (hJ : AbidesFrom W.heap.size J)
    (hY : ∀ pre x W1, J pre W1 → pre.length < d.n → YieldAt Fence.wide 6 Try.prog l (enc1 x) W1 fun e W' =>
      (e = .returned (.bool true) ∧ J (pre ++ [x]) W' ∧ Kt w.heap.size b₁ W1 W') ∨ (e = .returned (.bool false) ∧ Jx (pre ++ [x]) W')) (h0 : J [] W) :
    CallsIn Fence.wide 7 Try.prog 65 #[.func (.yield l) #[] #[], .pointer (some ⟨Bs, 0, none⟩)] W fun e W' => (∃ v, e = .returned v) ∧
      ((∃ xs, xs = slo (dsl d h.sz) d.n ∧ J xs W') ∨ (∃ pre, (∃ k, k < d.n ∧ pre = slo (dsl d h.sz) (k + 1)) ∧ Jx pre W')) := by
  have HH := Lib.hid h
  have HBX := Lib.hid hBs
  have HZ := Lib.hid hb.size
  have hln := slo_len (dsl d h.sz)
  obtain ⟨s0, s1, s2, s3⟩ := hBs.cells
  have hbn := h.sz.bn
  refine callsIn_of_wp Try.func65 rfl trivial ?_ rfl
  simp only [Try.ntmps65, List.size_toArray, List.length_cons, List.length_nil, Nat.reduceAdd, Nat.reduceSub, Array.replicate_succ, Array.replicate_zero, List.push_toArray, List.append_toArray, List.nil_append, List.cons_append]
  gi_wp2
  clear s0 s1 s2 s3 hBs
  gi_loopw [9] (fun i wr => ∃ j : Nat, j ≤ d.n ∧ i = .int .i64 j ∧ J (slo (dsl d h.sz) j) wr ∧ Below w.heap.size w wr ∧ Bx wr Bs (.slice A d.n c) (.slice B d.m k) (.int .i64 d.fuse) (.bool d.off) ∧ W.heap.size ≤ wr.heap.size)
    (fun i _ => d.n - (intOf i).toNat)
  case atStart => exact ⟨0, Nat.zero_le _, rfl, h0, hb, HBX.out, Nat.le_refl _⟩
  case round =>
    obtain ⟨j, hj, rfl, hJs, hnx, hbx, hsz⟩ := hrel
    by_cases hlt : j < d.n
    · have hg := get_any (HH.out.up hnx) (j : Int)
      have q0 : getS d (j : Int) = gs d j := rfl
      rw [q0] at hg
      have HG := Lib.hid hg
      have hkz : (j : Int) < (d.n : Int) := by omega
      obtain ⟨x0, x1, x2, x3⟩ := hbx.cells
      have HBR := Lib.hid hbx
      have HNX := Lib.hid hnx
      clear hg q0 hbx hnx
      gi_wp2_with fail
      refine ⟨trivial, (callsIn_wide.2 HG.out).mono ?_⟩
      rintro e w2 ⟨rfl, hb2⟩
      have hJ2 : J (slo (dsl d h.sz) j) w2 := hJ _ _ _ none hJs (grownBy_of_below hb2 none) (fun r e => by cases e)
      have hB2 : Below w.heap.size w w2 := up_trans HNX.out hb2
      have hx2 := HBR.out.up hb2
      have hz2 := hb2.size
      obtain ⟨fn, tmps, assign, body, hy, hR⟩ := hY _ (dsl d h.sz j) w2 hJ2 (by rw [hln]; exact hlt)
      have e1 : (dsl d h.sz j).s = gs d j := rfl
      have e2 : (dsl d h.sz j).i = j := rfl
      dsimp only [enc1] at hy
      rw [e1, e2] at hy
      clear e1 e2 x0 x1 x2 x3 hb2
      gi_wp2_with fail
      refine hR.mono ?_
      rintro e W3 (⟨rfl, hJ3, hk3⟩ | ⟨rfl, hJx3⟩)
      · have hz3 := hk3.below.size
        have hx3 := Has.kt hx2 hk3 hb1 (.inl rfl)
        gi_wp2_with fail
        go_roundw
        case rel => exact ⟨j + 1, by omega, by go_num, hJ3, hB2.trans hk3.below, hx3, by omega⟩
        case measure => simp [intOf]; omega
      · gi_wp2_with fail
        refine bodyPost_ret (results_none rfl _ _ _) rfl ?_
        exact ⟨⟨_, rfl⟩, .inr ⟨_, ⟨j, hlt, rfl⟩, hJx3⟩⟩
    · obtain rfl : j = d.n := by omega
      gi_wp2
      go_end0
      exact ⟨⟨_, rfl⟩, .inl ⟨_, rfl, hJs⟩⟩
/-- what lies ahead of the inner loop -/
theorem sh_start (W : World) (A B : Option Addr) (c k : Nat) (d : Dk) (y : Value) : ∃ W0, W0 = (W.alloc (.cells #[y] 111)).alloc (.cells #[.slice A d.n c, .slice B d.m k, .int .i64 d.fuse, .bool d.off] 39) ∧
    Has W0 W.heap.size 111 1 (fun _ => y) ∧ Bx W0 (W.heap.size + 1) (.slice A d.n c) (.slice B d.m k) (.int .i64 d.fuse) (.bool d.off) ∧ Below W.heap.size W W0 ∧ W0.heap.size = W.heap.size + 2 := by
  have h1 := has_box W y 111
  have h2 := bx_new (W.alloc (.cells #[y] 111)) (.slice A d.n c) (.slice B d.m k) (.int .i64 d.fuse) (.bool d.off)
  rw [size_alloc] at h2
  have hb1 := (Below.refl W.heap.size W).alloc (Nat.le_refl _) (.cells #[y] 111)
  exact ⟨_, rfl, h1.alloc _, h2, hb1.alloc hb1.size _, by rw [size_alloc, size_alloc]⟩
set_option maxRecDepth 100000 in
set_option maxHeartbeats 4000000 in
theorem shards1_in (l Bs b₁ : Nat) (h : DOk w A c B k d) (J Jx : List Sd → World → Prop) (W : World) (hb : Below w.heap.size w W)
    (hBs : Bx W Bs (.slice A d.n c) (.slice B d.m k) (.int .i64 d.fuse) (.bool d.off)) (hb1 : b₁ ≤ Bs) (hJ : OwnFrom W.heap.size J) (hJx : OwnFrom W.heap.size Jx)
    (hY : ∀ pre x W1, J pre W1 → pre.length < d.n → YieldAt Fence.wide (8 - 1) Try.prog l (enc2 x) W1 fun e W' =>
      (e = .returned (.bool true) ∧ J (pre ++ [x]) W' ∧ Kt w.heap.size b₁ W1 W' ∧ KeepsFrom W.heap.size W1 W') ∨ (e = .returned (.bool false) ∧ Jx (pre ++ [x]) W' ∧ KeepsFrom W.heap.size W1 W')) (h0 : J [] W) :
    CallsIn Fence.wide 8 Try.prog 63 #[.func (.yield l) #[] #[], .pointer (some ⟨Bs, 0, none⟩)] W fun e W' => (∃ v, e = .returned v) ∧
      ((∃ xs, xs = shs (slo (dsl d h.sz) d.n) ∧ J xs W') ∨ (∃ pre, (∃ k, k < d.n ∧ pre = shs (slo (dsl d h.sz) (k + 1))) ∧ Jx pre W')) := by
  obtain ⟨W0, hW0, hy0, hx0, hB0, hz0⟩ := sh_start W A B c k d (.func (.yield l) #[] #[])
  have hlt := hBs.lt_
  have hx1 := (hBs.alloc (.cells #[.func (.yield l) #[] #[]] 111))
  obtain ⟨s0, s1, s2, s3⟩ := hx1.cells
  have hwW := hb.size
  refine callsIn_of_wp_marks Try.func63 rfl trivial ?_ rfl
  simp only [Try.ntmps63, List.size_toArray, List.length_cons, List.length_nil, Nat.reduceAdd, Nat.reduceSub, Array.replicate_succ, Array.replicate_zero, List.push_toArray, List.append_toArray, List.nil_append, List.cons_append]
  gi_wp2_with fail
  refine ⟨trivial, (slots_in _ _ _ _ _ _).mono ?_⟩
  rintro e w5 ⟨rfl, rfl⟩
  clear s0 s1 s2 s3 hx1
  gi_wp2_with fail
  rw [← hW0]
  clear hW0
  have hj0 : J [] W0 := own_below_none hJ h0 hB0
  have hwB : Below w.heap.size w W0 := up_trans hb hB0
  refine wpIn_rangeFunc_ownH (F := Fence.wide) (n := 8) rfl (by omega) (gf := 65) (lb := #[.pointer (some ⟨W.heap.size + 1, 0, none⟩)]) rfl trivial (enters_of Try.func65 (by kernel_rfl) rfl)
    (encs := enc1) (Kp := Kt w.heap.size (W.heap.size + 1)) (S := fun xs => xs = slo (dsl d h.sz) d.n) (Sp := fun pre => ∃ k, k < d.n ∧ pre = slo (dsl d h.sz) (k + 1)) (N := d.n) (w0 := W0)
    (fun l' J' Jx' W' hW hJ' _ hY' h0' => slots1_in l' (W.heap.size + 1) (W.heap.size + 1) h J' Jx' W' (up_trans hwB hW) (hx0.up hW) (Nat.le_refl _) hJ' hY' h0')
    Kt.trans (kt_put hwB.size) (Below.refl _ _) (fun _ => rfl)
    (fun pre V => (J (shs pre) V ∧ Has V W.heap.size 111 1 (fun _ => .func (.yield l) #[] #[])) ∧ Below w.heap.size w V) (fun cd pre V => cd = .ret ∧ Jx (shs pre) V)
    (OwnFrom.and (OwnFrom.and (fun s X Y row hs hg hr => ownFrom_up hJ hB0.size (shs s) X Y row hs hg hr) (_root_.Go.Own.from (has_any_own _ _ _ _) _)) (ownFrom_below (Nat.le_refl _) hwB.size))
    (fun cd s X Y row hs hg hr => ⟨hs.1, ownFrom_up hJx hB0.size (shs s) X Y row hs.2 hg hr⟩) ⟨⟨hj0, hy0⟩, hwB⟩
    (fun x a' _ => a' = { tmps := #[.func (.yield l) #[] #[], .pointer (some ⟨Bs, 0, none⟩), .pointer (some ⟨W.heap.size, 0, none⟩), .int .i64 (x.i : Int), .string x.s, undef, undef, .agg #[.slice A d.n c, .slice B d.m k, .int .i64 d.fuse, .bool d.off], .func (.func 65) #[] #[.pointer (some ⟨W.heap.size + 1, 0, none⟩)], .int .i64 (x.i : Int), .string x.s, undef, undef, undef, undef, undef, undef, undef, undef, undef, undef, undef, undef, undef, undef], defers := [] })
    (fun _ _ _ _ _ _ hs _ _ => hs)
    ?assign ?body ?done ?stop
  case assign =>
    rintro l' pre x V K hi hK
    gi_wp2
    exact hK _ _ (KeepsFrom.refl _ _) (Kt.refl _ _ _) hi rfl
  case body =>
    rintro l' pre x a' V hl ⟨r, hr⟩ ⟨⟨hj, hy⟩, hB⟩ rfl hlen
    have ht := shTake_any x.s x.le V
    have hyl := shs_len pre
    cases hsb : shB x.s
    · obtain ⟨e1, e2, e3, e4⟩ := sh_no hsb
      rw [e1, e2, e3, e4] at ht
      have hn := shs_no pre hsb
      clear e1 e2 e3 e4
      gi_wp2_with fail
      refine ⟨trivial, (callsIn_wide.2 ht).mono ?_⟩
      rintro e V2 ⟨rfl, hb2⟩
      gi_wp2_with fail
      refine ⟨fun _ h => (by cases h), ?_⟩
      gi_wp2_with fail
      have hb3 := hb2.alloc hb2.size (.cells #[.int .i64 ((0 : Nat) : Int), .int .i64 ((0 : Nat) : Int), .string ByteArray.empty] 23)
      exact ⟨keepsFrom_below hb3, kt_of_below hb3 hB.size, ⟨by rw [hn]; exact own_below_none hJ hj hb3, Has.below hy hb3 hy.lt⟩, up_trans hB hb3⟩
    · have e1 := (sh_yes hsb).1
      rw [e1] at ht
      have hn := shs_yes pre hsb
      clear e1
      gi_wp2_with fail
      refine ⟨trivial, (callsIn_wide.2 ht).mono ?_⟩
      rintro e V2 ⟨rfl, hb2⟩
      have hb3 := hb2.alloc hb2.size (.cells #[.int .i64 (shV x.s : Int), .int .i64 (shI x.s : Int), .string (shX x.s)] 23)
      have hnew := sx_new V2 (shV x.s : Int) (shI x.s : Int) (shX x.s)
      obtain ⟨q0, q1, q2⟩ := hnew.cells
      have hj3 := own_below_none hJ hj hb3
      have hy3 := Has.below hy hb3 hy.lt
      have cy : (V2.alloc (.cells #[.int .i64 (shV x.s : Int), .int .i64 (shI x.s : Int), .string (shX x.s)] 23)).cell? ⟨W.heap.size, 0, none⟩ = some (.func (.yield l) #[] #[]) := hy3.cell (show 0 < 1 by omega)
      have hB3 := up_trans hB hb3
      have hY3 := hY (shs pre) ⟨x, hsb⟩ _ hj3 (by omega)
      obtain ⟨fn, tmps, assign, body, hyy, hR⟩ := hY3
      dsimp only [enc2] at hyy
      have hkf := keepsFrom_below (B := W0.heap.size) hb3
      have hkt := kt_of_below (b₁ := W.heap.size + 1) hb3 hB.size
      clear ht
      gi_wp2_with fail
      refine (roundIn_wide l' hR).mono ?_
      rintro e V3 (⟨rfl, hJ3, hk3, hf3⟩ | ⟨rfl, hJx3, hf3⟩)
      · gi_wp2_with fail
        exact ⟨hkf.trans (keepsFrom_up hf3 hB0.size), hkt.trans (hk3.up (by omega)), ⟨by rw [hn]; exact hJ3, Has.kt hy3 hk3 (by omega) (.inr rfl)⟩, hB3.trans hk3.below⟩
      · gi_wp2_with fail
        exact ⟨hkf.trans (keepsFrom_up hf3 hB0.size), rfl, by rw [hn]; exact hJx3⟩
  case done =>
    rintro D ys V hD rfl ⟨⟨hj, hy⟩, hB⟩ hK
    gi_wp2_with fail
    refine ⟨by simp, .inl ⟨_, _, rfl, run_takeDeferred hK, ?_⟩⟩
    exact ⟨_, results_none rfl _ _ _, ⟨_, rfl⟩, .inl ⟨_, rfl, hJ.putObj _ hj (Nat.le_trans hB0.size hD) hK rfl⟩⟩
  case stop =>
    rintro D cd pre V hD ⟨k', hk', rfl⟩ ⟨rfl, hjx⟩ hK
    gi_wp2_with fail
    refine ⟨by simp, .inl ⟨_, _, rfl, run_takeDeferred hK, ?_⟩⟩
    exact ⟨_, results_none rfl _ _ _, ⟨_, rfl⟩, .inr ⟨_, ⟨k', hk', rfl⟩, hJx.putObj _ hjx (Nat.le_trans hB0.size hD) hK rfl⟩⟩
end
end Go.Proofs.Ytofafmjkjgiccaa.Mat
