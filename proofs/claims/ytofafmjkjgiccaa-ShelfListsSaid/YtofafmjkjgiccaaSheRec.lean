/- Shards in memory; the document's May, Record, Take of shards: walked. -/
import Derived.Test.YtofafmjkjgiccaaSheMath
import Derived.Test.YtofafmjkjgiccaaCelTake
namespace Go.Proofs.Ytofafmjkjgiccaa.Mat
open Go.RowKit Fld

/-! ### shards and keys in memory -/
def three (v i : Int) (x : ByteArray) (j : Nat) : Value := if j = 0 then .int .i64 v else if j = 1 then .int .i64 i else .string x
def Sx (w : World) (b : Nat) (v i : Int) (x : ByteArray) : Prop := Has w b 23 3 (three v i x)
section
variable {w w' : World} {b : Nat} {v i : Int} {x : ByteArray}
theorem Sx.cells (h : Sx w b v i x) : w.cell? ⟨b, 0, none⟩ = some (.int .i64 v) ∧ w.cell? ⟨b, 1, none⟩ = some (.int .i64 i) ∧ w.cell? ⟨b, 2, none⟩ = some (.string x) := ⟨Has.cell h (show 0 < 3 by omega), Has.cell h (show 1 < 3 by omega), Has.cell h (show 2 < 3 by omega)⟩
theorem Sx.free (h : Sx w b v i x) : w.frozen? ⟨b, 0, none⟩ = false ∧ w.frozen? ⟨b, 1, none⟩ = false ∧ w.frozen? ⟨b, 2, none⟩ = false := ⟨Has.frozen h (show 0 < 3 by omega), Has.frozen h (show 1 < 3 by omega), Has.frozen h (show 2 < 3 by omega)⟩
theorem Sx.lt_ (h : Sx w b v i x) : b < w.heap.size := Has.lt h
theorem Sx.up (h : Sx w b v i x) (hb : Below w.heap.size w w') : Sx w' b v i x := Has.below h hb (Has.lt h)
theorem Sx.alloc (h : Sx w b v i x) (o : Obj) : Sx (w.alloc o) b v i x := Has.alloc h o
theorem Sx.drew (h : Sx w b v i x) : Sx w.drew b v i x := h
theorem sx_new (w : World) (v i : Int) (x : ByteArray) : Sx (w.alloc (.cells #[.int .i64 v, .int .i64 i, .string x] 23)) w.heap.size v i x :=
  has_new w _ _ (fun j hj => by
    have : j = 0 ∨ j = 1 ∨ j = 2 := by omega
    rcases this with rfl | rfl | rfl <;> rfl)
def put3 (w : World) (b : Nat) (v i : Int) (x : ByteArray) : World := ((w.setCell ⟨b, 0, none⟩ (.int .i64 v)).setCell ⟨b, 1, none⟩ (.int .i64 i)).setCell ⟨b, 2, none⟩ (.string x)
theorem Sx.put (h : Sx w b v i x) (v' i' : Int) (x' : ByteArray) : Sx (put3 w b v' i' x') b v' i' x' :=
  Has.congr (((h.set_ 0 (.int .i64 v')).set_ 1 (.int .i64 i')).set_ 2 (.string x')) (fun j hj => by
    have : j = 0 ∨ j = 1 ∨ j = 2 := by omega
    rcases this with rfl | rfl | rfl <;> rfl)
theorem put3_below {B : Nat} {w0 : World} (h : Below B w0 w) (hb : B ≤ b) (v i : Int) (x : ByteArray) : Below B w0 (put3 w b v i x) := ((h.setCell (p := ⟨b, 0, none⟩) hb _).setCell (p := ⟨b, 1, none⟩) hb _).setCell (p := ⟨b, 2, none⟩) hb _
end
theorem below_of_drew {w w' : World} (h : Below w.drew.heap.size w.drew w') : Below w.heap.size w w' := ⟨h.os, h.tape, h.output, h.size, h.block⟩
/-- a call answers a shard and an error -/
def ShRet (w : World) (E v i : Int) (x : ByteArray) (e : Ending) (w' : World) : Prop := e = .returned (.tuple #[.agg #[.int .i64 v, .int .i64 i, .string x], .int .i64 E]) ∧ Below w.heap.size w w'
theorem results_shard_err {fn : Func} {t u : Tmp} (h : fn.results = #[.cell t 23, .tmp u]) (tmps : Array Value) (w : World) (g : Nat) {v i : Int} {x : ByteArray} (hp : tmps.getD t undef = .pointer (some ⟨g, 0, none⟩)) (hc : Sx w g v i x) :
    (results fn tmps).run Try.prog w = .ok (.tuple #[.agg #[.int .i64 v, .int .i64 i, .string x], tmps.getD u undef]) w := by
  have hp' : tmps[t]?.getD undef = .pointer (some ⟨g, 0, none⟩) := by simpa using hp
  obtain ⟨c0, c1, c2⟩ := hc.cells
  simp [results, h, hp', asAddr, go_sem, c0, c1, c2]
/-- .. a shard, and two answers -/
def AtRet (w : World) (v i : Int) (x : ByteArray) (is empty : Bool) (e : Ending) (w' : World) : Prop := e = .returned (.tuple #[.agg #[.int .i64 v, .int .i64 i, .string x], .bool is, .bool empty]) ∧ Below w.heap.size w w'
theorem results_shard_two {fn : Func} {t u r : Tmp} (h : fn.results = #[.cell t 23, .tmp u, .tmp r]) (tmps : Array Value) (w : World) (g : Nat) {v i : Int} {x : ByteArray} (hp : tmps.getD t undef = .pointer (some ⟨g, 0, none⟩)) (hc : Sx w g v i x) :
    (results fn tmps).run Try.prog w = .ok (.tuple #[.agg #[.int .i64 v, .int .i64 i, .string x], tmps.getD u undef, tmps.getD r undef]) w := by
  have hp' : tmps[t]?.getD undef = .pointer (some ⟨g, 0, none⟩) := by simpa using hp
  obtain ⟨c0, c1, c2⟩ := hc.cells
  simp [results, h, hp', asAddr, go_sem, c0, c1, c2]

/-! ### May -/
set_option maxRecDepth 100000 in
set_option maxHeartbeats 800000 in
theorem refMay_any (v i : Int) (x : ByteArray) (hx : x.size ≤ 140737488351232) (w : World) :
    Calls Try.prog 17 #[.agg #[.int .i64 v, .int .i64 i, .string x]] w (BoolRet w (mayB v i x)) := by
  by_cases h1 : 1 ≤ v
  rotate_left
  · rw [show mayB v i x = false from may_niff.2 (fun q => h1 (by omega))]
    go_enter Try.func17, Try.ntmps17
    go_wp2
    go_ret
    exact ⟨rfl, (Below.refl _ _).alloc (Nat.le_refl _) _⟩
  by_cases h2 : v ≤ 1048576
  rotate_left
  · rw [show mayB v i x = false from may_niff.2 (fun q => h2 (by omega))]
    go_enter Try.func17, Try.ntmps17
    go_wp2
    go_ret
    exact ⟨rfl, (Below.refl _ _).alloc (Nat.le_refl _) _⟩
  by_cases h3 : 0 ≤ i
  rotate_left
  · rw [show mayB v i x = false from may_niff.2 (fun q => h3 (by omega))]
    go_enter Try.func17, Try.ntmps17
    go_wp2
    go_ret
    exact ⟨rfl, (Below.refl _ _).alloc (Nat.le_refl _) _⟩
  by_cases h4 : i ≤ 1024
  rotate_left
  · rw [show mayB v i x = false from may_niff.2 (fun q => h4 (by omega))]
    go_enter Try.func17, Try.ntmps17
    go_wp2
    go_ret
    exact ⟨rfl, (Below.refl _ _).alloc (Nat.le_refl _) _⟩
  by_cases h5 : (x.size : Int) ≤ 512
  rotate_left
  · rw [show mayB v i x = false from may_niff.2 (fun q => h5 (by omega))]
    go_enter Try.func17, Try.ntmps17
    go_wp2
    go_ret
    exact ⟨rfl, (Below.refl _ _).alloc (Nat.le_refl _) _⟩
  rw [show mayB v i x = true from may_iff.2 ⟨h1, h2, h3, h4, by omega⟩]
  go_enter Try.func17, Try.ntmps17
  go_wp2
  go_ret
  exact ⟨rfl, (Below.refl _ _).alloc (Nat.le_refl _) _⟩

/-! ### Record -/
set_option maxRecDepth 100000 in
set_option maxHeartbeats 1600000 in
theorem refShRec_any (v i : Int) (x : ByteArray) (hx : x.size ≤ 140737488351232) (w : World) :
    Calls Try.prog 13 #[.agg #[.int .i64 v, .int .i64 i, .string x]] w (TxtRet w (srE v i x) (srT v i x)) := by
  have c1 := fun W => refMay_any v i x hx W
  obtain ⟨x0, x1, x2⟩ := (sx_new w v i x).cells
  have HX := Lib.hid (sx_new w v i x)
  have HB := Lib.hid ((Below.refl w.heap.size w).alloc (Nat.le_refl _) (.cells #[.int .i64 v, .int .i64 i, .string x] 23))
  by_cases hm : mayB v i x = true
  rotate_left
  · have hm' : mayB v i x = false := by simpa using hm
    obtain ⟨e1, e2⟩ := srT_no hm'
    rw [e1, e2]
    rw [hm'] at c1
    clear hm hm' e1 e2
    go_enter Try.func13, Try.ntmps13
    go_wp2_with fail
    refine (c1 _).mono ?_; rintro e w1 ⟨rfl, hb1⟩
    go_wp2
    go_ret2
    exact ⟨rfl, up_trans HB.out hb1⟩
  obtain ⟨e1, e2⟩ := srT_yes hm
  obtain ⟨a0, a1, a2, a3, a4⟩ := may_iff.1 hm
  rw [e1, e2]
  rw [hm] at c1
  obtain ⟨v, rfl⟩ := Int.eq_ofNat_of_zero_le (show 0 ≤ v by omega)
  obtain ⟨i, rfl⟩ := Int.eq_ofNat_of_zero_le a2
  rw [Int.toNat_natCast, Int.toNat_natCast]
  have W1 := Lib.hid (wrapN v (by omega))
  have W2 := Lib.hid (wrapN i (by omega))
  have hn : nl v ≤ 10 := nl_ten (by omega)
  have hn2 : nl i ≤ 10 := nl_ten (by omega)
  have hn3 : nl x.size ≤ 10 := nl_ten (by omega)
  have z1 := numS_size v
  have z2 := numS_size i
  have z3 : (textS x).size = nl x.size + x.size := by unfold textS; rw [size_app, numS_size]
  have z4 : (numS v ++ numS i).size = nl v + nl i := by rw [size_app, z1, z2]
  have z5 := shBody_size v i x
  have hadd1 := fun W => run_string_add_sum (P := Try.prog) (w := W) (numS v) (numS i) (by omega)
  have hadd2 := fun W => run_string_add_sum (P := Try.prog) (w := W) (numS v ++ numS i) (textS x) (by omega)
  have hb : shBody v i x = numS v ++ numS i ++ textS x := rfl
  rw [← hb] at hadd2
  have c2 := fun W => refNum_any v (by omega) W
  have c3 := fun W => refNum_any i (by omega) W
  have c4 := fun W => refText_any x hx W
  have c5 := fun W => Crc.refSeal_any (shBody v i x) W (by omega)
  have e3 : Crc.sealS (shBody v i x) = shR v i x := rfl
  rw [e3] at c5
  generalize shR v i x = r at *
  generalize shBody v i x = b at *
  generalize numS v ++ numS i = ni at *
  generalize numS v = n at *
  generalize numS i = m at *
  generalize textS x = y at *
  have C2 := Lib.hid c2
  have C3 := Lib.hid c3
  have C4 := Lib.hid c4
  have C5 := Lib.hid c5
  clear hn hn2 hn3 z1 z2 z3 z4 z5 hb e1 e2 e3 hm a0 a1 a2 a3 a4 hx c2 c3 c4 c5
  go_enter Try.func13, Try.ntmps13
  go_wp2_with fail
  refine (c1 _).mono ?_; rintro e w1 ⟨rfl, hb1⟩
  clear c1 x0 x1 x2
  have HB1 := Lib.hid (up_trans HB.out hb1)
  have HX1 := Lib.hid (HX.out.up hb1)
  obtain ⟨x0, x1, x2⟩ := HX1.out.cells
  have K : Hid (∀ W, Below w1.heap.size w1 W → W.cell? ⟨w.heap.size, 0, none⟩ = some (.int .i64 v) ∧ W.cell? ⟨w.heap.size, 1, none⟩ = some (.int .i64 i) ∧ W.cell? ⟨w.heap.size, 2, none⟩ = some (.string x)) := Lib.hid (fun W hb => (HX1.out.up hb).cells)
  clear hb1
  go_upto_region 4 with fail
  go_region_held3 (fun W => W.cell? ⟨w.heap.size, 0, none⟩ = some (.int .i64 v) ∧ W.cell? ⟨w.heap.size, 1, none⟩ = some (.int .i64 i) ∧ W.cell? ⟨w.heap.size, 2, none⟩ = some (.string x))
    (first | exact ⟨x0, x1, x2⟩ | exact K.out _ b2.out | exact K.out _ b3.out | exact K.out _ b4.out | exact K.out _ b5.out | go_keep)
    (first
      | (go_at_call 40; (try rw [W1.out]); (with_reducible refine Calls.mono (C2.out _) ?_); rintro e w2 ⟨rfl, hb2⟩; have b2 : Hid (Below w1.heap.size w1 w2) := Lib.hid (below_of_drew hb2))
      | (go_at_call 40; (try rw [W2.out]); (with_reducible refine Calls.mono (C3.out _) ?_); rintro e w3 ⟨rfl, hb3⟩; have b3 : Hid (Below w1.heap.size w1 w3) := Lib.hid (up_trans b2.out hb3))
      | (go_at_call 41; (with_reducible refine Calls.mono (C4.out _) ?_); rintro e w4 ⟨rfl, hb4⟩; have b4 : Hid (Below w1.heap.size w1 w4) := Lib.hid (up_trans b3.out hb4))
      | (go_at_call 39; (with_reducible refine Calls.mono (C5.out _) ?_); rintro e w5 ⟨rfl, hb5⟩; have b5 : Hid (Below w1.heap.size w1 w5) := Lib.hid (up_trans b4.out hb5)))
  go_wp2
  go_ret2
  exact ⟨rfl, up_trans HB1.out b5.out⟩
end Go.Proofs.Ytofafmjkjgiccaa.Mat
