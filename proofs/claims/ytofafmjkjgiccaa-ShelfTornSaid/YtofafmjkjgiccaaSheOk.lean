/- What the laws of layer 10 ask of the program's calls, gathered; the document's example of shelves: walked from that. -/
import Derived.Test.YtofafmjkjgiccaaSheDrop
import Derived.Test.YtofafmjkjgiccaaSheRoom
namespace Go.Proofs.Ytofafmjkjgiccaa.Mat
open Go.RowKit Fld

/-- each call of package shelf answers as the document's -/
structure ShelfOk : Prop where
  may : ∀ (v i : Int) (x : ByteArray), x.size ≤ 140737488351232 → ∀ w : World, Calls Try.prog 16 #[.agg #[.int .i64 v, .int .i64 i, .string x]] w (BoolRet w (mayB v i x))
  rec_ : ∀ (v i : Int) (x : ByteArray), x.size ≤ 140737488351232 → ∀ w : World, Calls Try.prog 12 #[.agg #[.int .i64 v, .int .i64 i, .string x]] w (TxtRet w (srE v i x) (srT v i x))
  take : ∀ (s : ByteArray), s.size ≤ 140737488351232 → ∀ w : World, Calls Try.prog 14 #[.string s] w (ShRet w (shE s) (shV s : Int) (shI s : Int) (shX s))
  list : ∀ (w : World) (A : Option Addr) (c : Nat) (B : Option Addr) (k : Nat) (d : Dk), DOk w A c B k d → Calls Try.prog 19 #[.agg #[.slice A d.n c, .slice B d.m k, .int .i64 d.fuse, .bool d.off]] w (KeysRet w (ks (gs d) d.n))
  find : ∀ (w : World) (A : Option Addr) (c : Nat) (B : Option Addr) (k : Nat) (d : Dk), DOk w A c B k d → ∀ v i : Int, Calls Try.prog 24 #[.agg #[.slice A d.n c, .slice B d.m k, .int .i64 d.fuse, .bool d.off], .agg #[.int .i64 v, .int .i64 i]] w (TxtRet w (fdE d v i) (fdX d v i))
  put : ∀ (w : World) (A : Option Addr) (c : Nat) (B : Option Addr) (k : Nat) (d : Dk), DOk w A c B k d → (d.m + 1) * 24 ≤ 140737488355328 → ∀ (v i : Int) (x : ByteArray), x.size ≤ 140737488351232 → Calls Try.prog 28 #[.agg #[.slice A d.n c, .slice B d.m k, .int .i64 d.fuse, .bool d.off], .agg #[.int .i64 v, .int .i64 i, .string x]] w (DErr w (spD d v i x) (spE d v i x))
  drop : ∀ (w : World) (A : Option Addr) (c : Nat) (B : Option Addr) (k : Nat) (d : Dk), DOk w A c B k d → (d.m + d.n + 1) * 24 ≤ 140737488355328 → ∀ v i : Int, Calls Try.prog 30 #[.agg #[.slice A d.n c, .slice B d.m k, .int .i64 d.fuse, .bool d.off], .agg #[.int .i64 v, .int .i64 i]] w (DErr w (sdD d v i) (sdE d v i))
  bad : ∀ (w : World) (A : Option Addr) (c : Nat) (B : Option Addr) (k : Nat) (d : Dk), DOk w A c B k d → Calls Try.prog 22 #[.agg #[.slice A d.n c, .slice B d.m k, .int .i64 d.fuse, .bool d.off]] w (NumsRet w (bd (gs d) d.n))
  free : ∀ (w : World) (A : Option Addr) (c : Nat) (B : Option Addr) (k : Nat) (d : Dk), DOk w A c B k d → Calls Try.prog 26 #[.agg #[.slice A d.n c, .slice B d.m k, .int .i64 d.fuse, .bool d.off]] w (IntRet w (em (gs d) d.n : Nat))

theorem shelfShown_nums : ∃ D1 D2 D3 : Dk, newD 2 = D1 ∧ newE 2 = 0 ∧ (D1.m + 1) * 24 ≤ 140737488355328 ∧ spD D1 1 0 ⟨#[97, 98]⟩ = D2 ∧ spE D1 1 0 ⟨#[97, 98]⟩ = 0 ∧ (D2.m + 1) * 24 ≤ 140737488355328 ∧ spD D2 1 0 ⟨#[99, 100]⟩ = D3 ∧ spE D2 1 0 ⟨#[99, 100]⟩ = 8 ∧ ks (gs D2) D2.n = [(1, 0)] :=
  ⟨_, _, _, rfl, by decide +kernel, by decide +kernel, rfl, by decide +kernel, by decide +kernel, rfl, by decide +kernel, by decide +kernel⟩

set_option maxRecDepth 100000 in
set_option maxHeartbeats 1600000 in
theorem shelfShown_any (C : ShelfOk) (w : World) : Calls Try.prog 11 #[] w (BoolRet w true) := by
  obtain ⟨D1, D2, D3, e1, f1, m1, e2, f2, m2, e3, f3, e4⟩ := shelfShown_nums
  have c1 := fun W => refNew_any 2 W
  have c2 := fun W A c B k (h : DOk W A c B k D1) => C.put W A c B k D1 h m1 1 0 ⟨#[97, 98]⟩ (by decide)
  have c3 := fun W A c B k (h : DOk W A c B k D2) => C.put W A c B k D2 h m2 1 0 ⟨#[99, 100]⟩ (by decide)
  have c4 := fun W A c B k (h : DOk W A c B k D2) => C.list W A c B k D2 h
  rw [e1, f1] at c1
  rw [e2, f2] at c2
  rw [e3, f3] at c3
  rw [e4] at c4
  have C1 := Lib.hid c1
  have C2 := Lib.hid c2
  have C3 := Lib.hid c3
  have C4 := Lib.hid c4
  clear c1 c2 c3 c4 e1 f1 m1 e2 f2 m2 e3 f3 e4 C
  go_enter Try.func11, Try.ntmps11
  go_wp2_with fail
  refine (C1.out _).mono ?_; rintro e w1 ⟨A1, c1, B1, k1, rfl, ok1, hb1⟩
  have HV1 := Lib.hid (Vr.new ok1)
  have HG := Lib.hid hb1.size
  have HB1 := Lib.hid (hb1.alloc hb1.size (.cells #[.slice A1 D1.n c1, .slice B1 D1.m k1, .int .i64 D1.fuse, .bool D1.off] 39))
  clear ok1 hb1
  go_upto_region 2 with fail
  generalize w1.alloc (.cells #[.slice A1 D1.n c1, .slice B1 D1.m k1, .int .i64 D1.fuse, .bool D1.off] 39) = W1 at *
  generalize w1.heap.size = g at *
  obtain ⟨x0, x1, x2, x3⟩ := HV1.out.cells
  go_wp2_with fail
  clear x0 x1 x2 x3
  refine (C2.out _ _ _ _ _ HV1.out.ok).mono ?_; rintro e w2 ⟨A2, c2, B2, k2, rfl, ok2, hb2⟩
  have h2 := HV1.out.up hb2
  obtain ⟨x0, x1, x2, x3⟩ := h2.cells
  obtain ⟨y0, y1, y2, y3⟩ := h2.bx.free
  have HV2 := Lib.hid (h2.put ok2)
  have HB2 := Lib.hid (put4_below (up_trans HB1.out hb2) HG.out (.slice A2 D2.n c2) (.slice B2 D2.m k2) (.int .i64 D2.fuse) (.bool D2.off))
  clear h2 ok2 hb2 HB1 HV1
  go_upto_region 3 with fail
  change Code.wp _ _ _ _ (put4 w2 g (.slice A2 D2.n c2) (.slice B2 D2.m k2) (.int .i64 D2.fuse) (.bool D2.off))
  generalize put4 w2 g (.slice A2 D2.n c2) (.slice B2 D2.m k2) (.int .i64 D2.fuse) (.bool D2.off) = W2 at *
  clear x0 x1 x2 x3 y0 y1 y2 y3
  obtain ⟨x0, x1, x2, x3⟩ := HV2.out.cells
  go_wp2_with fail
  clear x0 x1 x2 x3
  refine (C3.out _ _ _ _ _ HV2.out.ok).mono ?_; rintro e w3 ⟨A3, c3, B3, k3, rfl, ok3, hb3⟩
  have hb4 := hb3.alloc hb3.size (.cells #[.slice A3 D3.n c3, .slice B3 D3.m k3, .int .i64 D3.fuse, .bool D3.off] 39)
  have HV3 := Lib.hid (HV2.out.up hb4)
  have HB3 := Lib.hid (up_trans HB2.out hb4)
  obtain ⟨x0, x1, x2, x3⟩ := HV3.out.cells
  clear ok3 hb3 hb4 HB2 HV2
  go_wp2_with fail
  clear x0 x1 x2 x3
  refine (C4.out _ _ _ _ _ HV3.out.ok).mono ?_; rintro e w5 ⟨A5, c5, rfl, hk5, hb5⟩
  have HB5 := Lib.hid (up_trans HB3.out hb5)
  obtain ⟨ad, rfl, _, k0, k1⟩ := hk5.at_ (r := 0) (by decide)
  rw [show (0 : Nat) * 2 = 0 from rfl, add_zero] at k0 k1
  have k0' : w5.cell? ad = some (.int .i64 1) := k0
  have k1' : w5.cell? ⟨ad.block, ad.off + 1, none⟩ = some (.int .i64 0) := k1
  have hq := fun W => eqlK 1 0 1 0 W
  clear k0 k1 hb5 hk5 HV3
  simp only [List.length_cons, List.length_nil, Nat.zero_add]
  go_wp2
  go_ret
  exact ⟨ret_bool (by first | rfl | decide | simp), HB5.out⟩
end Go.Proofs.Ytofafmjkjgiccaa.Mat
