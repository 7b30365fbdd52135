/- The law of Roll and Join against the document's: walked. -/
import Derived.Test.YtjegopkaficbpaaTurnK
namespace Go.Proofs.Ytjegopkaficbpaa.Mat
open Go.RowKit Fld Flt Trn

theorem Has.over {w w' : World} {b n : Nat} {t : TypeId} {f : Nat → Value} {o : Obj} (h : Has w b t n f) (hb : Below (w.alloc o).heap.size (w.alloc o) w') : Has w' b t n f := h.below (box_trans hb) h.lt
theorem Has.on {w w' : World} {b n : Nat} {t : TypeId} {f : Nat → Value} (h : Has w b t n f) (hb : Below w.heap.size w w') : Has w' b t n f := h.below hb h.lt
theorem has_kept {w w' : World} {a b : Int} (hb : Below (w.alloc (.cells #[.int .i64 a, .int .i64 b] 23)).heap.size (w.alloc (.cells #[.int .i64 a, .int .i64 b] 23)) w') : Has w' w.heap.size 23 2 (two a b) :=
  (has_two w a b _).on hb

set_option maxRecDepth 100000 in
set_option maxHeartbeats 1600000 in
theorem lawRolls {w : World} (a b c d n o i : Int) (n1 : n ≤ 9223372036854775807) (o0 : 0 ≤ o) (o1 : o < 256) (i0 : 0 ≤ i) (i1 : i < 256) :
    Calls Try.prog 5 #[.agg #[.int .i64 a, .int .i64 b, .int .i64 c, .int .i64 d, .int .i64 n, .int .u8 o, .int .u8 i]] w (BoolRet w true) := by
  have R1 := Lib.hid (roll_any a b n o i n1 o0 o1 i0 i1)
  have R2 := Lib.hid (refRoll_any a b n o i n1 o0 o1 i0 i1)
  have J1 := Lib.hid (join_any a b c d n n1)
  have J2 := Lib.hid (refJoin_any a b c d n n1)
  clear n1 o0 o1 i0 i1
  generalize rollT (a, b) n o i = z at *
  generalize rollE (a, b) n = ez at *
  generalize joinT (a, b) (c, d) n = y at *
  generalize joinE (a, b) (c, d) n = ey at *
  go_enter Try.func5, Try.ntmps5
  go_wp2_with fail
  have hf := F2.start (w.alloc (.cells #[.int .i64 a, .int .i64 b, .int .i64 c, .int .i64 d, .int .i64 n, .int .u8 o, .int .u8 i] 33)) a b c d
  refine (shown_any _).mono ?_; rintro e w1 ⟨rfl, hb1⟩
  have hf1 := hf.up hb1
  have hx := hf1.x
  have hy := hf1.z
  rw [size_alloc] at hx hy
  have B1 := Lib.hid (box_trans hf1.below)
  have X1 := Lib.hid hx
  have Y1 := Lib.hid hy
  clear hf hf1 hb1 hx hy
  obtain ⟨x0, x1⟩ := X1.out.pair
  -- the program's roll
  go_wp2_with fail
  refine (R1.out _).mono ?_; rintro e w2 ⟨rfl, hb2⟩
  have B2 := Lib.hid (up_trans B1.out hb2)
  have X2 := Lib.hid (X1.out.on hb2)
  have Y2 := Lib.hid (Y1.out.on hb2)
  clear hb2 x0 x1 X1 Y1 B1
  obtain ⟨x0, x1⟩ := X2.out.pair
  have x2 := X2.out.lt
  -- the document's
  go_wp2_with fail
  refine (R2.out _).mono ?_; rintro e w3 ⟨rfl, hb3⟩
  have B3 := Lib.hid (up_trans B2.out (box_trans hb3))
  have X3 := Lib.hid (X2.out.over hb3)
  have Y3 := Lib.hid (Y2.out.over hb3)
  have P3 := Lib.hid (has_kept hb3)
  clear hb3 x0 x1 x2 X2 Y2 B2
  obtain ⟨x0, x1⟩ := X3.out.pair
  have x2 := X3.out.lt
  obtain ⟨y0, y1⟩ := Y3.out.pair
  have y2 := Y3.out.lt
  -- the program's join
  go_wp2_with fail
  refine (J1.out _).mono ?_; rintro e w4 ⟨rfl, hb4⟩
  have B4 := Lib.hid (up_trans B3.out (box_trans hb4))
  have X4 := Lib.hid (X3.out.over hb4)
  have Y4 := Lib.hid (Y3.out.over hb4)
  have P4 := Lib.hid (P3.out.over hb4)
  have Q4 := Lib.hid (has_kept hb4)
  clear hb4 x0 x1 x2 y0 y1 y2 X3 Y3 B3 P3
  obtain ⟨x0, x1⟩ := X4.out.pair
  have x2 := X4.out.lt
  obtain ⟨y0, y1⟩ := Y4.out.pair
  have y2 := Y4.out.lt
  -- the document's
  go_wp2_with fail
  refine (J2.out _).mono ?_; rintro e w5 ⟨rfl, hb5⟩
  have B5 := Lib.hid (up_trans B4.out (box_trans hb5))
  have P5 := Lib.hid (P4.out.over hb5)
  have Q5 := Lib.hid (Q4.out.over hb5)
  have U5 := Lib.hid (has_kept hb5)
  clear hb5 x0 x1 x2 y0 y1 y2 X4 Y4 B4 P4 Q4
  obtain ⟨p0, p1⟩ := P5.out.pair
  have p2 := P5.out.lt
  obtain ⟨q0, q1⟩ := Q5.out.pair
  have q2 := Q5.out.lt
  obtain ⟨u0, u1⟩ := U5.out.pair
  have u2 := U5.out.lt
  go_wp2
  go_ret
  exact ⟨rfl, B5.out.alloc B5.out.size _⟩
end Go.Proofs.Ytjegopkaficbpaa.Mat
