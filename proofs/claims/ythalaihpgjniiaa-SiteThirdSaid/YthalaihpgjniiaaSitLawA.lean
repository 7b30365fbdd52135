/- The laws SiteRings and SiteNexts: walked from what they ask of the program. -/
import Derived.Test.YthalaihpgjniiaaSitOk
namespace Go.Proofs.Ythalaihpgjniiaa.Mat
open Go.RowKit Fld

theorem stL_len (p : Nat → Bool) (vol region many nodes : Int) : (stL p vol region many nodes).length ≤ 64 := by
  have := rgL_len p vol nodes
  rcases st_or p vol region many nodes with ⟨_, e⟩ | ⟨_, _, _, _, e⟩
  · rw [e]; exact Nat.zero_le _
  · rw [e, List.length_take, List.length_map]; omega
theorem box5 (w : World) (p q r s u : Value) (t : TypeId) : (w.alloc (.cells #[p, q, r, s, u] t)).cell? ⟨w.heap.size, 0, none⟩ = some p ∧ (w.alloc (.cells #[p, q, r, s, u] t)).cell? ⟨w.heap.size, 1, none⟩ = some q ∧ (w.alloc (.cells #[p, q, r, s, u] t)).cell? ⟨w.heap.size, 2, none⟩ = some r ∧ (w.alloc (.cells #[p, q, r, s, u] t)).cell? ⟨w.heap.size, 3, none⟩ = some s ∧ (w.alloc (.cells #[p, q, r, s, u] t)).cell? ⟨w.heap.size, 4, none⟩ = some u := by
  have h := has_new (n := 5) (f := fun i => if i = 0 then p else if i = 1 then q else if i = 2 then r else if i = 3 then s else u) w #[p, q, r, s, u] t (fun i hi => by
    rcases (show i = 0 ∨ i = 1 ∨ i = 2 ∨ i = 3 ∨ i = 4 by omega) with rfl | rfl | rfl | rfl | rfl <;> rfl)
  exact ⟨h.cell (show 0 < 5 by omega), h.cell (show 1 < 5 by omega), h.cell (show 2 < 5 by omega), h.cell (show 3 < 5 by omega), h.cell (show 4 < 5 by omega)⟩
section
variable {w : World} {A B : Option Addr} {c k N : Nat} {f : Nat → Bool}
set_option maxRecDepth 100000 in
set_option maxHeartbeats 3200000 in
theorem lawRings (C : SiteOk) (vol region many nodes : Int) (h1 : I64 vol) (h2 : I64 region) (h3 : I64 many) (h4 : I64 nodes) (hN : N ≤ 140737488355328) (hF : Fit A N c) (h : Bl w w.heap.size A N f) :
    Calls Try.prog 3 #[.agg #[.int .i64 vol, .int .i64 region, .int .i64 many, .int .i64 nodes, .slice A N c]] w (BoolRet w true) := by
  have CS := Lib.hid (siteShown_any C)
  have hB := (Below.refl w.heap.size w).alloc (Nat.le_refl _) (.cells #[.int .i64 vol, .int .i64 region, .int .i64 many, .int .i64 nodes, .slice A N c] 24)
  have hh := h.up hB
  obtain ⟨bx0, bx1, bx2, bx3, bx4⟩ := box5 w (.int .i64 vol) (.int .i64 region) (.int .i64 many) (.int .i64 nodes) (.slice A N c) 24
  generalize hW : w.alloc (.cells #[.int .i64 vol, .int .i64 region, .int .i64 many, .int .i64 nodes, .slice A N c] 24) = W at *
  have c1 := fun W' (hb : Below W.heap.size W W') => C.ring W' vol nodes A N c f h1 h4 hN hF (hh.up hb)
  have c2 := fun W' (hb : Below W.heap.size W W') => refRing_any (w := W') (c := c) vol nodes N f (hh.up hb)
  have c3 := fun W' (hb : Below W.heap.size W W') => C.spread W' vol region many nodes A N c f h1 h2 h3 h4 hN hF (hh.up hb)
  have c4 := fun W' (hb : Below W.heap.size W W') => refSpread_any (w := W') (c := c) vol region many nodes h3.2 N f (hh.up hb)
  have l1 := rgL_len (lv f N) vol nodes
  have l2 := stL_len (lv f N) vol region many nodes
  generalize rgL (lv f N) vol nodes = R at *
  generalize stL (lv f N) vol region many nodes = L at *
  generalize stE (lv f N) vol region many nodes = E at *
  have C1 := Lib.hid c1
  have C2 := Lib.hid c2
  have C3 := Lib.hid c3
  have C4 := Lib.hid c4
  have HB := Lib.hid hB
  have L1 : Hid (R.length ≤ 9223372036854775807) := Lib.hid (by omega)
  have L2 : Hid (L.length ≤ 9223372036854775807) := Lib.hid (by omega)
  clear c1 c2 c3 c4 hB hh h h1 h2 h3 h4 hF C hN l1 l2
  go_enter Try.func3, Try.ntmps3
  go_upto_region 1 with fail
  clear hW
  go_wp2_with fail
  clear bx0 bx1 bx2 bx3 bx4
  refine (CS.out _).mono ?_; rintro e w1 ⟨rfl, hb1⟩
  have H1 := Lib.hid hb1
  clear hb1
  go_wp2_with fail
  refine (C1.out _ H1.out).mono ?_; rintro e w2 ⟨A2, c2, rfl, hn2, hb2⟩
  have H2 := Lib.hid (up_trans H1.out hb2)
  have N2 := Lib.hid hn2
  clear hb2 hn2
  go_wp2_with fail
  refine (C2.out _ H2.out).mono ?_; rintro e w3 ⟨A3, c3, rfl, hn3, hb3⟩
  have H3 := Lib.hid (up_trans H2.out hb3)
  have N3 := Lib.hid (N2.out.up hb3)
  have M3 := Lib.hid hn3
  clear hb3 hn3 N2
  go_wp2_with fail
  refine (refInts_any R R L1.out L1.out N3.out M3.out).mono ?_; rintro e w4 ⟨rfl, hb4⟩
  rw [show decide (R = R) = true from decide_eq_true rfl]
  have H4 := Lib.hid (up_trans H3.out hb4)
  clear hb4 N3 M3
  go_wp2_with fail
  refine (C3.out _ H4.out).mono ?_; rintro e w5 ⟨A5, c5, rfl, hn5, hb5⟩
  have H5 := Lib.hid (up_trans H4.out hb5)
  have N5 := Lib.hid hn5
  clear hb5 hn5
  go_wp2_with fail
  refine (C4.out _ H5.out).mono ?_; rintro e w6 ⟨A6, c6, rfl, hn6, hb6⟩
  have H6 := Lib.hid (up_trans H5.out hb6)
  have N6 := Lib.hid (N5.out.up hb6)
  have M6 := Lib.hid hn6
  clear hb6 hn6 N5
  go_wp2_with fail
  refine (refPlaces_any L L L2.out L2.out N6.out M6.out).mono ?_; rintro e w7 ⟨rfl, hb7⟩
  rw [show decide (L = L) = true from decide_eq_true rfl]
  have H7 := Lib.hid (up_trans HB.out (up_trans H6.out hb7))
  clear hb7 N6 M6
  go_wp2
  go_ret
  exact ⟨ret_bool (by first | rfl | decide | simp), H7.out⟩

set_option maxRecDepth 100000 in
set_option maxHeartbeats 3200000 in
theorem lawNexts (C : SiteOk) (a b : Int) (l : List (Int × Int)) (nodes : Int) (h1 : I64 a) (h2 : I64 b) (hl : l.length * 16 ≤ 140737488355328) (hl2 : ∀ r, r < l.length → I64 (pq l r).1 ∧ I64 (pq l r).2) (h4 : I64 nodes) (hN : N ≤ 140737488355328) (hF : Fit B l.length k) (hF2 : Fit A N c) (hP : Pl w w.heap.size B l) (h : Bl w w.heap.size A N f) :
    Calls Try.prog 4 #[.agg #[.int .i64 a, .int .i64 b, .slice B l.length k, .int .i64 nodes, .slice A N c]] w (BoolRet w true) := by
  have CS := Lib.hid (siteShown_any C)
  have hB := (Below.refl w.heap.size w).alloc (Nat.le_refl _) (.cells #[.int .i64 a, .int .i64 b, .slice B l.length k, .int .i64 nodes, .slice A N c] 38)
  have hh := h.up hB
  obtain ⟨bx0, bx1, bx2, bx3, bx4⟩ := box5 w (.int .i64 a) (.int .i64 b) (.slice B l.length k) (.int .i64 nodes) (.slice A N c) 38
  have hp := hP.up hB
  generalize hW : w.alloc (.cells #[.int .i64 a, .int .i64 b, .slice B l.length k, .int .i64 nodes, .slice A N c] 38) = W at *
  have c1 := fun W' => C.third W' a b h1 h2
  have c2 := fun W' => refThird_any a b W'
  have c3 := fun W' (hb : Below W.heap.size W W') => C.next W' l nodes B A k N c f hl hl2 h4 hN hF hF2 (hp.up hb) (hh.up hb)
  have c4 := fun W' (hb : Below W.heap.size W W') => refNext_any (w := W') (c := k) (c2 := c) l (by omega) nodes N f (hp.up hb) (hh.up hb)
  generalize thR a b = R at *
  generalize thE a b = E at *
  generalize nxE (lv f N) l nodes = E2 at *
  generalize nxR (lv f N) l nodes = R2 at *
  generalize nxN (lv f N) l nodes = N2 at *
  have hq := fun W => eqlP R2 N2 R2 N2 W
  rw [show (R2 == R2 && N2 == N2) = true by simp] at hq
  have C1 := Lib.hid c1
  have C2 := Lib.hid c2
  have C3 := Lib.hid c3
  have C4 := Lib.hid c4
  have HB := Lib.hid hB
  clear c1 c2 c3 c4 hB hh hp hP h h1 h2 h4 hF hF2 C hN hl hl2
  go_enter Try.func4, Try.ntmps4
  go_upto_region 1 with fail
  clear hW
  go_wp2_with fail
  clear bx0 bx1 bx2 bx3 bx4
  refine (CS.out _).mono ?_; rintro e w1 ⟨rfl, hb1⟩
  have H1 := Lib.hid hb1
  clear hb1
  go_wp2_with fail
  refine (C1.out _).mono ?_; rintro e w2 ⟨rfl, hb2⟩
  have H2 := Lib.hid (up_trans H1.out hb2)
  clear hb2
  go_wp2_with fail
  refine (C2.out _).mono ?_; rintro e w3 ⟨rfl, hb3⟩
  have H3 := Lib.hid (up_trans H2.out hb3)
  clear hb3
  go_wp2_with fail
  refine (C3.out _ H3.out).mono ?_; rintro e w4 ⟨rfl, hb4⟩
  have hb5 := hb4.alloc hb4.size (.cells #[.int .i64 R2, .int .i64 N2] 44)
  have H5 := Lib.hid (up_trans H3.out hb5)
  have P5 := Lib.hid (px_new w4 R2 N2)
  clear hb4 hb5
  go_wp2_with fail
  refine (C4.out _ H5.out).mono ?_; rintro e w6 ⟨rfl, hb6⟩
  have hb7 := hb6.alloc hb6.size (.cells #[.int .i64 R2, .int .i64 N2] 44)
  have H7 := Lib.hid (up_trans HB.out (up_trans H5.out hb7))
  obtain ⟨x0, x1⟩ := (P5.out.up hb7).cells
  obtain ⟨y0, y1⟩ := (px_new w6 R2 N2).cells
  clear hb6 hb7
  go_wp2
  go_ret
  exact ⟨ret_bool (by first | rfl | decide | simp), H7.out⟩
end
end Go.Proofs.Ythalaihpgjniiaa.Mat
