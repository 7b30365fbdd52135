/- The document's List: walked. -/
import Derived.Test.YtofafmjkjgiccaaSheTell
namespace Go.Proofs.Ytofafmjkjgiccaa.Mat
open Go.RowKit Fld

theorem two_news10 {w : World} (x y : Value) (t : TypeId) : ∀ j u, ([x, y] : List Value)[j]? = some u → (w.alloc (.cells #[x, y] t)).cell? ((⟨w.heap.size, 0, none⟩ : Addr).add j) = some u := by
  intro j u hu
  have hj : j = 0 ∨ j = 1 := by
    rcases Nat.lt_or_ge j 2 with h | h
    · omega
    · rw [List.getElem?_eq_none (by simp; omega)] at hu; cases hu
  have hh := has_new (n := 2) (f := fun j => if j = 0 then x else y) w #[x, y] t (fun j hj => by
    have : j = 0 ∨ j = 1 := by omega
    rcases this with rfl | rfl <;> rfl)
  rw [add_lit]
  rcases hj with rfl | rfl
  · rw [hh.cell (by omega)]; simpa using hu
  · rw [hh.cell (by omega)]; simpa using hu
section
variable {w : World} {A B : Option Addr} {c k : Nat} {d : Dk}
set_option maxRecDepth 100000 in
set_option maxHeartbeats 6400000 in
theorem refList_any (h : DOk w A c B k d) :
    Calls Try.prog 20 #[.agg #[.slice A d.n c, .slice B d.m k, .int .i64 d.fuse, .bool d.off]] w (KeysRet w (ks (gs d) d.n)) := by
  obtain ⟨i0, hi0, hz0, hz1, hz2⟩ := info_parts infoKey
  obtain ⟨W, hW, hX, hD, hB⟩ := box_start h
  have hbn := h.sz.bn
  have c1 := fun W' (hb : Below W.heap.size W W') (j : Nat) (hj : j < d.n) => refAt_any (hD.up hb) j hj
  have C1 := Lib.hid c1
  have HX := Lib.hid hX
  have HB := Lib.hid hB
  clear c1 hX hB hD h
  go_enter Try.func20, Try.ntmps20
  go_upto_region 1 with fail
  rw [← hW]
  clear hW
  go_wp2
  go_loopg [3, 4] d.n (fun gh y x wr => ∃ (j : Nat) (vv : Value), j ≤ d.n ∧ gh = d.n - j ∧ vv = y ∧ KRow W wr vv (ks (gs d) j) ∧ x = .int .i64 (j : Nat))
  case atStart => exact ⟨0, _, Nat.zero_le _, rfl, rfl, KRow.start W, rfl⟩
  case round =>
    obtain ⟨j, vv, hj, hgh, hvv, hch, rfl⟩ := hrel
    subst hvv
    have HCH := Lib.hid hch
    obtain ⟨x0, x1, x2, x3⟩ := (HX.out.up hch.below).cells
    clear hch
    by_cases hlt : j < d.n
    rotate_left
    · have hjz : ¬ (j : Int) < (d.n : Int) := by omega
      obtain rfl : j = d.n := by omega
      obtain ⟨A9, c9, rfl, hN⟩ := HCH.out.kr
      have HN := Lib.hid hN
      clear hN
      go_wp2
      go_ret
      exact ⟨A9, c9, rfl, HN.out, up_trans HB.out HCH.out.below⟩
    have hjz : (j : Int) < (d.n : Int) := by omega
    have hc1 := fun w2 (hb : Below W.heap.size W w2) => C1.out w2 hb j hlt
    have q0 : getS d (j : Int) = gs d j := rfl
    rw [q0] at hc1
    have HLE := Lib.hid (ks_len (gs d) j)
    have hy := ks_yes (S := gs d) (k := j)
    have hn := ks_no (S := gs d) (k := j)
    have hin := inK_all (l := ks (gs d) j) (p := (shV (gs d j), shI (gs d j)))
    generalize hl : ks (gs d) j = l at *
    generalize ((gs d j).size == 0) = e0 at *
    generalize shX (gs d j) = sx at *
    generalize shV (gs d j) = sv at *
    generalize shI (gs d j) = si at *
    have HC := Lib.hid hc1
    have HIN := Lib.hid hin
    have HY := Lib.hid hy
    have HN := Lib.hid hn
    clear hc1 hy hn hin q0 hl
    have hlb : l.length ≤ 140737488351232 := by have := HLE.out; omega
    generalize shB (gs d j) = sb at *
    obtain ⟨A9, c9, rfl, hkr⟩ := HCH.out.kr
    clear hkr
    go_wp2_with fail
    refine (HC.out _ HCH.out.below).mono ?_; rintro e w2 ⟨rfl, hb2⟩
    have hbs := hb2.alloc hb2.size (.cells #[.int .i64 (sv : Int), .int .i64 (si : Int), .string sx] 23)
    have hbk := hbs.alloc hbs.size (.cells #[.int .i64 (sv : Int), .int .i64 (si : Int)] 41)
    have H4 := Lib.hid (HCH.out.under hbk)
    obtain ⟨y0, y1, y2⟩ := (sx_new w2 (sv : Int) (si : Int) sx).cells
    have kx := (kx_new (w2.alloc (.cells #[.int .i64 (sv : Int), .int .i64 (si : Int), .string sx] 23)) (sv : Int) (si : Int)).cells
    rw [size_alloc] at kx
    have HKX := Lib.hid kx
    clear hb2 hbs hbk kx x0 x1 x2 x3
    go_upto_region 7 with fail
    generalize (w2.alloc (.cells #[.int .i64 (sv : Int), .int .i64 (si : Int), .string sx] 23)).alloc (.cells #[.int .i64 (sv : Int), .int .i64 (si : Int)] 41) = w4 at *
    generalize w2.heap.size = g2 at *
    clear y0 y1 y2
    obtain ⟨A8, c8, hv8, hkr⟩ := H4.out.kr
    injection hv8 with e8 _ e9
    subst e8 e9
    have HKR := Lib.hid hkr
    clear hkr
    obtain ⟨k0, k1⟩ := HKX.out
    go_wp2
    go_loopg [9, 10] l.length (fun gh u x wz => ∃ q n : Nat, q ≤ l.length ∧ gh = l.length - q ∧ u = .bool (inK l (sv, si) q) ∧ x = .int .i64 (q : Nat) ∧ wz = w4.drewN n)
    case atStart => exact ⟨0, 0, Nat.zero_le _, rfl, rfl, rfl, rfl⟩
    case round =>
      obtain ⟨q, n, hq, hgh2, rfl, rfl, rfl⟩ := hrel
      by_cases hql : q < l.length
      · have hqz : (q : Int) < (l.length : Int) := by omega
        obtain ⟨ad, e, _, f0, f1⟩ := HKR.out.at_ hql
        subst e
        cases hb : inK l (sv, si) q
        · have hnq := fun W => eqlK ((l[q].1 : Nat) : Int) ((l[q].2 : Nat) : Int) (sv : Int) (si : Int) W
          have hyes := fun e => inK_yes (p := (sv, si)) hql e
          have hno := fun e => inK_no (p := (sv, si)) hql e hb
          generalize l[q] = p at *
          obtain ⟨p1, p2⟩ := p
          dsimp only at f0 f1 hnq
          by_cases he : p1 = sv ∧ p2 = si
          · have t1 : ((p1 : Int) == (sv : Int) && (p2 : Int) == (si : Int)) = true := by rw [he.1, he.2]; simp
            have HT := Lib.hid (hyes (by rw [he.1, he.2]))
            rw [t1] at hnq
            clear hyes hno t1 he hb
            go_wp2_with fail
            go_quiet (fail)
            go_wp2
            go_roundg (l.length - (q + 1))
            case measure => go_light; omega
            case rel => go_light; exact ⟨q + 1, _, by omega, rfl, by rw [HT.out], by simp, rfl⟩
          · have t1 : ((p1 : Int) == (sv : Int) && (p2 : Int) == (si : Int)) = false := by
              rw [Bool.and_eq_false_iff, beq_eq_false_iff_ne, beq_eq_false_iff_ne]
              omega
            have HT := Lib.hid (hno (fun e => he (by injection e with e1 e2; exact ⟨e1, e2⟩)))
            rw [t1] at hnq
            clear hyes hno t1 he hb
            go_wp2_with fail
            go_quiet (fail)
            go_wp2
            go_roundg (l.length - (q + 1))
            case measure => go_light; omega
            case rel => go_light; exact ⟨q + 1, _, by omega, rfl, by rw [HT.out], by simp, rfl⟩
        · have HT := Lib.hid (inK_on hb)
          clear hb
          go_wp2_with fail
          go_quiet (fail)
          go_wp2
          go_roundg (l.length - (q + 1))
          case measure => go_light; omega
          case rel => go_light; exact ⟨q + 1, _, by omega, rfl, by rw [HT.out], by simp, rfl⟩
      have hqz : ¬ (q : Int) < (l.length : Int) := by omega
      obtain rfl : q = l.length := by omega
      have H5 := Lib.hid (H4.out.under (below_drewN (Below.refl _ _) n))
      by_cases hadd : sb = true ∧ (sv, si) ∉ l
      · obtain ⟨h1, h2⟩ := hadd
        subst h1
        have HT := Lib.hid (HY.out rfl h2)
        rw [HIN.out, decide_eq_false h2]
        have k0' : (w4.drewN n).cell? ⟨g2 + 1, 0, none⟩ = some (.int .i64 (sv : Int)) := k0
        have k1' : (w4.drewN n).cell? ⟨g2 + 1, 1, none⟩ = some (.int .i64 (si : Int)) := k1
        have kl := kcs_len l
        have HKL := Lib.hid kl
        clear h2 kl k0 k1
        generalize w4.drewN n = w5 at *
        go_wp2_with (at_builtin; refine wpList_append_own _ rfl (.tmp 50) (.tmp 52) 43 rfl W.heap.size 41 i0 (.agg #[.int .i64 0, .int .i64 0]) 2 16 Try.underlying43 hi0 hz0 hz1 hz2 rfl (by decide) _ _ _ rfl (H5.out.own.alloc _) ⟨w5.heap.size, 0, none⟩ 1 1 [.int .i64 (sv : Int), .int .i64 (si : Int)] rfl rfl (two_news10 _ _ _) (by simp [Value.oneCell']) (by have := HLE.out; unfold maxLen; omega) (by have := HLE.out; omega) (by rw [size_alloc]; have := H5.out.below.size; omega) ?_)
        intro v' w' hown hgrow _
        have HNN := Lib.hid (H5.out.next (p := (sv, si)) hown hgrow)
        clear hown hgrow
        go_wp2
        go_roundg (d.n - (j + 1))
        case measure => go_light; omega
        case rel => go_light; exact ⟨j + 1, _, by omega, rfl, rfl, by rw [HT.out]; exact HNN.out, by simp⟩
      · have HT := Lib.hid (HN.out hadd)
        cases sb
        · go_wp2
          go_roundg (d.n - (j + 1))
          case measure => go_light; omega
          case rel => go_light; exact ⟨j + 1, _, by omega, rfl, rfl, by rw [HT.out]; exact H5.out, by simp⟩
        · have h2 : (sv, si) ∈ l := Classical.byContradiction (fun q => hadd ⟨rfl, q⟩)
          rw [HIN.out, decide_eq_true h2]
          clear h2 hadd
          go_wp2
          go_roundg (d.n - (j + 1))
          case measure => go_light; omega
          case rel => go_light; exact ⟨j + 1, _, by omega, rfl, rfl, by rw [HT.out]; exact H5.out, by simp⟩
end
end Go.Proofs.Ytofafmjkjgiccaa.Mat
