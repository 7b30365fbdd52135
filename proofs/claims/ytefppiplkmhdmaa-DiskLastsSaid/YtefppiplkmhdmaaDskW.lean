/- The law DiskFails: walked. -/
import Derived.Test.YtefppiplkmhdmaaDskV
namespace Go.Proofs.Ytefppiplkmhdmaa.Mat
open Go.RowKit Fld

section
variable {w : World} {d o : Dk} {A B A' B' : Option Addr} {c k c' k' : Nat}
theorem law_start2 (h : DOk w A c B k d) (h' : DOk w A' c' B' k' o) (X : Obj) : Vr (((w.alloc X).alloc (.cells #[.slice A d.n c, .slice B d.m k, .int .i64 d.fuse, .bool d.off] 25)).alloc (.cells #[.slice A' o.n c', .slice B' o.m k', .int .i64 o.fuse, .bool o.off] 25)) (w.heap.size + 1) d A c B k ∧
    Vr (((w.alloc X).alloc (.cells #[.slice A d.n c, .slice B d.m k, .int .i64 d.fuse, .bool d.off] 25)).alloc (.cells #[.slice A' o.n c', .slice B' o.m k', .int .i64 o.fuse, .bool o.off] 25)) (w.heap.size + 1 + 1) o A' c' B' k' ∧
    Below w.heap.size w (((w.alloc X).alloc (.cells #[.slice A d.n c, .slice B d.m k, .int .i64 d.fuse, .bool d.off] 25)).alloc (.cells #[.slice A' o.n c', .slice B' o.m k', .int .i64 o.fuse, .bool o.off] 25)) := by
  obtain ⟨h1, h2⟩ := law_start h X
  have h3 := Vr.new (h'.up h2)
  rw [size_alloc, size_alloc] at h3
  exact ⟨h1.alloc _, h3, h2.alloc h2.size _⟩
set_option maxRecDepth 100000 in
set_option maxHeartbeats 3200000 in
theorem lawFails (h : DOk w A c B k d) (h' : DOk w A' c' B' k' o) (keep tear slot : Int) (a0 : -9223372036854775808 ≤ keep) (a1 : keep ≤ 9223372036854775807) (x : BitVec 32) :
    Calls Try.prog 4 #[.agg #[.slice A d.n c, .slice B d.m k, .int .i64 d.fuse, .bool d.off, .int .i64 keep, .int .i64 tear, .int .i64 slot, .int .u32 (V32 x), .slice A' o.n c', .slice B' o.m k', .int .i64 o.fuse, .bool o.off]] w (BoolRet w true) := by
  have c1 := fun W A c B k (h : DOk W A c B k d) => crash_any h keep tear
  have c2 := fun W A c B k (h : DOk W A c B k d) => refCrash_any h keep tear
  have c3 := fun W A c B k (h : DOk W A c B k d) => arm_any h keep a0 a1
  have c4 := fun W A c B k (h : DOk W A c B k d) => refArm_any h keep a0 a1
  have c5 := fun W A c B k (h : DOk W A c B k d) => burst_any h slot keep a1 x
  have c6 := fun W A c B k (h : DOk W A c B k d) => refBurst_any h slot keep a1 x
  generalize crashD d keep tear = D1 at *
  generalize armD d keep = D2 at *
  generalize burstD d slot keep x = D3 at *
  generalize burstE d slot keep = E3 at *
  generalize V32 x = v at *
  have C1 := Lib.hid c1
  have C2 := Lib.hid c2
  have C3 := Lib.hid c3
  have C4 := Lib.hid c4
  have C5 := Lib.hid c5
  have C6 := Lib.hid c6
  obtain ⟨hV, hO, hB⟩ := law_start2 h h' (.cells #[.slice A d.n c, .slice B d.m k, .int .i64 d.fuse, .bool d.off, .int .i64 keep, .int .i64 tear, .int .i64 slot, .int .u32 v, .slice A' o.n c', .slice B' o.m k', .int .i64 o.fuse, .bool o.off] 46)
  have Hd := Lib.hid hV
  have Ho := Lib.hid hO
  have HB0 := Lib.hid hB
  clear c1 c2 c3 c4 c5 c6 h h' hV hO hB
  go_enter Try.func4, Try.ntmps4
  go_upto_region 7 with fail
  generalize ((w.alloc (.cells #[.slice A d.n c, .slice B d.m k, .int .i64 d.fuse, .bool d.off, .int .i64 keep, .int .i64 tear, .int .i64 slot, .int .u32 v, .slice A' o.n c', .slice B' o.m k', .int .i64 o.fuse, .bool o.off] 46)).alloc (.cells #[.slice A d.n c, .slice B d.m k, .int .i64 d.fuse, .bool d.off] 25)).alloc (.cells #[.slice A' o.n c', .slice B' o.m k', .int .i64 o.fuse, .bool o.off] 25) = w0 at *
  go_wp2_with fail
  refine (shown_any _).mono ?_; rintro e w1 ⟨rfl, hb1⟩
  have Nd := Lib.hid (Hd.out.up hb1)
  have No := Lib.hid (Ho.out.up hb1)
  clear Hd Ho
  have Hd := Nd
  have Ho := No
  clear Nd No
  have HB1 := Lib.hid (up_trans HB0.out hb1)
  clear hb1 HB0
  obtain ⟨da, db, dc, dd⟩ := Hd.out.cells
  go_upto_region 8 with fail
  have K : Hid (∀ W, Below w1.heap.size w1 W → W.cell? ⟨w.heap.size + 1, 0, none⟩ = some (.slice A d.n c) ∧ W.cell? ⟨w.heap.size + 1, 1, none⟩ = some (.slice B d.m k) ∧ W.cell? ⟨w.heap.size + 1, 2, none⟩ = some (.int .i64 d.fuse) ∧ W.cell? ⟨w.heap.size + 1, 3, none⟩ = some (.bool d.off)) := Lib.hid (fun W hb => (Hd.out.up hb).cells)
  go_cut [10] from 29 to 46 (fun s wx => s = .bool true ∧ Below w1.heap.size w1 wx)
  case first =>
    go_region_held3 (fun W => W.cell? ⟨w.heap.size + 1, 0, none⟩ = some (.slice A d.n c) ∧ W.cell? ⟨w.heap.size + 1, 1, none⟩ = some (.slice B d.m k) ∧ W.cell? ⟨w.heap.size + 1, 2, none⟩ = some (.int .i64 d.fuse) ∧ W.cell? ⟨w.heap.size + 1, 3, none⟩ = some (.bool d.off))
      (first | exact ⟨da, db, dc, dd⟩ | exact K.out _ b7.out | exact K.out _ b6.out | exact K.out _ b5.out | exact K.out _ b4.out | exact K.out _ b3.out | exact K.out _ b2.out | go_keep)
      (first
        | (go_at_call 20; (with_reducible refine Calls.mono (C1.out _ _ _ _ _ Hd.out.ok.drew) ?_); rintro e w2 ⟨A2, c2, B2, k2, rfl, ok2, hb2⟩; have b2 : Hid (Below w1.heap.size w1 w2) := Lib.hid ⟨hb2.os, hb2.tape, hb2.output, hb2.size, hb2.block⟩; have O2 := Lib.hid ok2; clear ok2 hb2)
        | (go_at_call 21; (with_reducible refine Calls.mono (C2.out _ _ _ _ _ (Hd.out.ok.up b2.out)) ?_); rintro e w3 ⟨A3, c3, B3, k3, rfl, ok3, hb3⟩; have b3 := Lib.hid (up_trans b2.out hb3); have O3 := Lib.hid ok3; have P2 := Lib.hid (O2.out.up hb3); clear ok3 hb3)
        | (go_at_call 19; (with_reducible refine Calls.mono (refSame_any P2.out O3.out) ?_); rintro e w4 ⟨rfl, hb4⟩; rw [same_self]; have b4 := Lib.hid (up_trans b3.out hb4); clear hb4 P2)
        | (go_at_call 22; (with_reducible refine Calls.mono (C3.out _ _ _ _ _ (Hd.out.ok.up b4.out)) ?_); rintro e w5 ⟨A5, c5, B5, k5, rfl, ok5, hb5⟩; have b5 := Lib.hid (up_trans b4.out hb5); have O5 := Lib.hid ok5; clear ok5 hb5)
        | (go_at_call 23; (with_reducible refine Calls.mono (C4.out _ _ _ _ _ (Hd.out.ok.up b5.out)) ?_); rintro e w6 ⟨A6, c6, B6, k6, rfl, ok6, hb6⟩; have b6 := Lib.hid (up_trans b5.out hb6); have O6 := Lib.hid ok6; have P5 := Lib.hid (O5.out.up hb6); clear ok6 hb6)
        | (go_at_call 19; (with_reducible refine Calls.mono (refSame_any P5.out O6.out) ?_); rintro e w7 ⟨rfl, hb7⟩; rw [same_self]; have b7 := Lib.hid (up_trans b6.out hb7); clear hb7))
    all_goals
      go_wp2_with fail
      go_meet
      case rel => go_light; exact ⟨rfl, b7.out⟩
  case rest =>
    obtain ⟨rfl, hb7⟩ := hcut
    have Nd := Lib.hid (Hd.out.up hb7)
    have No := Lib.hid (Ho.out.up hb7)
    have HB7 := Lib.hid (up_trans HB1.out hb7)
    clear Hd Ho HB1 K hb7 da db dc dd C1 C2 C3 C4
    have Hd := Nd
    have Ho := No
    clear Nd No
    obtain ⟨da, db, dc, dd⟩ := Hd.out.cells
    go_wp2_with fail
    clear da db dc dd
    refine (C5.out _ _ _ _ _ Hd.out.ok).mono ?_; rintro e w8 ⟨A8, c8, B8, k8, rfl, ok8, hb8⟩
    have Nd := Lib.hid ((Hd.out.up hb8).alloc (.cells #[.slice A8 D3.n c8, .slice B8 D3.m k8, .int .i64 D3.fuse, .bool D3.off] 25))
    have No := Lib.hid ((Ho.out.up hb8).alloc (.cells #[.slice A8 D3.n c8, .slice B8 D3.m k8, .int .i64 D3.fuse, .bool D3.off] 25))
    clear Hd Ho
    have Hd := Nd
    have Ho := No
    clear Nd No
    have Ha := Lib.hid (Vr.new ok8)
    have hbb := up_trans HB7.out hb8
    have HB8 := Lib.hid (hbb.alloc hbb.size (.cells #[.slice A8 D3.n c8, .slice B8 D3.m k8, .int .i64 D3.fuse, .bool D3.off] 25))
    clear hbb ok8 hb8 HB7
    go_upto_region 10 with fail
    generalize w8.alloc (.cells #[.slice A8 D3.n c8, .slice B8 D3.m k8, .int .i64 D3.fuse, .bool D3.off] 25) = W8 at *
    generalize w8.heap.size = g8 at *
    obtain ⟨da, db, dc, dd⟩ := Hd.out.cells
    go_wp2_with fail
    clear da db dc dd
    refine (C6.out _ _ _ _ _ Hd.out.ok).mono ?_; rintro e w9 ⟨A9, c9, B9, k9, rfl, ok9, hb9⟩
    have Nd := Lib.hid ((Hd.out.up hb9).alloc (.cells #[.slice A9 D3.n c9, .slice B9 D3.m k9, .int .i64 D3.fuse, .bool D3.off] 25))
    have No := Lib.hid ((Ho.out.up hb9).alloc (.cells #[.slice A9 D3.n c9, .slice B9 D3.m k9, .int .i64 D3.fuse, .bool D3.off] 25))
    have Na := Lib.hid ((Ha.out.up hb9).alloc (.cells #[.slice A9 D3.n c9, .slice B9 D3.m k9, .int .i64 D3.fuse, .bool D3.off] 25))
    clear Hd Ho Ha
    have Hd := Nd
    have Ho := No
    have Ha := Na
    clear Nd No Na
    have Hb := Lib.hid (Vr.new ok9)
    have hbb := up_trans HB8.out hb9
    have HB9 := Lib.hid (hbb.alloc hbb.size (.cells #[.slice A9 D3.n c9, .slice B9 D3.m k9, .int .i64 D3.fuse, .bool D3.off] 25))
    clear hbb ok9 hb9 HB8
    go_upto_region 11 with fail
    generalize w9.alloc (.cells #[.slice A9 D3.n c9, .slice B9 D3.m k9, .int .i64 D3.fuse, .bool D3.off] 25) = W9 at *
    generalize w9.heap.size = g9 at *
    obtain ⟨aa, ab, ac, ad⟩ := Ha.out.cells
    obtain ⟨ba, bb, bc, bd⟩ := Hb.out.cells
    go_wp2_with fail
    clear aa ab ac ad ba bb bc bd
    refine (refSame_any Ha.out.ok Hb.out.ok).mono ?_; rintro e w10 ⟨rfl, hb10⟩
    rw [same_self]
    have Nd := Lib.hid (Hd.out.up hb10)
    have No := Lib.hid (Ho.out.up hb10)
    have Na := Lib.hid (Ha.out.up hb10)
    have Nb := Lib.hid (Hb.out.up hb10)
    clear Hd Ho Ha Hb
    have Hd := Nd
    have Ho := No
    have Ha := Na
    have Hb := Nb
    clear Nd No Na Nb
    have HB10 := Lib.hid (up_trans HB9.out hb10)
    clear hb10 HB9
    obtain ⟨da, db, dc, dd⟩ := Hd.out.cells
    obtain ⟨oa, ob, oc, od⟩ := Ho.out.cells
    have g1 : (E3 == E3) = true := by simp
    have g2 : (sameB d o == sameB d o) = true := by simp
    have K : Hid (∀ W, Below w10.heap.size w10 W → (W.cell? ⟨w.heap.size + 1, 0, none⟩ = some (.slice A d.n c) ∧ W.cell? ⟨w.heap.size + 1, 1, none⟩ = some (.slice B d.m k) ∧ W.cell? ⟨w.heap.size + 1, 2, none⟩ = some (.int .i64 d.fuse) ∧ W.cell? ⟨w.heap.size + 1, 3, none⟩ = some (.bool d.off)) ∧
        (W.cell? ⟨w.heap.size + 1 + 1, 0, none⟩ = some (.slice A' o.n c') ∧ W.cell? ⟨w.heap.size + 1 + 1, 1, none⟩ = some (.slice B' o.m k') ∧ W.cell? ⟨w.heap.size + 1 + 1, 2, none⟩ = some (.int .i64 o.fuse) ∧ W.cell? ⟨w.heap.size + 1 + 1, 3, none⟩ = some (.bool o.off))) := Lib.hid (fun W hb => ⟨(Hd.out.up hb).cells, (Ho.out.up hb).cells⟩)
    generalize hsb : sameB d o = sb at *
    have HSB := Lib.hid hsb
    clear hsb
    have D1' : Hid (∀ W, DOk W A c B k d → DOk W A' c' B' k' o → Calls Try.prog 26 #[.agg #[.slice A d.n c, .slice B d.m k, .int .i64 d.fuse, .bool d.off], .agg #[.slice A' o.n c', .slice B' o.m k', .int .i64 o.fuse, .bool o.off]] W (BoolRet W sb)) := Lib.hid (fun W h h' => by rw [← HSB.out]; exact same_any h h')
    have D2' : Hid (∀ W, DOk W A c B k d → DOk W A' c' B' k' o → Calls Try.prog 19 #[.agg #[.slice A d.n c, .slice B d.m k, .int .i64 d.fuse, .bool d.off], .agg #[.slice A' o.n c', .slice B' o.m k', .int .i64 o.fuse, .bool o.off]] W (BoolRet W sb)) := Lib.hid (fun W h h' => by rw [← HSB.out]; exact refSame_any h h')
    have D3' : Hid (∀ W, DOk W A c B k d → Calls Try.prog 26 #[.agg #[.slice A d.n c, .slice B d.m k, .int .i64 d.fuse, .bool d.off], .agg #[.slice A d.n c, .slice B d.m k, .int .i64 d.fuse, .bool d.off]] W (BoolRet W true)) := Lib.hid (fun W h => by have := same_any h h; rwa [same_self] at this)
    go_upto_region 12 with fail
    go_cut [2] from 66 to 91 (fun s wx => s = .bool true ∧ Below w10.heap.size w10 wx)
    case first =>
      go_region_held3 (fun W => (W.cell? ⟨w.heap.size + 1, 0, none⟩ = some (.slice A d.n c) ∧ W.cell? ⟨w.heap.size + 1, 1, none⟩ = some (.slice B d.m k) ∧ W.cell? ⟨w.heap.size + 1, 2, none⟩ = some (.int .i64 d.fuse) ∧ W.cell? ⟨w.heap.size + 1, 3, none⟩ = some (.bool d.off)) ∧
        (W.cell? ⟨w.heap.size + 1 + 1, 0, none⟩ = some (.slice A' o.n c') ∧ W.cell? ⟨w.heap.size + 1 + 1, 1, none⟩ = some (.slice B' o.m k') ∧ W.cell? ⟨w.heap.size + 1 + 1, 2, none⟩ = some (.int .i64 o.fuse) ∧ W.cell? ⟨w.heap.size + 1 + 1, 3, none⟩ = some (.bool o.off)))
        (first | exact ⟨⟨da, db, dc, dd⟩, ⟨oa, ob, oc, od⟩⟩ | exact K.out _ b13.out | exact K.out _ b12.out | exact K.out _ b11.out | go_keep)
        (first
          | (go_at_call 26; (with_reducible refine Calls.mono (D1'.out _ Hd.out.ok.drew Ho.out.ok.drew) ?_); rintro e w11 ⟨rfl, hb11⟩; have b11 : Hid (Below w10.heap.size w10 w11) := Lib.hid ⟨hb11.os, hb11.tape, hb11.output, hb11.size, hb11.block⟩; clear hb11)
          | (go_at_call 19; (with_reducible refine Calls.mono (D2'.out _ (Hd.out.ok.up b11.out) (Ho.out.ok.up b11.out)) ?_); rintro e w12 ⟨rfl, hb12⟩; have b12 := Lib.hid (up_trans b11.out hb12); clear hb12)
          | (go_at_call 26; (with_reducible refine Calls.mono (D3'.out _ (Hd.out.ok.up b12.out)) ?_); rintro e w13 ⟨rfl, hb13⟩; have b13 := Lib.hid (up_trans b12.out hb13); clear hb13))
      all_goals
        go_wp2_with fail
        go_meet
        case rel => go_light; first | exact ⟨rfl, b13.out⟩ | exact ⟨by simp, b13.out⟩
    case rest =>
      obtain ⟨rfl, hb⟩ := hcut
      have HBE := Lib.hid (up_trans HB10.out hb)
      clear hb
      go_wp2
      go_ret
      exact ⟨rfl, HBE.out⟩
end
end Go.Proofs.Ytefppiplkmhdmaa.Mat
