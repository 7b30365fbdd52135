/- The law MatrixAdds: walked. -/
import Derived.Test.YtkleaibeekgfjaaMatL
import Derived.Test.YtkleaibeekgfjaaMatR
namespace Go.Proofs.Ytkleaibeekgfjaa.Mat
open Go.RowKit Fld

def xo (F F' : Nat → Nat → BitVec 8) (r c : Nat) : BitVec 8 := F r c ^^^ F' r c
/-- cells that are read stay where memory alone is made -/
theorem four_keep {wo w' : World} {q1 q2 q3 q4 : Addr} {u1 u2 u3 u4 : Value} (hB : Below wo.heap.size wo w')
    (v1 : wo.cell? q1 = some u1) (v2 : wo.cell? q2 = some u2) (v3 : wo.cell? q3 = some u3) (v4 : wo.cell? q4 = some u4)
    (s1 : q1.block < wo.heap.size) (s2 : q2.block < wo.heap.size) (s3 : q3.block < wo.heap.size) (s4 : q4.block < wo.heap.size) :
    w'.cell? q1 = some u1 ∧ w'.cell? q2 = some u2 ∧ w'.cell? q3 = some u3 ∧ w'.cell? q4 = some u4 :=
  ⟨(hB.cell s1).trans v1, (hB.cell s2).trans v2, (hB.cell s3).trans v3, (hB.cell s4).trans v4⟩
/-- an element of a matrix, at literal addresses -/
theorem Mt.at_ {w : World} {B n : Nat} {ad : Addr} {L RC : Nat → Nat} {RA : Nat → Option Addr} {F : Nat → Nat → BitVec 8} (h : Mt w B (some ad) n L RA RC F) {r c : Nat} (hr : r < n) (hc : c < L r) :
    ∃ ar, ad.block < B ∧ ar.block < B ∧ w.cell? (ad.add r) = some (.slice (some ar) (L r) (RC r)) ∧ w.cell? (ar.add c) = some (.int .u8 (V (F r c))) := by
  obtain ⟨ad', e, hb, h1, _, h3⟩ := h.row hr
  injection e with e; subst e
  obtain ⟨ar, e2, hb2, h4⟩ := h3.at_ hc
  exact ⟨ar, hb, hb2, by rw [h1, e2], h4⟩

theorem grownBy_drew {w w' : World} {row : Option Nat} (h : w.drew.grownBy w' row) : w.grownBy w' row := ⟨h.os, h.tape, h.output, h.size, h.block⟩
set_option maxRecDepth 1000000 in
set_option maxHeartbeats 3200000 in
theorem lawAdds {W : World} (A : Option Addr) (n cap : Nat) (L : Nat → Nat) (RA : Nat → Option Addr) (RC : Nat → Nat) (F : Nat → Nat → BitVec 8)
    (A' : Option Addr) (n' cap' : Nat) (L' : Nat → Nat) (RA' : Nat → Option Addr) (RC' : Nat → Nat) (F' : Nat → Nat → BitVec 8)
    (A'' : Option Addr) (n'' cap'' : Nat) (L'' : Nat → Nat) (RA'' : Nat → Option Addr) (RC'' : Nat → Nat) (F'' : Nat → Nat → BitVec 8)
    (hn : n ≤ 9223372036854775807) (m : Mt W W.heap.size A n L RA RC F) (hn' : n' ≤ 9223372036854775807) (m' : Mt W W.heap.size A' n' L' RA' RC' F') (hn'' : n'' ≤ 9223372036854775807) (m'' : Mt W W.heap.size A'' n'' L'' RA'' RC'' F'') :
    Calls Try.prog 10 #[.slice A n cap, .slice A' n' cap', .slice A'' n'' cap''] W fun e w' => e = .returned (.bool true) ∧ Below W.heap.size W w' := by
  obtain ⟨i0, hi, hz0, hz1, hz2⟩ := info_parts infoRow
  obtain ⟨j0, ji, jz0, jz1, jz2⟩ := info_parts infoByte
  have M := Lib.hid m
  have M' := Lib.hid m'
  have M'' := Lib.hid m''
  clear m m' m''
  by_cases o : MulOk n L n' L' ∧ MulOk n L n'' L'' ∧ L' 0 = L'' 0
  · obtain ⟨o1, o2, hl⟩ := o
    obtain rfl : n' = n'' := o1.2.2.symm.trans o2.2.2
    have n1 := o1.1.1
    have n2 := o1.1.2.1
    have n3 := o1.2.1.1
    have n4 := o1.2.1.2.1
    have l1 := o1.2.1.2.2.1
    have l2 := o1.2.1.2.2.2.1
    have p0 : 0 < n' := n3
    have O1 := Lib.hid o1
    have O2 := Lib.hid o2
    have HL := Lib.hid hl
    have el : ((L' 0 : Int) != (L'' 0 : Int)) = false := by rw [bne_eq_false_iff_eq]; omega
    obtain ⟨adb, rfl, hbb, hx1⟩ := M'.out p0
    obtain ⟨adc, rfl, hbc, hx2⟩ := M''.out p0
    clear hx1 hx2 o1 o2 hl
    go_enter Try.func10, Try.ntmps10
    go_wp2_with fail
    refine (shown_any _).mono ?_; rintro e w1 ⟨rfl, hb1⟩
    have B1 := Lib.hid hb1
    have a1 := Lib.hid (M.out.up hb1)
    have b1 := Lib.hid (M'.out.up hb1)
    have c1 := Lib.hid (M''.out.up hb1)
    clear hb1
    go_wp2_with fail
    refine (mul_ok a1.out b1.out O1.out).mono ?_; rintro e w2 ⟨A2, c2, RA2, RC2, rfl, hM2, hB2⟩
    have B2 := Lib.hid (up_trans B1.out hB2)
    have a2 := Lib.hid (a1.out.up hB2)
    have b2 := Lib.hid (b1.out.up hB2)
    have d2 := Lib.hid (c1.out.up hB2)
    have x2 := Lib.hid hM2
    clear hM2 hB2 B1 a1 b1 c1
    go_wp2_with fail
    refine (mul_ok a2.out d2.out O2.out).mono ?_; rintro e w3 ⟨A3, c3, RA3, RC3, rfl, hM3, hB3⟩
    have B3 := Lib.hid (up_trans B2.out hB3)
    have a3 := Lib.hid (a2.out.up hB3)
    have b3 := Lib.hid (b2.out.up hB3)
    have d3 := Lib.hid (d2.out.up hB3)
    have x3 := Lib.hid (x2.out.up hB3)
    have y3 := Lib.hid hM3
    clear hM3 hB3 B2 a2 b2 d2 x2
    have e1 : w3.cell? adb = some (.slice (RA' 0) (L' 0) (RC' 0)) := by
      obtain ⟨ad, e, _, h, _⟩ := b3.out.row p0
      injection e with e; subst e; rw [add_zero] at h; exact h
    have e2 : w3.cell? adc = some (.slice (RA'' 0) (L'' 0) (RC'' 0)) := by
      obtain ⟨ad, e, _, h, _⟩ := d3.out.row p0
      injection e with e; subst e; rw [add_zero] at h; exact h
    go_wp2_with fail
    go_quiet (fail)
    go_wp2
    clear e1 e2 el
    have b4 := Lib.hid (b3.out.drewN nq)
    have d4 := Lib.hid (d3.out.drewN nq)
    have a4 := Lib.hid (a3.out.drewN nq)
    have x4 := Lib.hid (x3.out.drewN nq)
    have y4 := Lib.hid (y3.out.drewN nq)
    have B4 := Lib.hid (below_drewN B3.out nq)
    generalize hw4 : w3.drewN nq = w4 at *
    have hz4 : w3.heap.size = w4.heap.size := by subst hw4; rfl
    rw [hz4] at a4 b4 d4 x4 y4
    clear hw4 hz4 a3 b3 d3 x3 y3 B3
    go_loopg [12, 13] n' (fun gh v i wr => ∃ r G C, r ≤ n' ∧ gh = n' - r ∧ i = .int .i64 (r : Nat) ∧ Built w4 wr v r (L' 0) G C (xo F' F''))
    case atStart => exact ⟨0, _, _, Nat.zero_le _, rfl, rfl, Built.start w4 (L' 0) (fun _ => 0) (fun _ => 0) _⟩
    case round =>
      obtain ⟨r, G, C, hr, rfl, rfl, hB⟩ := hrel
      by_cases hrn : r < n'
      · have hrz : (r : Int) < (n' : Int) := by omega
        have HB := Lib.hid hB
        have bo := Lib.hid (b4.out.up hB.below)
        have co := Lib.hid (d4.out.up hB.below)
        clear hB
        go_wp2_with fail
        obtain ⟨wo, rfl⟩ : ∃ wo : World, wo = wr := ⟨_, rfl⟩
        go_loopg [14, 15] (L' 0) (fun gh v i wi => ∃ c : Nat, c ≤ L' 0 ∧ gh = L' 0 - c ∧ i = .int .i64 c ∧ Below wo.heap.size wo wi ∧ wi.ownsRow wo.heap.size 5 1 v c (vals c (xo F' F'' r)))
        case atStart => exact ⟨0, Nat.zero_le _, rfl, rfl, Below.refl _ _, World.ownsRow_nil _ _ _ _⟩
        case round =>
          obtain ⟨c, hc, rfl, rfl, hI, hO⟩ := hrel
          have HI := Lib.hid hI
          have HO := Lib.hid hO
          have hs := hI.size
          clear hI hO
          have q1 : wr.cell? (adb.add r) = some (.slice (RA' r) (L' 0) (RC' r)) := by
            obtain ⟨ad, e, hbl, h, _⟩ := bo.out.row hrn
            injection e with e; subst e
            rw [HI.out.cell (by rw [block_of_add]; exact hbl), h, O1.out.2.1.row hrn]
          by_cases hcm : c < L' 0
          · have hcz : (c : Int) < (L' 0 : Int) := by omega
            have hcz2 : (c : Int) < (L'' 0 : Int) := by have := HL.out; omega
            obtain ⟨arb, z1, z2, v1, v2⟩ := bo.out.at_ hrn (c := c) (by rw [O1.out.2.1.row hrn]; exact hcm)
            obtain ⟨arc, z3, z4, v3, v4⟩ := co.out.at_ hrn (c := c) (by rw [O2.out.2.1.row hrn, ← HL.out]; exact hcm)
            rw [O1.out.2.1.row hrn] at v1
            rw [O2.out.2.1.row hrn] at v3
            have S_of := fun (w' : World) (h : Below wo.heap.size wo w') => four_keep h v1 v2 v3 v4 (by rw [block_of_add]; exact z1) (by rw [block_of_add]; exact z2) (by rw [block_of_add]; exact z3) (by rw [block_of_add]; exact z4)
            obtain ⟨y1, y2, y3, y4⟩ := S_of _ HI.out
            have HS := Lib.hid S_of
            clear S_of v1 v2 v3 v4 q1
            go_wp2_with fail
            go_region_held3 (fun w' => w'.cell? (adb.add r) = some (.slice (some arb) (L' 0) (RC' r)) ∧ w'.cell? (arb.add c) = some (.int .u8 (V (F' r c))) ∧ w'.cell? (adc.add r) = some (.slice (some arc) (L'' 0) (RC'' r)) ∧ w'.cell? (arc.add c) = some (.int .u8 (V (F'' r c))))
              (first | exact ⟨y1, y2, y3, y4⟩ | exact HS.out _ (HI.out.alloc HI.out.size _).drew | exact HS.out _ HN.out.1 | go_keep)
              ((refine step_append_lies _ (by rfl) _ _ _ (by rfl) wo.heap.size 5 j0 _ 1 1 Try.underlying39 ji jz0 jz1 jz2 rfl (by omega) u14 c (vals c (xo F' F'' r)) (by rfl) ((HO.out.alloc _).drew)
                    ⟨wr.heap.size, 0, none⟩ 1 1 [.int .u8 (bits .xor .u8 (V (F' r c)) (V (F'' r c)))] (by rfl) (by rfl) (one_news (w := wr) _ _) (by simp [Value.oneCell']) (by omega) (by unfold maxLen; omega) (by omega) (by simp; omega) (wr.heap.size + 1) (by simp) ?_; intro gg cp w1 hown1 hgrow hat hlt; rw [xor_V] at hown1 hgrow; have HN := Lib.hid (row_next (o := .cells #[.int .u8 (V (xo F' F'' r c))] 5) HI.out HO.out hown1 (grownBy_drew hgrow))))
            all_goals
              go_wp2
              go_roundg (L' 0 - (c + 1))
              case measure => go_light; omega
              case rel => go_light; exact ⟨c + 1, by omega, rfl, by simp, HN.out.1, HN.out.2⟩
          · have hcz : ¬ (c : Int) < (L' 0 : Int) := by omega
            have HE : Hid (c = L' 0) := Lib.hid (by omega)
            obtain ⟨g, cap2, rfl, hg, hcp, hH⟩ := row_end (by have := HE.out; omega) HO.out
            have HB2 := Lib.hid (HB.out.under HI.out)
            have HH := Lib.hid hH
            clear hH
            go_wp2_with (at_builtin; refine wpList_append_own _ rfl (.tmp 87) (.tmp 89) 22 rfl w4.heap.size 39 i0 (.slice none 0 0) 1 24 Try.underlying22 hi hz0 hz1 hz2 rfl (by decide) _ _ _ rfl (HB2.out.own.alloc _) ⟨wr.heap.size, 0, none⟩ 1 1 [.slice (some ⟨g, 0, none⟩) c cap2] rfl rfl (one_news _ _) (by simp [Value.oneCell']) (by unfold maxLen; omega) (by omega) (by rw [size_alloc]; have := HB2.out.below.size; omega) ?_)
            intro v' w' hown hgrow _
            have HN := Lib.hid (HB.out.next HI.out (by rw [← HE.out]; exact HH.out) hg (by rw [← HE.out]; exact hcp) (by rw [← HE.out] at hown ⊢; exact hown) hgrow)
            clear hown hgrow
            go_wp2
            go_roundg (n' - (r + 1))
            case measure => go_light; omega
            case rel => go_light; exact ⟨r + 1, _, _, by omega, rfl, by simp, HN.out⟩
      · have hrz : ¬ (r : Int) < (n' : Int) := by omega
        obtain rfl : r = n' := by omega
        obtain ⟨gs, cs, rfl, hMs, _⟩ := hB.mt p0
        have B5 := Lib.hid (up_trans B4.out hB.below)
        have a5 := Lib.hid (a4.out.up hB.below)
        have x5 := Lib.hid (x4.out.up hB.below)
        have y5 := Lib.hid (y4.out.up hB.below)
        have s5 := Lib.hid hMs
        clear hB hMs a4 b4 d4 x4 y4 B4 hr hrn
        go_wp2_with fail
        refine (mul_ok a5.out s5.out ⟨O1.out.1, ok_rect n3 n4 l1 l2, O1.out.2.2⟩).mono ?_; rintro e w6 ⟨A6, c6, RA6, RC6, rfl, hM6, hB6⟩
        have B6 := Lib.hid (up_trans B5.out hB6)
        have x6 := Lib.hid (x5.out.up hB6)
        have y6 := Lib.hid (y5.out.up hB6)
        have z6 := Lib.hid hM6
        clear hM6 hB6 a5 s5 x5 y5 B5
        go_wp2_with fail
        obtain ⟨n', rfl⟩ : ∃ n', n' = r := ⟨_, rfl⟩
        have pn : 0 < n := n1
        obtain ⟨adx, rfl, hbx, hxx⟩ := x6.out pn
        obtain ⟨ady, rfl, hby, hxy⟩ := y6.out pn
        clear hxx hxy
        generalize hRX : RA2 = RX at *
        generalize hRCX : RC2 = RCX at *
        generalize hRY : RA3 = RY at *
        generalize hRCY : RC3 = RCY at *
        clear hRX hRCX hRY hRCY
        go_loopg [18, 19] n (fun gh v i wr => ∃ r G C, r ≤ n ∧ gh = n - r ∧ i = .int .i64 (r : Nat) ∧ Built w6 wr v r (L' 0) G C (xo (mm n' F F') (mm n' F F'')))
        case atStart => exact ⟨0, _, _, Nat.zero_le _, rfl, rfl, Built.start w6 (L' 0) (fun _ => 0) (fun _ => 0) _⟩
        case round =>
          obtain ⟨r, G, C, hr, rfl, rfl, hB⟩ := hrel
          by_cases hrn : r < n
          · have hrz : (r : Int) < (n : Int) := by omega
            have HB := Lib.hid hB
            have bo := Lib.hid (x6.out.up hB.below)
            have co := Lib.hid (y6.out.up hB.below)
            clear hB
            go_wp2_with fail
            obtain ⟨wo, rfl⟩ : ∃ wo : World, wo = wr := ⟨_, rfl⟩
            go_loopg [20, 21] (L' 0) (fun gh v i wi => ∃ c : Nat, c ≤ L' 0 ∧ gh = L' 0 - c ∧ i = .int .i64 c ∧ Below wo.heap.size wo wi ∧ wi.ownsRow wo.heap.size 5 1 v c (vals c (xo (mm n' F F') (mm n' F F'') r)))
            case atStart => exact ⟨0, Nat.zero_le _, rfl, rfl, Below.refl _ _, World.ownsRow_nil _ _ _ _⟩
            case round =>
              obtain ⟨c, hc, rfl, rfl, hI, hO⟩ := hrel
              have HI := Lib.hid hI
              have HO := Lib.hid hO
              have hs := hI.size
              clear hI hO
              have q1 : wr.cell? (adx.add r) = some (.slice (RX r) (L' 0) (RCX r)) := by
                obtain ⟨ad, e, hbl, h, _⟩ := bo.out.row hrn
                injection e with e; subst e
                rw [HI.out.cell (by rw [block_of_add]; exact hbl), h]
              by_cases hcm : c < L' 0
              · have hcz : (c : Int) < (L' 0 : Int) := by omega
                have hcz2 : (c : Int) < (L'' 0 : Int) := by have := HL.out; omega
                obtain ⟨arb, z1, z2, v1, v2⟩ := bo.out.at_ hrn (c := c) hcm
                obtain ⟨arc, z3, z4, v3, v4⟩ := co.out.at_ hrn (c := c) (by have := HL.out; omega)
                have S_of := fun (w' : World) (h : Below wo.heap.size wo w') => four_keep h v1 v2 v3 v4 (by rw [block_of_add]; exact z1) (by rw [block_of_add]; exact z2) (by rw [block_of_add]; exact z3) (by rw [block_of_add]; exact z4)
                obtain ⟨y1, y2, y3, y4⟩ := S_of _ HI.out
                have HS := Lib.hid S_of
                clear S_of v1 v2 v3 v4 q1
                go_wp2_with fail
                go_region_held3 (fun w' => w'.cell? (adx.add r) = some (.slice (some arb) (L' 0) (RCX r)) ∧ w'.cell? (arb.add c) = some (.int .u8 (V (mm n' F F' r c))) ∧ w'.cell? (ady.add r) = some (.slice (some arc) (L'' 0) (RCY r)) ∧ w'.cell? (arc.add c) = some (.int .u8 (V (mm n' F F'' r c))))
                  (first | exact ⟨y1, y2, y3, y4⟩ | exact HS.out _ (HI.out.alloc HI.out.size _).drew | exact HS.out _ HN.out.1 | go_keep)
                  ((refine step_append_lies _ (by rfl) _ _ _ (by rfl) wo.heap.size 5 j0 _ 1 1 Try.underlying39 ji jz0 jz1 jz2 rfl (by omega) u20 c (vals c (xo (mm n' F F') (mm n' F F'') r)) (by rfl) ((HO.out.alloc _).drew)
                        ⟨wr.heap.size, 0, none⟩ 1 1 [.int .u8 (bits .xor .u8 (V (mm n' F F' r c)) (V (mm n' F F'' r c)))] (by rfl) (by rfl) (one_news (w := wr) _ _) (by simp [Value.oneCell']) (by omega) (by unfold maxLen; omega) (by omega) (by simp; omega) (wr.heap.size + 1) (by simp) ?_; intro gg cp w1 hown1 hgrow hat hlt; rw [xor_V] at hown1 hgrow; have HN := Lib.hid (row_next (o := .cells #[.int .u8 (V (xo (mm n' F F') (mm n' F F'') r c))] 5) HI.out HO.out hown1 (grownBy_drew hgrow))))
                all_goals
                  go_wp2
                  go_roundg (L' 0 - (c + 1))
                  case measure => go_light; omega
                  case rel => go_light; exact ⟨c + 1, by omega, rfl, by simp, HN.out.1, HN.out.2⟩
              · have hcz : ¬ (c : Int) < (L' 0 : Int) := by omega
                have HE : Hid (c = L' 0) := Lib.hid (by omega)
                obtain ⟨g, cap2, rfl, hg, hcp, hH⟩ := row_end (by have := HE.out; omega) HO.out
                have HB2 := Lib.hid (HB.out.under HI.out)
                have HH := Lib.hid hH
                clear hH
                go_wp2_with (at_builtin; refine wpList_append_own _ rfl (.tmp 130) (.tmp 132) 22 rfl w6.heap.size 39 i0 (.slice none 0 0) 1 24 Try.underlying22 hi hz0 hz1 hz2 rfl (by decide) _ _ _ rfl (HB2.out.own.alloc _) ⟨wr.heap.size, 0, none⟩ 1 1 [.slice (some ⟨g, 0, none⟩) c cap2] rfl rfl (one_news _ _) (by simp [Value.oneCell']) (by unfold maxLen; omega) (by omega) (by rw [size_alloc]; have := HB2.out.below.size; omega) ?_)
                intro v' w' hown hgrow _
                have HN := Lib.hid (HB.out.next HI.out (by rw [← HE.out]; exact HH.out) hg (by rw [← HE.out]; exact hcp) (by rw [← HE.out] at hown ⊢; exact hown) hgrow)
                clear hown hgrow
                go_wp2
                go_roundg (n - (r + 1))
                case measure => go_light; omega
                case rel => go_light; exact ⟨r + 1, _, _, by omega, rfl, by simp, HN.out⟩
          · have hrz : ¬ (r : Int) < (n : Int) := by omega
            obtain rfl : r = n := by omega
            obtain ⟨gw, cw, rfl, hMw, _⟩ := hB.mt pn
            have B7 := Lib.hid (up_trans B6.out hB.below)
            have z7 := Lib.hid (z6.out.up hB.below)
            have w7 := Lib.hid hMw
            clear hB hMw
            go_wp2_with fail
            refine (refSame_yes z7.out w7.out hn hn (same_mat (m := L' 0) (fun _ _ => rfl) (fun _ _ => rfl) (fun r c _ _ => mm_add _ _ _ _ _ _))).mono ?_; rintro e w8 ⟨rfl, q8, rfl⟩
            go_wp2
            go_ret
            exact ⟨rfl, below_drewN B7.out _⟩
  · have O := Lib.hid o
    clear o
    go_enter Try.func10, Try.ntmps10
    go_wp2_with fail
    refine (shown_any _).mono ?_; rintro e w1 ⟨rfl, hb1⟩
    have B1 := Lib.hid hb1
    have a1 := Lib.hid (M.out.up hb1)
    have b1 := Lib.hid (M'.out.up hb1)
    have c1 := Lib.hid (M''.out.up hb1)
    clear hb1 M M' M''
    go_wp2_with fail
    refine (mul_all a1.out b1.out hn hn').mono ?_; rintro e w2 (⟨o1, A2, c2, RA2, RC2, rfl, hM2, hB2⟩ | ⟨o1, rfl, hB2⟩)
    · have B2 := Lib.hid (up_trans B1.out hB2)
      have a2 := Lib.hid (a1.out.up hB2)
      have b2 := Lib.hid (b1.out.up hB2)
      have d2 := Lib.hid (c1.out.up hB2)
      have O1 := Lib.hid o1
      clear hM2 hB2 B1 a1 b1 c1 o1
      go_wp2_with fail
      refine (mul_all a2.out d2.out hn hn'').mono ?_; rintro e w3 (⟨o2, A3, c3, RA3, RC3, rfl, hM3, hB3⟩ | ⟨o2, rfl, hB3⟩)
      · have B3 := Lib.hid (up_trans B2.out hB3)
        have b3 := Lib.hid (b2.out.up hB3)
        have d3 := Lib.hid (d2.out.up hB3)
        have hne : L' 0 ≠ L'' 0 := fun e => O.out ⟨O1.out, o2, e⟩
        have el : ((L' 0 : Int) != (L'' 0 : Int)) = true := by rw [bne_iff_ne]; omega
        obtain ⟨adb, rfl, _, e1, _, _⟩ := b3.out.row (r := 0) O1.out.2.1.1
        obtain ⟨adc, rfl, _, e2, _, _⟩ := d3.out.row (r := 0) o2.2.1.1
        rw [add_zero] at e1 e2
        have p1 : 0 < n' := O1.out.2.1.1
        have p2 : 0 < n'' := o2.2.1.1
        clear hM3 hB3 B2 a2 b2 d2 hne o2
        go_wp2_with fail
        go_quiet (fail)
        go_wp2
        go_ret
        exact ⟨rfl, below_drewN B3.out _⟩
      · have B3 := Lib.hid (up_trans B2.out hB3)
        clear hB3 o2
        go_wp2_with fail
        go_quiet (fail)
        go_wp2
        go_ret
        exact ⟨rfl, below_drewN B3.out _⟩
    · have B2 := Lib.hid (up_trans B1.out hB2)
      have a2 := Lib.hid (a1.out.up hB2)
      have d2 := Lib.hid (c1.out.up hB2)
      clear hB2 o1
      go_wp2_with fail
      refine (mul_all a2.out d2.out hn hn'').mono ?_; rintro e w3 (⟨o2, A3, c3, RA3, RC3, rfl, hM3, hB3⟩ | ⟨o2, rfl, hB3⟩)
      all_goals
        have B3 := Lib.hid (up_trans B2.out hB3)
        clear hB3 o2
        go_wp2_with fail
        go_quiet (fail)
        go_wp2
        go_ret
        exact ⟨rfl, below_drewN B3.out _⟩
end Go.Proofs.Ytkleaibeekgfjaa.Mat
