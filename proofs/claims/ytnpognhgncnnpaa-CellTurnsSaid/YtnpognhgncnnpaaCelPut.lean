/- Put, whose disk has rows of its own: walked. -/
import Derived.Test.YtnpognhgncnnpaaCelRead
namespace Go.Proofs.Ytnpognhgncnnpaa.Mat
open Go.RowKit Fld

/-- a row of n, if there is any, is at or above base -/
def Fr (base : Nat) (A : Option Addr) (n : Nat) : Prop := 0 < n → ∃ ad, A = some ad ∧ base ≤ ad.block
theorem Fr.low {base base' n : Nat} {A : Option Addr} (h : Fr base A n) (hb : base' ≤ base) : Fr base' A n := fun hn => by
  obtain ⟨ad, e, h1⟩ := h hn
  exact ⟨ad, e, by omega⟩
theorem own_fr {a : World} {base size n k : Nat} {e : TypeId} {A : Option Addr} {l : List Value} (h : a.ownsRow base e size (.slice A n k) n l) : Fr base A n := fun hn => by
  obtain ⟨g, cap, e1, hg, _⟩ := h.form hn
  injection e1 with e1 _ _
  exact ⟨_, e1, hg⟩
/-- a call answers a disk with rows of its own, and an error -/
def DErrF (w : World) (D : Dk) (E : Int) (e : Ending) (w' : World) : Prop :=
  ∃ A c B k, e = .returned (.tuple #[.agg #[.slice A D.n c, .slice B D.m k, .int .i64 D.fuse, .bool D.off], .int .i64 E]) ∧ DOk w' A c B k D ∧ Below w.heap.size w w' ∧ Fr w.heap.size A D.n ∧ Fr w.heap.size B D.m
theorem DErrF.plain {w w' : World} {D : Dk} {E : Int} {e : Ending} (h : DErrF w D E e w') : DErr w D E e w' := by
  obtain ⟨A, c, B, k, h1, h2, h3, _, _⟩ := h
  exact ⟨A, c, B, k, h1, h2, h3⟩
section
variable {w W : World} {d : Dk} {A B : Option Addr} {c k : Nat}
theorem Own.finF (h : Own w W d A c B k) (hz : Sz d) : Bx (put4 W (w.heap.size + 1) (.slice A d.n c) (.slice B d.m k) (.int .i64 d.fuse) (.bool d.off)) (w.heap.size + 1) (.slice A d.n c) (.slice B d.m k) (.int .i64 d.fuse) (.bool d.off) ∧
    DOk (put4 W (w.heap.size + 1) (.slice A d.n c) (.slice B d.m k) (.int .i64 d.fuse) (.bool d.off)) A c B k d ∧ Below w.heap.size w (put4 W (w.heap.size + 1) (.slice A d.n c) (.slice B d.m k) (.int .i64 d.fuse) (.bool d.off)) ∧ Fr w.heap.size A d.n ∧ Fr w.heap.size B d.m := by
  obtain ⟨h1, h2, h3⟩ := h.fin hz
  exact ⟨h1, h2, h3, own_fr h.s, own_fr h.t⟩
end
section
variable {A B : Option Addr} {c k : Nat} {d : Dk} {w : World}
set_option maxRecDepth 100000 in
set_option maxHeartbeats 1600000 in
theorem put_fresh (h : DOk w A c B k d) (hm : (d.m + 1) * 24 ≤ 140737488355328) (slot : Int) (s : ByteArray) (hs : s.size ≤ 140737488351232) :
    Calls Try.prog 39 #[.agg #[.slice A d.n c, .slice B d.m k, .int .i64 d.fuse, .bool d.off], .int .i64 slot, .string s] w (DErrF w (putD d slot s) (putE d slot s)) := by
  obtain ⟨i0, hi0, hz0, hz1, hz2⟩ := info_parts infoWrite
  have h0 := D2.start w (.slice A d.n c) (.slice B d.m k) (.int .i64 d.fuse) (.bool d.off) (.slice none 0 0) (.slice none 0 0) (.int .i64 0) (.bool false)
  have HD := Lib.hid (h.up h0.below)
  have HSZ := Lib.hid h.sz
  have HM := Lib.hid hm
  have HS := Lib.hid hs
  have H0 := Lib.hid h0
  clear h h0 hm hs
  go_enter Try.func39, Try.ntmps39
  go_upto_region 1 with fail
  generalize (w.alloc (.cells #[.slice A d.n c, .slice B d.m k, .int .i64 d.fuse, .bool d.off] 37)).alloc (.cells #[.slice none 0 0, .slice none 0 0, .int .i64 0, .bool false] 37) = wb at *
  go_cut [] from 8 to 9 (fun wc => Owns w d wc)
  case first =>
    obtain ⟨x0, x1, x2, x3⟩ := H0.out.x.cells
    go_wp2_with fail
    clear x0 x1 x2 x3
    refine (apart_any HD.out).mono ?_; rintro e w1 ⟨A1, c1, B1, k1, rfl, hf1, hs1, ho1, hb1⟩
    obtain ⟨x0, x1, x2, x3⟩ := (H0.out.up hb1).x.cells
    obtain ⟨u0, u1, u2, u3⟩ := (H0.out.up hb1).x.free
    have HO := Lib.hid (own_fin2 H0.out hb1 hf1 hs1 ho1)
    clear hf1 hs1 ho1 hb1
    go_wp2_with fail
    go_meet
    case rel => go_light; exact HO.out
  case rest =>
    obtain ⟨A1, c1, B1, k1, hO⟩ := hcut
    obtain ⟨x0, x1, x2, x3⟩ := hO.fr.x.cells
    obtain ⟨y0, y1, y2, y3⟩ := hO.fr.x.free
    obtain ⟨z0, z1, z2, z3⟩ := hO.fr.z.cells
    obtain ⟨u0, u1, u2, u3⟩ := hO.fr.z.free
    have HO := Lib.hid hO
    clear hO
    cases hoff : d.off
    rotate_left
    · have HE : Hid (putD d slot s = d ∧ putE d slot s = 6) := Lib.hid (by unfold putD putE; rw [if_pos hoff, if_pos hoff]; exact ⟨rfl, rfl⟩)
      have HF := Lib.hid (HO.out.finF HSZ.out)
      rw [hoff] at x3
      go_wp2
      rw [← hoff]
      refine bodyPost_ret (results_disk_err rfl _ _ (w.heap.size + 1) rfl HF.out.1) rfl (by rw [HE.out.1, HE.out.2]; exact ⟨A1, c1, B1, k1, rfl, HF.out.2.1, HF.out.2.2.1, HF.out.2.2.2⟩)
    · rw [hoff] at x3
      have HOFF := Lib.hid hoff
      clear hoff
      cases hh : hasB d.n slot
      · have HE : Hid (putD d slot s = d ∧ putE d slot s = 1) := Lib.hid (by unfold putD putE; rw [HOFF.out, hh]; exact ⟨rfl, rfl⟩)
        have HH := Lib.hid hh
        have HF := Lib.hid (HO.out.finF HSZ.out)
        clear hh
        go_wp2_with fail
        refine (has_any _ _ _ _ _).mono ?_; rintro e w1 ⟨rfl, rfl⟩
        rw [HH.out]
        go_wp2
        rw [← HOFF.out]
        refine bodyPost_ret (results_disk_err rfl _ _ (w.heap.size + 1) rfl HF.out.1) rfl (by rw [HE.out.1, HE.out.2]; exact ⟨A1, c1, B1, k1, rfl, HF.out.2.1, HF.out.2.2.1, HF.out.2.2.2⟩)
      · have HH := Lib.hid hh
        clear hh
        by_cases hbig : 1024 < s.size
        · have HE : Hid (putD d slot s = d ∧ putE d slot s = 4) := Lib.hid (by unfold putD putE; rw [HOFF.out, HH.out, if_pos hbig, if_pos hbig]; exact ⟨rfl, rfl⟩)
          have g1 : decide ((s.size : Int) > 1024) = true := by simp; omega
          have HF := Lib.hid (HO.out.finF HSZ.out)
          clear hbig
          go_wp2_with fail
          refine (has_any _ _ _ _ _).mono ?_; rintro e w1 ⟨rfl, rfl⟩
          rw [HH.out]
          go_wp2
          rw [← HOFF.out]
          refine bodyPost_ret (results_disk_err rfl _ _ (w.heap.size + 1) rfl HF.out.1) rfl (by rw [HE.out.1, HE.out.2]; exact ⟨A1, c1, B1, k1, rfl, HF.out.2.1, HF.out.2.2.1, HF.out.2.2.2⟩)
        · have g1 : decide ((s.size : Int) > 1024) = false := by simp; omega
          have HBIG := Lib.hid hbig
          clear hbig
          go_wp2_with fail
          refine (has_any _ _ _ _ _).mono ?_; rintro e w1 ⟨rfl, rfl⟩
          rw [HH.out]
          clear H0 HD
          have hlen := pcs_len d.I d.T d.m
          have HLN := Lib.hid hlen
          clear hlen
          go_upto_region 8 with fail
          go_cut [] from 26 to 33 (fun wc => Owns w (addD d slot s d.fuse d.off) wc)
          case first =>
            go_wp2_with (at_builtin; refine wpList_append_own _ rfl (.tmp 27) (.tmp 31) 35 rfl w.heap.size 77 i0 (.agg #[.int .i64 0, .string ByteArray.empty]) 2 24 Try.underlying35 hi0 hz0 hz1 hz2 rfl (by decide) _ _ _ rfl (HO.out.t.alloc _) ⟨wc.heap.size, 0, none⟩ 1 1 [.int .i64 slot, .string s] rfl rfl (two_news _ _ _) (by simp [Value.oneCell']) (by have := HM.out; unfold maxLen; omega) (by have := HM.out; omega) (by rw [size_alloc]; have := HO.out.fr.below.size; omega) ?_)
            intro v' w' hown hgrow _
            obtain ⟨B2, k2, rfl, q1, q2, hO2⟩ := HO.out.append _ slot s hown hgrow
            have HO2 := Lib.hid hO2
            clear hown hgrow hO2
            go_wp2_with fail
            go_meet
            case rel => go_light; exact ⟨_, _, _, _, HO2.out⟩
          case rest =>
            obtain ⟨A2, c2, B2, k2, hO2⟩ := hcut
            have x0 : wc.cell? ⟨w.heap.size, 0, none⟩ = some (.slice A2 d.n c2) := hO2.fr.x.c0
            have x1 : wc.cell? ⟨w.heap.size, 1, none⟩ = some (.slice B2 (d.m + 1) k2) := hO2.fr.x.c1
            have x2 : wc.cell? ⟨w.heap.size, 2, none⟩ = some (.int .i64 d.fuse) := hO2.fr.x.c2
            have x3 : wc.cell? ⟨w.heap.size, 3, none⟩ = some (.bool false) := by rw [← HOFF.out]; exact hO2.fr.x.c3
            obtain ⟨y0, y1, y2, y3⟩ := hO2.fr.x.free
            obtain ⟨z0, z1, z2, z3⟩ := hO2.fr.z.cells
            obtain ⟨u0, u1, u2, u3⟩ := hO2.fr.z.free
            have HO2 := Lib.hid hO2
            clear hO2 HO
            have hfl := HSZ.out.fl
            have hfh := HSZ.out.fh
            by_cases h0 : d.fuse = 0
            · have HE : Hid (putD d slot s = addD d slot s 0 true ∧ putE d slot s = 6) := Lib.hid (by unfold putD putE; rw [HOFF.out, HH.out, if_neg HBIG.out, if_neg HBIG.out, if_pos h0, if_pos h0]; exact ⟨rfl, rfl⟩)
              have hO3 := HO2.out.x3 true
              change Own w _ (addD d slot s d.fuse true) A2 c2 B2 k2 at hO3
              rw [h0] at hO3
              have HF := Lib.hid (hO3.finF (sz_add HSZ.out HM.out HS.out (by omega) (by omega) true))
              have g2 : (d.fuse == 0) = true := by rw [h0]; rfl
              rw [h0] at x2
              clear hO3 h0 HO2 hfl hfh g2
              go_wp2
              refine bodyPost_ret (results_disk_err rfl _ _ (w.heap.size + 1) rfl HF.out.1) rfl (by rw [HE.out.1, HE.out.2]; exact ⟨A2, c2, B2, k2, rfl, HF.out.2.1, HF.out.2.2.1, HF.out.2.2.2⟩)
            · by_cases h1 : 0 < d.fuse
              · have HE : Hid (putD d slot s = addD d slot s (d.fuse - 1) false ∧ putE d slot s = 0) := Lib.hid (by unfold putD putE; rw [HOFF.out, HH.out, if_neg HBIG.out, if_neg HBIG.out, if_neg h0, if_neg h0, if_pos h1]; exact ⟨rfl, rfl⟩)
                have hO3 := HO2.out.x2 (d.fuse - 1)
                change Own w _ (addD d slot s (d.fuse - 1) d.off) A2 c2 B2 k2 at hO3
                rw [HOFF.out] at hO3
                have HF := Lib.hid (hO3.finF (sz_add HSZ.out HM.out HS.out (by omega) (by omega) false))
                have g2 : (d.fuse == 0) = false := by rw [beq_eq_false_iff_ne]; exact h0
                have g3 : decide (d.fuse > 0) = true := decide_eq_true h1
                clear hO3 HO2
                go_wp2
                refine bodyPost_ret (results_disk_err rfl _ _ (w.heap.size + 1) rfl HF.out.1) rfl (by rw [HE.out.1, HE.out.2]; exact ⟨A2, c2, B2, k2, rfl, HF.out.2.1, HF.out.2.2.1, HF.out.2.2.2⟩)
              · have HE : Hid (putD d slot s = addD d slot s d.fuse false ∧ putE d slot s = 0) := Lib.hid (by unfold putD putE; rw [HOFF.out, HH.out, if_neg HBIG.out, if_neg HBIG.out, if_neg h0, if_neg h0, if_neg h1]; exact ⟨rfl, rfl⟩)
                have hO3 := HO2.out
                change Own w _ (addD d slot s d.fuse d.off) A2 c2 B2 k2 at hO3
                rw [HOFF.out] at hO3
                have HF := Lib.hid (hO3.finF (sz_add HSZ.out HM.out HS.out (by omega) (by omega) false))
                have g2 : (d.fuse == 0) = false := by rw [beq_eq_false_iff_ne]; exact h0
                have g3 : decide (d.fuse > 0) = false := decide_eq_false h1
                clear hO3 HO2
                go_wp2
                refine bodyPost_ret (results_disk_err rfl _ _ (w.heap.size + 1) rfl HF.out.1) rfl (by rw [HE.out.1, HE.out.2]; exact ⟨A2, c2, B2, k2, rfl, HF.out.2.1, HF.out.2.2.1, HF.out.2.2.2⟩)
end
end Go.Proofs.Ytnpognhgncnnpaa.Mat
