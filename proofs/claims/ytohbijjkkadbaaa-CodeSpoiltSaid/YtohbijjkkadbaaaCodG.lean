/- All shards, by the program and by the document: walked. -/
import Derived.Test.YtohbijjkkadbaaaCodF
namespace Go.Proofs.Ytohbijjkkadbaaa.Mat
open Go.RowKit Fld

/-- so long, and so much room; nil has none -/
def Fit (A : Option Addr) (n cap : Nat) : Prop := n ≤ cap ∧ (A = none → cap = 0)
theorem own_fit {w : World} {base e s k cap : Nat} {A : Option Addr} {xs : List Value} (h : w.ownsRow base e s (.slice A k cap) k xs) : Fit A k cap := by
  rcases h.2 with ⟨h1, h2⟩ | ⟨g, c, cur, hv, hg, hh, hc, hm, hs, ht⟩
  · injection h1 with h3 h4 h5; exact ⟨by omega, fun _ => h5⟩
  · injection hv with h3 h4 h5; subst h3; exact ⟨by omega, fun h => by cases h⟩
/-- a call answers texts, and an error -/
def TextsRet (w : World) (E : Int) (n : Nat) (T : Nat → ByteArray) (e : Ending) (w' : World) : Prop :=
  ∃ A cap, e = .returned (.tuple #[.slice A n cap, .int .i64 E]) ∧ Fit A n cap ∧ St w' w'.heap.size A n T ∧ Below w.heap.size w w'
theorem FailRet.texts {w w' : World} {E : Int} {e : Ending} (h : FailRet w E e w') (T : Nat → ByteArray) : TextsRet w E 0 T e w' := ⟨_, _, h.1, ⟨Nat.le_refl _, fun _ => rfl⟩, St.nil_ _ _ _ _, h.2⟩
/-- .. texts alone -/
def ListRet (w : World) (n : Nat) (T : Nat → ByteArray) (e : Ending) (w' : World) : Prop :=
  ∃ A cap, e = .returned (.slice A n cap) ∧ Fit A n cap ∧ St w' w'.heap.size A n T ∧ Below w.heap.size w w'
/-- the texts' own row, when r of n are made -/
def upto (T : Nat → ByteArray) (r i : Nat) : Value := if i < r then .string (T i) else .string ByteArray.empty
theorem own_drewN {b : World} {base e s k : Nat} {v : Value} {xs : List Value} (h : b.ownsRow base e s v k xs) (q : Nat) : (b.drewN q).ownsRow base e s v k xs := h
theorem own_rw {b : World} {base k : Nat} {v : Value} {f : Nat → BitVec 8} (h : b.ownsRow base 5 1 v k (vals k f)) : ∃ A cap, v = .slice A k cap ∧ Rw b b.heap.size A k f := by
  rcases Nat.eq_zero_or_pos k with h0 | h0
  · subst h0
    obtain ⟨_, h1 | ⟨g, c, cur, hv, _⟩⟩ := h
    · exact ⟨none, 0, h1.1, fun hh => absurd hh (by omega)⟩
    · exact ⟨_, c, hv, fun hh => absurd hh (by omega)⟩
  · obtain ⟨g, cap, hv, hg, hlt⟩ := h.form h0
    obtain ⟨b', hb, hb1, hb2, _, hb3⟩ := Has.of_owns (hv ▸ h) h0 (f := fun c => .int .u8 (V (f c))) (fun i hi => vals_get hi)
    injection hb with hb
    injection hb with hb _
    subst hb
    exact ⟨_, cap, hv, Rw.of_has hb3 hlt⟩

section
variable {A A' : Option Addr} {n m cap cap' : Nat} {S : Nat → ByteArray} {f : Nat → BitVec 8} {w : World} {L RC : Nat → Nat} {RA : Nat → Option Addr} {F : Nat → Nat → BitVec 8}
set_option maxRecDepth 100000 in
set_option maxHeartbeats 1600000 in
theorem shards_any (h : St w w.heap.size A n S) (hM : Mt w w.heap.size A' m (fun _ => n) RA RC F) (hn0 : 0 < n) (hn : n ≤ 32) (hm : m ≤ 32) (he : Even n S) (hz : (S 0).size ≤ 140737488351232) :
    Calls Try.prog 35 #[.slice A' m cap', .slice A n cap] w (ListRet w m (fun r => mixS n (F r) S)) := by
  have hmk := run_make_row' (P := Try.prog) 31 9 (.string ByteArray.empty) 16 Try.underlying31 infoStr rfl .i64 .i64 m (by omega) (by omega)
  have H := Lib.hid h
  have HM := Lib.hid hM
  have HE := Lib.hid he
  have HZ := Lib.hid hz
  clear h hM he hz
  go_enter Try.func35, Try.ntmps35
  go_wp2
  clear hmk
  go_loopg [13] m (fun gh v wr => ∃ r, r ≤ m ∧ gh = m - r ∧ v = .int .i64 (r : Nat) ∧ Below w.heap.size w wr ∧ Has wr w.heap.size 9 m (upto (fun r => mixS n (F r) S) r))
  case atStart => exact ⟨0, Nat.zero_le _, rfl, rfl, (Below.refl _ _).alloc (Nat.le_refl _) _, (Has.of_is (World.rowIs_made w (.string ByteArray.empty) m 9)).congr (fun a _ => by unfold upto; rw [if_neg (by omega)])⟩
  case round =>
    obtain ⟨r, hr, rfl, rfl, hB, hH⟩ := hrel
    by_cases hrm : r < m
    · have hrz : (r : Int) < (m : Int) := by omega
      obtain ⟨ad, rfl, hb, k1, _, hR⟩ := HM.out.row hrm
      rw [← hB.cell (by rw [block_of_add]; exact hb)] at k1
      have k2 : ∀ W, Below wr.heap.size wr W → W.cell? ⟨w.heap.size, r, none⟩ = some (upto (fun r => mixS n (F r) S) r r) := fun W hW => (hH.below hW hH.lt).cell hrm
      have k3 : ∀ W, Below wr.heap.size wr W → W.frozen? ⟨w.heap.size, r, none⟩ = false := fun W hW => (hH.below hW hH.lt).frozen hrm
      have HR := Lib.hid (hR.below hB hB.size)
      have HS := Lib.hid (H.out.below hB hB.size)
      have HB := Lib.hid hB
      have HH := Lib.hid hH
      have K2 := Lib.hid k2
      have K3 := Lib.hid k3
      clear hR hB hH k2 k3
      go_wp2_with fail
      refine (shard_any HS.out HR.out hn0 hn HE.out HZ.out).mono ?_; rintro e w1 ⟨rfl, hB1⟩
      have d1 := K2.out w1 hB1
      have d2 := K3.out w1 hB1
      have HB1 := Lib.hid hB1
      clear hB1
      go_wp2
      go_roundg (m - (r + 1))
      case measure => go_light; omega
      case rel =>
        go_light
        refine ⟨r + 1, by omega, rfl, by simp, (HB.out.trans (HB1.out.mono HB.out.size)).setCell (p := ⟨w.heap.size, r, none⟩) (Nat.le_refl _) _, ?_⟩
        exact ((HH.out.below HB1.out HH.out.lt).set_ r _).congr (fun a _ => by
          unfold upto
          by_cases e : a = r
          · subst e; rw [if_pos rfl, if_pos (by omega)]
          · rw [if_neg e]
            by_cases e2 : a < r
            · rw [if_pos e2, if_pos (by omega)]
            · rw [if_neg e2, if_neg (by omega)])
    · have hrz : ¬ (r : Int) < (m : Int) := by omega
      obtain rfl : r = m := by omega
      have HB := Lib.hid hB
      have HH := Lib.hid hH
      clear hB hH
      go_wp2
      go_ret
      exact ⟨_, _, rfl, ⟨Nat.le_refl _, fun h => by cases h⟩, St.of_has (HH.out.congr (fun a ha => by unfold upto; rw [if_pos ha])) HH.out.lt, HB.out⟩

set_option maxRecDepth 100000 in
set_option maxHeartbeats 1600000 in
theorem refMix_any (h : St w w.heap.size A n S) (hR : Rw w w.heap.size A' n f) (hn0 : 0 < n) (hn : n ≤ 32) (he : Even n S) (hz : (S 0).size ≤ 140737488351232) :
    Calls Try.prog 38 #[.slice A' n cap', .slice A n cap] w (TextRet w (mixS n f S)) := by
  obtain ⟨j0, ji, jz0, jz1, jz2⟩ := info_parts infoByte
  obtain ⟨ad, rfl, hb, hc⟩ := h hn0
  obtain ⟨ad', rfl, hb', hc'⟩ := hR hn0
  have c0 := hc 0 hn0
  rw [add_zero] at c0
  have H := Lib.hid hc
  have H' := Lib.hid hc'
  have HE := Lib.hid he
  have C0 := Lib.hid c0
  have g0 : decide ((n : Int) > 0) = true := by simp; omega
  clear h hR hc hc' he c0
  go_enter Try.func38, Try.ntmps38
  go_wp2
  go_loopg [5, 6] (S 0).size (fun gh v i wr => ∃ x, x ≤ (S 0).size ∧ gh = (S 0).size - x ∧ i = .int .i64 (x : Nat) ∧ Below w.heap.size w wr ∧ wr.ownsRow w.heap.size 5 1 v x (vals x (fun a => sm n (fun i => gm (f i) (bt (S i) a)))))
  case atStart => exact ⟨0, Nat.zero_le _, rfl, rfl, Below.refl _ _, World.ownsRow_nil _ _ _ _⟩
  case round =>
    obtain ⟨x, hx, rfl, rfl, hB, hO⟩ := hrel
    have c0 := C0.out
    rw [← hB.cell hb] at c0
    have HB := Lib.hid hB
    have HO := Lib.hid hO
    clear hB hO
    by_cases hxz : x < (S 0).size
    · have hxi : decide ((x : Int) < ((S 0).size : Int)) = true := by simp; omega
      go_wp2
      clear c0
      obtain ⟨wo, rfl⟩ : ∃ wo : World, wo = wr := ⟨_, rfl⟩
      go_loopg [7, 8] n (fun gh s i wi => ∃ c q, c ≤ n ∧ gh = n - c ∧ i = .int .i64 (c : Nat) ∧ s = .int .u8 (V (sm c (fun i => gm (f i) (bt (S i) x)))) ∧ wi = wo.drewN q)
      case atStart => exact ⟨0, 0, Nat.zero_le _, rfl, rfl, rfl, rfl⟩
      case round =>
        obtain ⟨c, q, hc, rfl, rfl, rfl, rfl⟩ := hrel
        by_cases hcn : c < n
        · have hcz : (c : Int) < (n : Int) := by omega
          have k1 : wo.cell? (ad'.add c) = some (.int .u8 (V (f c))) := by
            rw [HB.out.cell (by rw [block_of_add]; exact hb')]; exact H'.out c hcn
          have k4 : wo.cell? (ad.add c) = some (.string (S c)) := by
            rw [HB.out.cell (by rw [block_of_add]; exact hb)]; exact H.out c hcn
          have k5 := fun w => str_at (S c) x (by rw [HE.out c hcn]; exact hxz) w
          go_wp2_with fail
          go_quiet ((go_at_call 59; exact quiet_more (refMul_any _ _ (V_lo _) (V_hi _) (V_lo _) (V_hi _) _)))
          go_wp2
          go_roundg (n - (c + 1))
          case measure => go_light; omega
          case rel => go_light; exact ⟨c + 1, _, by omega, rfl, by simp, by rw [B_V, B_V, xor_V, sm_succ], rfl⟩
        · have hcz : ¬ (c : Int) < (n : Int) := by omega
          obtain rfl : c = n := by omega
          have HB2 := Lib.hid (below_drewN HB.out q)
          have HO2 := Lib.hid (own_drewN HO.out q)
          clear HB HO
          generalize wo.drewN q = wb at *
          go_wp2_with (at_builtin; refine wpList_append_own _ rfl (.tmp 41) (.tmp 43) 55 rfl w.heap.size 5 j0 (.int .u8 0) 1 1 Try.underlying55 ji jz0 jz1 jz2 rfl (by decide) _ _ _ rfl (HO2.out.alloc _) ⟨wb.heap.size, 0, none⟩ 1 1 [.int .u8 (V (sm c (fun i => gm (f i) (bt (S i) x))))] rfl rfl (one_news _ _) (by simp [Value.oneCell']) (by unfold maxLen; omega) (by omega) (by rw [size_alloc]; have := HB2.out.size; omega) ?_)
          intro v' w' hown hgrow _
          have HN := Lib.hid (row_next (f := fun a => sm c (fun i => gm (f i) (bt (S i) a))) HB2.out HO2.out hown hgrow)
          clear hown hgrow
          go_wp2
          go_roundg ((S 0).size - (x + 1))
          case measure => go_light; omega
          case rel => go_light; exact ⟨x + 1, by omega, rfl, by simp, HN.out.1, HN.out.2⟩
    · have hxi : decide ((x : Int) < ((S 0).size : Int)) = false := by simp; omega
      obtain rfl : x = (S 0).size := by omega
      obtain ⟨A2, c2, rfl, hrw⟩ := own_rw HO.out
      have hcv := row_convert (c := c2) hrw
      clear hrw HO
      go_wp2
      go_ret
      exact ⟨rfl, HB.out⟩
end
end Go.Proofs.Ytohbijjkkadbaaa.Mat
