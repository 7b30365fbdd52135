/- All shards of data in one row; the pieces that are left: walked. -/
import Derived.Test.YtohbijjkkadbaaaCodX
namespace Go.Proofs.Ytohbijjkkadbaaa.Mat
open Go.RowKit Fld

def ListSome (w : World) (n : Nat) (T : Nat → ByteArray) (e : Ending) (w' : World) : Prop :=
  ∃ a cap, e = .returned (.slice (some a) n cap) ∧ Fit (some a) n cap ∧ St w' w'.heap.size (some a) n T ∧ Below w.heap.size w w'
/-- texts that are not nil, and an error -/
def TextsSome (w : World) (E : Int) (n : Nat) (T : Nat → ByteArray) (e : Ending) (w' : World) : Prop :=
  ∃ a cap, e = .returned (.tuple #[.slice (some a) n cap, .int .i64 E]) ∧ Fit (some a) n cap ∧ St w' w'.heap.size (some a) n T ∧ Below w.heap.size w w'
section
variable {A A' : Option Addr} {n m cap cap' : Nat} {S : Nat → ByteArray} {f : Nat → BitVec 8} {w : World} {L RC : Nat → Nat} {RA : Nat → Option Addr} {F : Nat → Nat → BitVec 8}
set_option maxRecDepth 100000 in
set_option maxHeartbeats 1600000 in
theorem shards_some (h : St w w.heap.size A n S) (hM : Mt w w.heap.size A' m (fun _ => n) RA RC F) (hn0 : 0 < n) (hn : n ≤ 32) (hm : m ≤ 32) (he : Even n S) (hz : (S 0).size ≤ 140737488351232) :
    Calls Try.prog 35 #[.slice A' m cap', .slice A n cap] w (ListSome w m (fun r => mixS n (F r) S)) := by
  have hmk := run_make_row' (P := Try.prog) 31 9 (.string ByteArray.empty) 16 Try.underlying31 infoStr rfl .i64 .i64 m (by omega) (by omega)
  have H := Lib.hid h
  have HM := Lib.hid hM
  have HE := Lib.hid he
  have HZ := Lib.hid hz
  clear h hM he hz
  go_enter Try.func35, Try.ntmps35
  go_wp2
  clear hmk
  go_loopg [13] m (fun gh v wr => ∃ r, r ≤ m ∧ gh = m - r ∧ v = .int .i64 (r : Nat) ∧ Below w.heap.size w wr ∧ Has wr w.heap.size 9 m (upto (fun r => mixS n (F r) S) r))
  case atStart => exact ⟨0, Nat.zero_le _, rfl, rfl, (Below.refl _ _).alloc (Nat.le_refl _) _, (Has.of_is (World.rowIs_made w (.string ByteArray.empty) m 9)).congr (fun a _ => by unfold upto; rw [if_neg (by omega)])⟩
  case round =>
    obtain ⟨r, hr, rfl, rfl, hB, hH⟩ := hrel
    by_cases hrm : r < m
    · have hrz : (r : Int) < (m : Int) := by omega
      obtain ⟨ad, rfl, hb, k1, _, hR⟩ := HM.out.row hrm
      rw [← hB.cell (by rw [block_of_add]; exact hb)] at k1
      have k2 : ∀ W, Below wr.heap.size wr W → W.cell? ⟨w.heap.size, r, none⟩ = some (upto (fun r => mixS n (F r) S) r r) := fun W hW => (hH.below hW hH.lt).cell hrm
      have k3 : ∀ W, Below wr.heap.size wr W → W.frozen? ⟨w.heap.size, r, none⟩ = false := fun W hW => (hH.below hW hH.lt).frozen hrm
      have HR := Lib.hid (hR.below hB hB.size)
      have HS := Lib.hid (H.out.below hB hB.size)
      have HB := Lib.hid hB
      have HH := Lib.hid hH
      have K2 := Lib.hid k2
      have K3 := Lib.hid k3
      clear hR hB hH k2 k3
      go_wp2_with fail
      refine (shard_any HS.out HR.out hn0 hn HE.out HZ.out).mono ?_; rintro e w1 ⟨rfl, hB1⟩
      have d1 := K2.out w1 hB1
      have d2 := K3.out w1 hB1
      have HB1 := Lib.hid hB1
      clear hB1
      go_wp2
      go_roundg (m - (r + 1))
      case measure => go_light; omega
      case rel =>
        go_light
        refine ⟨r + 1, by omega, rfl, by simp, (HB.out.trans (HB1.out.mono HB.out.size)).setCell (p := ⟨w.heap.size, r, none⟩) (Nat.le_refl _) _, ?_⟩
        exact ((HH.out.below HB1.out HH.out.lt).set_ r _).congr (fun a _ => by
          unfold upto
          by_cases e : a = r
          · subst e; rw [if_pos rfl, if_pos (by omega)]
          · rw [if_neg e]
            by_cases e2 : a < r
            · rw [if_pos e2, if_pos (by omega)]
            · rw [if_neg e2, if_neg (by omega)])
    · have hrz : ¬ (r : Int) < (m : Int) := by omega
      obtain rfl : r = m := by omega
      have HB := Lib.hid hB
      have HH := Lib.hid hH
      clear hB hH
      go_wp2
      go_ret
      exact ⟨_, _, rfl, ⟨Nat.le_refl _, fun h => by cases h⟩, St.of_has (HH.out.congr (fun a ha => by unfold upto; rw [if_pos ha])) HH.out.lt, HB.out⟩

end
section
variable {A : Option Addr} {n cap : Nat} {S : Nat → ByteArray} {w : World}
set_option maxRecDepth 100000 in
set_option maxHeartbeats 800000 in
theorem encode_some {m : Nat} (hS : St w w.heap.size A n S) (h1 : 1 ≤ n) (h2 : n + m ≤ 32) (he : Even n S) (hz : (S 0).size ≤ 140737488351232) :
    Calls Try.prog 18 #[.int .i64 (n : Int), .int .i64 (m : Int), .slice A n cap] w (TextsSome w 0 m (fun r => enc n S (n + r))) := by
  have hmay : MayB (n : Int) (m : Int) = true := decide_eq_true (by omega)
  have HM := Lib.hid hmay; clear hmay
  have HS := Lib.hid hS; clear hS
  have HE := Lib.hid (even_yes he)
  have HE2 := Lib.hid he; clear he
  have HZ := Lib.hid hz; clear hz
  have g1 : ((n : Int) != (n : Int)) = false := by rw [bne_eq_false_iff_eq]
  go_enter Try.func18, Try.ntmps18
  go_wp2_with fail
  have hbox := has_box w (.int .i64 (n : Int)) 3
  have hb0 : Below w.heap.size w (w.alloc (.cells #[.int .i64 (n : Int)] 3)) := (Below.refl _ _).alloc (Nat.le_refl _) _
  generalize w.alloc (.cells #[.int .i64 (n : Int)] 3) = w0 at *
  refine (codeMay_any _ _ (by omega) (by omega) _).mono ?_; rintro e w1 ⟨rfl, rfl⟩
  rw [HM.out]
  have hc0 := hbox.cell (i := 0) (by omega)
  have HB := Lib.hid hb0
  have HX := Lib.hid hbox
  clear hb0 hbox
  go_wp2_with fail
  refine (even_any (HS.out.up HB.out) (by omega)).mono ?_; rintro e w1 ⟨rfl, rfl⟩
  rw [HE.out]
  go_wp2_with fail
  refine (table_yes n m h1 h2 _).mono ?_; rintro e w1 ⟨A1, c1, RA1, RC1, rfl, hM1, hB1⟩
  have M1 := Lib.hid hM1
  have HB1 := Lib.hid (HB.out.trans (hB1.mono HB.out.size))
  have HX1 := Lib.hid (HX.out.below hB1 HX.out.lt)
  clear hM1 hB1 HB HX hc0
  go_wp2_with fail
  refine (chosenRows_any (p := hiB n) 36 #[.pointer (some ⟨w.heap.size, 0, none⟩)] h2 M1.out
    (fun r W _ hW => hiPlace_any n r w.heap.size W ((HX1.out.below hW HX1.out.lt).cell (by omega))) (by kernel_rfl)).mono ?_; rintro e w2 ⟨v, rfl, hC⟩
  obtain ⟨A2, c2, rfl, _, hM2⟩ := hC.mt M1.out
  have M2 := Lib.hid (mt_hi (L := fun _ => n) (RA := RA1) (RC := RC1) (F := tab n) hM2)
  have HB2 := Lib.hid (up_trans HB1.out hC.below)
  rw [cnt_hi]
  clear hC hM2 HX1 HB1 M1
  go_wp2_with fail
  refine (shards_some (HS.out.up HB2.out) M2.out h1 (by omega) (by omega) HE2.out HZ.out).mono ?_; rintro e w3 ⟨A3, c3, rfl, hc3, hS3, hB3⟩
  have HB3 := Lib.hid (up_trans HB2.out hB3)
  have HS3 := Lib.hid hS3
  clear hS3 hB3 HB2 M2
  go_wp2
  go_ret2
  exact ⟨_, _, rfl, hc3, HS3.out, HB3.out⟩

end
theorem encE_yes' {k m : Int} {n : Nat} {S : Nat → ByteArray} (h : encE k m n S = 0) : ∃ m' : Nat, m = m' ∧ k = n ∧ 1 ≤ n ∧ n + m' ≤ 32 ∧ Even n S := by
  rcases enc_cases k m n S with ⟨_, e⟩ | ⟨_, _, e⟩ | ⟨_, _, _, e⟩ | ⟨m', h1, h2, h3, h4, h5, _⟩
  · rw [h] at e; exact absurd e (by decide)
  · rw [h] at e; exact absurd e (by decide)
  · rw [h] at e; exact absurd e (by decide)
  · exact ⟨m', h1, h2.symm, h3, h4, h5⟩

/-! ### the pieces that are left -/
section
variable {p : Nat → Bool} {n m : Nat} {S : Nat → ByteArray}
theorem pk_cnt {N i : Nat} (hi : i < N) (h : p i = true) : pk p N (cnt p i) = i := by
  have h1 := pk_prefix (p := p) (i := cnt p i) (n := N) (idx := i + 1) (by omega) (by rw [cnt_yes h]; omega)
  rw [h1]
  unfold pk cnt
  rw [ch_yes h, List.getD_eq_getElem?_getD, List.getElem?_append_right (Nat.le_refl _)]
  simp
def anyI (p : Nat → Bool) (N a : Nat) : Int := (pk p N a : Int)
def anyS (n : Nat) (S : Nat → ByteArray) (p : Nat → Bool) (N a : Nat) : ByteArray := enc n S (pk p N a)
theorem any_good {N : Nat} : Good (anyI p N) N (cnt p N) := good_iff.2 ⟨fun j hj => ⟨by unfold anyI; omega, by unfold anyI; have := pk_lt hj; omega⟩, fun a b ha hb hab e => hab (pk_inj ha hb (by unfold anyI at e; omega))⟩
theorem any_num {N r : Nat} (hr : r < N) : num (anyI p N) (cnt p N) r = p r := by
  rw [Bool.eq_iff_iff, num_iff]
  constructor
  · rintro ⟨j, hj, e⟩
    have : pk p N j = r := by unfold anyI at e; omega
    rw [← this]; exact pk_yes hj
  · intro h
    obtain ⟨i, hi, e⟩ := pk_at hr h
    exact ⟨i, hi, by unfold anyI; rw [e]⟩
theorem any_pkn {N i : Nat} : pkn (anyI p N) N (cnt p N) i = pk p N i := pk_congr (fun _ hr => any_num hr) i
theorem any_pkt {N i : Nat} (hi : i < cnt p N) : pkt (anyI p N) (anyS n S p N) N (cnt p N) i = enc n S (pkn (anyI p N) N (cnt p N) i) := by
  unfold pkt
  have := txt_at (I := anyI p N) (S := anyS n S p N) any_good hi
  have e : (anyI p N i).toNat = pk p N i := by unfold anyI; omega
  rw [e] at this
  rw [any_pkn, this]; rfl
theorem any_even {N : Nat} : Even (cnt p N) (anyS n S p N) := fun i _ => by unfold anyS; rw [enc_size, enc_size]
theorem any_few (h1 : 1 ≤ n) (h2 : n + m ≤ 32) (h : cnt p (n + m) < n) : rebE (n : Int) (m : Int) (cnt p (n + m)) (anyI p (n + m)) (anyS n S p (n + m)) = 10 := by
  have hmay : MayB (n : Int) (m : Int) = true := decide_eq_true (by omega)
  have e : ((n : Int) + (m : Int)).toNat = n + m := by omega
  unfold rebE
  rw [e, if_pos ⟨hmay, any_good⟩, if_pos (by omega)]
theorem any_ok (h1 : 1 ≤ n) (h2 : n + m ≤ 32) (h : n ≤ cnt p (n + m)) : rebE (n : Int) (m : Int) (cnt p (n + m)) (anyI p (n + m)) (anyS n S p (n + m)) = 0 := by
  have hmay : MayB (n : Int) (m : Int) = true := decide_eq_true (by omega)
  have e : ((n : Int) + (m : Int)).toNat = n + m := by omega
  unfold rebE
  rw [e, if_pos ⟨hmay, any_good⟩, if_neg (by omega), if_pos any_even]
theorem any_len (h1 : 1 ≤ n) (h2 : n + m ≤ 32) (h : n ≤ cnt p (n + m)) : rebL (n : Int) (m : Int) (cnt p (n + m)) (anyI p (n + m)) (anyS n S p (n + m)) = n + m := by
  unfold rebL
  rw [any_ok h1 h2 h, if_pos rfl]; omega
theorem any_all (h1 : 1 ≤ n) (h2 : n + m ≤ 32) (h : n ≤ cnt p (n + m)) (r : Nat) : rebT (n : Int) (m : Int) (cnt p (n + m)) (anyI p (n + m)) (anyS n S p (n + m)) r = enc n S r := by
  have e : ((n : Int) + (m : Int)).toNat = n + m := by omega
  unfold rebT
  rw [e]
  exact reb_enc (k := n) (by omega) h1 (fun i hi => by
      have hi' : i < n := hi
      have := pkn_lt (any_good (p := p) (N := n + m)) (i := i) (by omega); omega)
    (fun i j hi hj e => by
      have hi' : i < n := hi
      have hj' : j < n := hj
      exact pkn_inj (any_good (p := p) (N := n + m)) (by omega) (by omega) e) (fun a ha => by
      have ha' : a < n := ha
      exact any_pkt (by omega)) r
theorem fits_enc (h1 : 1 ≤ n) (h2 : n + m ≤ 32) (he : Even n S) : fitsB (n : Int) (m : Int) (n + m) (enc n S) = true := by
  rw [fits_at h1 h2 rfl, Bool.and_eq_true, even_iff, stB_iff]
  exact ⟨fun i _ => by rw [enc_size, enc_size], rfl, fun i _ => enc_congr h1 (fun q hq => enc_lo (by omega) he hq) _⟩
theorem num_more {f : Nat → Int} {j i : Nat} (h : num f j i = true) : num f (j + 1) i = true := by
  unfold num; rw [h]; split <;> rfl
theorem num_hit {f : Nat → Int} {j i : Nat} (h : f j = (i : Int)) : num f (j + 1) i = true := by unfold num; rw [if_pos h]
theorem num_miss {f : Nat → Int} {j i : Nat} (h : f j ≠ (i : Int)) : num f (j + 1) i = num f j i := by simp [num, h]

/-- the data and the shards besides, in a row -/
theorem all_get {i : Nat} (h2 : n + m ≤ 32) (he : Even n S) (hi : i < n + m) : (txs S n ++ txs (fun r => enc n S (n + r)) m)[i]? = some (.string (enc n S i)) :=
  txs_both (fun i hi => (enc_lo (by omega) he hi).symm) (fun _ _ => rfl) hi
theorem Chosen.empty (w : World) (e : TypeId) : Chosen w (w.alloc (.cells #[] e)) e (.slice (some ⟨w.heap.size, 0, none⟩) 0 0) [] :=
  ⟨World.ownsRow_lit w #[] 0 (Nat.le_refl _) (Nat.zero_le _) rfl, (Below.refl _ _).alloc (Nat.le_refl _) _⟩
end
end Go.Proofs.Ytohbijjkkadbaaa.Mat
