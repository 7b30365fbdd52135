/- Contents of parts: walked. -/
import Derived.Test.YtjfgainieoaeaaaBlkF
namespace Go.Proofs.Ytjfgainieoaeaaa.Mat
open Go.RowKit Fld

theorem add_pos (a : Addr) (n : Nat) (h : n ≠ 0) : a.add n = ⟨a.block, a.off + n, none⟩ := if_neg h
/-- parts: numbers and texts -/
def Pc (w : World) (B : Nat) (A : Option Addr) (n : Nat) (I : Nat → Int) (S : Nat → ByteArray) : Prop :=
  0 < n → ∃ ad, A = some ad ∧ ad.block < B ∧ ∀ r, r < n → w.cell? (ad.add (r * 2)) = some (.int .i64 (I r)) ∧ w.cell? (ad.add (r * 2 + 1)) = some (.string (S r))
theorem Pc.below {w w' : World} {B B' n : Nat} {A : Option Addr} {I : Nat → Int} {S : Nat → ByteArray} (h : Pc w B A n I S) (hb : Below B w w') (hB : B ≤ B') : Pc w' B' A n I S := fun hn => by
  obtain ⟨ad, e, hl, hc⟩ := h hn
  exact ⟨ad, e, by omega, fun r hr => ⟨(hb.cell (by rw [block_of_add]; exact hl)).trans (hc r hr).1, (hb.cell (by rw [block_of_add]; exact hl)).trans (hc r hr).2⟩⟩
theorem Pc.up {w w' : World} {n : Nat} {A : Option Addr} {I : Nat → Int} {S : Nat → ByteArray} (h : Pc w w.heap.size A n I S) (hb : Below w.heap.size w w') : Pc w' w'.heap.size A n I S := h.below hb hb.size
theorem Pc.at_ {w : World} {B n : Nat} {A : Option Addr} {I : Nat → Int} {S : Nat → ByteArray} (h : Pc w B A n I S) {r : Nat} (hr : r < n) :
    ∃ ad, A = some ad ∧ ad.block < B ∧ w.cell? (ad.add (r * 2)) = some (.int .i64 (I r)) ∧ w.cell? ⟨(ad.add (r * 2)).block, (ad.add (r * 2)).off + 1, none⟩ = some (.string (S r)) := by
  obtain ⟨ad, e, hl, hc⟩ := h (by omega)
  exact ⟨ad, e, hl, (hc r hr).1, by rw [← add_pos _ _ (by omega), add_add]; exact (hc r hr).2⟩

/-- what stands where, when r parts were laid -/
def lay (I : Nat → Int) (S : Nat → ByteArray) : Nat → Nat → BitVec 8
  | 0, _ => 0#8
  | r + 1, c => if I r ≤ (c : Int) ∧ (c : Int) < I r + (S r).size then bt (S r) (c - (I r).toNat) else lay I S r c
def layB (size : Int) (n : Nat) (I : Nat → Int) (S : Nat → ByteArray) : Bool := decide (0 ≤ size ∧ size ≤ 65536 ∧ ∀ r, r < n → withB (I r) (S r).size size = true)
theorem lay_iff {size : Int} {n : Nat} {I : Nat → Int} {S : Nat → ByteArray} : layB size n I S = true ↔ (0 ≤ size ∧ size ≤ 65536 ∧ ∀ r, r < n → withB (I r) (S r).size size = true) := decide_eq_true_iff
theorem lay_niff {size : Int} {n : Nat} {I : Nat → Int} {S : Nat → ByteArray} : layB size n I S = false ↔ ¬ (0 ≤ size ∧ size ≤ 65536 ∧ ∀ r, r < n → withB (I r) (S r).size size = true) := decide_eq_false_iff_not
def layE (size : Int) (n : Nat) (I : Nat → Int) (S : Nat → ByteArray) : Int := if layB size n I S then 0 else 1
def layS (size : Int) (n : Nat) (I : Nat → Int) (S : Nat → ByteArray) : ByteArray := if layB size n I S then rs size.toNat (lay I S n) else ByteArray.empty
theorem lay_in {N n : Nat} {I : Nat → Int} {S : Nat → ByteArray} (h : layB (N : Int) n I S = true) : layE N n I S = 0 ∧ layS N n I S = rs N (lay I S n) := by
  unfold layE layS; rw [h]; exact ⟨rfl, by simp⟩
theorem lay_out {size : Int} {n : Nat} {I : Nat → Int} {S : Nat → ByteArray} (h : layB size n I S = false) : layE size n I S = 1 ∧ layS size n I S = ByteArray.empty := by
  unfold layE layS; rw [h]; exact ⟨rfl, rfl⟩
/-- the facts of parts -/
def PcOk (n cap : Nat) (I : Nat → Int) (S : Nat → ByteArray) : Prop := n ≤ cap ∧ n ≤ 9223372036854775807 ∧ ∀ i, i < n → -9223372036854775808 ≤ I i ∧ I i ≤ 9223372036854775807 ∧ (S i).size ≤ 140737488351232
/-- a part in a box of its own -/
def cell2 (i : Int) (s : ByteArray) (j : Nat) : Value := if j = 0 then .int .i64 i else .string s
theorem has_part (w : World) (i : Int) (s : ByteArray) : Has (w.alloc (.cells #[.int .i64 i, .string s] 51)) w.heap.size 51 2 (cell2 i s) :=
  has_new w _ _ (fun j hj => by
    have : j = 0 ∨ j = 1 := by omega
    rcases this with rfl | rfl <;> rfl)

section
variable {A : Option Addr} {n cap : Nat} {I : Nat → Int} {S : Nat → ByteArray} {w : World}
set_option maxRecDepth 100000 in
set_option maxHeartbeats 800000 in
theorem lay_bad (size : Int) (h : ¬ (0 ≤ size ∧ size ≤ 65536)) : Calls Try.prog 18 #[.int .i64 size, .slice A n cap] w (TxtRet w 1 ByteArray.empty) := by
  cases h1 : decide (size < 0)
  · have h2 : decide (65536 < size) = true := by
      have := of_decide_eq_false h1
      exact decide_eq_true (by omega)
    clear h
    go_enter Try.func18, Try.ntmps18
    go_wp2
    go_ret2
    exact ⟨rfl, Below.refl _ _⟩
  · clear h
    go_enter Try.func18, Try.ntmps18
    go_wp2
    go_ret2
    exact ⟨rfl, Below.refl _ _⟩
set_option maxRecDepth 100000 in
set_option maxHeartbeats 1600000 in
theorem lay_some (h : Pc w w.heap.size A n I S) (hok : PcOk n cap I S) (N : Nat) (hN : N ≤ 65536) :
    Calls Try.prog 18 #[.int .i64 (N : Int), .slice A n cap] w (TxtRet w (layE N n I S) (layS N n I S)) := by
  obtain ⟨_, hn, hok⟩ := hok
  have hmk := run_make_row' (P := Try.prog) 56 5 (.int .u8 0) 1 Try.underlying56 infoByte rfl .i64 .i64 N (by omega) (by omega)
  have g1 : decide ((N : Int) < 0) = false := by simp
  have g2 : decide ((65536 : Int) < (N : Int)) = false := by simp; omega
  have H := Lib.hid h
  have HOK := Lib.hid hok
  clear h hok
  go_enter Try.func18, Try.ntmps18
  go_wp2
  clear hmk g1 g2
  go_loopg [19] n (fun gh v wr => ∃ r, r ≤ n ∧ gh = n - r ∧ v = .int .i64 (r : Nat) ∧ Hid (∀ j, j < r → withB (I j) (S j).size N = true) ∧ Below w.heap.size w wr ∧ Has wr w.heap.size 5 N (fun c => .int .u8 (V (lay I S r c))))
  case atStart => exact ⟨0, Nat.zero_le _, rfl, rfl, Lib.hid (fun j hj => absurd hj (by omega)), (Below.refl _ _).alloc (Nat.le_refl _) _, (has_noughts w rfl).congr (fun c _ => rfl)⟩
  case round =>
    obtain ⟨r, hr, rfl, rfl, HW, hB, hH⟩ := hrel
    by_cases hrn : r < n
    · have hrz : (r : Int) < (n : Int) := by omega
      obtain ⟨ad, rfl, hb, k0, k1⟩ := H.out.at_ hrn
      obtain ⟨o1, o2, o3⟩ := HOK.out r hrn
      rw [← hB.cell (by rw [block_of_add]; exact hb)] at k0
      rw [← hB.cell (by show (ad.add (r * 2)).block < _; rw [block_of_add]; exact hb)] at k1
      have hB1 := hB.alloc hB.size (.cells #[.int .i64 (I r), .string (S r)] 51)
      have hH1 := hH.alloc (.cells #[.int .i64 (I r), .string (S r)] 51)
      have hP1 := has_part wr (I r) (S r)
      have HB1 := Lib.hid hB1
      have HH1 := Lib.hid hH1
      have HP1 := Lib.hid hP1
      clear hB hH hB1 hH1 hP1
      go_upto_region 7 with fail
      generalize wr.alloc (.cells #[.int .i64 (I r), .string (S r)] 51) = wb at *
      generalize wr.heap.size = pz at *
      have c0 : wb.cell? ⟨pz, 0, none⟩ = some (.int .i64 (I r)) := HP1.out.cell (by omega)
      have c1 : wb.cell? ⟨pz, 1, none⟩ = some (.string (S r)) := HP1.out.cell (by omega)
      clear k0 k1
      cases hw : withB (I r) (S r).size N
      · have HF : Hid (layB N n I S = false) := Lib.hid (lay_niff.2 (fun hh => by rw [hh.2.2 r hrn] at hw; cases hw))
        have HWW := Lib.hid hw
        clear hw
        go_wp2_with fail
        refine (within_any _ _ _ ⟨o1, o2⟩ ⟨by omega, by omega⟩ (by omega) (by omega) _).mono ?_; rintro e w2 ⟨rfl, rfl⟩
        rw [HWW.out]
        go_wp2
        go_ret2
        exact ⟨by rw [(lay_out HF.out).1, (lay_out HF.out).2]; rfl, HB1.out⟩
      · obtain ⟨a1, a2, a3⟩ := with_iff.1 hw
        have HW2 : Hid (∀ j, j < r + 1 → withB (I j) (S j).size N = true) := Lib.hid (fun j hj => by
          by_cases e : j = r
          · subst e; exact hw
          · exact HW.out j (by omega))
        have HWW := Lib.hid hw
        clear hw
        go_wp2_with fail
        refine (within_any _ _ _ ⟨o1, o2⟩ ⟨by omega, by omega⟩ (by omega) (by omega) _).mono ?_; rintro e w2 ⟨rfl, rfl⟩
        rw [HWW.out]
        obtain ⟨o, ho⟩ : ∃ o : Nat, I r = (o : Int) := ⟨(I r).toNat, by omega⟩
        rw [ho] at c0 a1 a3
        have hoN : (o : Int) ≤ (N : Int) := by omega
        have hfit : o + (S r).size ≤ N := by omega
        have hr1 : ∀ (D : Option Addr) (dc : Nat), (0 < (S r).size → D = some ⟨w.heap.size, o, none⟩) → (Builtin.copy_ #[56, 9] 3 #[.slice D (N - o) dc, .string (S r)]).run Try.prog wb.drew = .ok (goInt (S r).size) (laid wb.drew w.heap.size o (S r).size (bt (S r))) := fun D dc hD =>
          run_copy_text 9 3 (Nat.min_eq_left (by omega)).symm hD HH1.out.drew (by omega)
        have HR := Lib.hid hr1
        have hH2 := (laid_has (off := o) (n := (S r).size) (f := bt (S r)) HH1.out.drew).congr (g := fun c => .int .u8 (V (lay I S (r + 1) c))) (fun c hc => by
          show _ = Value.int .u8 (V (if I r ≤ (c : Int) ∧ (c : Int) < I r + (S r).size then bt (S r) (c - (I r).toNat) else lay I S r c))
          rw [ho]
          by_cases e : o ≤ c ∧ c < o + (S r).size
          · rw [if_pos e, if_pos (by omega)]; simp
          · rw [if_neg e, if_neg (by omega)])
        have hB2 := laid_below (off := o) (n := (S r).size) (f := bt (S r)) HB1.out.drew (Nat.le_refl _)
        have HB2 := Lib.hid hB2
        have HH2 := Lib.hid hH2
        have HOO := Lib.hid ho
        clear hr1 hH2 hB2 HWW ho
        rw [HOO.out]
        by_cases hno : N = o
        · have hd : N - o = 0 := by omega
          rw [hd] at HR
          subst hno
          go_wp2_with fail
          go_still_tail 6, (by kernel_rfl)
          change wpList _ _ _ _ _ wb.drew
          refine wpList_copy_run rfl (.tmp 34) (.tmp 36) 56 9 rfl rfl rfl (HR.out _ _ (fun h0 => by omega)) ?_
          go_wp2
          go_roundg (n - (r + 1))
          case measure => go_light; omega
          case rel => go_light; exact ⟨r + 1, by omega, rfl, by simp, HW2, HB2.out, HH2.out⟩
        · go_wp2_with fail
          go_still_tail 6, (by kernel_rfl)
          change wpList _ _ _ _ _ wb.drew
          refine wpList_copy_run rfl (.tmp 34) (.tmp 36) 56 9 rfl rfl rfl (HR.out _ _ (fun h0 => rfl)) ?_
          go_wp2
          go_roundg (n - (r + 1))
          case measure => go_light; omega
          case rel => go_light; exact ⟨r + 1, by omega, rfl, by simp, HW2, HB2.out, HH2.out⟩
    · have hrz : ¬ (r : Int) < (n : Int) := by omega
      obtain rfl : r = n := by omega
      have HF : Hid (layB N r I S = true) := Lib.hid (lay_iff.2 ⟨by omega, by omega, fun j hj => HW.out j hj⟩)
      have hrw : Rw wr wr.heap.size (some ⟨w.heap.size, 0, none⟩) N (lay I S r) := Rw.of_has hH hH.lt
      have hcv := row_convert (c := N) hrw
      have HB := Lib.hid hB
      clear hB hH hrw
      go_wp2
      go_ret2
      exact ⟨by rw [(lay_in HF.out).1, (lay_in HF.out).2]; rfl, HB.out⟩
theorem lay_any (h : Pc w w.heap.size A n I S) (hok : PcOk n cap I S) (size : Int) :
    Calls Try.prog 18 #[.int .i64 size, .slice A n cap] w (TxtRet w (layE size n I S) (layS size n I S)) := by
  by_cases hs : 0 ≤ size ∧ size ≤ 65536
  · obtain ⟨N, rfl⟩ : ∃ N : Nat, size = N := ⟨size.toNat, by omega⟩
    exact lay_some h hok N (by omega)
  · obtain ⟨e1, e2⟩ := lay_out (size := size) (n := n) (I := I) (S := S) (lay_niff.2 (fun hh => hs ⟨hh.1, hh.2.1⟩))
    rw [e1, e2]
    exact lay_bad size hs

set_option maxRecDepth 100000 in
set_option maxHeartbeats 800000 in
theorem refLay_bad (size : Int) (h : ¬ (0 ≤ size ∧ size ≤ 65536)) : Calls Try.prog 19 #[.int .i64 size, .slice A n cap] w (TxtRet w 1 ByteArray.empty) := by
  cases h1 : decide (size < 0)
  · have h2 : decide (65536 < size) = true := by
      have := of_decide_eq_false h1
      exact decide_eq_true (by omega)
    clear h
    go_enter Try.func19, Try.ntmps19
    go_wp2
    go_ret2
    exact ⟨rfl, Below.refl _ _⟩
  · clear h
    go_enter Try.func19, Try.ntmps19
    go_wp2
    go_ret2
    exact ⟨rfl, Below.refl _ _⟩
/-- x bytes of the part r are laid -/
def lyi (I : Nat → Int) (S : Nat → ByteArray) (r x c : Nat) : BitVec 8 := if I r ≤ (c : Int) ∧ (c : Int) < I r + x then bt (S r) (c - (I r).toNat) else lay I S r c
theorem lyi_zero (r c : Nat) : lyi I S r 0 c = lay I S r c := if_neg (by omega)
theorem lyi_end (r c : Nat) : lyi I S r (S r).size c = lay I S (r + 1) c := rfl
theorem lyi_next {r o x c : Nat} (ho : I r = (o : Int)) : (if c = o + x then bt (S r) x else lyi I S r x c) = lyi I S r (x + 1) c := by
  unfold lyi
  rw [ho]
  by_cases e : c = o + x
  · rw [if_pos e, if_pos (by omega), show c - (o : Int).toNat = x by simp; omega]
  · rw [if_neg e]
    by_cases e2 : o ≤ c ∧ c < o + x
    · rw [if_pos (by omega), if_pos (by omega)]
    · rw [if_neg (by omega), if_neg (by omega)]
set_option maxRecDepth 100000 in
set_option maxHeartbeats 1600000 in
theorem refLay_some (h : Pc w w.heap.size A n I S) (hok : PcOk n cap I S) (N : Nat) (hN : N ≤ 65536) :
    Calls Try.prog 19 #[.int .i64 (N : Int), .slice A n cap] w (TxtRet w (layE N n I S) (layS N n I S)) := by
  obtain ⟨_, hn, hok⟩ := hok
  have hmk := run_make_row' (P := Try.prog) 56 5 (.int .u8 0) 1 Try.underlying56 infoByte rfl .i64 .i64 N (by omega) (by omega)
  have g1 : decide ((N : Int) < 0) = false := by simp
  have g2 : decide ((65536 : Int) < (N : Int)) = false := by simp; omega
  have H := Lib.hid h
  have HOK := Lib.hid hok
  clear h hok
  go_enter Try.func19, Try.ntmps19
  go_wp2
  clear hmk g1 g2
  go_loopg [7] n (fun gh v wr => ∃ r, r ≤ n ∧ gh = n - r ∧ v = .int .i64 (r : Nat) ∧ Hid (∀ j, j < r → withB (I j) (S j).size N = true) ∧ Below w.heap.size w wr ∧ Has wr w.heap.size 5 N (fun c => .int .u8 (V (lay I S r c))))
  case atStart => exact ⟨0, Nat.zero_le _, rfl, rfl, Lib.hid (fun j hj => absurd hj (by omega)), (Below.refl _ _).alloc (Nat.le_refl _) _, (has_noughts w rfl).congr (fun c _ => rfl)⟩
  case round =>
    obtain ⟨r, hr, rfl, rfl, HW, hB, hH⟩ := hrel
    by_cases hrn : r < n
    · have hrz : (r : Int) < (n : Int) := by omega
      obtain ⟨ad, rfl, hb, k0, k1⟩ := H.out.at_ hrn
      obtain ⟨o1, o2, o3⟩ := HOK.out r hrn
      rw [← hB.cell (by rw [block_of_add]; exact hb)] at k0
      rw [← hB.cell (by show (ad.add (r * 2)).block < _; rw [block_of_add]; exact hb)] at k1
      have hB1 := hB.alloc hB.size (.cells #[.int .i64 (I r), .string (S r)] 51)
      have hH1 := hH.alloc (.cells #[.int .i64 (I r), .string (S r)] 51)
      have hP1 := has_part wr (I r) (S r)
      have HB1 := Lib.hid hB1
      have HH1 := Lib.hid hH1
      have HP1 := Lib.hid hP1
      clear hB hH hB1 hH1 hP1
      go_upto_region 8 with fail
      generalize wr.alloc (.cells #[.int .i64 (I r), .string (S r)] 51) = wb at *
      generalize wr.heap.size = pz at *
      have c0 : wb.cell? ⟨pz, 0, none⟩ = some (.int .i64 (I r)) := HP1.out.cell (by omega)
      have c1 : wb.cell? ⟨pz, 1, none⟩ = some (.string (S r)) := HP1.out.cell (by omega)
      clear k0 k1
      by_cases hw : withB (I r) (S r).size N = true
      rotate_left
      · have HF : Hid (layB N n I S = false) := Lib.hid (lay_niff.2 (fun hh => hw (hh.2.2 r hrn)))
        have hw' : ¬ (0 ≤ I r ∧ (0 : Int) ≤ (S r).size ∧ ((S r).size : Int) ≤ N - I r) := fun hh => hw (with_iff.2 hh)
        clear hw
        by_cases d1 : I r < 0
        · clear hw'
          go_wp2
          go_ret2
          exact ⟨by rw [(lay_out HF.out).1, (lay_out HF.out).2]; rfl, HB1.out⟩
        · by_cases d2 : (N : Int) < I r
          · clear hw'
            go_wp2
            go_ret2
            exact ⟨by rw [(lay_out HF.out).1, (lay_out HF.out).2]; rfl, HB1.out⟩
          · have d3 : (N : Int) - I r < ((S r).size : Int) := by omega
            clear hw'
            go_wp2
            go_ret2
            exact ⟨by rw [(lay_out HF.out).1, (lay_out HF.out).2]; rfl, HB1.out⟩
      · obtain ⟨a1, a2, a3⟩ := with_iff.1 hw
        have HW2 : Hid (∀ j, j < r + 1 → withB (I j) (S j).size N = true) := Lib.hid (fun j hj => by
          by_cases e : j = r
          · subst e; exact hw
          · exact HW.out j (by omega))
        obtain ⟨o, ho⟩ : ∃ o : Nat, I r = (o : Int) := ⟨(I r).toNat, by omega⟩
        have d1 : ¬ (o : Int) < 0 := by omega
        have d2 : ¬ (N : Int) < (o : Int) := by omega
        have d3 : ¬ (N : Int) - (o : Int) < ((S r).size : Int) := by omega
        have hfit : o + (S r).size ≤ N := by omega
        rw [ho] at c0 a1 a3 o1 o2
        have HOO := Lib.hid ho
        clear hw ho a1 a2 a3
        rw [HOO.out]
        go_wp2_with fail
        clear c0 c1 d1 d2 d3
        generalize hzz : (S r).size = z at *
        have HZZ := Lib.hid hzz
        clear hzz
        go_loopg [9] z (fun gh v wi => ∃ x, x ≤ z ∧ gh = z - x ∧ v = .int .i64 (x : Nat) ∧ Below w.heap.size w wi ∧ Has wi w.heap.size 5 N (fun c => .int .u8 (V (lyi I S r x c))) ∧ Has wi pz 51 2 (cell2 (I r) (S r)))
        case atStart => exact ⟨0, Nat.zero_le _, rfl, rfl, HB1.out, HH1.out.congr (fun c _ => by rw [lyi_zero]), HP1.out⟩
        case round =>
          obtain ⟨x, hx, rfl, rfl, hB, hH, hP⟩ := hrel
          have c0 : wr.cell? ⟨pz, 0, none⟩ = some (.int .i64 (o : Nat)) := by rw [← HOO.out]; exact hP.cell (by omega)
          have c1 : wr.cell? ⟨pz, 1, none⟩ = some (.string (S r)) := hP.cell (by omega)
          have hHne := hP.ne_ hH (by decide)
          by_cases hxz : x < z
          · have hxi : (x : Int) < ((S r).size : Int) := by rw [HZZ.out]; omega
            have s1 : IntKind.i64.wrap ((o : Int) + (x : Int)) = (o : Int) + (x : Int) := IntWalk.i64_in _ (by omega)
            have s2 : (0 : Int) ≤ (o : Int) + (x : Int) := by omega
            have s3 : ((o : Int) + (x : Int)).toNat = o + x := by omega
            have s4 : (o : Int) + (x : Int) < (N : Int) := by omega
            have k2 : wr.cell? ⟨w.heap.size, o + x, none⟩ = some (.int .u8 (V (lyi I S r x (o + x)))) := hH.cell (by omega)
            have k3 : wr.frozen? ⟨w.heap.size, o + x, none⟩ = false := hH.frozen (by omega)
            have k5 := fun w => str_at (S r) x (by rw [HZZ.out]; exact hxz) w
            have hH2 := (hH.drew.set_ (o + x) (.int .u8 (V (bt (S r) x)))).congr (g := fun c => .int .u8 (V (lyi I S r (x + 1) c))) (fun c _ => by
              rw [← lyi_next HOO.out]
              split <;> rfl)
            have hB2 := hB.drew.setCell (p := ⟨w.heap.size, o + x, none⟩) (Nat.le_refl _) (.int .u8 (V (bt (S r) x)))
            have hP2 := hP.drew.setOther (a := ⟨w.heap.size, o + x, none⟩) hHne (.int .u8 (V (bt (S r) x)))
            have HB2 := Lib.hid hB2
            have HH2 := Lib.hid hH2
            have HP2 := Lib.hid hP2
            clear hB hH hP hB2 hH2 hP2 hHne
            go_upto_region 13 with fail
            go_still_tail 10, (by kernel_rfl)
            change wpList _ _ _ _ _ wr.drew
            go_wp2
            go_roundg (z - (x + 1))
            case measure => go_light; omega
            case rel => go_light; exact ⟨x + 1, by omega, rfl, by simp, HB2.out, HH2.out, HP2.out⟩
          · obtain rfl : x = z := by omega
            have hxi : ¬ (x : Int) < ((S r).size : Int) := by rw [HZZ.out]; omega
            have hH2 := hH.congr (g := fun c => .int .u8 (V (lay I S (r + 1) c))) (fun c _ => by rw [← HZZ.out, lyi_end])
            have HH2 := Lib.hid hH2
            have HB2 := Lib.hid hB
            clear hH hP hB hH2 hHne
            go_wp2
            go_roundg (n - (r + 1))
            case measure => go_light; omega
            case rel => go_light; exact ⟨r + 1, by omega, rfl, by simp, HW2, HB2.out, HH2.out⟩
    · have hrz : ¬ (r : Int) < (n : Int) := by omega
      obtain rfl : r = n := by omega
      have HF : Hid (layB N r I S = true) := Lib.hid (lay_iff.2 ⟨by omega, by omega, fun j hj => HW.out j hj⟩)
      have hrw : Rw wr wr.heap.size (some ⟨w.heap.size, 0, none⟩) N (lay I S r) := Rw.of_has hH hH.lt
      have hcv := row_convert (c := N) hrw
      have HB := Lib.hid hB
      clear hB hH hrw
      go_wp2
      go_ret2
      exact ⟨by rw [(lay_in HF.out).1, (lay_in HF.out).2]; rfl, HB.out⟩
theorem refLay_any (h : Pc w w.heap.size A n I S) (hok : PcOk n cap I S) (size : Int) :
    Calls Try.prog 19 #[.int .i64 size, .slice A n cap] w (TxtRet w (layE size n I S) (layS size n I S)) := by
  by_cases hs : 0 ≤ size ∧ size ≤ 65536
  · obtain ⟨N, rfl⟩ : ∃ N : Nat, size = N := ⟨size.toNat, by omega⟩
    exact refLay_some h hok N (by omega)
  · obtain ⟨e1, e2⟩ := lay_out (size := size) (n := n) (I := I) (S := S) (lay_niff.2 (fun hh => hs ⟨hh.1, hh.2.1⟩))
    rw [e1, e2]
    exact refLay_bad size hs
end
end Go.Proofs.Ytjfgainieoaeaaa.Mat
