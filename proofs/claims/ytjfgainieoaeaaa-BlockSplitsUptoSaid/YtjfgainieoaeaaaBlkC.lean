/- A content in pieces: walked. -/
import Derived.Test.YtjfgainieoaeaaaBlkB
import Derived.Test.YtjfgainieoaeaaaBlkA
namespace Go.Proofs.Ytjfgainieoaeaaa.Mat
open Go.RowKit Fld

/-- block g alone has changed -/
structure Only (g : Nat) (w w' : World) : Prop where
  os : w'.os = w.os
  tape : w'.tape = w.tape
  output : w'.output = w.output
  size : w'.heap.size = w.heap.size
  block : ∀ b, b ≠ g → w'.heap[b]? = w.heap[b]?
section
variable {g b : Nat} {w w0 w1 w2 : World}
theorem Only.refl (g : Nat) (w : World) : Only g w w := ⟨rfl, rfl, rfl, rfl, fun _ _ => rfl⟩
theorem Only.trans (h : Only g w w1) (k : Only g w1 w2) : Only g w w2 :=
  ⟨k.os.trans h.os, k.tape.trans h.tape, k.output.trans h.output, k.size.trans h.size, fun b hb => (k.block b hb).trans (h.block b hb)⟩
theorem only_setCell (w : World) (o : Nat) (v : Value) : Only g w (w.setCell ⟨g, o, none⟩ v) := ⟨rfl, rfl, rfl, by simp [World.setCell], fun _ hb => Below.heap_setCell _ _ _ _ hb⟩
theorem only_setCells : ∀ (vs : List Value) (o : Nat) (w : World), Only g w (w.setCells g o vs)
  | [], _, w => Only.refl g w
  | v :: r, o, w => (only_setCell w o v).trans (only_setCells r (o + 1) (w.setCell ⟨g, o, none⟩ v))
theorem laid_only {off n : Nat} {f : Nat → BitVec 8} : Only g w (laid w g off n f) := only_setCells _ _ _
theorem Only.below {B : Nat} (h : Only g w1 w2) (hb : Below B w0 w1) (hB : B ≤ g) : Below B w0 w2 :=
  hb.trans ⟨h.os, h.tape, h.output, by rw [h.size]; exact Nat.le_refl _, fun k hk => h.block k (by omega)⟩
theorem Only.has {t n : Nat} {f : Nat → Value} (h : Only g w w1) (hh : Has w b t n f) (hne : b ≠ g) : Has w1 b t n f := hh.of_block (h.block b hne)
end
/-- a call has filled a row -/
def FillRet (w : World) (g z : Nat) (f : Nat → BitVec 8) (e : Ending) (w' : World) : Prop := e = .returned (.tuple #[]) ∧ Has w' g 5 z (fun c => .int .u8 (V (f c))) ∧ Only g w w'


set_option maxRecDepth 100000 in
set_option maxHeartbeats 800000 in
theorem fill_any {w : World} {g z rc m mc B : Nat} {A : Option Addr} {f : Nat → BitVec 8} {F : Nat → Value} (h : Has w g 5 z F) (hA : Rw w B A m f) (hm : m ≤ z) (hc : z ≤ rc) :
    Calls Try.prog 22 #[.slice (some ⟨g, 0, none⟩) z rc, .slice A m mc] w (FillRet w g z (fun c => if c < m then f c else 0#8)) := by
  have hr := run_copy_row_has (n := m) (D := some ⟨g, 0, none⟩) (dLen := z) (dCap := rc) (mc := mc) 56 3 (Nat.min_eq_left hm).symm (fun _ => rfl) h (by omega) hA
  have HR := Lib.hid hr
  have h2 := laid_has (off := 0) (n := m) (f := f) h
  have hcl : ∀ (D : Option Addr) (cap : Nat), (0 < z - m → D = some ⟨g, m, none⟩) → (Builtin.clear_ #[56] 0 #[.slice D (z - m) cap]).run Try.prog (laid w g 0 m f) = .ok (.tuple #[]) (laid (laid w g 0 m f) g m (z - m) (fun _ => 0#8)) := fun D cap hD => run_clear_has 0 hD h2 (by omega)
  have HC := Lib.hid hcl
  have h3 := (laid_has (off := m) (n := z - m) (f := fun _ => 0#8) h2).congr (g := fun c => .int .u8 (V (if c < m then f c else 0#8))) (fun c hc => by
    by_cases e : c < m
    · rw [if_neg (by omega), if_pos (by omega), if_pos e]; rfl
    · rw [if_pos (by omega), if_neg e])
  have H3 := Lib.hid h3
  have HO : Hid (Only g w (laid (laid w g 0 m f) g m (z - m) (fun _ => 0#8))) := Lib.hid (laid_only.trans laid_only)
  clear hr h2 h3 h hA hcl
  go_enter Try.func22, Try.ntmps22
  go_wp2_with (refine wpList_copy_run rfl (.tmp 5) (.tmp 6) 56 56 rfl rfl rfl HR.out ?_)
  all_goals
    rw [HC.out _ _ (fun hh => by first | rfl | (exfalso; omega))]
    go_wp2
    exact ⟨rfl, .tuple #[], by simp [results, Try.results22, go_sem], rfl, H3.out, HO.out⟩

/-! ### pieces -/
theorem bt_out {s : ByteArray} {c : Nat} (h : s.size ≤ c) : bt s c = 0#8 := by
  unfold bt
  have : s.data[c]? = none := Array.getElem?_eq_none h
  rw [this]; rfl
/-- how many bytes a piece has -/
def pz (n k : Nat) : Nat := (n + k - 1) / k
/-- the piece i -/
def pcs (s : ByteArray) (z i : Nat) : ByteArray := rs z (fun c => bt s (i * z + c))
/-- the rows that Split makes first -/
def Start (w : World) (s : ByteArray) (k z : Nat) (l rest room : Value) (wx : World) : Prop :=
  ∃ gl gs gr cap, l = .slice (some ⟨gl, 0, none⟩) k k ∧ rest = .slice (some ⟨gs, 0, none⟩) s.size cap ∧ room = .slice (some ⟨gr, 0, none⟩) z z ∧
    w.heap.size ≤ gl ∧ w.heap.size ≤ gr ∧ gs ≠ gr ∧ s.size ≤ cap ∧ Has wx gl 9 k (fun _ => .string ByteArray.empty) ∧ Has wx gs 5 s.size (fun c => .int .u8 (V (bt s c))) ∧ Has wx gr 5 z (fun _ => .int .u8 0) ∧ Below w.heap.size w wx

theorem has_texts (W : World) {b k : Nat} (e : W.heap.size = b) : Has (W.alloc (.cells (madeCells #[.string ByteArray.empty] k) 9)) b 9 k (fun _ => .string ByteArray.empty) := by
  subst e; exact .of_is (World.rowIs_made W _ k _)
theorem has_noughts (W : World) {b z : Nat} (e : W.heap.size = b) : Has (W.alloc (.cells (madeCells #[.int .u8 0] z) 5)) b 5 z (fun _ => .int .u8 0) := by
  subst e; exact .of_is (World.rowIs_made W _ z _)
theorem has_copied (W W' : World) {b n : Nat} {f : Nat → BitVec 8} (e : W.heap.size = b) : Has (W.alloc (cpObj W' n f)) b 5 n (fun c => .int .u8 (V (f c))) := by
  subst e
  have hl : (rs n f).data.size = n := by have := rs_size n f; exact this
  refine ⟨_, _, _, heap_alloc_new W _, .inr ?_, fun i hi => ?_⟩
  · unfold bytesRow; simp [hl]
  · have hd : (rs n f).data[i]? = some (UInt8.ofBitVec (f i)) := by
      rw [← Array.getElem?_toList, rs_list]; simp [hi]
    unfold bytesRow
    rw [Array.getElem?_append_left (by simp [hl]; exact hi), Array.getElem?_map, hd]
    rfl
/-- so far: i pieces are cut -/
structure Cutting (w wr : World) (s : ByteArray) (k z gl gs gr i : Nat) : Prop where
  l : Has wr gl 9 k (upto (pcs s z) i)
  src : Has wr gs 5 s.size (fun c => .int .u8 (V (bt s c)))
  room : ∃ F, Has wr gr 5 z F
  low : w.heap.size ≤ gl ∧ w.heap.size ≤ gr ∧ gs ≠ gr
  below : Below w.heap.size w wr
theorem Cutting.start {w wr : World} {s : ByteArray} {k z gl gs gr : Nat} (h1 : w.heap.size ≤ gl) (h2 : w.heap.size ≤ gr) (h3 : gs ≠ gr) (hL : Has wr gl 9 k (fun _ => .string ByteArray.empty))
    (hS : Has wr gs 5 s.size (fun c => .int .u8 (V (bt s c)))) (hR : Has wr gr 5 z (fun _ => .int .u8 0)) (hB : Below w.heap.size w wr) : Cutting w wr s k z gl gs gr 0 :=
  ⟨hL.congr (fun i _ => by unfold upto; rw [if_neg (by omega)]), hS, ⟨_, hR⟩, ⟨h1, h2, h3⟩, hB⟩
theorem Cutting.fill {w wr w1 : World} {s : ByteArray} {k z gl gs gr i : Nat} {f : Nat → BitVec 8} (h : Cutting w wr s k z gl gs gr i) (hf : Has w1 gr 5 z (fun c => .int .u8 (V (f c)))) (ho : Only gr wr w1) : Cutting w w1 s k z gl gs gr i := by
  obtain ⟨F, hF⟩ := h.room
  exact ⟨ho.has h.l (h.l.ne_ hF (by decide)), ho.has h.src h.low.2.2, ⟨_, hf⟩, h.low, ho.below h.below h.low.2.1⟩
theorem Cutting.next {w w1 : World} {s : ByteArray} {k z gl gs gr i : Nat} (h : Cutting w w1 s k z gl gs gr i) : Cutting w (w1.setCell ⟨gl, i, none⟩ (.string (pcs s z i))).drew s k z gl gs gr (i + 1) := by
  obtain ⟨F, hF⟩ := h.room
  suffices hh : Cutting w (w1.setCell ⟨gl, i, none⟩ (.string (pcs s z i))) s k z gl gs gr (i + 1) from ⟨hh.l.drew, hh.src.drew, hh.room.imp fun _ x => x.drew, hh.low, hh.below.drew⟩
  refine ⟨(h.l.set_ i _).congr (fun a _ => ?_), h.src.setOther (a := ⟨gl, i, none⟩) (fun e => h.l.ne_ h.src (by decide) e.symm) _, ⟨F, hF.setOther (a := ⟨gl, i, none⟩) (fun e => h.l.ne_ hF (by decide) e.symm) _⟩, h.low,
    h.below.setCell (p := ⟨gl, i, none⟩) h.low.1 _⟩
  unfold upto
  by_cases e : a = i
  · subst e; rw [if_pos rfl, if_pos (by omega)]
  · rw [if_neg e]
    by_cases e2 : a < i
    · rw [if_pos e2, if_pos (by omega)]
    · rw [if_neg e2, if_neg (by omega)]

set_option maxRecDepth 100000 in
set_option maxHeartbeats 1600000 in
theorem split_yes (s : ByteArray) (k : Nat) (h1 : 1 ≤ k) (h2 : k ≤ 32) (hs : s.size ≤ 140737488351232) (w : World) :
    Calls Try.prog 11 #[.string s, .int .i64 (k : Int)] w (TextsRet w 0 k (pcs s (pz s.size k))) := by
  have hzle : pz s.size k ≤ s.size + 1 := by
    unfold pz
    exact Nat.div_le_of_le_mul (by
      have e : k * (s.size + 1) = k * s.size + k := by rw [Nat.mul_add, Nat.mul_one]
      have : s.size ≤ k * s.size := Nat.le_mul_of_pos_left _ (by omega)
      omega)
  have hdz : ((s.size : Int) + (k : Int) - 1) / (k : Int) = ((pz s.size k : Nat) : Int) := by
    unfold pz
    rw [Int.natCast_ediv]
    congr 1
    omega
  have HDZ := Lib.hid hdz
  generalize hz : pz s.size k = z at *
  have HZ := Lib.hid hz
  have hmk := run_make_row' (P := Try.prog) 22 9 (.string ByteArray.empty) 16 Try.underlying22 infoStr rfl .i64 .i64 k (by omega) (by omega)
  have hmk2 := run_make_row' (P := Try.prog) 56 5 (.int .u8 0) 1 Try.underlying56 infoByte rfl .i64 .i64 z (by omega) (by omega)
  have hcp := fun w => copy_run s.size (bt s) w
  rw [rs_bt] at hcp
  have g1 : decide ((k : Int) < 1) = false := by simp; omega
  have g2 : decide ((32 : Int) < (k : Int)) = false := by simp; omega
  clear hz hdz
  go_enter Try.func11, Try.ntmps11
  go_upto_region 4 with fail
  rw [HDZ.out]
  clear g1 g2
  go_cut [7, 8, 9] from 25 (fun l r m wx => Start w s k z l r m wx)
  case first =>
    go_region
    all_goals
      clear hmk hmk2 hcp
      go_wp2
      go_meet
      case rel =>
        refine ⟨_, _, _, _, rfl, rfl, rfl, by omega, by omega, by omega, copy_cap _ _, ?_, ?_, ?_, ?_⟩
        · repeat (first | ((with_reducible refine has_texts _ ?_); simp; done) | (with_reducible refine Has.drew ?_) | (with_reducible refine Has.alloc ?_ _))
        · repeat (first | ((with_reducible refine has_copied _ _ ?_); simp; done) | (with_reducible refine Has.drew ?_) | (with_reducible refine Has.alloc ?_ _))
        · repeat (first | ((with_reducible refine has_noughts _ ?_); simp; done) | (with_reducible refine Has.drew ?_) | (with_reducible refine Has.alloc ?_ _))
        · repeat (first | (with_reducible exact Below.refl _ _) | (with_reducible refine Below.drew ?_) | ((with_reducible refine Below.alloc ?_ ?_ _); rotate_left; (simp; try omega)))
  case rest =>
    obtain ⟨gl, gs, gr, cap, rfl, rfl, rfl, q1, q2, q3, hcap, hL, hS, hR, hB⟩ := hcut
    have hC := Cutting.start q1 q2 q3 hL hS hR hB
    have HC := Lib.hid hC
    clear hL hS hR hB hC hmk hmk2 hcp
    go_wp2_with fail
    go_loopg [8, 33] k (fun gh rest v wr => ∃ i rl RA rc, i ≤ k ∧ gh = k - i ∧ v = .int .i64 (i : Nat) ∧ rest = .slice RA rl rc ∧ rl = s.size - i * z ∧ rl ≤ rc ∧ (0 < rl → RA = some ⟨gs, i * z, none⟩) ∧ Cutting w wr s k z gl gs gr i)
    case atStart => exact ⟨0, s.size, _, _, Nat.zero_le _, rfl, rfl, rfl, by omega, hcap, fun _ => by rw [Nat.zero_mul], HC.out⟩
    case round =>
      obtain ⟨i, rl, RA, rc, hi, rfl, rfl, rfl, hrl, hrc, hRA, hC⟩ := hrel
      clear HC
      by_cases hik : i < k
      · have hiz : (i : Int) < (k : Int) := by omega
        have hA : Rw wr wr.heap.size RA rl (fun c => bt s (i * z + c)) := fun h0 => ⟨_, hRA h0, hC.src.lt, fun c hc => by rw [show (⟨gs, i * z, none⟩ : Addr).add c = ⟨gs, i * z + c, none⟩ by unfold Addr.add; split <;> simp_all]; exact hC.src.cell (by omega)⟩
        have hrs : rl ≤ 140737488351232 := by omega
        have HRL := Lib.hid hrl
        have HRA := Lib.hid hRA
        have HCC := Lib.hid hC
        have HA := Lib.hid hA
        clear hrl hRA hC hA
        by_cases hzr : z ≤ rl
        · have m1 : (z : Int) ≤ (rl : Int) := by omega
          obtain ⟨F, hroom⟩ := HCC.out.room
          have HRM := Lib.hid hroom
          clear hroom
          go_wp2_with fail
          refine (fill_any (m := z) (f := fun c => bt s (i * z + c)) HRM.out (fun h0 => HA.out (by omega) |>.imp fun _ hh => ⟨hh.1, hh.2.1, fun c hc => hh.2.2 c (by omega)⟩) (by omega) (Nat.le_refl _)).mono ?_; rintro e w1 ⟨rfl, hF, hO⟩
          have hF2 := hF.congr (g := fun c => .int .u8 (V (bt s (i * z + c)))) (fun c hc => by
            by_cases e : c < z
            · simp only [if_pos e]
            · simp only [if_neg e]
              rw [bt_out (by have := HRL.out; omega)])
          have hC1 := HCC.out.fill (f := fun c => bt s (i * z + c)) hF2 hO
          have hcv : (convert 56 9 (.slice (some ⟨gr, 0, none⟩) z z)).run Try.prog w1.drew = .ok (.string (pcs s z i)) w1.drew := row_convert (w := w1.drew) (B := w1.heap.size) (Rw.of_has hF2.drew hF2.lt)
          have k2 : w1.cell? ⟨gl, i, none⟩ = some (upto (pcs s z) i i) := hC1.l.cell hik
          have k3 : w1.frozen? ⟨gl, i, none⟩ = false := hC1.l.frozen hik
          have HC2 := Lib.hid hC1.next
          clear hF hF2 hO hC1 HRM HA
          by_cases hrn : rc = z
          · subst hrn
            go_wp2_with fail
            go_region
            all_goals
              go_wp2
              go_roundg (k - (i + 1))
              case measure => go_light; omega
              case rel =>
                go_light
                refine ⟨i + 1, _, _, _, by omega, rfl, by simp, rfl, ?_, ?_, ?_, HC2.out⟩
                · have := HRL.out
                  have : (i + 1) * rc = i * rc + rc := Nat.succ_mul i rc
                  omega
                · omega
                · intro h0
                  exfalso
                  omega
          · go_wp2_with fail
            go_region
            all_goals
              go_wp2
              go_roundg (k - (i + 1))
              case measure => go_light; omega
              case rel =>
                go_light
                refine ⟨i + 1, _, _, _, by omega, rfl, by simp, rfl, ?_, ?_, ?_, HC2.out⟩
                · have := HRL.out
                  have : (i + 1) * z = i * z + z := Nat.succ_mul i z
                  omega
                · omega
                · intro h0
                  rw [HRA.out (by omega), Nat.succ_mul]
                  simp [Addr.add]
                  try omega
        · have m1 : ¬ (z : Int) ≤ (rl : Int) := by omega
          obtain ⟨F, hroom⟩ := HCC.out.room
          have HRM := Lib.hid hroom
          clear hroom
          go_wp2_with fail
          refine (fill_any (m := rl) (f := fun c => bt s (i * z + c)) HRM.out (fun h0 => HA.out h0) (by omega) (Nat.le_refl _)).mono ?_; rintro e w1 ⟨rfl, hF, hO⟩
          have hF2 := hF.congr (g := fun c => .int .u8 (V (bt s (i * z + c)))) (fun c hc => by
            by_cases e : c < rl
            · simp only [if_pos e]
            · simp only [if_neg e]
              rw [bt_out (by have := HRL.out; omega)])
          have hC1 := HCC.out.fill (f := fun c => bt s (i * z + c)) hF2 hO
          have hcv : (convert 56 9 (.slice (some ⟨gr, 0, none⟩) z z)).run Try.prog w1.drew = .ok (.string (pcs s z i)) w1.drew := row_convert (w := w1.drew) (B := w1.heap.size) (Rw.of_has hF2.drew hF2.lt)
          have k2 : w1.cell? ⟨gl, i, none⟩ = some (upto (pcs s z) i i) := hC1.l.cell hik
          have k3 : w1.frozen? ⟨gl, i, none⟩ = false := hC1.l.frozen hik
          have HC2 := Lib.hid hC1.next
          clear hF hF2 hO hC1 HRM HA
          by_cases hrn : rc = rl
          · subst hrn
            go_wp2_with fail
            go_region
            all_goals
              go_wp2
              go_roundg (k - (i + 1))
              case measure => go_light; omega
              case rel =>
                go_light
                refine ⟨i + 1, _, _, _, by omega, rfl, by simp, rfl, ?_, ?_, ?_, HC2.out⟩
                · have := HRL.out
                  have : (i + 1) * z = i * z + z := Nat.succ_mul i z
                  omega
                · omega
                · intro h0
                  exfalso
                  omega
          · go_wp2_with fail
            go_region
            all_goals
              go_wp2
              go_roundg (k - (i + 1))
              case measure => go_light; omega
              case rel =>
                go_light
                refine ⟨i + 1, _, _, _, by omega, rfl, by simp, rfl, ?_, ?_, ?_, HC2.out⟩
                · have := HRL.out
                  have : (i + 1) * z = i * z + z := Nat.succ_mul i z
                  omega
                · omega
                · intro h0
                  exfalso
                  omega
      · obtain rfl : i = k := by omega
        have hiz : ¬ (i : Int) < (i : Int) := by omega
        have HF : Hid (St wr wr.heap.size (some ⟨gl, 0, none⟩) i (pcs s z)) := Lib.hid (St.of_has (hC.l.congr (fun a ha => by unfold upto; rw [if_pos ha])) hC.l.lt)
        have HB := Lib.hid hC.below
        clear hC hrl hRA
        go_wp2
        go_ret2
        exact ⟨_, _, rfl, ⟨Nat.le_refl _, fun h => by cases h⟩, HF.out, HB.out⟩
end Go.Proofs.Ytjfgainieoaeaaa.Mat
