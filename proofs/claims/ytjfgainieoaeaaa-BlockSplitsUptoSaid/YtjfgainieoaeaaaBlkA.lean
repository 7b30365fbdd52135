/- Bounds, parts of texts, sums of texts: walked. -/
import Derived.Test.YtjfgainieoaeaaaBlkBase
namespace Go.Proofs.Ytjfgainieoaeaaa.Mat
open Go.RowKit Fld

def i64 (n : Int) : Prop := -9223372036854775808 ≤ n ∧ n ≤ 9223372036854775807
def withB (off n size : Int) : Bool := decide (0 ≤ off ∧ 0 ≤ n ∧ n ≤ size - off)
theorem with_iff {off n size : Int} : withB off n size = true ↔ 0 ≤ off ∧ 0 ≤ n ∧ n ≤ size - off := decide_eq_true_iff
theorem with_niff {off n size : Int} : withB off n size = false ↔ ¬ (0 ≤ off ∧ 0 ≤ n ∧ n ≤ size - off) := decide_eq_false_iff_not

set_option maxRecDepth 100000 in
set_option maxHeartbeats 400000 in
theorem within_any (off n size : Int) (ho : i64 off) (hn : i64 n) (h0 : 0 ≤ size) (h1 : size ≤ 140737488351232) (w : World) :
    Calls Try.prog 24 #[.int .i64 off, .int .i64 n, .int .i64 size] w fun e w' => e = .returned (.bool (withB off n size)) ∧ w = w' := by
  obtain ⟨o1, o2⟩ := ho
  obtain ⟨n1, n2⟩ := hn
  by_cases h2 : 0 ≤ off
  · by_cases h3 : 0 ≤ n
    · by_cases h4 : n ≤ size - off
      · have HF : Hid (withB off n size = true) := Lib.hid (with_iff.2 ⟨h2, h3, h4⟩)
        go_enter Try.func24, Try.ntmps24
        go_wp2
        go_ret
        exact ⟨by rw [HF.out]; rfl, rfl⟩
      · have HF : Hid (withB off n size = false) := Lib.hid (with_niff.2 (by omega))
        go_enter Try.func24, Try.ntmps24
        go_wp2
        go_ret
        exact ⟨by rw [HF.out]; rfl, rfl⟩
    · have HF : Hid (withB off n size = false) := Lib.hid (with_niff.2 (by omega))
      go_enter Try.func24, Try.ntmps24
      go_wp2
      go_ret
      exact ⟨by rw [HF.out]; rfl, rfl⟩
  · have HF : Hid (withB off n size = false) := Lib.hid (with_niff.2 (by omega))
    go_enter Try.func24, Try.ntmps24
    go_wp2
    go_ret
    exact ⟨by rw [HF.out]; rfl, rfl⟩

/-- a call answers a text, and an error; the world is the same one -/
def StrRet (w : World) (E : Int) (s : ByteArray) (e : Ending) (w' : World) : Prop := e = .returned (.tuple #[.string s, .int .i64 E]) ∧ w = w'
/-- .. in new memory -/
def TxtRet (w : World) (E : Int) (s : ByteArray) (e : Ending) (w' : World) : Prop := e = .returned (.tuple #[.string s, .int .i64 E]) ∧ Below w.heap.size w w'
theorem ret_text {s t : ByteArray} {E : Int} (h : s = t) : Ending.returned (.tuple #[.string s, .int .i64 E]) = .returned (.tuple #[.string t, .int .i64 E]) := by rw [h]
/-- bytes of a text -/
def sub (s : ByteArray) (off n : Nat) : ByteArray := rs n (fun c => bt s (off + c))
theorem sub_size (s : ByteArray) (off n : Nat) : (sub s off n).size = n := rs_size' _ _
theorem ext_sub (s : ByteArray) (off n : Nat) (h : off + n ≤ s.size) : s.extract off (off + n) = sub s off n := by
  refine bt_eq.2 ⟨by rw [sub_size, ByteArray.size_extract]; omega, fun c hc => ?_⟩
  rw [ByteArray.size_extract] at hc
  unfold sub
  rw [bt_rs (by omega)]
  unfold bt
  rw [ByteArray.data_extract, Array.getElem?_extract]
  have : c < min (off + n) s.data.size - off := by
    have : s.data.size = s.size := rfl
    omega
  rw [if_pos this]
def cutE (s : ByteArray) (off n : Int) : Int := if withB off n s.size then 0 else 1
def cutS (s : ByteArray) (off n : Int) : ByteArray := if withB off n s.size then sub s off.toNat n.toNat else ByteArray.empty
theorem cut_in {s : ByteArray} {off n : Nat} (h : off + n ≤ s.size) : cutE s off n = 0 ∧ cutS s off n = sub s off n := by
  have := (with_iff (off := (off : Int)) (n := (n : Int)) (size := (s.size : Int))).2 (by omega)
  unfold cutE cutS
  rw [this]
  exact ⟨rfl, by simp⟩
theorem cut_out {s : ByteArray} {off n : Int} (h : withB off n s.size = false) : cutE s off n = 1 ∧ cutS s off n = ByteArray.empty := by
  unfold cutE cutS
  rw [h]
  exact ⟨rfl, rfl⟩

set_option maxRecDepth 100000 in
set_option maxHeartbeats 400000 in
theorem cut_any (s : ByteArray) (off n : Int) (hs : s.size ≤ 140737488351232) (ho : i64 off) (hn : i64 n) (w : World) :
    Calls Try.prog 20 #[.string s, .int .i64 off, .int .i64 n] w (StrRet w (cutE s off n) (cutS s off n)) := by
  have HO := Lib.hid ho
  have HN := Lib.hid hn
  clear ho hn
  cases h : withB off n s.size
  · obtain ⟨e1, e2⟩ := cut_out h
    rw [e1, e2]
    have HF := Lib.hid h
    clear h e1 e2
    go_enter Try.func20, Try.ntmps20
    go_wp2_with fail
    refine (within_any _ _ _ HO.out HN.out (by omega) (by omega) _).mono ?_; rintro e w' ⟨rfl, rfl⟩
    rw [HF.out]
    go_wp2
    go_ret2
    exact ⟨rfl, rfl⟩
  · obtain ⟨h1, h2, h3⟩ := with_iff.1 h
    obtain ⟨off, rfl⟩ : ∃ k : Nat, off = k := ⟨off.toNat, by omega⟩
    obtain ⟨n, rfl⟩ : ∃ k : Nat, n = k := ⟨n.toNat, by omega⟩
    have hle : off + n ≤ s.size := by omega
    obtain ⟨e1, e2⟩ := cut_in hle
    rw [e1, e2]
    have HF := Lib.hid h
    clear h e1 e2 h1 h2 h3
    go_enter Try.func20, Try.ntmps20
    go_wp2_with fail
    refine (within_any _ _ _ ⟨by omega, by omega⟩ ⟨by omega, by omega⟩ (by omega) (by omega) _).mono ?_; rintro e w' ⟨rfl, rfl⟩
    rw [HF.out]
    go_wp2
    go_ret2
    exact ⟨ret_text (ext_sub s off n hle), rfl⟩

set_option maxRecDepth 100000 in
set_option maxHeartbeats 400000 in
theorem refCut_any (s : ByteArray) (off n : Int) (hs : s.size ≤ 140737488351232) (ho : i64 off) (hn : i64 n) (w : World) :
    Calls Try.prog 21 #[.string s, .int .i64 off, .int .i64 n] w (StrRet w (cutE s off n) (cutS s off n)) := by
  obtain ⟨o1, o2⟩ := ho
  obtain ⟨n1, n2⟩ := hn
  cases h : withB off n s.size
  · obtain ⟨e1, e2⟩ := cut_out h
    rw [e1, e2]
    have h' := with_niff.1 h
    clear e1 e2 h
    by_cases c1 : off < 0
    · clear h'
      go_enter Try.func21, Try.ntmps21
      go_wp2
      go_ret2
      exact ⟨rfl, rfl⟩
    by_cases c2 : n < 0
    · clear h'
      go_enter Try.func21, Try.ntmps21
      go_wp2
      go_ret2
      exact ⟨rfl, rfl⟩
    by_cases c3 : (s.size : Int) < off
    · clear h'
      go_enter Try.func21, Try.ntmps21
      go_wp2
      go_ret2
      exact ⟨rfl, rfl⟩
    have c4 : (s.size : Int) - off < n := by omega
    clear h'
    go_enter Try.func21, Try.ntmps21
    go_wp2
    go_ret2
    exact ⟨rfl, rfl⟩
  · obtain ⟨h1, h2, h3⟩ := with_iff.1 h
    obtain ⟨off, rfl⟩ : ∃ k : Nat, off = k := ⟨off.toNat, by omega⟩
    obtain ⟨n, rfl⟩ : ∃ k : Nat, n = k := ⟨n.toNat, by omega⟩
    have hle : off + n ≤ s.size := by omega
    obtain ⟨e1, e2⟩ := cut_in hle
    rw [e1, e2]
    have c3 : ¬ (s.size : Int) < (off : Int) := by omega
    have c4 : ¬ (s.size : Int) - (off : Int) < (n : Int) := by omega
    clear h e1 e2 h1 h2 h3 o1 o2 n1 n2
    go_enter Try.func21, Try.ntmps21
    go_wp2
    go_ret2
    exact ⟨ret_text (ext_sub s off n hle), rfl⟩

/-! ### sums -/
def xr (a b : ByteArray) : ByteArray := rs a.size (fun c => bt a c ^^^ bt b c)
theorem xr_size (a b : ByteArray) : (xr a b).size = a.size := rs_size' _ _
def part (a b : ByteArray) (x c : Nat) : BitVec 8 := if c < x then bt a c ^^^ bt b c else bt a c
theorem part_zero (a b : ByteArray) (c : Nat) : part a b 0 c = bt a c := if_neg (by omega)
theorem part_next (a b : ByteArray) (x c : Nat) : (if c = x then part a b x x ^^^ bt b x else part a b x c) = part a b (x + 1) c := by
  unfold part
  by_cases e : c = x
  · subst e; rw [if_pos rfl, if_neg (by omega), if_pos (by omega)]
  · rw [if_neg e]
    by_cases h : c < x
    · rw [if_pos h, if_pos (by omega)]
    · rw [if_neg h, if_neg (by omega)]

set_option maxRecDepth 100000 in
set_option maxHeartbeats 800000 in
theorem xor_no (a b : ByteArray) (h : a.size ≠ b.size) (w : World) :
    Calls Try.prog 16 #[.string a, .string b] w (TxtRet w 3 ByteArray.empty) := by
  have e1 : ((a.size : Int) != (b.size : Int)) = true := by rw [bne_iff_ne]; omega
  clear h
  go_enter Try.func16, Try.ntmps16
  go_wp2
  go_ret2
  exact ⟨rfl, Below.refl _ _⟩
set_option maxRecDepth 100000 in
set_option maxHeartbeats 800000 in
theorem refXor_no (a b : ByteArray) (h : a.size ≠ b.size) (w : World) :
    Calls Try.prog 17 #[.string a, .string b] w (TxtRet w 3 ByteArray.empty) := by
  have e1 : ((a.size : Int) != (b.size : Int)) = true := by rw [bne_iff_ne]; omega
  clear h
  go_enter Try.func17, Try.ntmps17
  go_wp2
  go_ret2
  exact ⟨rfl, Below.refl _ _⟩

set_option maxRecDepth 100000 in
set_option maxHeartbeats 1600000 in
theorem xor_yes (a b : ByteArray) (h : a.size = b.size) (ha : a.size ≤ 140737488351232) (w : World) :
    Calls Try.prog 16 #[.string a, .string b] w (TxtRet w 0 (xr a b)) := by
  have e1 : ((a.size : Int) != (b.size : Int)) = false := by rw [bne_eq_false_iff_eq]; omega
  have HE := Lib.hid h
  have hcp := fun w => copy_run a.size (bt a) w
  rw [rs_bt] at hcp
  clear h
  go_enter Try.func16, Try.ntmps16
  go_wp2
  clear hcp e1
  generalize hz : a.size = z at *
  have HZ := Lib.hid hz
  clear hz
  go_loopg [17] z (fun gh v wr => ∃ x, x ≤ z ∧ gh = z - x ∧ v = .int .i64 (x : Nat) ∧ Below w.heap.size w wr ∧ Has wr w.heap.size 5 z (fun c => .int .u8 (V (part a b x c))))
  case atStart => exact ⟨0, Nat.zero_le _, rfl, rfl, ((Below.refl _ _).alloc (Nat.le_refl _) _).drew, (copy_has w z (bt a)).drew.congr (fun c _ => by rw [part_zero])⟩
  case round =>
    obtain ⟨x, hx, rfl, rfl, hB, hH⟩ := hrel
    by_cases hxz : x < z
    · have hxi : (x : Int) < (z : Int) := by omega
      have k2 : wr.cell? ⟨w.heap.size, x, none⟩ = some (.int .u8 (V (part a b x x))) := hH.cell hxz
      have k3 : wr.frozen? ⟨w.heap.size, x, none⟩ = false := hH.frozen hxz
      have k5 := fun w => str_at b x (by rw [← HE.out]; exact hxz) w
      have HB := Lib.hid hB
      have HH := Lib.hid hH
      clear hB hH
      go_wp2_with fail
      go_still_tail 9, (by kernel_rfl)
      change wpList _ _ _ _ _ wr.drew
      go_wp2
      go_roundg (z - (x + 1))
      case measure => go_light; omega
      case rel =>
        go_light
        refine ⟨x + 1, by omega, rfl, by simp, HB.out.drew.setCell (p := ⟨w.heap.size, x, none⟩) (Nat.le_refl _) _, ?_⟩
        rw [xor_V]
        exact (HH.out.drew.set_ x _).congr (fun c _ => by rw [← part_next]; split <;> rfl)
    · have hxi : ¬ (x : Int) < (z : Int) := by omega
      obtain rfl : x = z := by omega
      have hrw : Rw wr wr.heap.size (some ⟨w.heap.size, 0, none⟩) x (fun c => bt a c ^^^ bt b c) := Rw.of_has (hH.congr (fun c hc => by unfold part; rw [if_pos hc])) hH.lt
      have hcv := row_convert (c := cpCap w x) hrw
      have HB := Lib.hid hB
      clear hB hH hrw
      go_wp2
      go_ret2
      exact ⟨ret_text (by unfold xr; rw [HZ.out]), HB.out⟩

set_option maxRecDepth 100000 in
set_option maxHeartbeats 1600000 in
theorem refXor_yes (a b : ByteArray) (h : a.size = b.size) (ha : a.size ≤ 140737488351232) (w : World) :
    Calls Try.prog 17 #[.string a, .string b] w (TxtRet w 0 (xr a b)) := by
  obtain ⟨j0, ji, jz0, jz1, jz2⟩ := info_parts infoByte
  have e1 : ((a.size : Int) != (b.size : Int)) = false := by rw [bne_eq_false_iff_eq]; omega
  have HE := Lib.hid h
  clear h
  go_enter Try.func17, Try.ntmps17
  go_wp2
  clear e1
  go_loopg [6, 7] a.size (fun gh v i wr => ∃ x, x ≤ a.size ∧ gh = a.size - x ∧ i = .int .i64 (x : Nat) ∧ Below w.heap.size w wr ∧ wr.ownsRow w.heap.size 5 1 v x (vals x (fun c => bt a c ^^^ bt b c)))
  case atStart => exact ⟨0, Nat.zero_le _, rfl, rfl, Below.refl _ _, World.ownsRow_nil _ _ _ _⟩
  case round =>
    obtain ⟨x, hx, rfl, rfl, hB, hO⟩ := hrel
    have HB := Lib.hid hB
    have HO := Lib.hid hO
    clear hB hO
    by_cases hxa : x < a.size
    · have g1 : decide ((x : Int) < (a.size : Int)) = true := by simp; omega
      have k1 := fun w => str_at a x hxa w
      have k2 := fun w => str_at b x (by rw [← HE.out]; exact hxa) w
      go_wp2_with fail
      go_region_held3 (fun _ => True)
        (first | exact trivial | go_keep)
        ((refine step_append_lies _ (by rfl) _ _ _ (by rfl) w.heap.size 5 j0 _ 1 1 Try.underlying56 ji jz0 jz1 jz2 rfl (by omega) u6 x (vals x (fun c => bt a c ^^^ bt b c)) (by rfl) ((HO.out.alloc _).drew)
              ⟨wr.heap.size, 0, none⟩ 1 1 [.int .u8 (bits .xor .u8 (V (bt a x)) (V (bt b x)))] (by rfl) (by rfl) (one_news (w := wr) _ _) (by simp [Value.oneCell']) (by omega) (by unfold maxLen; omega) (by omega) (by have := HB.out.size; simp; omega) (wr.heap.size + 1) (by simp) ?_; intro gg cp w1 hown1 hgrow hat hlt; rw [xor_V] at hown1 hgrow; have HN := Lib.hid (row_next (f := fun c => bt a c ^^^ bt b c) (o := .cells #[.int .u8 (V (bt a x ^^^ bt b x))] 5) HB.out HO.out hown1 (grownBy_drew hgrow))))
      all_goals
        go_wp2
        go_roundg (a.size - (x + 1))
        case measure => go_light; omega
        case rel => go_light; exact ⟨x + 1, by omega, rfl, by simp, HN.out.1, HN.out.2⟩
    · have g1 : decide ((x : Int) < (a.size : Int)) = false := by simp; omega
      obtain rfl : x = a.size := by omega
      obtain ⟨A2, c2, rfl, hrw⟩ := own_rw HO.out
      have hcv := row_convert (c := c2) hrw
      clear hrw HO
      go_wp2
      go_ret2
      exact ⟨rfl, HB.out⟩
end Go.Proofs.Ytjfgainieoaeaaa.Mat
