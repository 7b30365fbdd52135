/- The bytes of a sum, the seal, what opens, walked. -/
import Derived.Test.YtmhnfloikgfgmaaCrcB
import Derived.Deep.QuietTactic
import Derived.BigQuiet
import Derived.IntWalk
namespace Go.Proofs.Ytmhnfloikgfgmaa.Crc
open Go.RowKit

theorem nums_laid (a : Int) (h0 : 0 ≤ a) (h1 : a < 4294967296) : strOfNums [a / 16777216, a / 65536 % 256, a / 256 % 256, a % 256] = ⟨(laidL (B a)).toArray⟩ := by
  have e : ∀ (n : Int) (c : BitVec 8), n = V8 c → UInt8.ofNat n.toNat = UInt8.ofBitVec c := by
    intro n c hn
    subst hn
    rw [V8_toNat]
    apply UInt8.toBitVec_inj.1
    simp
  have ha := V_B a h0 h1
  generalize B a = r at ha
  subst ha
  have hr := r.isLt
  unfold strOfNums laidL
  have e0 := e (V r / 16777216) (top r) (top_V r)
  have e1 := e (V r / 65536 % 256) (top (r <<< 8)) (by
    rw [← top_V]; unfold V; rw [BitVec.toNat_shiftLeft, Nat.shiftLeft_eq]; omega)
  have e2 := e (V r / 256 % 256) (top (r <<< 16)) (by
    rw [← top_V]; unfold V; rw [BitVec.toNat_shiftLeft, Nat.shiftLeft_eq]; omega)
  have e3 := e (V r % 256) (top (r <<< 24)) (by
    rw [← top_V]; unfold V; rw [BitVec.toNat_shiftLeft, Nat.shiftLeft_eq]; omega)
  simp only [List.map_cons, List.map_nil, e0, e1, e2, e3]

/-- the text of four bytes in a block that was made last -/
theorem conv4 (a : Int) (h0 : 0 ≤ a) (h1 : a < 4294967296) (w : World) (t : TypeId) :
    (convert 34 9 (.slice (some ⟨w.heap.size, 0, none⟩) 4 4)).run Try.prog (w.alloc (.cells #[.int .u8 (a / 16777216), .int .u8 (a / 65536 % 256), .int .u8 (a / 256 % 256), .int .u8 (a % 256)] t))
      = .ok (.string ⟨(laidL (B a)).toArray⟩) (w.alloc (.cells #[.int .u8 (a / 16777216), .int .u8 (a / 65536 % 256), .int .u8 (a / 256 % 256), .int .u8 (a % 256)] t)) := by
  rw [run_convert_bytes_arg _ 34 5 Try.underlying34 Try.underlying5 w.heap.size 0 4 4 [a / 16777216, a / 65536 % 256, a / 256 % 256, a % 256] rfl ?_ _ Try.underlying9, nums_laid a h0 h1]
  intro i hi
  rw [World.cell?_alloc_at _ _ _ _ rfl]
  match i, hi with
  | 0, _ | 1, _ | 2, _ | 3, _ => rfl

set_option maxRecDepth 100000 in
set_option maxHeartbeats 400000 in
theorem laid_any (a : Int) (h0 : 0 ≤ a) (h1 : a < 4294967296) (w : World) :
    Calls Try.prog 24 #[.int .u32 a] w fun e w' => e = .returned (.string ⟨(laidL (B a)).toArray⟩) ∧ Below w.heap.size w w' := by
  have hconv := conv4 a h0 h1 w 46
  go_enter Try.func24, Try.ntmps24
  go_wp2
  refine wp_loop_rounds 5 ?_
  rw [rounds_succ]; go_wp2
  rw [rounds_succ]; go_wp2
  rw [rounds_succ]; go_wp2
  rw [rounds_succ]; go_wp2
  rw [rounds_succ]; go_wp2
  go_ret
  exact ⟨rfl, (Below.refl _ _).alloc (Nat.le_refl _) _⟩

/-- a text with its sum -/
def sealS (s : ByteArray) : ByteArray := s ++ ⟨(laidL (sumL s.data.toList)).toArray⟩

set_option maxRecDepth 100000 in
set_option maxHeartbeats 400000 in
theorem seal_any (s : ByteArray) (w : World) (hs : s.size ≤ 9223372036854775803) :
    Calls Try.prog 17 #[.string s] w fun e w' => e = .returned (.string (sealS s)) ∧ Below w.heap.size w w' := by
  have hz : (⟨(laidL (sumL s.data.toList)).toArray⟩ : ByteArray).size = 4 := rfl
  have hadd := fun w => run_string_add_sum (P := Try.prog) (w := w) s ⟨(laidL (sumL s.data.toList)).toArray⟩ (by rw [hz]; omega)
  clear hz
  go_enter Try.func17, Try.ntmps17
  go_wp2_with fail
  refine (sum_any _ _ (by unfold maxLen; omega)).mono ?_; rintro e w1 ⟨rfl, hb1⟩
  go_wp2_with fail
  refine (laid_any _ (V_lo _) (V_hi _) _).mono ?_; rintro e w2 ⟨rfl, hb2⟩
  rw [B_V]
  go_wp2
  go_ret
  exact ⟨rfl, hb1.trans (hb2.mono hb1.size)⟩

set_option maxRecDepth 100000 in
set_option maxHeartbeats 400000 in
theorem refSeal_any (s : ByteArray) (w : World) (hs : s.size ≤ 9223372036854775803) :
    Calls Try.prog 18 #[.string s] w fun e w' => e = .returned (.string (sealS s)) ∧ Below w.heap.size w w' := by
  have hz : (⟨(laidL (sumL s.data.toList)).toArray⟩ : ByteArray).size = 4 := rfl
  have hadd := fun w => run_string_add_sum (P := Try.prog) (w := w) s ⟨(laidL (sumL s.data.toList)).toArray⟩ (by rw [hz]; omega)
  clear hz
  go_enter Try.func18, Try.ntmps18
  go_wp2_with fail
  refine (refSum_any _ _ (by unfold maxLen; omega)).mono ?_; rintro e w1 ⟨rfl, rfl⟩
  have v0 := V_lo (sumL s.data.toList)
  have v1 := V_hi (sumL s.data.toList)
  have hconv := conv4 _ v0 v1 w 5
  rw [B_V] at hconv
  generalize hx : V (sumL s.data.toList) = x at *
  clear hx
  go_wp2
  go_ret
  exact ⟨rfl, (Below.refl _ _).alloc (Nat.le_refl _) _⟩

/-- the text that opens, and the error's number -/
def openS (s : ByteArray) : ByteArray := ⟨(openL s.data.toList).1.toArray⟩
def openE (s : ByteArray) : Int := (openL s.data.toList).2

theorem openS_short (s : ByteArray) (h : s.size < 4) : openS s = ⟨#[]⟩ := by
  unfold openS; rw [openL_short _ (by simpa using h)]
theorem openE_short (s : ByteArray) (h : s.size < 4) : openE s = 2 := by
  unfold openE; rw [openL_short _ (by simpa using h)]

theorem extract_front (s : ByteArray) (k : Nat) : s.extract 0 k = ⟨(s.data.toList.take k).toArray⟩ := by
  obtain ⟨⟨l⟩⟩ := s
  rw [ByteArray.extract_mk]; simp
theorem extract_back (s : ByteArray) (k : Nat) : (s.extract k s.size).toList = s.data.toList.drop k := by
  obtain ⟨⟨l⟩⟩ := s
  rw [ByteArray.extract_mk, ByteArray.toList_mk]
  rw [List.take_of_length_le (by simp [ByteArray.size])]

theorem open_other (s : ByteArray) (h : ¬ s.size < 4) (t : (!(s.extract (s.size - 4) s.size).toList == laidL (sumL (List.take (s.size - 4) s.data.toList))) = true) : openS s = ⟨#[]⟩ ∧ openE s = 13 := by
  have hl : s.data.toList.length = s.size := by simp
  have e := openL_sum s.data.toList (by rw [hl]; exact h) (by
    rw [hl]
    intro h2
    rw [extract_back, h2] at t
    simp at t)
  unfold openS openE
  rw [e]; exact ⟨rfl, rfl⟩
theorem open_same (s : ByteArray) (h : ¬ s.size < 4) (t : (!(s.extract (s.size - 4) s.size).toList == laidL (sumL (List.take (s.size - 4) s.data.toList))) = false) : openS s = s.extract 0 (s.size - 4) ∧ openE s = 0 := by
  have hl : s.data.toList.length = s.size := by simp
  have e := openL_ok s.data.toList (by rw [hl]; exact h) (by
    rw [hl]
    rw [extract_back] at t
    simpa using t)
  unfold openS openE
  rw [e, hl, extract_front]; exact ⟨rfl, rfl⟩

theorem seal_toList (s : ByteArray) : (sealS s).toList = s.data.toList ++ laidL (sumL s.data.toList) := by
  rw [ByteArray.toList_eq]; unfold sealS
  rw [ByteArray.data_append]; simp
theorem seal_test (s : ByteArray) :
    (!(sealS (s.extract 0 (s.size - 4))).toList == s.toList) = (!(s.extract (s.size - 4) s.size).toList == laidL (sumL (List.take (s.size - 4) s.data.toList))) := by
  rw [seal_toList, extract_back, extract_front, ByteArray.toList_eq s]
  show (!(s.data.toList.take (s.size - 4) ++ laidL (sumL (s.data.toList.take (s.size - 4))) == s.data.toList)) = _
  congr 1
  rw [Bool.eq_iff_iff, beq_iff_eq, beq_iff_eq]
  constructor
  · intro hh
    have := List.take_append_drop (s.size - 4) s.data.toList
    rw [← hh] at this
    rw [List.take_left' (by simp), List.drop_left' (by simp)] at this
    conv => lhs; rw [← hh]
    rw [List.drop_left' (by simp)]
  · intro hh
    rw [← hh, List.take_append_drop]

set_option maxRecDepth 100000 in
set_option maxHeartbeats 400000 in
theorem open_any (s : ByteArray) (w : World) (hs : s.size ≤ 9223372036854775807) :
    Calls Try.prog 19 #[.string s] w fun e w' => e = .returned (.tuple #[.string (openS s), .int .i64 (openE s)]) ∧ Below w.heap.size w w' := by
  by_cases h4 : s.size < 4
  · have h4' : decide ((s.size : Int) < 4) = true := by simp; omega
    go_enter Try.func19, Try.ntmps19
    go_wp2
    go_ret2
    exact ⟨by rw [openS_short s h4, openE_short s h4]; rfl, Below.refl _ _⟩
  · have h4' : decide ((s.size : Int) < 4) = false := by simp; omega
    have q0 : IntKind.i64.wrap ((s.size : Int) - 4) = (s.size : Int) - 4 := IntWalk.i64_in _ (by omega)
    have q1 : (0 : Int) ≤ (s.size : Int) - 4 := by omega
    have q2 : ((s.size : Int) - 4).toNat = s.size - 4 := by omega
    go_enter Try.func19, Try.ntmps19
    go_wp2_with fail
    go_quiet (fail)
    clear q0 q1 q2
    go_wp2_with fail
    refine (sum_any _ _ (by unfold maxLen; rw [ByteArray.size_extract]; omega)).mono ?_; rintro e w1 ⟨rfl, hb1⟩
    go_wp2_with fail
    refine (laid_any _ (V_lo _) (V_hi _) _).mono ?_; rintro e w2 ⟨rfl, hb2⟩
    rw [B_V]
    go_wp2
    · obtain ⟨o1, o2⟩ := open_other s h4 (by assumption)
      go_ret2
      exact ⟨by rw [o1, o2]; rfl, (below_drewN (Below.refl _ _) _).trans (hb1.trans (hb2.mono hb1.size))⟩
    · obtain ⟨o1, o2⟩ := open_same s h4 (by assumption)
      go_ret2
      exact ⟨by rw [o1, o2]; rfl, (below_drewN (Below.refl _ _) _).trans (hb1.trans (hb2.mono hb1.size))⟩

set_option maxRecDepth 100000 in
set_option maxHeartbeats 400000 in
theorem refOpen_any (s : ByteArray) (w : World) (hs : s.size ≤ 9223372036854775807) :
    Calls Try.prog 20 #[.string s] w fun e w' => e = .returned (.tuple #[.string (openS s), .int .i64 (openE s)]) ∧ Below w.heap.size w w' := by
  by_cases h4 : s.size < 4
  · have h4' : decide ((s.size : Int) < 4) = true := by simp; omega
    go_enter Try.func20, Try.ntmps20
    go_wp2
    go_ret2
    exact ⟨by rw [openS_short s h4, openE_short s h4]; rfl, Below.refl _ _⟩
  · have h4' : decide ((s.size : Int) < 4) = false := by simp; omega
    go_enter Try.func20, Try.ntmps20
    go_wp2_with fail
    refine (refSeal_any _ _ (by rw [ByteArray.size_extract]; omega)).mono ?_; rintro e w1 ⟨rfl, hb1⟩
    go_wp2
    · obtain ⟨o1, o2⟩ := open_other s h4 (by rw [← seal_test s]; assumption)
      go_ret2
      exact ⟨by rw [o1, o2]; rfl, hb1⟩
    · obtain ⟨o1, o2⟩ := open_same s h4 (by rw [← seal_test s]; assumption)
      go_ret2
      exact ⟨by rw [o1, o2]; rfl, hb1⟩

theorem shown_sum : V (sumL [49, 50, 51, 52, 53, 54, 55, 56, 57]) = 4236843288 := by decide +kernel
theorem shown_seal : sealS ⟨#[]⟩ = ⟨#[0, 0, 0, 0]⟩ := by
  have h : laidL (sumL []) = [0, 0, 0, 0] := by decide +kernel
  have e : sealS ⟨#[]⟩ = ByteArray.mk #[] ++ ⟨(laidL (sumL [])).toArray⟩ := rfl
  rw [e, h]; rfl

set_option maxRecDepth 100000 in
set_option maxHeartbeats 400000 in
theorem shown_any (w : World) :
    Calls Try.prog 12 #[] w fun e w' => e = .returned (.bool true) ∧ Below w.heap.size w w' := by
  go_enter Try.func12, Try.ntmps12
  go_wp2_with fail
  refine (sum_any _ _ (by decide)).mono ?_; rintro e w1 ⟨rfl, hb1⟩
  rw [shown_sum]
  go_wp2_with fail
  refine (seal_any _ _ (by decide)).mono ?_; rintro e w2 ⟨rfl, hb2⟩
  rw [shown_seal]
  go_wp2
  go_ret
  exact ⟨rfl, hb1.trans (hb2.mono hb1.size)⟩
end Go.Proofs.Ytmhnfloikgfgmaa.Crc
