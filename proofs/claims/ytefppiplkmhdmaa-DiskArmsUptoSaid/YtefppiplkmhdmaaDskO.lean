/- 32 bits turned round: walked. -/
import Derived.Test.YtefppiplkmhdmaaDskN
namespace Go.Proofs.Ytefppiplkmhdmaa.Mat
open Go.RowKit Fld

def V32 (x : BitVec 32) : Int := (x.toNat : Int)
theorem V32_lo (x : BitVec 32) : 0 ≤ V32 x := by unfold V32; omega
theorem V32_hi (x : BitVec 32) : V32 x < 4294967296 := by unfold V32; have := x.isLt; omega
theorem has_copied (W W' : World) {b n : Nat} {f : Nat → BitVec 8} (e : W.heap.size = b) : Has (W.alloc (cpObj W' n f)) b 5 n (fun c => .int .u8 (V (f c))) := by
  subst e
  have hl : (rs n f).data.size = n := by have := rs_size n f; exact this
  refine ⟨_, _, _, heap_alloc_new W _, .inr ?_, fun i hi => ?_⟩
  · unfold bytesRow; simp [hl]
  · have hd : (rs n f).data[i]? = some (UInt8.ofBitVec (f i)) := by
      rw [← Array.getElem?_toList, rs_list]; simp [hi]
    unfold bytesRow
    rw [Array.getElem?_append_left (by simp [hl]; exact hi), Array.getElem?_map, hd]
    rfl
theorem and32_num (N : Nat) : bits .and .u32 (N : Int) 1 = ((N % 2 : Nat) : Int) := by
  show IntKind.u32.wrap ((BitVec.ofInt 32 (N : Int) &&& BitVec.ofInt 32 ((1 : Nat) : Int)).toNat : Int) = _
  rw [BitVec.toNat_and, BitVec.ofInt_natCast, BitVec.ofInt_natCast, BitVec.toNat_ofNat, BitVec.toNat_ofNat, show 1 % 2 ^ 32 = 1 from rfl, Nat.and_one_is_mod, IntKind.wrap_u32]
  omega
/-- a bit as a byte -/
def bb (x : BitVec 32) (k : Nat) : BitVec 8 := (BitVec.ofBool (x.getLsbD k)).setWidth 8
theorem bb_V (x : BitVec 32) (k : Nat) : V (bb x k) = if x.getLsbD k = true then 1 else 0 := by
  unfold bb V
  cases x.getLsbD k <;> rfl
theorem bit_num (x : BitVec 32) (k : Nat) : bits .and .u32 (V32 x / 2 ^ k) 1 % 256 = V (bb x k) := by
  have e : V32 x / 2 ^ k = ((x.toNat / 2 ^ k : Nat) : Int) := by unfold V32; simp
  rw [e, and32_num, bb_V, BitVec.getLsbD, Nat.testBit_eq_decide_div_mod_eq]
  have := Nat.mod_two_eq_zero_or_one (x.toNat / 2 ^ k)
  rcases this with h | h
  · rw [h]; simp
  · rw [h]; simp
theorem shl_num (b : BitVec 8) (e : Nat) : V b * 2 ^ e % 256 = V (b <<< e) := by
  unfold V
  rw [BitVec.toNat_shiftLeft, Nat.shiftLeft_eq, Int.natCast_emod, Int.natCast_mul, Int.natCast_pow]
  rfl
set_option maxRecDepth 100000 in
set_option maxHeartbeats 1600000 in
theorem turned_any (s : ByteArray) (hs : s.size ≤ 140737488351232) (at_ : Nat) (h : at_ + 32 ≤ 8 * s.size) (x : BitVec 32) (w : World) :
    Calls Try.prog 34 #[.string s, .int .i64 (at_ : Int), .int .u32 (V32 x)] w fun e w' => e = .returned (.string (turnS s x at_)) ∧ Below w.heap.size w w' := by
  have hcp := fun w => copy_run s.size (bt s) w
  rw [rs_bt] at hcp
  have HH := Lib.hid h
  have HS := Lib.hid hs
  have hv0 := V32_lo x
  have hv1 := V32_hi x
  generalize hv : V32 x = v at *
  have HV := Lib.hid hv
  clear h hs hv
  go_enter Try.func34, Try.ntmps34
  go_wp2
  clear hcp
  go_loopg [13] 32 (fun gh i wr => ∃ r, r ≤ 32 ∧ gh = 32 - r ∧ i = .int .i64 (r : Nat) ∧ Has wr w.heap.size 5 s.size (fun c => .int .u8 (V (trn (bt s) x at_ r c))) ∧ Below w.heap.size w wr)
  case atStart => exact ⟨0, Nat.zero_le _, rfl, rfl, (has_copied _ _ rfl).drew, ((Below.refl _ _).alloc (Nat.le_refl _) _).drew⟩
  case round =>
    obtain ⟨r, hr, rfl, rfl, hH, hB⟩ := hrel
    by_cases hlt : r < 32
    · have hkz : (r : Int) < 32 := by omega
      have w1 : IntKind.i64.wrap ((at_ : Int) + (r : Int)) = ((at_ + r : Nat) : Int) := by rw [IntWalk.i64_in _ (by have := HH.out; have := HS.out; omega)]; omega
      have w2 : IntKind.i64.wrap (31 - (r : Int)) = ((31 - r : Nat) : Int) := by rw [IntWalk.i64_in _ (by omega)]; omega
      have HB := Lib.hid hB
      have HHH := Lib.hid hH
      clear hB hH
      go_upto_region 7 with fail
      have hbv : bits .and .u32 (v / 2 ^ (31 - r)) 1 % 256 = V (bb x (31 - r)) := by rw [← HV.out, bit_num]
      rw [hbv]
      clear hbv
      generalize hb : V (bb x (31 - r)) = o at *
      have ho0 : 0 ≤ o := by rw [← hb]; exact V_lo _
      have ho1 : o < 256 := by rw [← hb]; exact V_hi _
      have HBB := Lib.hid hb
      rw [show (at_ : Int) + (r : Int) = ((at_ + r : Nat) : Int) by omega]
      have hP : at_ + r < 8 * s.size := by have := HH.out; omega
      have hP2 : at_ + r ≤ 9223372036854775807 := by have := HS.out; omega
      generalize hPe : at_ + r = P at *
      have HPE := Lib.hid hPe
      obtain ⟨c, m, e, hPc, hm, he, hc⟩ : ∃ c m e : Nat, P = 8 * c + m ∧ m < 8 ∧ m + e = 7 ∧ c < s.size := ⟨P / 8, P % 8, 7 - P % 8, by omega, by omega, by omega, by omega⟩
      have HPC := Lib.hid hPc
      have HME := Lib.hid (And.intro hm he)
      have hce := HHH.out.cell hc
      have hfr := HHH.out.frozen hc
      have q1 : (P : Int) / 8 = (c : Int) := by omega
      have q2 : (P : Int) % 8 = (m : Int) := by omega
      have q5 : (P : Int).tdiv 8 = (c : Int) := by rw [Int.tdiv_eq_ediv_of_nonneg (by omega)]; exact q1
      have q6 : (P : Int).tmod 8 = (m : Int) := by rw [Int.tmod_eq_emod_of_nonneg (by omega)]; exact q2
      have q3 : IntKind.i64.wrap (7 - (m : Int)) = (e : Int) := by rw [IntWalk.i64_in _ (by omega)]; omega
      have q4 : (c : Int) < (s.size : Int) := by omega
      have he7 : e ≤ 7 := by omega
      have hcz : c ≤ 9223372036854775807 := by omega
      have q7 : IntKind.i64.wrap (c : Int) = (c : Int) := IntWalk.i64_in _ (by omega)
      have q8 : IntKind.i64.wrap (m : Int) = (m : Int) := IntWalk.i64_in _ (by omega)
      clear hPc hm he hP hP2 hPe
      clear w1 w2 hb
      go_region
      have hval : bits .xor .u8 (V (trn (bt s) x at_ r c)) (o * 2 ^ e % 256) = V (trn (bt s) x at_ (r + 1) c) := by
        have e1 : (at_ + r) / 8 = c := by have := HPE.out; have := HPC.out; have := HME.out; omega
        have e2 : 7 - (at_ + r) % 8 = e := by have := HPE.out; have := HPC.out; have := HME.out; omega
        rw [← HBB.out, shl_num, xor_V]
        congr 1
        show _ = (if c = (at_ + r) / 8 then trn (bt s) x at_ r c ^^^ bitB x at_ r else trn (bt s) x at_ r c)
        rw [if_pos e1.symm]
        unfold bitB bb
        rw [e2]
      have hset : Has (wr.setCell ⟨w.heap.size, c, none⟩ (.int .u8 (bits .xor .u8 (V (trn (bt s) x at_ r c)) (o * 2 ^ e % 256)))) w.heap.size 5 s.size (fun c => .int .u8 (V (trn (bt s) x at_ (r + 1) c))) :=
        (HHH.out.set_ c _).congr (fun j _ => by
          by_cases e1 : j = c
          · subst e1
            rw [if_pos rfl, hval]
          · rw [if_neg e1]
            have e2 : j ≠ (at_ + r) / 8 := by have := HPE.out; have := HPC.out; have := HME.out; omega
            show _ = Value.int .u8 (V (if j = (at_ + r) / 8 then trn (bt s) x at_ r j ^^^ bitB x at_ r else trn (bt s) x at_ r j))
            rw [if_neg e2])
      have HH2 := Lib.hid hset.drew
      have HB2 := Lib.hid (HB.out.setCell (p := ⟨w.heap.size, c, none⟩) (Nat.le_refl _) (.int .u8 (bits .xor .u8 (V (trn (bt s) x at_ r c)) (o * 2 ^ e % 256)))).drew
      clear hset hval hce hfr q1 q2 q5 q6 q3 q4 q7 q8
      go_wp2
      go_roundg (32 - (r + 1))
      case measure => go_light; omega
      case rel => go_light; exact ⟨r + 1, by omega, rfl, by simp, HH2.out, HB2.out⟩
    · have hkz : ¬ (r : Int) < 32 := by omega
      obtain rfl : r = 32 := by omega
      have hrw : Rw wr wr.heap.size (some ⟨w.heap.size, 0, none⟩) s.size (trn (bt s) x at_ 32) := Rw.of_has hH hH.lt
      have hcv := row_convert (c := cpCap w s.size) hrw
      have HB := Lib.hid hB
      clear hB hH hrw
      go_wp2
      go_ret
      exact ⟨rfl, HB.out⟩
end Go.Proofs.Ytefppiplkmhdmaa.Mat
