/- CrcBursts, walked. -/
import Derived.Test.YtmhnfloikgfgmaaCrcD
import Derived.Test.YtmhnfloikgfgmaaCrcFlip
namespace Go.Proofs.Ytmhnfloikgfgmaa.Crc
open Go.RowKit

/-- the byte j of a text, as a number -/
def byteN (l : List UInt8) (j : Nat) : Int := ((l[j]?.getD 0).toNat : Int)
theorem byteN_lo (l : List UInt8) (j : Nat) : 0 ≤ byteN l j := by unfold byteN; omega
theorem byteN_hi (l : List UInt8) (j : Nat) : byteN l j < 256 := byte_hi _

/-- the bytes l stand at the head of block g, and may be written -/
def Has (w : World) (g : Nat) (l : List UInt8) : Prop :=
  (∀ j, j < l.length → w.cell? ⟨g, j, none⟩ = some (.int .u8 (byteN l j))) ∧ (∀ j, j < l.length → w.frozen? ⟨g, j, none⟩ = false) ∧ g < w.heap.size

theorem has_start (w : World) (f : ByteArray) (cap : Nat) (t : TypeId) :
    Has (w.alloc (.cells (bytesRow f cap) t ((bytesRow f cap).size, (bytesRow f cap).size + 1))).drew w.heap.size f.data.toList := by
  have hl : f.data.toList.length = f.size := by simp
  refine ⟨fun j hj => ?_, fun j hj => ?_, by simp⟩
  · show (w.alloc _).cell? _ = _
    rw [World.cell?_alloc_mark, bytesRow_at f _ j (by omega)]
    unfold byteN
    rw [List.getElem?_eq_getElem hj]
    simp
  · show (w.alloc _).frozen? _ = _
    rw [World.frozen?_alloc_mark, decide_eq_false (by
      have : f.size ≤ (bytesRow f cap).size := by simp [bytesRow]
      omega)]
    rfl

theorem mask_num (q : Nat) : (128 : Int) / 2 ^ (q % 8) = V8 (0x80#8 >>> (q % 8)) := by
  have e : ∀ a : Fin 8, (128 : Int) / 2 ^ a.val = V8 (0x80#8 >>> a.val) := by decide +kernel
  exact e ⟨q % 8, Nat.mod_lt _ (by omega)⟩

theorem half_num (m q : Nat) (h : m < q % 8) : ((128 : Int) / 2 ^ m).tdiv 2 % 256 = 128 / 2 ^ (m + 1) := by
  have e : ∀ a : Fin 8, ((128 : Int) / 2 ^ a.val).tdiv 2 % 256 = 128 / 2 ^ (a.val + 1) := by decide +kernel
  exact e ⟨m, by omega⟩

theorem burst_yes (l : List UInt8) (p n : Nat) (v : BitVec 32) (h : v.getLsbD (31 - n) = true) : burst l p v (n + 1) = flipAt (burst l p v n) (p + n) := if_pos h
theorem burst_no (l : List UInt8) (p n : Nat) (v : BitVec 32) (h : v.getLsbD (31 - n) = false) : burst l p v (n + 1) = burst l p v n := if_neg (by rw [h]; simp)

theorem flip_num (l : List UInt8) (q : Nat) (hq : q < 8 * l.length) : bits .xor .u8 (byteN l (q / 8)) (128 / 2 ^ (q % 8)) = byteN (flipAt l q) (q / 8) := by
  rw [mask_num]
  have e : byteN l (q / 8) = V8 (l[q / 8]?.getD 0).toBitVec := rfl
  rw [e, xor_V8]
  unfold byteN flipAt
  rw [List.getElem?_set_self (by omega)]
  rfl

theorem has_flip {w : World} {g : Nat} {l : List UInt8} {q : Nat} (h : Has w g l) (hq : q < 8 * l.length) :
    Has (w.setCell ⟨g, q / 8, none⟩ (.int .u8 (bits .xor .u8 (byteN l (q / 8)) (128 / 2 ^ (q % 8))))) g (flipAt l q) := by
  obtain ⟨h1, h2, h3⟩ := h
  have hx : q / 8 < l.length := by omega
  refine ⟨fun j hj => ?_, fun j hj => ?_, by simpa [World.setCell] using h3⟩
  · rw [flipAt_length] at hj
    by_cases e : q / 8 = j
    · subst e
      rw [flip_num l q hq]
      exact World.cell?_setCell_same _ _ _ (h1 _ hx)
    · refine (World.cell?_setCell_other _ _ _ _ (fun hc => e (by injection hc))).trans ?_
      rw [h1 j hj]
      unfold byteN flipAt
      rw [List.getElem?_set_ne e]
  · rw [flipAt_length] at hj
    rw [World.frozen?_setCell]
    exact h2 j hj

set_option maxRecDepth 100000 in
set_option maxHeartbeats 1000000 in
theorem lawBursts (s : ByteArray) (at_ v : Int) (hs : s.size ≤ 140737488351232) (g0 : -9223372036854775808 ≤ at_) (g1 : at_ ≤ 9223372036854775807) (v0 : 0 ≤ v) (v1 : v < 4294967296) (w : World) :
    Calls Try.prog 7 #[.string s, .int .i64 at_, .int .u32 v] w fun e w' => e = .returned (.bool true) ∧ Below w.heap.size w w' := by
  have hcv := fun w s => run_bytes_of_string (P := Try.prog) w 9 34 5 s Try.underlying9 Try.underlying34 Try.underlying5
  go_enter Try.func7, Try.ntmps7
  go_wp2_with fail
  refine (shown_any _).mono ?_; rintro e w1 ⟨rfl, hb1⟩
  go_wp2_with fail
  refine (seal_any _ _ (by omega)).mono ?_; rintro e w2 ⟨rfl, hb2⟩
  have hsz : (sealS s).size ≤ 140737488351236 := by rw [sealS_size]; omega
  have hsz4 : 4 ≤ (sealS s).size := by rw [sealS_size]; omega
  have hreg : rg 0xffffffff#32 (sealS s).data.toList = 3338984827#32 := by
    rw [← ByteArray.toList_eq, seal_toList]; exact rg_seal _
  generalize sealS s = f at hsz hsz4 hreg ⊢
  have HR := Lib.hid hreg; clear hreg
  have hb := hb1.trans (hb2.mono hb1.size)
  clear hb1 hb2
  by_cases hv : v = 0
  · have t1 : (v == 0) = true := by rw [hv]; rfl
    clear hv
    go_wp2
    go_ret
    exact ⟨rfl, (hb.alloc hb.size _).drew⟩
  · have t1 : (v == 0) = false := by simpa using hv
    have H1 := Lib.hid hv; clear hv
    by_cases h2 : at_ < 0
    · go_wp2
      go_ret
      exact ⟨rfl, (hb.alloc hb.size _).drew⟩
    · obtain ⟨p, rfl⟩ := Int.eq_ofNat_of_zero_le (show 0 ≤ at_ by omega)
      by_cases h3 : 8 * f.size < p + 32
      · go_wp2
        go_ret
        exact ⟨rfl, (hb.alloc hb.size _).drew⟩
      · go_wp2_with fail
        have hst := has_start w2 f (grownCap w2 f.size 0 5) 5
        have hbw : Below w.heap.size w (w2.alloc (.cells (bytesRow f (grownCap w2 f.size 0 5)) 5 ((bytesRow f (grownCap w2 f.size 0 5)).size, (bytesRow f (grownCap w2 f.size 0 5)).size + 1))).drew := (hb.alloc hb.size _).drew
        generalize grownCap w2 f.size 0 5 = cap at hst hbw ⊢
        generalize (w2.alloc (.cells (bytesRow f cap) 5 ((bytesRow f cap).size, (bytesRow f cap).size + 1))).drew = w3 at hst hbw ⊢
        have hg := hb.size
        generalize w2.heap.size = g at hst hg ⊢
        go_loopw [2, 9] (fun x i wr => ∃ n : Nat, n ≤ 32 ∧ i = .int .i64 n ∧ x = .int .u32 (V (B v <<< n)) ∧ Has wr g (burst f.data.toList p (B v) n) ∧ Below w.heap.size w wr) (fun _ i _ => 32 - (intOf i).toNat)
        case atStart => exact ⟨0, by omega, rfl, by rw [BitVec.shiftLeft_zero, V_B v v0 v1], hst, hbw⟩
        case round =>
          obtain ⟨n, hn, rfl, rfl, hhas, hbr⟩ := hrel
          by_cases hlt : n < 32
          · have x0 := V_lo (B v <<< n)
            have x1 := V_hi (B v <<< n)
            have hbit := msb_V (B v <<< n)
            rw [msb_shl _ _ hlt] at hbit
            have hnx : V (B v <<< n) % 2147483648 * 2 = V (B v <<< (n + 1)) := by rw [rem_V, BitVec.shiftLeft_add]
            have HNX := Lib.hid hnx; clear hnx
            generalize V (B v <<< n) = X at x0 x1 hbit HNX ⊢
            by_cases hb1 : (B v).getLsbD (31 - n) = true
            · rw [if_pos hb1] at hbit
              have t3 : (X / 2147483648 == 1) = true := by rw [hbit]; rfl
              clear hbit
              have hl : (burst f.data.toList p (B v) n).length = f.size := by rw [burst_length]; simp
              have hix : (p + n) / 8 < f.size := by omega
              have hcell := hhas.1 ((p + n) / 8) (by omega)
              have hfz := hhas.2.1 ((p + n) / 8) (by omega)
              have hgs := hhas.2.2
              have c0 := byteN_lo (burst f.data.toList p (B v) n) ((p + n) / 8)
              have c1 := byteN_hi (burst f.data.toList p (B v) n) ((p + n) / 8)
              have HL := Lib.hid hl; clear hl
              have HH := Lib.hid hhas; clear hhas
              have H1' := Lib.hid hb1; clear hb1
              go_wp2_with fail
              go_loop [11, 12] (fun b j => ∃ m : Nat, m ≤ (p + n) % 8 ∧ j = .int .i64 m ∧ b = .int .u8 (128 / 2 ^ m)) (fun _ j => 8 - (intOf j).toNat)
              case atStart => exact ⟨0, by omega, rfl, by simp⟩
              case round =>
                obtain ⟨m, hm, rfl, rfl⟩ := hrel
                by_cases hm2 : m < (p + n) % 8
                · go_wp2
                  go_round
                  case rel => exact ⟨m + 1, by omega, by go_num, by rw [half_num m (p + n) hm2]⟩
                  case measure => simp [intOf]; omega
                · obtain rfl : m = (p + n) % 8 := by omega
                  go_wp2
                  go_roundw
                  case rel => exact ⟨n + 1, by omega, by go_num, by rw [HNX.out], by rw [burst_yes _ _ _ _ H1'.out]; exact has_flip HH.out (by rw [HL.out]; omega), hbr.setCell (by simpa using hg) _⟩
                  case measure => simp [intOf]; omega
            · rw [if_neg hb1] at hbit
              have t3 : (X / 2147483648 == 1) = false := by rw [hbit]; rfl
              have H1' := Lib.hid hb1; clear hb1 hbit
              go_wp2
              go_roundw
              case rel => exact ⟨n + 1, by omega, by go_num, by rw [HNX.out], by rw [burst_no _ _ _ _ (by simpa using H1'.out)]; exact hhas, hbr⟩
              case measure => simp [intOf]; omega
          · obtain rfl : n = 32 := by omega
            have hlen : (burst f.data.toList p (B v) 32).length = f.size := by rw [burst_length]; simp
            have hback := run_convert_bytes_back (P := Try.prog) wr 34 9 5 ⟨g, 0, none⟩ cap (burst f.data.toList p (B v) 32) Try.underlying34 Try.underlying5 Try.underlying9 (fun j hj => by
              have := hhas.1 j hj
              unfold byteN at this
              rw [List.getElem?_eq_getElem hj] at this
              have e : (⟨g, 0, none⟩ : Addr).add j = ⟨g, j, none⟩ := by unfold Addr.add; split <;> simp_all
              rw [e]; exact this)
            rw [hlen] at hback
            have hop := burst_open f.data.toList p (B v) (by intro hz; apply H1.out; rw [← V_B v v0 v1, hz]; rfl) (by simp; omega) HR.out
            have hfs : (⟨(burst f.data.toList p (B v) 32).toArray⟩ : ByteArray).size = f.size := hlen
            have ho1 : openS ⟨(burst f.data.toList p (B v) 32).toArray⟩ = ⟨#[]⟩ := by unfold openS; simp only; rw [hop]
            have ho2 : openE ⟨(burst f.data.toList p (B v) 32).toArray⟩ = 13 := by unfold openE; simp only; rw [hop]
            generalize (⟨(burst f.data.toList p (B v) 32).toArray⟩ : ByteArray) = fin at hback hfs ho1 ho2
            clear hop hlen hhas
            have HO1 := Lib.hid ho1
            have HO2 := Lib.hid ho2
            have HFS := Lib.hid hfs
            clear ho1 ho2 hfs
            go_wp2_with fail
            refine (open_any _ _ (by rw [HFS.out]; omega)).mono ?_; rintro e w4 ⟨rfl, hb4⟩
            rw [HO1.out, HO2.out]
            go_wp2
            go_ret
            exact ⟨rfl, hbr.trans (hb4.mono hbr.size)⟩
end Go.Proofs.Ytmhnfloikgfgmaa.Crc
