/- XCelTake, as far as this dump goes. -/
import Derived.Test.YtofafmjkjgiccaaCelNum
/- TakeNum, TakeText of both sides: walked. -/
namespace Go.Proofs.Ytofafmjkjgiccaa.Mat
open Go.RowKit Fld

/-- a call answers a number, what is left, and an error -/
def NumRet (w : World) (E : Int) (v : Nat) (r : ByteArray) (e : Ending) (w' : World) : Prop := e = .returned (.tuple #[.int .u64 (v : Int), .string r, .int .i64 E]) ∧ Below w.heap.size w w'
/-- .. a text, what is left, and an error -/
def Txt3 (w : World) (E : Int) (t r : ByteArray) (e : Ending) (w' : World) : Prop := e = .returned (.tuple #[.string t, .string r, .int .i64 E]) ∧ Below w.heap.size w w'
theorem tn_of {s : ByteArray} {E : Int} {v i : Nat} (h : takeN s = (E, v, i)) (hE : E ≠ 0) (hv : v = 0) : tnE s = E ∧ tnV s = 0 ∧ tnR s = ByteArray.empty := by
  have e : tnE s = E := by unfold tnE; rw [h]
  exact ⟨e, by unfold tnV; rw [h]; exact hv, by unfold tnR; rw [e, if_neg hE]⟩
theorem tn_ok {s : ByteArray} {v i : Nat} (h : takeN s = (0, v, i)) : tnE s = 0 ∧ tnV s = v ∧ tnR s = s.extract i s.size := by
  have e : tnE s = 0 := by unfold tnE; rw [h]
  exact ⟨e, by unfold tnV; rw [h], by unfold tnR; rw [if_pos e, h]⟩
theorem take_none {s : ByteArray} (h : s.size = 0) : takeN s = (2, 0, 0) := if_pos h
theorem take_form {s : ByteArray} (h : s.size ≠ 0) (h2 : (bt s 0).toNat = 128) : takeN s = (3, 0, 0) := by unfold takeN; rw [if_neg h, if_pos h2]
theorem take_on {s : ByteArray} (h : s.size ≠ 0) (h2 : ¬ (bt s 0).toNat = 128) : takeN s = tk s (s.size - 0) 0 0 := by unfold takeN; rw [if_neg h, if_neg h2, Nat.sub_zero]
theorem tk_end {s : ByteArray} {i v : Nat} (h : i = s.size) : tk s (s.size - i) i v = (2, 0, 0) := by rw [h, Nat.sub_self]; rfl
theorem tk_at {s : ByteArray} {i v : Nat} (h : i < s.size) : tk s (s.size - i) i v = if 144115188075855871 < v then (3, 0, 0) else if (bt s i).toNat < 128 then (0, v * 128 + (bt s i).toNat % 128, i + 1) else tk s (s.size - (i + 1)) (i + 1) (v * 128 + (bt s i).toNat % 128) := by
  rw [show s.size - i = (s.size - (i + 1)) + 1 by omega]; rfl
theorem tk_big {s : ByteArray} {i v : Nat} (h : i < s.size) (hv : 144115188075855871 < v) : tk s (s.size - i) i v = (3, 0, 0) := by rw [tk_at h, if_pos hv]
theorem tk_last {s : ByteArray} {i v : Nat} (h : i < s.size) (hv : ¬ 144115188075855871 < v) (hb : (bt s i).toNat < 128) : tk s (s.size - i) i v = (0, v * 128 + (bt s i).toNat % 128, i + 1) := by rw [tk_at h, if_neg hv, if_pos hb]
theorem tk_more {s : ByteArray} {i v : Nat} (h : i < s.size) (hv : ¬ 144115188075855871 < v) (hb : ¬ (bt s i).toNat < 128) : tk s (s.size - i) i v = tk s (s.size - (i + 1)) (i + 1) (v * 128 + (bt s i).toNat % 128) := by rw [tk_at h, if_neg hv, if_neg hb]
theorem bt_get {s : ByteArray} {i : Nat} (h : i < s.size) : (((s[i]'h).toNat : Nat) : Int) = (((bt s i).toNat : Nat) : Int) := bt_at s i h

set_option maxRecDepth 100000 in
set_option maxHeartbeats 1600000 in
theorem refTakeNum_any (s : ByteArray) (hs : s.size ≤ 140737488351232) (w : World) :
    Calls Try.prog 46 #[.string s] w (NumRet w (tnE s) (tnV s) (tnR s)) := by
  by_cases h0 : s.size = 0
  · have HE := Lib.hid (tn_of (take_none h0) (by omega) rfl)
    have g : ((s.size : Int) == 0) = true := by rw [h0]; rfl
    clear h0
    go_enter Try.func46, Try.ntmps46
    go_wp2
    go_ret3
    exact ⟨by rw [HE.out.1, HE.out.2.1, HE.out.2.2]; rfl, Below.refl _ _⟩
  · have g : ((s.size : Int) == 0) = false := by rw [beq_eq_false_iff_ne]; omega
    have hp : 0 < s.size := by omega
    have hi0 := bt_get hp
    have hb := bt_lt s 0
    by_cases h1 : (bt s 0).toNat = 128
    · have HE := Lib.hid (tn_of (take_form h0 h1) (by omega) rfl)
      have hix : (((s[0]'hp).toNat : Nat) : Int) = 128 := by rw [hi0]; omega
      clear h0 hb h1 hi0
      go_enter Try.func46, Try.ntmps46
      go_wp2
      go_ret3
      exact ⟨by rw [HE.out.1, HE.out.2.1, HE.out.2.2]; rfl, Below.refl _ _⟩
    · have HT := Lib.hid (take_on h0 h1)
      have hix : ((((s[0]'hp).toNat : Nat) : Int) == 128) = false := by rw [hi0, beq_eq_false_iff_ne]; omega
      clear h0 hb h1 hi0
      go_enter Try.func46, Try.ntmps46
      go_wp2
      clear hix g
      go_loop [5, 6] (fun u i => ∃ k v : Nat, k ≤ s.size ∧ i = .int .i64 (k : Int) ∧ u = .int .u64 (v : Int) ∧ Hid (takeN s = tk s (s.size - k) k v)) (fun _ i => s.size - (intOf i).toNat)
      case atStart => exact ⟨0, 0, Nat.zero_le _, rfl, rfl, HT⟩
      case round =>
        obtain ⟨k, v, hk, rfl, rfl, HK⟩ := hrel
        by_cases hlt : k < s.size
        · have hx := bt_get hlt
          have hxl := bt_lt s k
          by_cases hv : 144115188075855871 < v
          · have HE := Lib.hid (tn_of (HK.out.trans (tk_big hlt hv)) (by omega) rfl)
            clear hx hxl
            go_wp2
            go_ret3
            exact ⟨by rw [HE.out.1, HE.out.2.1, HE.out.2.2]; rfl, Below.refl _ _⟩
          · by_cases hc : (bt s k).toNat < 128
            · have HE := Lib.hid (tn_ok (HK.out.trans (tk_last hlt hv hc)))
              have hsl := fun W => run_slice_string_l (P := Try.prog) W 9 s Try.underlying9 .i64 ((k : Int) + 1) (by omega) (by omega)
              rw [show ((k : Int) + 1).toNat = k + 1 by omega] at hsl
              have hq1 : IntKind.i64.wrap ((k : Int) + 1) = (k : Int) + 1 := IntWalk.i64_in _ (by omega)
              generalize (bt s k).toNat = x at *
              have hr : (x : Int) % 128 = ((x % 128 : Nat) : Int) := by omega
              have hz : x % 128 < 128 := by omega
              generalize x % 128 = z at *
              have hm : IntKind.u64.wrap ((v : Int) * 128) = ((v * 128 : Nat) : Int) := by rw [IntKind.wrap_u64]; omega
              have hy : IntKind.u64.wrap (((v * 128 : Nat) : Int) + (z : Int)) = ((v * 128 + z : Nat) : Int) := by rw [IntKind.wrap_u64]; omega
              have hcz : (x : Int) < 128 := by omega
              have gv : decide ((v : Int) > 144115188075855871) = false := decide_eq_false (by omega)
              generalize v * 128 + z = y at *
              generalize v * 128 = p at *
              clear hv hxl hc
              go_wp2_with fail
              go_quiet (fail)
              go_wp2
              go_ret3
              exact ⟨by rw [HE.out.1, HE.out.2.1, HE.out.2.2]; rfl, below_drewN (Below.refl _ _) _⟩
            · have HN := Lib.hid (HK.out.trans (tk_more hlt hv hc))
              generalize (bt s k).toNat = x at *
              have hr : (x : Int) % 128 = ((x % 128 : Nat) : Int) := by omega
              have hz : x % 128 < 128 := by omega
              generalize x % 128 = z at *
              have hm : IntKind.u64.wrap ((v : Int) * 128) = ((v * 128 : Nat) : Int) := by rw [IntKind.wrap_u64]; omega
              have hy : IntKind.u64.wrap (((v * 128 : Nat) : Int) + (z : Int)) = ((v * 128 + z : Nat) : Int) := by rw [IntKind.wrap_u64]; omega
              have hcz : ¬ (x : Int) < 128 := by omega
              have gv : decide ((v : Int) > 144115188075855871) = false := decide_eq_false (by omega)
              generalize v * 128 + z = y at *
              generalize v * 128 = p at *
              clear hv hxl hc
              go_wp2
              go_round
              case rel => exact ⟨k + 1, y, by omega, by go_num, rfl, HN⟩
              case measure => simp [intOf]; omega
        · obtain rfl : k = s.size := by omega
          have HE := Lib.hid (tn_of (HK.out.trans (tk_end rfl)) (by omega) rfl)
          go_wp2
          go_ret3
          exact ⟨by rw [HE.out.1, HE.out.2.1, HE.out.2.2]; rfl, Below.refl _ _⟩

/-- the frame at the label -/
def JT (w : World) (s : ByteArray) (a' : Act) (w' : World) : Prop :=
  w' = w ∧ ∃ k v : Nat, k ≤ s.size ∧ takeN s = tk s (s.size - k) k v ∧ ∃ u1 u7 u8 u9 u10 u11 u12 u13 u14 u15 u16 u17 u18 u19 u20 u21 u22 u23 u24 u25 u26 u27 u28 u29 u30 u31 u32 u33 u34 u35 u36 : Value,
    a' = { tmps := #[.string s, u1, .int .u64 0, .string ⟨#[]⟩, .int .i64 0, .int .u64 (v : Int), .int .i64 (k : Int), u7, u8, u9, u10, u11, u12, u13, u14, u15, u16, u17, u18, u19, u20, u21, u22, u23, u24, u25, u26, u27, u28, u29, u30, u31, u32, u33, u34, u35, u36], defers := [] }
theorem and8n (x : Nat) (h : x < 256) : bits .and .u8 (x : Int) 127 = ((x % 128 : Nat) : Int) := by
  have := u8_and_nat x 127 h (by omega)
  rw [show (127 : Nat) = 2 ^ 7 - 1 from rfl, Nat.and_two_pow_sub_one_eq_mod] at this
  exact this
set_option maxRecDepth 100000 in
set_option maxHeartbeats 1600000 in
theorem takeNum_any (s : ByteArray) (hs : s.size ≤ 140737488351232) (w : World) :
    Calls Try.prog 43 #[.string s] w (NumRet w (tnE s) (tnV s) (tnR s)) := by
  by_cases h0 : s.size = 0
  · have HE := Lib.hid (tn_of (take_none h0) (by omega) rfl)
    have g : (s.toList == ([] : List UInt8)) = true := by
      rw [ByteArray.toList_eq]
      have : s.data.toList.length = 0 := by simpa using h0
      rw [List.length_eq_zero_iff.1 this]
      rfl
    clear h0
    go_enter Try.func43, Try.ntmps43
    go_wp2_with fail
    refine wp_scope_jumps 0 (fun _ _ => False) (fun _ _ => 0) rfl ?_ (fun _ _ h => h.elim)
    go_wp2_with fail
    simp only [Exit.jump]
    go_ret3
    exact ⟨by rw [HE.out.1, HE.out.2.1, HE.out.2.2]; rfl, Below.refl _ _⟩
  · have hp : 0 < s.size := by omega
    have g : (s.toList == ([] : List UInt8)) = false := by
      rw [ByteArray.toList_eq, beq_eq_false_iff_ne]
      intro e
      apply h0
      have := congrArg List.length e
      simpa using this
    have hi0 := bt_get hp
    have hb := bt_lt s 0
    by_cases h1 : (bt s 0).toNat = 128
    · have HE := Lib.hid (tn_of (take_form h0 h1) (by omega) rfl)
      have hix : (((s[0]'hp).toNat : Nat) : Int) = 128 := by rw [hi0]; omega
      clear h0 hb h1 hi0
      go_enter Try.func43, Try.ntmps43
      go_wp2_with fail
      refine wp_scope_jumps 0 (fun _ _ => False) (fun _ _ => 0) rfl ?_ (fun _ _ h => h.elim)
      go_wp2_with fail
      simp only [Exit.jump]
      go_ret3
      exact ⟨by rw [HE.out.1, HE.out.2.1, HE.out.2.2]; rfl, Below.refl _ _⟩
    · have HT : Hid (takeN s = tk s (s.size - 0) 0 0) := Lib.hid (take_on h0 h1)
      have hix : ((((s[0]'hp).toNat : Nat) : Int) == 128) = false := by rw [hi0, beq_eq_false_iff_ne]; omega
      clear h0 hb h1 hi0
      go_enter Try.func43, Try.ntmps43
      go_wp2_with fail
      refine wp_scope_jumps 0 (JT w s) (fun a' _ => s.size - (intOf (a'.tmps.getD 6 undef)).toNat) rfl ?_ ?_
      · go_wp2_with fail
        go_step3
        clear g hix
        have hx := bt_get hp
        have hxl := bt_lt s 0
        have hez : ((0 : Int) == (s.size : Int)) = false := by rw [beq_eq_false_iff_ne]; omega
        by_cases hc : (bt s 0).toNat < 128
        · have HE := Lib.hid (tn_ok (HT.out.trans (tk_last hp (by omega) hc)))
          have hsl := fun W => run_slice_string_l (P := Try.prog) W 9 s Try.underlying9 .i64 (1 : Int) (by omega) (by omega)
          rw [show (1 : Int).toNat = 0 + 1 from rfl] at hsl
          rw [show 0 * 128 + (bt s 0).toNat % 128 = (bt s 0).toNat % 128 by omega] at HE
          generalize (bt s 0).toNat = x at *
          have ha := and8n x hxl
          have hz : x % 128 < 128 := by omega
          generalize x % 128 = z at *
          have hwz : IntKind.u64.wrap (z : Int) = (z : Int) := by rw [IntKind.wrap_u64]; omega
          have ho := or64 0 z (by omega) hz
          rw [show ((0 * 128 : Nat) : Int) = 0 by omega, show 0 * 128 + z = z by omega] at ho
          have hcz : decide ((x : Int) ≥ 128) = false := decide_eq_false (by omega)
          clear hxl hc hz
          go_wp2_with fail
          go_quiet (fail)
          go_wp2_with fail
          simp only [Exit.jump]
          go_ret3
          exact ⟨by rw [HE.out.1, HE.out.2.1, HE.out.2.2]; rfl, below_drewN (Below.refl _ _) _⟩
        · have HN := Lib.hid (HT.out.trans (tk_more hp (by omega) hc))
          rw [show 0 * 128 + (bt s 0).toNat % 128 = (bt s 0).toNat % 128 by omega] at HN
          generalize (bt s 0).toNat = x at *
          have ha := and8n x hxl
          have hz : x % 128 < 128 := by omega
          generalize x % 128 = z at *
          have hwz : IntKind.u64.wrap (z : Int) = (z : Int) := by rw [IntKind.wrap_u64]; omega
          have ho := or64 0 z (by omega) hz
          rw [show ((0 * 128 : Nat) : Int) = 0 by omega, show 0 * 128 + z = z by omega] at ho
          have hcz : decide ((x : Int) ≥ 128) = true := decide_eq_true (by omega)
          clear hxl hc hz
          go_wp2_with fail
          go_step3
          exact ⟨rfl, rfl, 1, z, hp, HN.out, _, _, _, _, _, _, _, _, _, _, _, _, _, _, _, _, _, _, _, _, _, _, _, _, _, _, _, _, _, _, _, rfl⟩
      · rintro a' w' ⟨rfl, k, v, hk, hT, u1, u7, u8, u9, u10, u11, u12, u13, u14, u15, u16, u17, u18, u19, u20, u21, u22, u23, u24, u25, u26, u27, u28, u29, u30, u31, u32, u33, u34, u35, u36, rfl⟩
        have HK := Lib.hid hT
        clear hT g hix HT
        by_cases hlt : k < s.size
        · have hx := bt_get hlt
          have hxl := bt_lt s k
          have hez : ((k : Int) == (s.size : Int)) = false := by rw [beq_eq_false_iff_ne]; omega
          by_cases hv : 144115188075855871 < v
          · have HE := Lib.hid (tn_of (HK.out.trans (tk_big hlt hv)) (by omega) rfl)
            clear hx hxl
            go_wp2_with fail
            simp only [Exit.jump]
            go_ret3
            exact ⟨by rw [HE.out.1, HE.out.2.1, HE.out.2.2]; rfl, Below.refl _ _⟩
          · have gv : decide ((v : Int) > 144115188075855871) = false := decide_eq_false (by omega)
            have hq1 : IntKind.i64.wrap ((k : Int) + 1) = (k : Int) + 1 := IntWalk.i64_in _ (by omega)
            have hm : IntKind.u64.wrap ((v : Int) * 128) = ((v * 128 : Nat) : Int) := by rw [IntKind.wrap_u64]; omega
            have hm2 : (v : Int) * 128 % 18446744073709551616 = ((v * 128 : Nat) : Int) := by omega
            by_cases hc : (bt s k).toNat < 128
            · have HE := Lib.hid (tn_ok (HK.out.trans (tk_last hlt hv hc)))
              have hsl := fun W => run_slice_string_l (P := Try.prog) W 9 s Try.underlying9 .i64 ((k : Int) + 1) (by omega) (by omega)
              rw [show ((k : Int) + 1).toNat = k + 1 by omega] at hsl
              generalize (bt s k).toNat = x at *
              have ha := and8n x hxl
              have hz : x % 128 < 128 := by omega
              generalize x % 128 = z at *
              have hwz : IntKind.u64.wrap (z : Int) = (z : Int) := by rw [IntKind.wrap_u64]; omega
              have ho := or64 v z (by omega) hz
              have hcz : decide ((x : Int) ≥ 128) = false := decide_eq_false (by omega)
              generalize v * 128 + z = y at *
              generalize v * 128 = p at *
              clear hv hxl hc hz
              go_wp2_with fail
              go_quiet (fail)
              go_wp2_with fail
              simp only [Exit.jump]
              go_ret3
              exact ⟨by rw [HE.out.1, HE.out.2.1, HE.out.2.2]; rfl, below_drewN (Below.refl _ _) _⟩
            · have HN := Lib.hid (HK.out.trans (tk_more hlt hv hc))
              generalize (bt s k).toNat = x at *
              have ha := and8n x hxl
              have hz : x % 128 < 128 := by omega
              generalize x % 128 = z at *
              have hwz : IntKind.u64.wrap (z : Int) = (z : Int) := by rw [IntKind.wrap_u64]; omega
              have ho := or64 v z (by omega) hz
              have hcz : decide ((x : Int) ≥ 128) = true := decide_eq_true (by omega)
              generalize v * 128 + z = y at *
              generalize v * 128 = p at *
              clear hv hxl hc hz
              go_wp2_with fail
              go_step3
              exact ⟨rfl, ⟨rfl, k + 1, y, hlt, HN.out, _, _, _, _, _, _, _, _, _, _, _, _, _, _, _, _, _, _, _, _, _, _, _, _, _, _, _, _, _, _, _, rfl⟩, by simp [intOf]; omega⟩
        · obtain rfl : k = s.size := by omega
          have HE := Lib.hid (tn_of (HK.out.trans (tk_end rfl)) (by omega) rfl)
          go_wp2_with fail
          simp only [Exit.jump]
          go_ret3
          exact ⟨by rw [HE.out.1, HE.out.2.1, HE.out.2.2]; rfl, Below.refl _ _⟩

/-! ### TakeText -/
theorem wrapN (n : Nat) (h : n < 18446744073709551616) : IntKind.u64.wrap (n : Int) = (n : Int) := by rw [IntKind.wrap_u64]; omega
set_option maxRecDepth 100000 in
theorem above_any (n m : Nat) (hm : m ≤ 9223372036854775807) (w : World) :
    Calls Try.prog 62 #[.int .u64 (n : Int), .int .i64 (m : Int)] w fun e w' => e = .returned (.bool (decide (m < n))) ∧ w = w' := by
  have hw := wrapN m (by omega)
  have hd : decide ((m : Int) < 0) = false := decide_eq_false (by omega)
  have hg : decide ((n : Int) > (m : Int)) = decide (m < n) := by rw [decide_eq_decide]; omega
  generalize decide (m < n) = b at *
  clear hm
  go_enter Try.func62, Try.ntmps62
  go_wp2
  go_ret
  exact ⟨ret_bool (by first | rfl | simp_all), rfl⟩
theorem takeN_lt (s : ByteArray) : tnV s < 18446744073709551616 := by
  have h : ∀ f i v, (tk s f i v).2.1 < 18446744073709551616 := by
    intro f
    induction f with
    | zero => intro i v; show (0 : Nat) < _; omega
    | succ f ih =>
      intro i v
      show (if 144115188075855871 < v then ((3 : Int), 0, 0) else if (bt s i).toNat < 128 then (0, v * 128 + (bt s i).toNat % 128, i + 1) else tk s f (i + 1) (v * 128 + (bt s i).toNat % 128)).2.1 < _
      by_cases h1 : 144115188075855871 < v
      · rw [if_pos h1]; show (0 : Nat) < _; omega
      · rw [if_neg h1]
        by_cases h2 : (bt s i).toNat < 128
        · rw [if_pos h2]; show v * 128 + (bt s i).toNat % 128 < _; omega
        · rw [if_neg h2]; exact ih _ _
  unfold tnV takeN
  by_cases h1 : s.size = 0
  · rw [if_pos h1]; show (0 : Nat) < _; omega
  · rw [if_neg h1]
    by_cases h2 : (bt s 0).toNat = 128
    · rw [if_pos h2]; show (0 : Nat) < _; omega
    · rw [if_neg h2]; exact h _ _ _
theorem tnR_size (s : ByteArray) : (tnR s).size ≤ s.size := by
  unfold tnR
  by_cases h : tnE s = 0
  · rw [if_pos h, ByteArray.size_extract]; omega
  · rw [if_neg h]; simp

set_option maxRecDepth 100000 in
set_option maxHeartbeats 1600000 in
theorem takeText_any (s : ByteArray) (hs : s.size ≤ 140737488351232) (m : Nat) (hm : m ≤ 9223372036854775807) (w : World) :
    Calls Try.prog 44 #[.string s, .int .i64 (m : Int)] w (Txt3 w (ttE s m) (ttT s m) (ttR s m)) := by
  have hc := takeNum_any s hs w
  have hlt := takeN_lt s
  have hz := tnR_size s
  by_cases h0 : tnE s = 0
  · have g0 : (tnE s != 0) = false := by rw [h0]; rfl
    by_cases h1 : m < tnV s
    · obtain ⟨e1, e2, e3⟩ := tt_big h0 h1
      rw [e1, e2, e3]
      have hd := decide_eq_true h1
      have hab := fun W => above_any (tnV s) m hm W
      rw [hd] at hab
      generalize tnV s = v at *
      generalize tnR s = r at *
      generalize tnE s = E at *
      clear hlt hz e1 e2 e3 h0 h1 hd
      go_enter Try.func44, Try.ntmps44
      go_wp2_with fail
      refine hc.mono ?_; rintro e w1 ⟨rfl, hb1⟩
      go_wp2_with fail
      refine (hab _).mono ?_; rintro e w2 ⟨rfl, rfl⟩
      go_wp2
      go_ret3
      exact ⟨rfl, hb1⟩
    · have hab := fun W => above_any (tnV s) m hm W
      rw [decide_eq_false h1] at hab
      by_cases h2 : (tnR s).size < tnV s
      · obtain ⟨e1, e2, e3⟩ := tt_more h0 h1 h2
        rw [e1, e2, e3]
        have hab2 := fun W => above_any (tnV s) (tnR s).size (by omega) W
        rw [decide_eq_true h2] at hab2
        generalize tnV s = v at *
        generalize tnR s = r at *
        generalize tnE s = E at *
        clear hlt hz e1 e2 e3 h0 h1 h2
        go_enter Try.func44, Try.ntmps44
        go_wp2_with fail
        refine hc.mono ?_; rintro e w1 ⟨rfl, hb1⟩
        go_wp2_with fail
        refine (hab _).mono ?_; rintro e w2 ⟨rfl, rfl⟩
        go_wp2_with fail
        refine (hab2 _).mono ?_; rintro e w2 ⟨rfl, rfl⟩
        go_wp2
        go_ret3
        exact ⟨rfl, hb1⟩
      · obtain ⟨e1, e2, e3⟩ := tt_ok h0 h1 h2
        rw [e1, e2, e3]
        have hab2 := fun W => above_any (tnV s) (tnR s).size (by omega) W
        rw [decide_eq_false h2] at hab2
        have hs1 := fun W => run_slice_string_l (P := Try.prog) W 9 (tnR s) Try.underlying9 .u64 (tnV s : Int) (by omega) (by omega)
        have hs2 := fun W => run_slice_string_h (P := Try.prog) W 9 (tnR s) Try.underlying9 .u64 (tnV s : Int) (by omega) (by omega)
        rw [Int.toNat_natCast] at hs1 hs2
        generalize tnV s = v at *
        generalize tnR s = r at *
        generalize tnE s = E at *
        clear hlt hz e1 e2 e3 h0 h1 h2
        go_enter Try.func44, Try.ntmps44
        go_wp2_with fail
        refine hc.mono ?_; rintro e w1 ⟨rfl, hb1⟩
        go_wp2_with fail
        refine (hab _).mono ?_; rintro e w2 ⟨rfl, rfl⟩
        go_wp2_with fail
        refine (hab2 _).mono ?_; rintro e w2 ⟨rfl, rfl⟩
        go_wp2_with fail
        go_quiet (fail)
        go_wp2
        go_ret3
        exact ⟨rfl, below_drewN hb1 _⟩
  · have g0 : (tnE s != 0) = true := bne_iff_ne.2 h0
    obtain ⟨e1, e2, e3⟩ := tt_bad (most := m) h0
    rw [e1, e2, e3]
    generalize tnV s = v at *
    generalize tnR s = r at *
    generalize tnE s = E at *
    clear hlt hz e1 e2 e3 h0
    go_enter Try.func44, Try.ntmps44
    go_wp2_with fail
    refine hc.mono ?_; rintro e w1 ⟨rfl, hb1⟩
    go_wp2
    go_ret3
    exact ⟨rfl, hb1⟩

set_option maxRecDepth 100000 in
set_option maxHeartbeats 1600000 in
theorem refTakeText_any (s : ByteArray) (hs : s.size ≤ 140737488351232) (m : Nat) (hm : m ≤ 9223372036854775807) (w : World) :
    Calls Try.prog 47 #[.string s, .int .i64 (m : Int)] w (Txt3 w (ttE s m) (ttT s m) (ttR s m)) := by
  have hc := refTakeNum_any s hs w
  have hlt := takeN_lt s
  have hz := tnR_size s
  have hw := wrapN m (by omega)
  have hw2 := wrapN (tnR s).size (by omega)
  have hd : decide ((m : Int) < 0) = false := decide_eq_false (by omega)
  by_cases h0 : tnE s = 0
  · have g0 : (tnE s != 0) = false := by rw [h0]; rfl
    by_cases h1 : m < tnV s
    · obtain ⟨e1, e2, e3⟩ := tt_big h0 h1
      rw [e1, e2, e3]
      generalize tnV s = v at *
      generalize tnR s = r at *
      generalize tnE s = E at *
      clear hlt hz e1 e2 e3 h0 hm
      go_enter Try.func47, Try.ntmps47
      go_wp2_with fail
      refine hc.mono ?_; rintro e w1 ⟨rfl, hb1⟩
      go_wp2
      go_ret3
      exact ⟨rfl, hb1⟩
    · by_cases h2 : (tnR s).size < tnV s
      · obtain ⟨e1, e2, e3⟩ := tt_more h0 h1 h2
        rw [e1, e2, e3]
        generalize tnV s = v at *
        generalize tnR s = r at *
        generalize tnE s = E at *
        clear hlt hz e1 e2 e3 h0 hm
        go_enter Try.func47, Try.ntmps47
        go_wp2_with fail
        refine hc.mono ?_; rintro e w1 ⟨rfl, hb1⟩
        go_wp2
        go_ret3
        exact ⟨rfl, hb1⟩
      · obtain ⟨e1, e2, e3⟩ := tt_ok h0 h1 h2
        rw [e1, e2, e3]
        have hs1 := fun W => run_slice_string_l (P := Try.prog) W 9 (tnR s) Try.underlying9 .u64 (tnV s : Int) (by omega) (by omega)
        have hs2 := fun W => run_slice_string_h (P := Try.prog) W 9 (tnR s) Try.underlying9 .u64 (tnV s : Int) (by omega) (by omega)
        rw [Int.toNat_natCast] at hs1 hs2
        generalize tnV s = v at *
        generalize tnR s = r at *
        generalize tnE s = E at *
        clear hlt hz e1 e2 e3 h0 hm
        go_enter Try.func47, Try.ntmps47
        go_wp2_with fail
        refine hc.mono ?_; rintro e w1 ⟨rfl, hb1⟩
        go_wp2_with fail
        go_quiet (fail)
        go_wp2
        go_ret3
        exact ⟨rfl, below_drewN hb1 _⟩
  · have g0 : (tnE s != 0) = true := bne_iff_ne.2 h0
    obtain ⟨e1, e2, e3⟩ := tt_bad (most := m) h0
    rw [e1, e2, e3]
    generalize tnV s = v at *
    generalize tnR s = r at *
    generalize tnE s = E at *
    clear hlt hz e1 e2 e3 h0
    go_enter Try.func47, Try.ntmps47
    go_wp2_with fail
    refine hc.mono ?_; rintro e w1 ⟨rfl, hb1⟩
    go_wp2
    go_ret3
    exact ⟨rfl, hb1⟩
end Go.Proofs.Ytofafmjkjgiccaa.Mat

