/- Which rows and texts are chosen: walked. -/
import Derived.Test.YtohbijjkkadbaaaCodA
namespace Go.Proofs.Ytohbijjkkadbaaa.Mat
open Go.RowKit Fld

theorem infoStr : (Try.prog.info? 9).map (fun i => (i.zero, i.size, i.bytes)) = some (some (.string ByteArray.empty), 1, 16) := by kernel_rfl

/-- a row of the call's own, with the values l -/
structure Chosen (w a : World) (e : TypeId) (v : Value) (l : List Value) : Prop where
  own : a.ownsRow w.heap.size e 1 v l.length l
  below : Below w.heap.size w a
theorem Chosen.start (w : World) (e : TypeId) : Chosen w w e (.slice none 0 0) [] := ⟨World.ownsRow_nil _ _ _ _, Below.refl _ _⟩
theorem Chosen.next {w a b w' : World} {e : TypeId} {v v' : Value} {l : List Value} {x : Value} {o : Obj} (h : Chosen w a e v l) (hb : Below a.heap.size a b) (hown : w'.ownsRow w.heap.size e 1 v' (l.length + 1) (l ++ [x])) (hgrow : (b.alloc o).grownBy w' v.ownBlock) :
    Chosen w w' e v' (l ++ [x]) := by
  have hB := h.below.trans (hb.mono h.below.size)
  exact ⟨by rw [List.length_append]; exact hown, (hB.alloc hB.size o).grown hgrow (by rw [size_alloc]; have := hB.size; omega) (fun k hk => (h.own.lt k hk).1)⟩
theorem Chosen.under {w a b : World} {e : TypeId} {v : Value} {l : List Value} (h : Chosen w a e v l) (hb : Below a.heap.size a b) : Chosen w b e v l :=
  ⟨h.own.kept (grownBy_of_below hb none) (by cases hv : v.ownBlock <;> simp), h.below.trans (hb.mono h.below.size)⟩
/-- as it is read -/
theorem Chosen.has {w a : World} {e : TypeId} {v : Value} {l : List Value} (h : Chosen w a e v l) {n : Nat} {f : Nat → Value} (hn : l.length = n) (hf : ∀ i, i < n → l[i]? = some (f i)) :
    ∃ A cap, v = .slice A n cap ∧ n ≤ cap ∧ cap ≤ maxLen ∧ (0 < n → ∃ b, A = some ⟨b, 0, none⟩ ∧ w.heap.size ≤ b ∧ b < a.heap.size ∧ Has a b e n f) := by
  subst hn
  rcases Nat.eq_zero_or_pos l.length with h0 | h0
  · have := h.own
    rw [h0] at this ⊢
    obtain ⟨_, h1 | ⟨g, c, cur, hv, hg, hh, hc, hm, hs, ht⟩⟩ := this
    · exact ⟨none, 0, h1.1, Nat.le_refl _, Nat.zero_le _, fun hh => absurd hh (by omega)⟩
    · exact ⟨_, c, hv, hc, hm, fun hh => absurd hh (by omega)⟩
  · obtain ⟨g, cap, hv, hg, hlt⟩ := h.own.form h0
    obtain ⟨b, hb, hb1, hb2, hb4, hb3⟩ := Has.of_owns (hv ▸ h.own) h0 hf
    injection hb with hb
    injection hb with hb _
    subst hb
    exact ⟨_, cap, hv, hb2, hb4, fun _ => ⟨g, rfl, hg, hlt, hb3⟩⟩

section
variable {w : World} {A : Option Addr} {n cap : Nat} {L RC : Nat → Nat} {RA : Nat → Option Addr} {F : Nat → Nat → BitVec 8} {p : Nat → Bool}
/-- what is chosen of a matrix, as it is read -/
theorem Chosen.mt {a : World} {v : Value} (h : Chosen w a 55 v ((ch p n).map fun j => .slice (RA j) (L j) (RC j))) (hM : Mt w w.heap.size A n L RA RC F) :
    ∃ A' cap', v = .slice A' (cnt p n) cap' ∧ cnt p n ≤ cap' ∧ Mt a a.heap.size A' (cnt p n) (fun i => L (pk p n i)) (fun i => RA (pk p n i)) (fun i => RC (pk p n i)) (fun i => F (pk p n i)) := by
  obtain ⟨A', cap', hv, hc, _, hh⟩ := h.has (n := cnt p n) (f := fun i => .slice (RA (pk p n i)) (L (pk p n i)) (RC (pk p n i))) (by simp [cnt]) (fun i hi => by rw [List.getElem?_map, pk_get hi]; rfl)
  refine ⟨A', cap', hv, hc, fun hn => ?_⟩
  obtain ⟨b, rfl, hb1, hb2, hb3⟩ := hh hn
  refine ⟨_, rfl, hb2, fun r hr => ?_⟩
  obtain ⟨_, _, _, _, q2, q3⟩ := hM.row (pk_lt hr)
  exact ⟨by rw [add_lit]; exact hb3.cell hr, q2, q3.below h.below h.below.size⟩
theorem Chosen.st {a : World} {v : Value} {S : Nat → ByteArray} (h : Chosen w a 9 v ((ch p n).map fun j => .string (S j))) :
    ∃ A' cap', v = .slice A' (cnt p n) cap' ∧ cnt p n ≤ cap' ∧ St a a.heap.size A' (cnt p n) (fun i => S (pk p n i)) := by
  obtain ⟨A', cap', hv, hc, _, hh⟩ := h.has (n := cnt p n) (f := fun i => .string (S (pk p n i))) (by simp [cnt]) (fun i hi => by rw [List.getElem?_map, pk_get hi]; rfl)
  refine ⟨A', cap', hv, hc, fun hn => ?_⟩
  obtain ⟨b, rfl, hb1, hb2, hb3⟩ := hh hn
  exact ⟨_, rfl, hb2, fun r hr => by rw [add_lit]; exact hb3.cell hr⟩

theorem map_ch_yes {E : Nat → Value} {r : Nat} (h : p r = true) : (ch p (r + 1)).map E = (ch p r).map E ++ [E r] := by rw [ch_yes h, List.map_append]; rfl
theorem map_ch_no {E : Nat → Value} {r : Nat} (h : p r = false) : (ch p (r + 1)).map E = (ch p r).map E := by rw [ch_no h]
theorem map_ch_le {E : Nat → Value} (p : Nat → Bool) (r : Nat) : ((ch p r).map E).length ≤ r := by rw [List.length_map]; exact cnt_le p r

set_option maxRecDepth 100000 in
set_option maxHeartbeats 1600000 in
theorem chosenRows_any (f : FuncId) (caps : Array Value) (hn : n ≤ 32) (h : Mt w w.heap.size A n L RA RC F)
    (hf : ∀ r W, r < n → Below w.heap.size w W → Calls Try.prog f (#[.int .i64 (r : Int)] ++ caps) W fun e w' => e = .returned (.bool (p r)) ∧ W = w')
    (hcf : (Try.prog.funcs[f]?).map (fun fn => (fn.name == "runtime.NumGoroutine", fn.body.isNone)) = some (false, false)) :
    Calls Try.prog 28 #[.slice A n cap, .func (.func f) #[] caps] w fun e w' => ∃ v, e = .returned v ∧ Chosen w w' 55 v ((ch p n).map fun j => .slice (RA j) (L j) (RC j)) := by
  obtain ⟨i0, hi, hz0, hz1, hz2⟩ := info_parts infoRow
  have HF := Lib.hid hf; clear hf
  have H := Lib.hid h; clear h
  have hen := fun args w => enters (P := Try.prog) hcf args w
  clear hcf
  go_enter Try.func28, Try.ntmps28
  go_wp2
  go_loopg [5, 10] n (fun gh v i wr => ∃ r, r ≤ n ∧ gh = n - r ∧ i = .int .i64 (r : Nat) ∧ Chosen w wr 55 v ((ch p r).map fun j => .slice (RA j) (L j) (RC j)))
  case atStart => exact ⟨0, Nat.zero_le _, rfl, rfl, Chosen.start w _⟩
  case round =>
    obtain ⟨r, hr, rfl, rfl, hC⟩ := hrel
    by_cases hrn : r < n
    · have hrz : (r : Int) < (n : Int) := by omega
      obtain ⟨ad, rfl, hb, hc, _, _⟩ := H.out.row hrn
      rw [← hC.below.cell (by rw [block_of_add]; exact hb)] at hc
      have HC := Lib.hid hC
      have hlen := map_ch_le (E := fun j => .slice (RA j) (L j) (RC j)) p r
      have HL := Lib.hid hlen
      clear hC hlen
      go_wp2_with fail
      refine (HF.out r _ hrn HC.out.below).mono ?_; rintro e w1 ⟨rfl, rfl⟩
      cases hp : p r
      · go_wp2
        go_roundg (n - (r + 1))
        case measure => go_light; omega
        case rel => go_light; exact ⟨r + 1, by omega, rfl, by simp, by rw [map_ch_no hp]; exact HC.out⟩
      · go_wp2_with (at_builtin; refine wpList_append_own _ rfl (.tmp 18) (.tmp 20) 23 rfl w.heap.size 55 i0 (.slice none 0 0) 1 24 Try.underlying23 hi hz0 hz1 hz2 rfl (by decide) _ _ _ rfl (HC.out.own.alloc _) ⟨wr.heap.size, 0, none⟩ 1 1 [.slice (RA r) (L r) (RC r)] rfl rfl (one_news _ _) (by simp [Value.oneCell']) (by have := HL.out; unfold maxLen; omega) (by have := HL.out; omega) (by rw [size_alloc]; have := HC.out.below.size; omega) ?_)
        intro v' w' hown hgrow _
        have HN := Lib.hid (HC.out.next (Below.refl _ _) (by rw [List.length_map]; exact hown) hgrow)
        clear hown hgrow
        go_wp2
        go_roundg (n - (r + 1))
        case measure => go_light; omega
        case rel => go_light; exact ⟨r + 1, by omega, rfl, by simp, by rw [map_ch_yes hp]; exact HN.out⟩
    · have hrz : ¬ (r : Int) < (n : Int) := by omega
      obtain rfl : r = n := by omega
      have HC := Lib.hid hC
      clear hC
      go_wp2
      go_ret
      exact ⟨_, rfl, HC.out⟩
set_option maxRecDepth 100000 in
set_option maxHeartbeats 1600000 in
theorem chosenStrs_any {S : Nat → ByteArray} (f : FuncId) (caps : Array Value) (hn : n ≤ 32) (h : St w w.heap.size A n S)
    (hf : ∀ r W, r < n → Below w.heap.size w W → Calls Try.prog f (#[.int .i64 (r : Int)] ++ caps) W fun e w' => e = .returned (.bool (p r)) ∧ W = w')
    (hcf : (Try.prog.funcs[f]?).map (fun fn => (fn.name == "runtime.NumGoroutine", fn.body.isNone)) = some (false, false)) :
    Calls Try.prog 42 #[.slice A n cap, .func (.func f) #[] caps] w fun e w' => ∃ v, e = .returned v ∧ Chosen w w' 9 v ((ch p n).map fun j => .string (S j)) := by
  obtain ⟨i0, hi, hz0, hz1, hz2⟩ := info_parts infoStr
  have HF := Lib.hid hf; clear hf
  have H := Lib.hid h; clear h
  have hen := fun args w => enters (P := Try.prog) hcf args w
  clear hcf
  go_enter Try.func42, Try.ntmps42
  go_wp2
  go_loopg [5, 10] n (fun gh v i wr => ∃ r, r ≤ n ∧ gh = n - r ∧ i = .int .i64 (r : Nat) ∧ Chosen w wr 9 v ((ch p r).map fun j => .string (S j)))
  case atStart => exact ⟨0, Nat.zero_le _, rfl, rfl, Chosen.start w _⟩
  case round =>
    obtain ⟨r, hr, rfl, rfl, hC⟩ := hrel
    by_cases hrn : r < n
    · have hrz : (r : Int) < (n : Int) := by omega
      obtain ⟨ad, rfl, hb, hc⟩ := H.out.at_ hrn
      rw [← hC.below.cell (by rw [block_of_add]; exact hb)] at hc
      have HC := Lib.hid hC
      have hlen := map_ch_le (E := fun j => .string (S j)) p r
      have HL := Lib.hid hlen
      clear hC hlen
      go_wp2_with fail
      refine (HF.out r _ hrn HC.out.below).mono ?_; rintro e w1 ⟨rfl, rfl⟩
      cases hp : p r
      · go_wp2
        go_roundg (n - (r + 1))
        case measure => go_light; omega
        case rel => go_light; exact ⟨r + 1, by omega, rfl, by simp, by rw [map_ch_no hp]; exact HC.out⟩
      · go_wp2_with (at_builtin; refine wpList_append_own _ rfl (.tmp 18) (.tmp 20) 31 rfl w.heap.size 9 i0 (.string ByteArray.empty) 1 16 Try.underlying31 hi hz0 hz1 hz2 rfl (by decide) _ _ _ rfl (HC.out.own.alloc _) ⟨wr.heap.size, 0, none⟩ 1 1 [.string (S r)] rfl rfl (one_news _ _) (by simp [Value.oneCell']) (by have := HL.out; unfold maxLen; omega) (by have := HL.out; omega) (by rw [size_alloc]; have := HC.out.below.size; omega) ?_)
        intro v' w' hown hgrow _
        have HN := Lib.hid (HC.out.next (Below.refl _ _) (by rw [List.length_map]; exact hown) hgrow)
        clear hown hgrow
        go_wp2
        go_roundg (n - (r + 1))
        case measure => go_light; omega
        case rel => go_light; exact ⟨r + 1, by omega, rfl, by simp, by rw [map_ch_yes hp]; exact HN.out⟩
    · have hrz : ¬ (r : Int) < (n : Int) := by omega
      obtain rfl : r = n := by omega
      have HC := Lib.hid hC
      clear hC
      go_wp2
      go_ret
      exact ⟨_, rfl, HC.out⟩
end
end Go.Proofs.Ytohbijjkkadbaaa.Mat
