/- XBlkBase, as far as this dump goes. -/
import Derived.Test.YthalaihpgjniiaaRows
import Derived.WalkKit
import Derived.WalkSpells
import Derived.WalkLawsBesides
import Derived.Lib.Hide
import Derived.Outline
import Derived.Deep.QuietTactic
import Derived.BigQuiet
import Derived.Below
import Derived.Laws.OwnMore
import Derived.Deep.OwnRows
import Derived.Deep.Draws
import Derived.Deep.LoopGhost
import Derived.Deep.CutRange
import Derived.Deep.Light
import Derived.StillTailTactics
import Derived.Deep.RegionHeld3
import Derived.OwnWalk
import Derived.Deep.AppendLies
import Derived.LoopN
import Derived.Deep.Cut
import Derived.IntWalk
import Derived.Laws.BytesArg
import Derived.Laws.IdiomStrings
import Derived.Laws.CopyOwn
import Derived.Lib.SliceRun
/- Bytes, texts and rows in memory, as the walks speak of them (what wip/matrix and wip/code lay besides the field). -/
namespace Go.Proofs.Ythalaihpgjniiaa.Fld
open Go.RowKit

/-- an element as a number, and back -/
def V (r : BitVec 8) : Int := (r.toNat : Int)
def B (a : Int) : BitVec 8 := BitVec.ofNat 8 a.toNat

theorem V_lo (r : BitVec 8) : 0 ≤ V r := by unfold V; omega
theorem V_hi (r : BitVec 8) : V r < 256 := by have := r.isLt; unfold V; omega
theorem B_V (r : BitVec 8) : B (V r) = r := by unfold B V; simp
theorem V_B (a : Int) (h0 : 0 ≤ a) (h1 : a < 256) : V (B a) = a := by
  unfold B V; rw [BitVec.toNat_ofNat, Nat.mod_eq_of_lt (by omega)]; omega
theorem V_inj {a b : BitVec 8} (h : V a = V b) : a = b := by rw [← B_V a, h, B_V]
theorem V_beq (a b : BitVec 8) : (V a == V b) = (a == b) := by
  rw [Bool.eq_iff_iff, beq_iff_eq, beq_iff_eq]; exact ⟨V_inj, fun h => by rw [h]⟩
theorem V_toNat (c : BitVec 8) : (V c).toNat = c.toNat := by unfold V; simp
theorem xor_V (a b : BitVec 8) : bits .xor .u8 (V a) (V b) = V (a ^^^ b) := by
  unfold V; rw [u8_xor_nat _ _ a.isLt b.isLt, BitVec.toNat_xor]

theorem V_zero : V 0#8 = 0 := by decide

theorem ret_int {k : IntKind} {a b : Int} (h : a = b) : Ending.returned (.int k a) = .returned (.int k b) := by rw [h]
end Go.Proofs.Ythalaihpgjniiaa.Fld
namespace Go.Proofs.Ythalaihpgjniiaa.Mat
open Go.RowKit Fld

/-- block b begins with n cells f, none of them frozen -/
def Has (w : World) (b : Nat) (t : TypeId) (n : Nat) (f : Nat → Value) : Prop :=
  ∃ (c : Array Value) (lo hi : Nat), w.heap[b]? = some (.cells c t (lo, hi)) ∧ (hi = 0 ∨ n ≤ lo) ∧ ∀ i, i < n → c[i]? = some (f i)

section
variable {w w' : World} {b t n m : Nat} {f g : Nat → Value}
theorem Has.cell (h : Has w b t n f) {i : Nat} (hi : i < n) : w.cell? ⟨b, i, none⟩ = some (f i) := by
  obtain ⟨c, lo, hi', hb, _, hc⟩ := h
  simp [World.cell?, hb, hc i hi]
theorem Has.frozen (h : Has w b t n f) {i : Nat} (hi : i < n) : w.frozen? ⟨b, i, none⟩ = false := by
  obtain ⟨c, lo, hi', hb, hm, _⟩ := h
  simp only [World.frozen?, hb]
  rw [Bool.and_eq_false_iff, decide_eq_false_iff_not, decide_eq_false_iff_not]
  omega
theorem Has.lt (h : Has w b t n f) : b < w.heap.size := by
  obtain ⟨c, lo, hi', hb, _⟩ := h
  obtain ⟨hlt, _⟩ := Array.getElem?_eq_some_iff.1 hb
  exact hlt
theorem Has.congr (h : Has w b t n f) (e : ∀ i, i < n → f i = g i) : Has w b t n g := by
  obtain ⟨c, lo, hi', hb, hm, hc⟩ := h
  exact ⟨c, lo, hi', hb, hm, fun i hi => by rw [hc i hi, e i hi]⟩
theorem Has.less (h : Has w b t n f) (e : m ≤ n) : Has w b t m f := by
  obtain ⟨c, lo, hi', hb, hm, hc⟩ := h
  exact ⟨c, lo, hi', hb, by omega, fun i hi => hc i (by omega)⟩
theorem Has.of_block (h : Has w b t n f) (e : w'.heap[b]? = w.heap[b]?) : Has w' b t n f := by
  obtain ⟨c, lo, hi', hb, hm, hc⟩ := h
  exact ⟨c, lo, hi', e.trans hb, hm, hc⟩
theorem Has.set_ (h : Has w b t n f) (i : Nat) (v : Value) : Has (w.setCell ⟨b, i, none⟩ v) b t n (fun j => if j = i then v else f j) := by
  obtain ⟨c, lo, hi', hb, hm, hc⟩ := h
  refine ⟨c.setIfInBounds i v, lo, hi', ?_, hm, fun j hj => ?_⟩
  · simp [World.setCell, Array.getElem?_modify, hb]
  · rw [Array.getElem?_setIfInBounds]
    have hj' := hc j hj
    by_cases e : j = i
    · subst e
      have : j < c.size := by
        rcases Nat.lt_or_ge j c.size with h | h
        · exact h
        · rw [Array.getElem?_eq_none h] at hj'; cases hj'
      simp [this]
    · rw [if_neg (fun h => e h.symm)]
      show c[j]? = some (if j = i then v else f j)
      rw [if_neg e]; exact hj'
theorem Has.setOther (h : Has w b t n f) {a : Addr} (ha : b ≠ a.block) (v : Value) : Has (w.setCell a v) b t n f := h.of_block (Below.heap_setCell _ _ _ _ ha)
theorem Has.alloc (h : Has w b t n f) (o : Obj) : Has (w.alloc o) b t n f := h.of_block (Below.heap_alloc _ _ _ h.lt)
theorem Has.drew (h : Has w b t n f) : Has w.drew b t n f := h
theorem Has.drewN (h : Has w b t n f) (k : Nat) : Has (w.drewN k) b t n f := h
theorem Has.below {B : Nat} (h : Has w b t n f) (hb : Below B w w') (hg : b < B) : Has w' b t n f := h.of_block (hb.block b hg)
theorem Has.grown {row : Option Nat} (h : Has w b t n f) (hb : w.grownBy w' row) (hg : some b ≠ row) : Has w' b t n f := h.of_block (hb.block b h.lt hg)
theorem Has.of_is (h : w.rowIs b t n f) : Has w b t n f := by
  obtain ⟨c, hb, _, hc⟩ := h
  exact ⟨c, 0, 0, hb, .inl rfl, hc⟩
/-- cells in a new block -/
theorem has_new (w : World) (cs : Array Value) (t : TypeId) (h : ∀ i, i < n → cs[i]? = some (f i)) : Has (w.alloc (.cells cs t)) w.heap.size t n f := ⟨cs, 0, 0, heap_alloc_new w _, .inl rfl, h⟩
theorem has_box (w : World) (v : Value) (t : TypeId) : Has (w.alloc (.cells #[v] t)) w.heap.size t 1 (fun _ => v) :=
  has_new w #[v] t (fun i hi => by
    obtain rfl : i = 0 := by omega
    rfl)
theorem size_alloc (w : World) (o : Obj) : (w.alloc o).heap.size = w.heap.size + 1 := by simp
theorem Has.ne_ {t' n' b' : Nat} {f' : Nat → Value} (h : Has w b t n f) (h' : Has w b' t' n' f') (hne : t ≠ t') : b ≠ b' := by
  rintro rfl
  obtain ⟨c, lo, hi', hb, _⟩ := h
  obtain ⟨c', lo', hi'', hb', _⟩ := h'
  rw [hb] at hb'
  injection hb' with hb'
  injection hb' with _ ht _
  exact hne ht
theorem Has.of_owns {base : Nat} {e : TypeId} {A : Option Addr} {k cap : Nat} {xs : List Value} (h : w.ownsRow base e 1 (.slice A k cap) k xs) (hk : 0 < k) (hf : ∀ i, i < k → xs[i]? = some (f i)) :
    ∃ b, A = some ⟨b, 0, none⟩ ∧ base ≤ b ∧ k ≤ cap ∧ cap ≤ maxLen ∧ Has w b e k f := by
  obtain ⟨hl, h⟩ := h
  rcases h with ⟨_, h0⟩ | ⟨g, c, cur, hv, hg, hh, hc, hm, hs, ht⟩
  · omega
  · injection hv with h1 h2 h3
    subst h1; subst h3
    refine ⟨g, rfl, hg, hc, hm, cur, 0, 0, hh, .inl rfl, fun i hi => ?_⟩
    have := hf i hi
    rw [← ht, List.getElem?_take, if_pos (by omega)] at this
    simpa using this
end


/-- what is read of a row of bytes at A: n elements f; its block is below B -/
def Rw (w : World) (B : Nat) (A : Option Addr) (n : Nat) (f : Nat → BitVec 8) : Prop :=
  0 < n → ∃ ad, A = some ad ∧ ad.block < B ∧ ∀ c, c < n → w.cell? (ad.add c) = some (.int .u8 (V (f c)))

theorem block_of_add (a : Addr) (n : Nat) : (a.add n).block = a.block := by unfold Addr.add; split <;> rfl
theorem add_zero (a : Addr) : a.add 0 = a := by unfold Addr.add; simp
theorem add_lit (b i : Nat) : (⟨b, 0, none⟩ : Addr).add i = ⟨b, i, none⟩ := by unfold Addr.add; split <;> simp_all


section
variable {w w' : World} {B B' n : Nat} {A : Option Addr} {f g : Nat → BitVec 8}

theorem Rw.keep (h : Rw w B A n f) (hk : ∀ p : Addr, p.block < B → w'.cell? p = w.cell? p) (hB : B ≤ B') : Rw w' B' A n f := fun hn => by
  obtain ⟨ad, e, hb, hc⟩ := h hn
  exact ⟨ad, e, by omega, fun c hc' => (hk _ (by rw [block_of_add]; exact hb)).trans (hc c hc')⟩

theorem Rw.below (h : Rw w B A n f) (hb : Below B w w') (hB : B ≤ B') : Rw w' B' A n f := h.keep (fun _ hp => hb.cell hp) hB

theorem Rw.at_ (h : Rw w B A n f) {c : Nat} (hc : c < n) : ∃ ad, A = some ad ∧ ad.block < B ∧ w.cell? (ad.add c) = some (.int .u8 (V (f c))) := by
  obtain ⟨ad, e, hb, h1⟩ := h (by omega)
  exact ⟨ad, e, hb, h1 c hc⟩
/-- a row of the call's own, read -/
theorem Rw.of_has {b : Nat} (h : Has w b 5 n (fun c => .int .u8 (V (f c)))) (hB : b < B) : Rw w B (some ⟨b, 0, none⟩) n f := fun _ =>
  ⟨_, rfl, hB, fun c hc => by rw [add_lit]; exact h.cell hc⟩

end

/-- what is read of shards at A: n texts S -/
def St (w : World) (B : Nat) (A : Option Addr) (n : Nat) (S : Nat → ByteArray) : Prop :=
  0 < n → ∃ ad, A = some ad ∧ ad.block < B ∧ ∀ r, r < n → w.cell? (ad.add r) = some (.string (S r))
section
variable {w w' : World} {B B' n : Nat} {A : Option Addr} {S S' : Nat → ByteArray}
theorem St.keep (h : St w B A n S) (hk : ∀ p : Addr, p.block < B → w'.cell? p = w.cell? p) (hB : B ≤ B') : St w' B' A n S := fun hn => by
  obtain ⟨ad, e, hb, hc⟩ := h hn
  exact ⟨ad, e, by omega, fun r hr => (hk _ (by rw [block_of_add]; exact hb)).trans (hc r hr)⟩
theorem St.below (h : St w B A n S) (hb : Below B w w') (hB : B ≤ B') : St w' B' A n S := h.keep (fun _ hp => hb.cell hp) hB
theorem St.up (h : St w w.heap.size A n S) (hb : Below w.heap.size w w') : St w' w'.heap.size A n S := h.below hb hb.size
theorem St.drewN (h : St w B A n S) (k : Nat) : St (w.drewN k) B A n S := h
theorem St.drew (h : St w B A n S) : St w.drew B A n S := h
theorem St.at_ (h : St w B A n S) {r : Nat} (hr : r < n) : ∃ ad, A = some ad ∧ ad.block < B ∧ w.cell? (ad.add r) = some (.string (S r)) := by
  obtain ⟨ad, e, hb, hc⟩ := h (by omega)
  exact ⟨ad, e, hb, hc r hr⟩
theorem St.congr (h : St w B A n S) (e : ∀ i, i < n → S i = S' i) : St w B A n S' := fun hn => by
  obtain ⟨ad, h1, h2, h3⟩ := h hn
  exact ⟨ad, h1, h2, fun r hr => by rw [h3 r hr, e r hr]⟩
theorem St.less (h : St w B A n S) {k : Nat} (hk : k ≤ n) : St w B A k S := fun hn => by
  obtain ⟨ad, h1, h2, h3⟩ := h (by omega)
  exact ⟨ad, h1, h2, fun r hr => h3 r (by omega)⟩
theorem St.nil_ (w : World) (B : Nat) (A) (S) : St w B A 0 S := fun h => absurd h (by omega)
theorem add_add (a : Addr) (i j : Nat) : (a.add i).add j = a.add (i + j) := by
  unfold Addr.add
  by_cases h1 : i = 0
  · subst h1; simp
  · by_cases h2 : j = 0
    · subst h2; simp
    · rw [if_neg h1, if_neg h2, if_neg (by omega)]; simp [Nat.add_assoc]
theorem St.rest (h : St w B A n S) {k cap : Nat} (hc : n ≤ cap) : St w B (if cap = k then A else A.map (·.add k)) (n - k) (fun i => S (k + i)) := fun hn => by
  obtain ⟨ad, rfl, h2, h3⟩ := h (by omega)
  by_cases e : cap = k
  · exfalso
    omega
  · rw [if_neg e]
    exact ⟨_, rfl, by rw [block_of_add]; exact h2, fun r hr => by rw [add_add]; exact h3 (k + r) (by omega)⟩
theorem St.of_has {b : Nat} (h : Has w b 9 n (fun c => .string (S c))) (hB : b < B) : St w B (some ⟨b, 0, none⟩) n S := fun _ =>
  ⟨_, rfl, hB, fun c hc => by rw [add_lit]; exact h.cell hc⟩
end

theorem infoByte : (Try.prog.info? 5).map (fun i => (i.zero, i.size, i.bytes)) = some (some (.int .u8 0), 1, 1) := by kernel_rfl

theorem infoStr : (Try.prog.info? 9).map (fun i => (i.zero, i.size, i.bytes)) = some (some (.string ByteArray.empty), 1, 16) := by kernel_rfl


theorem below_drewN {B : Nat} {a w : World} (h : Below B a w) (n : Nat) : Below B a (w.drewN n) := ⟨h.os, h.tape, h.output, h.size, h.block⟩
theorem rowIs_drewN {w : World} {b : Nat} {t : TypeId} {n : Nat} {f : Nat → Value} (h : w.rowIs b t n f) (k : Nat) : (w.drewN k).rowIs b t n f := h

/-- a row as values -/
def vals (n : Nat) (f : Nat → BitVec 8) : List Value := (List.range n).map (fun c => .int .u8 (V (f c)))
theorem vals_length (n : Nat) (f : Nat → BitVec 8) : (vals n f).length = n := by unfold vals; simp
theorem vals_get {n : Nat} {f : Nat → BitVec 8} {i : Nat} (h : i < n) : (vals n f)[i]? = some (.int .u8 (V (f i))) := by unfold vals; simp [h]
theorem vals_one (n : Nat) (f : Nat → BitVec 8) : ∀ u ∈ vals n f, u.oneCell' = true := by
  intro u hu
  unfold vals at hu
  obtain ⟨c, _, rfl⟩ := List.mem_map.1 hu
  rfl
theorem vals_news {w : World} {ad : Addr} {n : Nat} {f : Nat → BitVec 8} (h : ∀ c, c < n → w.cell? (ad.add c) = some (.int .u8 (V (f c)))) : ∀ j u, (vals n f)[j]? = some u → w.cell? (ad.add j) = some u := by
  intro j u hu
  have hj : j < n := by
    rcases Nat.lt_or_ge j n with h | h
    · exact h
    · rw [List.getElem?_eq_none (by rw [vals_length]; exact h)] at hu; cases hu
  rw [vals_get hj] at hu
  rw [h j hj]; exact hu


theorem grownBy_of_below {a b : World} (h : Below a.heap.size a b) (row : Option Nat) : a.grownBy b row := ⟨h.os, h.tape, h.output, h.size, fun k hk _ => h.block k hk⟩

section
variable {a : World}
theorem has_ne_own {t n : Nat} {f : Nat → Value} {base e size k : Nat} {u : Value} {xs : List Value} {g : Nat} (h : Has a g t n f) (ho : a.ownsRow base e size u k xs) (hne : t ≠ e) : some g ≠ u.ownBlock := by
  obtain ⟨c, lo, hi', hb, _⟩ := h
  rcases ho.2 with ⟨rfl, _⟩ | ⟨g', cap, cur, rfl, _, hh, _⟩
  · simp [Value.ownBlock]
  · intro he
    have : g = g' := by simpa [Value.ownBlock] using he
    subst this
    rw [hb] at hh
    injection hh with hh
    injection hh with _ ht _
    exact hne ht
end

/-- an element more: what append leaves of a row -/
theorem vals_next (k : Nat) (f : Nat → BitVec 8) : vals k f ++ [.int .u8 (V (f k))] = vals (k + 1) f := by
  unfold vals; rw [List.range_succ, List.map_append]; rfl
theorem row_next {a b w' : World} {v v' : Value} {k : Nat} {f : Nat → BitVec 8} {o : Obj} (hb : Below a.heap.size a b) (hown : b.ownsRow a.heap.size 5 1 v k (vals k f))
    (hown' : w'.ownsRow a.heap.size 5 1 v' (k + 1) (vals k f ++ [.int .u8 (V (f k))])) (hgrow : (b.alloc o).grownBy w' v.ownBlock) :
    Below a.heap.size a w' ∧ w'.ownsRow a.heap.size 5 1 v' (k + 1) (vals (k + 1) f) := by
  rw [vals_next] at hown'
  exact ⟨(hb.alloc hb.size o).grown hgrow (by rw [size_alloc]; have := hb.size; omega) (fun g hg => (hown.lt g hg).1), hown'⟩
/-- a row that is whole -/
theorem row_end {a b : World} {v : Value} {k : Nat} {f : Nat → BitVec 8} (hk : 0 < k) (h : b.ownsRow a.heap.size 5 1 v k (vals k f)) :
    ∃ g cap, v = .slice (some ⟨g, 0, none⟩) k cap ∧ a.heap.size ≤ g ∧ k ≤ cap ∧ Has b g 5 k (fun c => .int .u8 (V (f c))) := by
  obtain ⟨g, cap, rfl, hg, hlt⟩ := h.form hk
  obtain ⟨b', hb, hb1, hb2, _, hb3⟩ := Has.of_owns h hk (f := fun c => .int .u8 (V (f c))) (fun i hi => vals_get hi)
  injection hb with hb
  injection hb with hb _
  subst hb
  exact ⟨g, cap, rfl, hg, hb2, hb3⟩
theorem one_news {w : World} (u : Value) (t : TypeId) : ∀ j x, ([u] : List Value)[j]? = some x → (w.alloc (.cells #[u] t)).cell? ((⟨w.heap.size, 0, none⟩ : Addr).add j) = some x := by
  intro j x hx
  have hj : j = 0 := by
    rcases Nat.eq_zero_or_pos j with h | h
    · exact h
    · rw [List.getElem?_eq_none (by simp; omega)] at hx; cases hx
  subst hj
  rw [add_zero, (has_box w u t).cell (by omega)]
  simpa using hx


/-- a row as a string -/
def rs (n : Nat) (f : Nat → BitVec 8) : ByteArray := strOfNums ((List.range n).map fun c => V (f c))
theorem byte_of (x : BitVec 8) : UInt8.ofNat (V x).toNat = UInt8.ofBitVec x := by
  rw [V_toNat]; apply UInt8.toBitVec_inj.1; simp
theorem rs_list (n : Nat) (f : Nat → BitVec 8) : (rs n f).data.toList = (List.range n).map fun c => UInt8.ofBitVec (f c) := by
  unfold rs
  rw [strOfNums_data, List.map_map]
  exact List.map_congr_left fun c _ => byte_of (f c)
def RowSame (n : Nat) (f : Nat → BitVec 8) (m : Nat) (g : Nat → BitVec 8) : Prop := n = m ∧ ∀ c, c < n → f c = g c
instance (n : Nat) (f : Nat → BitVec 8) (m : Nat) (g : Nat → BitVec 8) : Decidable (RowSame n f m g) := by unfold RowSame; infer_instance
theorem rs_eq {n m : Nat} {f g : Nat → BitVec 8} : rs n f = rs m g ↔ RowSame n f m g := by
  constructor
  · intro h
    have h2 : (List.range n).map (fun c => UInt8.ofBitVec (f c)) = (List.range m).map (fun c => UInt8.ofBitVec (g c)) := by rw [← rs_list, ← rs_list, h]
    have hl := congrArg List.length h2
    simp only [List.length_map, List.length_range] at hl
    refine ⟨hl, fun c hc => ?_⟩
    have hg := congrArg (fun l => l[c]?) h2
    simp only [List.getElem?_map, List.getElem?_range hc, List.getElem?_range (show c < m by omega), Option.map_some, Option.some.injEq] at hg
    have := congrArg UInt8.toBitVec hg
    simpa using this
  · rintro ⟨rfl, h⟩
    unfold rs
    congr 1
    exact List.map_congr_left fun c hc => by rw [h c (List.mem_range.1 hc)]



theorem ret_bool {a b : Bool} (h : a = b) : Ending.returned (.bool a) = .returned (.bool b) := by rw [h]


theorem rs_size (n : Nat) (f : Nat → BitVec 8) : (rs n f).size = n := by unfold rs; rw [strOfNums_size]; simp
/-- what '[]byte(string(row))' lays -/
def cpObj (w : World) (n : Nat) (f : Nat → BitVec 8) : Obj :=
  .cells (bytesRow (rs n f) (grownCap w n 0 5)) 5 ((bytesRow (rs n f) (grownCap w n 0 5)).size, (bytesRow (rs n f) (grownCap w n 0 5)).size + 1)
def cpCap (w : World) (n : Nat) : Nat := grownCap w n 0 5
theorem copy_cap (w : World) (n : Nat) : n ≤ cpCap w n := grownCap_ge w n 0 _
theorem copy_has (w : World) (n : Nat) (f : Nat → BitVec 8) : Has (w.alloc (cpObj w n f)) w.heap.size 5 n (fun c => .int .u8 (V (f c))) := by
  have hl : (rs n f).data.size = n := by have := rs_size n f; exact this
  refine ⟨_, _, _, heap_alloc_new w _, .inr ?_, fun i hi => ?_⟩
  · unfold bytesRow; simp [hl]
  · have hd : (rs n f).data[i]? = some (UInt8.ofBitVec (f i)) := by
      rw [← Array.getElem?_toList, rs_list]; simp [hi]
    unfold bytesRow
    rw [Array.getElem?_append_left (by simp [hl]; exact hi), Array.getElem?_map, hd]
    rfl


/-- the byte at c -/
def bt (s : ByteArray) (c : Nat) : BitVec 8 := ((s.data[c]?).map UInt8.toBitVec).getD 0#8
theorem bt_at (s : ByteArray) (c : Nat) (h : c < s.size) : ((s[c]'h).toNat : Int) = V (bt s c) := by
  have e : s.data[c]? = some (s[c]'h) := by
    show s.data[c]? = some (s.data[c]'h)
    exact Array.getElem?_eq_getElem h
  unfold bt V
  rw [e]; rfl
theorem bt_rs {n : Nat} {f : Nat → BitVec 8} {c : Nat} (h : c < n) : bt (rs n f) c = f c := by
  have e : (rs n f).data[c]? = some (UInt8.ofBitVec (f c)) := by
    rw [← Array.getElem?_toList, rs_list]; simp [h]
  unfold bt
  rw [e]; rfl
theorem rs_size' (n : Nat) (f : Nat → BitVec 8) : (rs n f).size = n := by unfold rs; rw [strOfNums_size]; simp
theorem rs_congr {n m : Nat} {f g : Nat → BitVec 8} (e : n = m) (h : ∀ c, c < n → f c = g c) : rs n f = rs m g := rs_eq.2 ⟨e, h⟩
theorem rs_bt (s : ByteArray) : rs s.size (bt s) = s := by
  refine ByteArray.ext (Array.ext (by have := rs_size' s.size (bt s); exact this) (fun i h1 h2 => ?_))
  have e : (rs s.size (bt s)).data[i]? = some (UInt8.ofBitVec (bt s i)) := by
    rw [← Array.getElem?_toList, rs_list]
    have : i < s.size := h2
    simp [this]
  have e2 : s.data[i]? = some s.data[i] := Array.getElem?_eq_getElem h2
  rw [Array.getElem?_eq_getElem h1] at e
  injection e with e
  rw [e]
  unfold bt
  rw [e2]
  apply UInt8.toBitVec_inj.1
  simp
theorem bt_eq {s t : ByteArray} : s = t ↔ s.size = t.size ∧ ∀ c, c < s.size → bt s c = bt t c := by
  constructor
  · rintro rfl; exact ⟨rfl, fun _ _ => rfl⟩
  · rintro ⟨h1, h2⟩
    rw [← rs_bt s, ← rs_bt t]
    exact rs_congr h1 h2


theorem str_at (s : ByteArray) (c : Nat) (h : c < s.size) (w : World) : (Instr.index 9 (.string s) (.int .i64 (c : Int))).run Try.prog w = .ok (.int .u8 (V (bt s c))) w := by
  rw [run_index_string _ _ _ _ _ Try.underlying9, dif_pos (by omega)]
  have := bt_at s c h
  simp only [Int.toNat_natCast]
  rw [this]


/-- a call answers a text, in new memory -/
def TextRet (w : World) (s : ByteArray) (e : Ending) (w' : World) : Prop := e = .returned (.string s) ∧ Below w.heap.size w w'


/-- so long, and so much room; nil has none -/
def Fit (A : Option Addr) (n cap : Nat) : Prop := n ≤ cap ∧ (A = none → cap = 0)
theorem own_fit {w : World} {base e s k cap : Nat} {A : Option Addr} {xs : List Value} (h : w.ownsRow base e s (.slice A k cap) k xs) : Fit A k cap := by
  rcases h.2 with ⟨h1, h2⟩ | ⟨g, c, cur, hv, hg, hh, hc, hm, hs, ht⟩
  · injection h1 with h3 h4 h5; exact ⟨by omega, fun _ => h5⟩
  · injection hv with h3 h4 h5; subst h3; exact ⟨by omega, fun h => by cases h⟩
/-- a call answers texts, and an error -/
def TextsRet (w : World) (E : Int) (n : Nat) (T : Nat → ByteArray) (e : Ending) (w' : World) : Prop :=
  ∃ A cap, e = .returned (.tuple #[.slice A n cap, .int .i64 E]) ∧ Fit A n cap ∧ St w' w'.heap.size A n T ∧ Below w.heap.size w w'

/-- .. texts alone -/
def ListRet (w : World) (n : Nat) (T : Nat → ByteArray) (e : Ending) (w' : World) : Prop :=
  ∃ A cap, e = .returned (.slice A n cap) ∧ Fit A n cap ∧ St w' w'.heap.size A n T ∧ Below w.heap.size w w'
/-- the texts' own row, when r of n are made -/
def upto (T : Nat → ByteArray) (r i : Nat) : Value := if i < r then .string (T i) else .string ByteArray.empty
theorem own_drewN {b : World} {base e s k : Nat} {v : Value} {xs : List Value} (h : b.ownsRow base e s v k xs) (q : Nat) : (b.drewN q).ownsRow base e s v k xs := h
theorem own_rw {b : World} {base k : Nat} {v : Value} {f : Nat → BitVec 8} (h : b.ownsRow base 5 1 v k (vals k f)) : ∃ A cap, v = .slice A k cap ∧ Rw b b.heap.size A k f := by
  rcases Nat.eq_zero_or_pos k with h0 | h0
  · subst h0
    obtain ⟨_, h1 | ⟨g, c, cur, hv, _⟩⟩ := h
    · exact ⟨none, 0, h1.1, fun hh => absurd hh (by omega)⟩
    · exact ⟨_, c, hv, fun hh => absurd hh (by omega)⟩
  · obtain ⟨g, cap, hv, hg, hlt⟩ := h.form h0
    obtain ⟨b', hb, hb1, hb2, _, hb3⟩ := Has.of_owns (hv ▸ h) h0 (f := fun c => .int .u8 (V (f c))) (fun i hi => vals_get hi)
    injection hb with hb
    injection hb with hb _
    subst hb
    exact ⟨_, cap, hv, Rw.of_has hb3 hlt⟩


/-- a row of the call's own, with the values l -/
structure Chosen (w a : World) (e : TypeId) (v : Value) (l : List Value) : Prop where
  own : a.ownsRow w.heap.size e 1 v l.length l
  below : Below w.heap.size w a
theorem Chosen.start (w : World) (e : TypeId) : Chosen w w e (.slice none 0 0) [] := ⟨World.ownsRow_nil _ _ _ _, Below.refl _ _⟩
theorem Chosen.next {w a b w' : World} {e : TypeId} {v v' : Value} {l : List Value} {x : Value} {o : Obj} (h : Chosen w a e v l) (hb : Below a.heap.size a b) (hown : w'.ownsRow w.heap.size e 1 v' (l.length + 1) (l ++ [x])) (hgrow : (b.alloc o).grownBy w' v.ownBlock) :
    Chosen w w' e v' (l ++ [x]) := by
  have hB := h.below.trans (hb.mono h.below.size)
  exact ⟨by rw [List.length_append]; exact hown, (hB.alloc hB.size o).grown hgrow (by rw [size_alloc]; have := hB.size; omega) (fun k hk => (h.own.lt k hk).1)⟩
theorem Chosen.under {w a b : World} {e : TypeId} {v : Value} {l : List Value} (h : Chosen w a e v l) (hb : Below a.heap.size a b) : Chosen w b e v l :=
  ⟨h.own.kept (grownBy_of_below hb none) (by cases hv : v.ownBlock <;> simp), h.below.trans (hb.mono h.below.size)⟩
/-- as it is read -/
theorem Chosen.has {w a : World} {e : TypeId} {v : Value} {l : List Value} (h : Chosen w a e v l) {n : Nat} {f : Nat → Value} (hn : l.length = n) (hf : ∀ i, i < n → l[i]? = some (f i)) :
    ∃ A cap, v = .slice A n cap ∧ n ≤ cap ∧ cap ≤ maxLen ∧ (0 < n → ∃ b, A = some ⟨b, 0, none⟩ ∧ w.heap.size ≤ b ∧ b < a.heap.size ∧ Has a b e n f) := by
  subst hn
  rcases Nat.eq_zero_or_pos l.length with h0 | h0
  · have := h.own
    rw [h0] at this ⊢
    obtain ⟨_, h1 | ⟨g, c, cur, hv, hg, hh, hc, hm, hs, ht⟩⟩ := this
    · exact ⟨none, 0, h1.1, Nat.le_refl _, Nat.zero_le _, fun hh => absurd hh (by omega)⟩
    · exact ⟨_, c, hv, hc, hm, fun hh => absurd hh (by omega)⟩
  · obtain ⟨g, cap, hv, hg, hlt⟩ := h.own.form h0
    obtain ⟨b, hb, hb1, hb2, hb4, hb3⟩ := Has.of_owns (hv ▸ h.own) h0 hf
    injection hb with hb
    injection hb with hb _
    subst hb
    exact ⟨_, cap, hv, hb2, hb4, fun _ => ⟨g, rfl, hg, hlt, hb3⟩⟩


theorem up_trans {a w w' : World} (h : Below a.heap.size a w) (k : Below w.heap.size w w') : Below a.heap.size a w' := h.trans (k.mono h.size)

theorem grownBy_drew {w w' : World} {row : Option Nat} (h : w.drew.grownBy w' row) : w.grownBy w' row := ⟨h.os, h.tape, h.output, h.size, h.block⟩

/-- texts are the same -/
def StSame (n : Nat) (S : Nat → ByteArray) (n' : Nat) (S' : Nat → ByteArray) : Prop := n = n' ∧ ∀ i, i < n → S i = S' i
instance (n : Nat) (S : Nat → ByteArray) (n' : Nat) (S' : Nat → ByteArray) : Decidable (StSame n S n' S') := by unfold StSame; infer_instance
def stB (n : Nat) (S : Nat → ByteArray) (n' : Nat) (S' : Nat → ByteArray) : Bool := decide (StSame n S n' S')
theorem str_beq (s t : ByteArray) : (s.toList == t.toList) = decide (s = t) := by
  rw [Bool.eq_iff_iff, beq_iff_eq, decide_eq_true_iff, ByteArray.toList_eq, ByteArray.toList_eq]
  exact ⟨fun h => ByteArray.ext (Array.toList_inj.1 h), fun h => by rw [h]⟩
theorem str_yes {s t : ByteArray} (h : s = t) : (s.toList == t.toList) = true ∧ (s.toList != t.toList) = false := by
  have : (s.toList == t.toList) = true := by rw [str_beq]; exact decide_eq_true h
  exact ⟨this, by unfold bne; rw [this]; rfl⟩
theorem str_no {s t : ByteArray} (h : s ≠ t) : (s.toList == t.toList) = false ∧ (s.toList != t.toList) = true := by
  have : (s.toList == t.toList) = false := by rw [str_beq]; exact decide_eq_false h
  exact ⟨this, by unfold bne; rw [this]; rfl⟩


theorem stB_yes {n n' : Nat} {S S' : Nat → ByteArray} (h : StSame n S n' S') : stB n S n' S' = true := decide_eq_true h
theorem stB_no {n n' : Nat} {S S' : Nat → ByteArray} (h : ¬ StSame n S n' S') : stB n S n' S' = false := decide_eq_false h


theorem quiet_left {P : Program} {f : FuncId} {args : Array Value} {w : World} {n : Nat} {v : Value}
    (h : Calls P f args (w.drewN n) fun e w' => e = .returned v ∧ w.drewN n = w') : Calls P f args (w.drewN n) fun e w'' => e = .returned v ∧ ∃ m, w'' = w.drewN m :=
  h.mono fun _ _ ⟨he, hm⟩ => ⟨he, n, hm.symm⟩


theorem quiet_more {P : Program} {f : FuncId} {args : Array Value} {w : World} {a n : Nat} {v : Value}
    (h : Calls P f args (w.drewN (a + n)) fun e w' => e = .returned v ∧ w.drewN (a + n) = w') : Calls P f args (w.drewN (a + n)) fun e w'' => e = .returned v ∧ ∃ m, w'' = w.drewN (a + m) :=
  h.mono fun _ _ ⟨he, hm⟩ => ⟨he, n, hm.symm⟩

def BoolRet (w : World) (b : Bool) (e : Ending) (w' : World) : Prop := e = .returned (.bool b) ∧ Below w.heap.size w w'

end Go.Proofs.Ythalaihpgjniiaa.Mat

