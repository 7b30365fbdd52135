/- copy and clear, of rows that are known by their cells. -/
import Derived.Test.YtjfgainieoaeaaaBlkBase
namespace Go.Proofs.Ytjfgainieoaeaaa.Mat
open Go.RowKit Fld

/-- the world in which n bytes f were laid into block g from off on -/
def laid (w : World) (g off n : Nat) (f : Nat → BitVec 8) : World := w.setCells g off (vals n f)

section
variable {w w0 w' : World} {g b off n N : Nat} {t : TypeId} {F : Nat → Value} {f : Nat → BitVec 8} {B : Nat}
theorem Has.setCells : ∀ (vs : List Value) (o : Nat) (w : World) (F : Nat → Value), Has w g t N F → Has (w.setCells g o vs) g t N (fun j => if o ≤ j ∧ j < o + vs.length then vs[j - o]?.getD default else F j)
  | [], o, w, F, h => h.congr (fun j _ => by rw [if_neg (by simp)])
  | v :: r, o, w, F, h => by
    have ih := Has.setCells r (o + 1) _ _ (h.set_ o v)
    refine ih.congr (fun j _ => ?_)
    by_cases h1 : j = o
    · subst h1
      rw [if_neg (by omega), if_pos rfl, if_pos (by simp), Nat.sub_self]
      rfl
    · by_cases h2 : o + 1 ≤ j ∧ j < o + 1 + r.length
      · rw [if_pos h2, if_pos (by simp; omega), show j - o = (j - (o + 1)) + 1 by omega, List.getElem?_cons_succ]
      · rw [if_neg h2, if_neg h1, if_neg (by simp; omega)]
theorem other_setCells {h : Nat} (hne : h ≠ g) : ∀ (vs : List Value) (o : Nat) (w : World), (w.setCells g o vs).heap[h]? = w.heap[h]?
  | [], _, _ => rfl
  | _ :: r, o, _ => (other_setCells hne r (o + 1) _).trans (Below.heap_setCell _ _ _ _ hne)
theorem size_setCells : ∀ (vs : List Value) (o : Nat) (w : World), (w.setCells g o vs).heap.size = w.heap.size
  | [], _, _ => rfl
  | _ :: r, o, _ => by
    refine (size_setCells r (o + 1) _).trans ?_
    simp [World.setCell]
theorem below_setCells (hb : B ≤ g) : ∀ (vs : List Value) (o : Nat) (w : World), Below B w0 w → Below B w0 (w.setCells g o vs)
  | [], _, _, h => h
  | v :: r, o, w, h => below_setCells hb r (o + 1) _ (h.setCell (p := ⟨g, o, none⟩) (by exact hb) v)
theorem laid_has (h : Has w g t N F) : Has (laid w g off n f) g t N (fun c => if off ≤ c ∧ c < off + n then .int .u8 (V (f (c - off))) else F c) :=
  (h.setCells (vals n f) off w F).congr (fun j _ => by
    rw [vals_length]
    by_cases e : off ≤ j ∧ j < off + n
    · rw [if_pos e, if_pos e, vals_get (by omega)]; rfl
    · rw [if_neg e, if_neg e])
theorem laid_other {F' : Nat → Value} {N' : Nat} {t' : TypeId} (h : Has w b t' N' F') (hne : b ≠ g) : Has (laid w g off n f) b t' N' F' := h.of_block (other_setCells hne _ _ _)
theorem laid_below (h : Below B w0 w) (hb : B ≤ g) : Below B w0 (laid w g off n f) := below_setCells hb _ _ _ h
theorem laid_size : (laid w g off n f).heap.size = w.heap.size := size_setCells _ _ _

theorem sizeByte (w : World) : (Go.sizeOf 5).run Try.prog w = .ok 1 w := by
  obtain ⟨i, hi, _, h1, _⟩ := info_parts infoByte
  simp [Go.sizeOf, typeInfo, hi, h1]
theorem infoByte1 : (Try.prog.info? 5).map (·.size) = some 1 := by kernel_rfl
theorem laid_run (h : Has w g t N F) (hfit : off + n ≤ N) : (storeCells ⟨g, off, none⟩ (vals n f) 0).run Try.prog w = .ok () (laid w g off n f) := by
  have := run_storeCells_cells (P := Try.prog) g off (vals n f) 0 w (fun j hj => by
      rw [vals_length] at hj
      rw [show off + 0 + j = off + j by omega, h.cell (by omega)]; rfl)
    (fun j hj => by
      rw [vals_length] at hj
      rw [show off + 0 + j = off + j by omega]
      exact h.frozen (by omega)) (vals_one n f)
  simpa [laid] using this
theorem bytes_vals (s : ByteArray) (n : Nat) (h : n ≤ s.size) : ((s.extract 0 n).data.map fun b => Value.int .u8 (b.toNat : Int)).toList = vals n (bt s) := by
  have hs : s.data.size = s.size := rfl
  apply List.ext_getElem?
  intro i
  rw [Array.toList_map, List.getElem?_map, Array.getElem?_toList, ByteArray.data_extract, Array.getElem?_extract]
  by_cases hi : i < n
  · rw [if_pos (by omega), vals_get hi, Nat.zero_add]
    have e : s.data[i]? = some s.data[i] := Array.getElem?_eq_getElem (by omega)
    have := bt_at s i (by omega)
    rw [e, ← this]; rfl
  · rw [if_neg (by omega), List.getElem?_eq_none (by rw [vals_length]; omega)]; rfl
theorem run_copy_text {D : Option Addr} {dLen dCap : Nat} {s : ByteArray} (sT ty : TypeId) (hn : n = Nat.min s.size dLen) (hD : 0 < n → D = some ⟨g, off, none⟩) (h : Has w g t N F) (hfit : off + n ≤ N) :
    (Builtin.copy_ #[56, sT] ty #[.slice D dLen dCap, .string s]).run Try.prog w = .ok (goInt n) (laid w g off n (bt s)) := by
  have hle : n ≤ s.size := by rw [hn]; exact Nat.min_le_left _ _
  have hv := bytes_vals s n hle
  have hr := laid_run (f := bt s) h hfit
  rcases Nat.eq_zero_or_pos n with h0 | h0
  · cases D with
    | none =>
      simp [Builtin.copy_, run_underlying Try.underlying56, Builtin.lenOf, Builtin.firstCells, ← hn]
      subst h0; rfl
    | some d =>
      subst h0
      have hv' : ((s.extract 0 0).data.map fun b => Value.int .u8 (b.toNat : Int)).toList = [] := hv
      simp [Builtin.copy_, run_underlying Try.underlying56, Builtin.lenOf, Builtin.firstCells, ← hn]
      rfl
  · obtain rfl := hD h0
    simp only [Builtin.copy_, Builtin.lenOf, Builtin.firstCells]
    simp [run_underlying Try.underlying56, ← hn]
    rw [Array.toList_map] at hv
    simp at hv
    rw [hv, hr]; rfl
theorem run_copy_row_has {D A : Option Addr} {dLen dCap m mc : Nat} (sT ty : TypeId) (hn : n = Nat.min m dLen) (hD : 0 < n → D = some ⟨g, off, none⟩) (h : Has w g t N F) (hfit : off + n ≤ N) (hA : Rw w B A n f) :
    (Builtin.copy_ #[56, sT] ty #[.slice D dLen dCap, .slice A m mc]).run Try.prog w = .ok (goInt n) (laid w g off n f) := by
  rcases Nat.eq_zero_or_pos n with h0 | h0
  · subst h0
    have := run_copy_none (P := Try.prog) w 56 sT ty 5 D A dLen dCap m mc Try.underlying56 infoByte1 hn.symm
    exact this
  · obtain rfl := hD h0
    obtain ⟨ad, rfl, _, hc⟩ := hA h0
    have := run_copy_cells (P := Try.prog) w 56 sT ty 5 g off dLen dCap ad m mc (vals n f) Try.underlying56 infoByte1 (by rw [vals_length]; exact hn) (vals_news hc)
      (fun j hj => by rw [vals_length] at hj; rw [h.cell (by omega)]; rfl) (fun j hj => by rw [vals_length] at hj; exact h.frozen (by omega)) (vals_one n f)
    rw [vals_length] at this
    exact this
theorem run_clear_has {D : Option Addr} {dCap : Nat} (ty : TypeId) (hD : 0 < n → D = some ⟨g, off, none⟩) (h : Has w g t N F) (hfit : off + n ≤ N) :
    (Builtin.clear_ #[56] ty #[.slice D n dCap]).run Try.prog w = .ok (.tuple #[]) (laid w g off n (fun _ => 0#8)) := by
  rcases Nat.eq_zero_or_pos n with h0 | h0
  · subst h0
    cases D <;> simp [Builtin.clear_, run_underlying Try.underlying56] <;> rfl
  · obtain rfl := hD h0
    have := Lib.run_clear_slice (P := Try.prog) w 56 5 ty (.int .u8 0) Try.underlying56 (fun w => by
      obtain ⟨i, hi, h1, _, _⟩ := info_parts infoByte
      simp [zeroValue, typeInfo, hi, h1]) rfl rfl g off n dCap h0 (fun j hj => by rw [h.cell (by omega)]; rfl) (fun j hj => h.frozen (by omega))
    rw [this]
    have e : List.replicate n (Value.int .u8 0) = vals n (fun _ => 0#8) := by
      apply List.ext_getElem?
      intro i
      by_cases hi : i < n
      · rw [vals_get hi, List.getElem?_replicate, if_pos hi, V_zero]
      · rw [List.getElem?_eq_none (by simp; omega), List.getElem?_eq_none (by rw [vals_length]; omega)]
    rw [e]; rfl
end

/-- a copy, and a clear, in a walk -/
theorem wpList_copy_run {P : Program} {w w' : World} {ops : Array Oper} {rest : List Oper} {o : Oper} {a : Act} {Q : Exit → Act → World → Prop} (hgd : o.guard = none) (d s : Operand) (dT sT : TypeId)
    (ho : o.op = .call { callee := .builtin .copy, args := #[d, s], argTypes := #[dT, sT] }) {u v : Value} (hd : a.eval d = u) (hs : a.eval s = v) {n : Nat}
    (hrun : (Builtin.copy_ #[dT, sT] o.type #[u, v]).run P w = .ok (goInt n) w')
    (h : wpList P ops Q rest (a.put o.dst (goInt n)) w') : wpList P ops Q (o :: rest) a w := by
  refine wpList_plain hgd fun K hK => ?_
  unfold Oper.wp
  simp [execOp, ho, resolve, invoke, builtin, hd, hs, hrun, Result.andThen]
  exact hK _ _ h
theorem wpList_clear_run {P : Program} {w w' : World} {ops : Array Oper} {rest : List Oper} {o : Oper} {a : Act} {Q : Exit → Act → World → Prop} (hgd : o.guard = none) (d : Operand) (dT : TypeId)
    (ho : o.op = .call { callee := .builtin .clear, args := #[d], argTypes := #[dT] }) {u : Value} (hd : a.eval d = u)
    (hrun : (Builtin.clear_ #[dT] o.type #[u]).run P w = .ok (.tuple #[]) w')
    (h : wpList P ops Q rest (a.put o.dst (.tuple #[])) w') : wpList P ops Q (o :: rest) a w := by
  refine wpList_plain hgd fun K hK => ?_
  unfold Oper.wp
  simp [execOp, ho, resolve, invoke, builtin, hd, hrun, Result.andThen]
  exact hK _ _ h
end Go.Proofs.Ytjfgainieoaeaaa.Mat
