/- How disks and texts among the laws' arguments lie in memory. -/
import Derived.Test.YtnpognhgncnnpaaCelDsg
import Derived.ShutString
namespace Go.Proofs.Ytnpognhgncnnpaa.Mat
open Go.ChangeShapes Go.WideShapes Go.ChangeAt Go.RowKit Go.Deep Fld
open Go.ChangeMaps (open_string shut_string)

section
variable {H : Type} {enc : TypeId × Value → H} {W : World} {v : Value} {y : DataW H} {p : List MemPlace} {r : Reach} {b0 : Nat}
theorem openDisk (hv : Value.okWide Try.prog W r b0 37 v) (h : DataW.Trod enc Try.prog W 0 (fun _ => true) true 37 v y p) (hw : Wt Try.prog 37 y) :
    ∃ d A c B k, v = .agg #[.slice A (Dk.n d) c, .slice B d.m k, .int .i64 d.fuse, .bool d.off] ∧ DOk W A c B k d ∧ d.m * 24 ≤ 140737488351232 := by
  obtain ⟨cs, rfl, hsz⟩ := okWide_struct Try.underlying37 hv
  have hsz := hsz.trans cellsDisk
  obtain ⟨l⟩ := cs
  match l, hsz with
  | [c0, c1, c2, c3], _ =>
    obtain ⟨fuel, hf⟩ := h
    have hf2 : DataW.trod enc Try.prog W 0 (fun _ => true) true fuel 37 [c0, c1, c2, c3] = some (y, p) := hf
    obtain ⟨d, A, c, B, k, rfl, rfl, rfl, rfl, ok, hm⟩ := core_disk hf2 hw
    exact ⟨d, A, c, B, k, rfl, ok, hm⟩
theorem openStrs (hv : Value.okWide Try.prog W r b0 34 v) (h : DataW.Trod enc Try.prog W 0 (fun _ => true) true 34 v y p) (hw : Wt Try.prog 34 y) :
    ∃ A n c S, v = .slice A n c ∧ n * 16 ≤ 140737488351232 ∧ (∀ i, i < n → (S i).size ≤ 140737488351232) ∧ St W W.heap.size A n S := by
  obtain ⟨a0, len, cap, rfl⟩ := okWide_slice Try.underlying34 hv
  obtain ⟨fuel, hf⟩ := h
  have hf2 : DataW.trod enc Try.prog W 0 (fun _ => true) true fuel 34 [.slice a0 len cap] = some (y, p) := hf
  obtain ⟨A, n, c, S, e, _, b, z, s⟩ := core_strs hf2 hw
  injection e with e1 e2 e3
  subst e1 e2 e3
  exact ⟨a0, len, cap, S, rfl, b, z, s⟩
theorem cellsLastsIn : Try.prog.cellsOf 50 = 8 := by kernel_rfl
theorem openLasts (hv : Value.okWide Try.prog W r b0 50 v) (h : DataW.Trod enc Try.prog W 0 (fun _ => true) true 50 v y p) (hw : Wt Try.prog 50 y) :
    ∃ d A c B k a1 C ln lc T a3 a4, v = .agg #[.slice A (Dk.n d) c, .slice B d.m k, .int .i64 d.fuse, .bool d.off, .int .i64 a1, .slice C ln lc, .int .i64 a3, .int .i64 a4] ∧ DOk W A c B k d ∧ -9223372036854775808 ≤ a1 ∧ a1 ≤ 9223372036854775807 ∧ ln * 16 ≤ 140737488351232 ∧ (∀ i, i < ln → (T i).size ≤ 140737488351232) ∧ St W W.heap.size C ln T := by
  obtain ⟨cs, rfl, hsz⟩ := okWide_struct Try.underlying50 hv
  have hsz := hsz.trans cellsLastsIn
  obtain ⟨l⟩ := cs
  match l, hsz with
  | [c0, c1, c2, c3, c4, c5, c6, c7], _ =>
    obtain ⟨fuel, hf⟩ := h
    obtain ⟨xs, n, _, hx, hl, hlen, hf⟩ := DataW.trod_struct Try.underlying50 hf
    match xs, hlen with
    | [y0, y1, y2, y3, y4], _ =>
      simp only [Prod.mk.injEq] at hx
      have hx1 : y = .agg [y0.1, y1.1, y2.1, y3.1, y4.1] := by rw [hx.1]; rfl
      rw [hx1] at hw
      have g0 := hf 0 _ rfl
      have g1 := hf 1 _ rfl
      have g2 := hf 2 _ rfl
      have g3 := hf 3 _ rfl
      have g4 := hf 4 _ rfl
      simp [cellsDisk, cellsStrs, cellsInt, Value.cells] at g0 g1 g2 g3 g4
      obtain ⟨d, A, c, B, k, rfl, rfl, rfl, rfl, ok0, bm0⟩ := core_disk g0 (wt_field Try.underlying50 hw (j := 0) rfl rfl)
      obtain ⟨a1, rfl, l1, h1⟩ := core_i64 g1
      obtain ⟨C, ln, lc, T, rfl, _, bl2, zl2, pl2⟩ := core_strs g2 (wt_field Try.underlying50 hw (j := 2) rfl rfl)
      obtain ⟨a3, rfl, l3, h3⟩ := core_i64 g3
      obtain ⟨a4, rfl, l4, h4⟩ := core_i64 g4
      exact ⟨d, A, c, B, k, a1, C, ln, lc, T, a3, a4, rfl, ok0, l1, h1, bl2, zl2, pl2⟩
theorem cellsApartIn : Try.prog.cellsOf 55 = 7 := by kernel_rfl
theorem openApart (hv : Value.okWide Try.prog W r b0 55 v) (h : DataW.Trod enc Try.prog W 0 (fun _ => true) true 55 v y p) (hw : Wt Try.prog 55 y) :
    ∃ d A c B k a1 a2 a3, v = .agg #[.slice A (Dk.n d) c, .slice B d.m k, .int .i64 d.fuse, .bool d.off, .int .i64 a1, .string a2, .int .i64 a3] ∧ DOk W A c B k d ∧ d.m * 24 ≤ 140737488351232 ∧ -9223372036854775808 ≤ a1 ∧ a1 ≤ 9223372036854775807 ∧ a2.size ≤ 140737488351232 := by
  obtain ⟨cs, rfl, hsz⟩ := okWide_struct Try.underlying55 hv
  have hsz := hsz.trans cellsApartIn
  obtain ⟨l⟩ := cs
  match l, hsz with
  | [c0, c1, c2, c3, c4, c5, c6], _ =>
    obtain ⟨fuel, hf⟩ := h
    obtain ⟨xs, n, _, hx, hl, hlen, hf⟩ := DataW.trod_struct Try.underlying55 hf
    match xs, hlen with
    | [y0, y1, y2, y3], _ =>
      simp only [Prod.mk.injEq] at hx
      have hx1 : y = .agg [y0.1, y1.1, y2.1, y3.1] := by rw [hx.1]; rfl
      rw [hx1] at hw
      have g0 := hf 0 _ rfl
      have g1 := hf 1 _ rfl
      have g2 := hf 2 _ rfl
      have g3 := hf 3 _ rfl
      simp [cellsDisk, cellsInt, cellsStr, Value.cells] at g0 g1 g2 g3
      obtain ⟨d, A, c, B, k, rfl, rfl, rfl, rfl, ok0, bm0⟩ := core_disk g0 (wt_field Try.underlying55 hw (j := 0) rfl rfl)
      obtain ⟨a1, rfl, l1, h1⟩ := core_i64 g1
      obtain ⟨a2, rfl, z2⟩ := core_str g2 (wt_field Try.underlying55 hw (j := 2) rfl rfl)
      obtain ⟨a3, rfl, l3, h3⟩ := core_i64 g3
      exact ⟨d, A, c, B, k, a1, a2, a3, rfl, ok0, bm0, l1, h1, z2⟩
end
theorem m_one {m : Nat} (h : m * 24 ≤ 140737488351232) : (m + 1) * 24 ≤ 140737488355328 := by omega
end Go.Proofs.Ytnpognhgncnnpaa.Mat
