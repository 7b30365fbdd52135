/- Matrices that are filled: walked. -/
import Derived.Test.YtohbijjkkadbaaaMatA
import Derived.Deep.LoopGhost
import Derived.Deep.CutRange
import Derived.Deep.Light
import Derived.StillTailTactics
import Derived.Deep.RegionHeld3
namespace Go.Proofs.Ytohbijjkkadbaaa.Mat
open Go.RowKit Fld

theorem infoByte : (Try.prog.info? 5).map (fun i => (i.zero, i.size, i.bytes)) = some (some (.int .u8 0), 1, 1) := by kernel_rfl
theorem infoRow : (Try.prog.info? 55).map (fun i => (i.zero, i.size, i.bytes)) = some (some (.slice none 0 0), 1, 24) := by kernel_rfl

/-- the rows' own row, when k of them are made -/
def tops (N m k : Nat) : Nat → Value := fun j => if j < k then .slice (some ⟨N + 1 + j, 0, none⟩) m m else .slice none 0 0
/-- r rows are filled -/
structure Outer (w wr : World) (n m r : Nat) (X : Nat → Nat → BitVec 8) : Prop where
  below : Below w.heap.size w wr
  size : wr.heap.size = w.heap.size + 1 + r
  top : wr.rowIs w.heap.size 55 n (tops w.heap.size m r)
  done : ∀ j, j < r → wr.rowIs (w.heap.size + 1 + j) 5 m (fun c => .int .u8 (V (X j c)))
/-- .. and c places of the row r -/
structure Inner (w wi : World) (n m r c : Nat) (X : Nat → Nat → BitVec 8) : Prop where
  below : Below w.heap.size w wi
  size : wi.heap.size = w.heap.size + 1 + r + 1
  top : wi.rowIs w.heap.size 55 n (tops w.heap.size m (r + 1))
  done : ∀ j, j < r → wi.rowIs (w.heap.size + 1 + j) 5 m (fun c => .int .u8 (V (X j c)))
  cur : wi.rowIs (w.heap.size + 1 + r) 5 m (fun i => if i < c then .int .u8 (V (X r i)) else .int .u8 0)

theorem outer_start (w : World) (n m : Nat) (X) : Outer w (w.alloc (.cells (madeCells #[.slice none 0 0] n) 55)) n m 0 X :=
  ⟨(Below.refl _ _).alloc (Nat.le_refl _) _, by simp, (World.rowIs_made w _ n _).congr (fun j _ => by simp [tops]), fun j hj => absurd hj (Nat.not_lt_zero _)⟩

theorem inner_start {w wr : World} {n m r : Nat} {X} (h : Outer w wr n m r X) :
    Inner w ((wr.alloc (.cells (madeCells #[.int .u8 0] m) 5)).setCell ⟨w.heap.size, r, none⟩ (.slice (some ⟨w.heap.size + 1 + r, 0, none⟩) m m)) n m r 0 X := by
  have hnew := World.rowIs_made wr (.int .u8 0) m 5
  rw [h.size] at hnew
  refine ⟨(h.below.alloc (by rw [h.size]; omega) _).setCell (Nat.le_refl _) _, by simp [h.size], ((h.top.alloc _).set r _).congr (fun j _ => ?_), fun j hj => ((h.done j hj).alloc _).setOther (by show w.heap.size + 1 + j ≠ w.heap.size; omega) _,
    (hnew.setOther (by show w.heap.size + 1 + r ≠ w.heap.size; omega) _).congr (fun i _ => by simp)⟩
  simp only [tops]
  by_cases e : j = r
  · subst e; simp
  · rw [if_neg e]
    by_cases hlt : j < r
    · rw [if_pos hlt, if_pos (by omega)]
    · rw [if_neg hlt, if_neg (by omega)]

theorem below_drewN {B : Nat} {a w : World} (h : Below B a w) (n : Nat) : Below B a (w.drewN n) := ⟨h.os, h.tape, h.output, h.size, h.block⟩
theorem rowIs_drewN {w : World} {b : Nat} {t : TypeId} {n : Nat} {f : Nat → Value} (h : w.rowIs b t n f) (k : Nat) : (w.drewN k).rowIs b t n f := h
theorem inner_step {w wi : World} {n m r c : Nat} {X} (h : Inner w wi n m r c X) (q : Nat) :
    Inner w ((wi.drewN q).setCell ⟨w.heap.size + 1 + r, c, none⟩ (.int .u8 (V (X r c)))) n m r (c + 1) X := by
  refine ⟨(below_drewN h.below q).setCell (by show w.heap.size ≤ w.heap.size + 1 + r; omega) _, by simp [h.size], (rowIs_drewN h.top q |>.setOther (by show w.heap.size ≠ w.heap.size + 1 + r; omega) _),
    fun j hj => ((rowIs_drewN (h.done j hj) q).setOther (by show w.heap.size + 1 + j ≠ w.heap.size + 1 + r; omega) _), ((rowIs_drewN h.cur q |>.set c _).congr (fun i _ => ?_))⟩
  by_cases e : i = c
  · subst e; simp
  · rw [if_neg e]
    by_cases hlt : i < c
    · rw [if_pos hlt, if_pos (by omega)]
    · rw [if_neg hlt, if_neg (by omega)]

theorem inner_done {w wi : World} {n m r : Nat} {X} (h : Inner w wi n m r m X) : Outer w wi n m (r + 1) X :=
  ⟨h.below, by rw [h.size]; omega, h.top, fun j hj => by
    by_cases e : j = r
    · subst e
      exact h.cur.congr (fun i hi => by rw [if_pos hi])
    · exact h.done j (by omega)⟩

/-- a function of the program that has a body: a call of its number enters it -/
theorem enters {P : Program} {f : FuncId} (h : (P.funcs[f]?).map (fun fn => (fn.name == "runtime.NumGoroutine", fn.body.isNone)) = some (false, false)) (args : Array Value) (w : World) :
    (callFunc f args).run P w = .ok (.enter f args) w := by
  obtain ⟨fn, hf, he⟩ := Option.map_eq_some_iff.1 h
  simp only [Prod.mk.injEq] at he
  obtain ⟨h1, h2⟩ := he
  have h3 : ¬ fn.name = "runtime.NumGoroutine" := by simpa using h1
  have h4 : ¬ fn.body = none := fun e => by rw [e] at h2; cases h2
  simp [callFunc, hf, h3, h4]

set_option maxRecDepth 1000000 in
set_option maxHeartbeats 3200000 in
theorem filled_any (n m : Nat) (hn : n ≤ 32) (hm : m ≤ 32) (f : FuncId) (caps : Array Value) (X : Nat → Nat → BitVec 8) (w : World)
    (hcf : (Try.prog.funcs[f]?).map (fun fn => (fn.name == "runtime.NumGoroutine", fn.body.isNone)) = some (false, false))
    (hf : ∀ r c W, r < n → c < m → Below w.heap.size w W → Calls Try.prog f (#[.int .i64 (r : Int), .int .i64 (c : Int)] ++ caps) W fun e w' => e = .returned (.int .u8 (V (X r c))) ∧ ∃ q, w' = W.drewN q) :
    Calls Try.prog 44 #[.int .i64 n, .int .i64 m, .func (.func f) #[] caps] w fun e w' => e = .returned (.slice (some ⟨w.heap.size, 0, none⟩) n n) ∧ Outer w w' n m n X := by
  have hmk := run_make_row' (P := Try.prog) 23 55 (.slice none 0 0) 24 Try.underlying23 infoRow rfl .i64 .i64 n (by omega) (by omega)
  have HF := Lib.hid hf; clear hf
  have hen := fun args w => enters (P := Try.prog) hcf args w
  clear hcf
  go_enter Try.func44, Try.ntmps44
  go_wp2
  clear hmk
  go_loopg [14] n (fun g i wr => ∃ r : Nat, r ≤ n ∧ g = n - r ∧ i = .int .i64 r ∧ Outer w wr n m r X)
  case atStart => exact ⟨0, Nat.zero_le _, rfl, rfl, outer_start w n m X⟩
  case round =>
    obtain ⟨r, hr, rfl, rfl, hO⟩ := hrel
    by_cases hrn : r < n
    · have hrz : (r : Int) < (n : Int) := by omega
      have hsize := hO.size
      have hmk := run_make_row' (P := Try.prog) 55 5 (.int .u8 0) 1 Try.underlying55 infoByte rfl .i64 .i64 m (by omega) (by omega)
      have hst1 : ∀ o, (wr.alloc o).cell? ⟨w.heap.size, r, none⟩ = some (tops w.heap.size m r r) := fun o => (hO.top.alloc o).cell hrn
      have hst2 : ∀ o, (wr.alloc o).frozen? ⟨w.heap.size, r, none⟩ = false := fun o => (hO.top.alloc o).frozen r
      go_wp2
      have hI0 := inner_start hO
      clear hmk hst1 hst2 hsize hO
      go_loopg [27] m (fun g i wi => ∃ c : Nat, c ≤ m ∧ g = m - c ∧ i = .int .i64 c ∧ Inner w wi n m r c X)
      case atStart => exact ⟨0, Nat.zero_le _, rfl, rfl, hI0⟩
      case round =>
        obtain ⟨c, hc, rfl, rfl, hI⟩ := hrel
        clear hI0
        by_cases hcm : c < m
        · have hcz : (c : Int) < (m : Int) := by omega
          have t1 : wr.cell? ⟨w.heap.size, r, none⟩ = some (.slice (some ⟨w.heap.size + 1 + r, 0, none⟩) m m) := by simpa [tops] using hI.top.cell hrn
          have t4 : wr.cell? ⟨w.heap.size + 1 + r, c, none⟩ = some (.int .u8 0) := by simpa using hI.cur.cell hcm
          have t5 : wr.frozen? ⟨w.heap.size + 1 + r, c, none⟩ = false := hI.cur.frozen c
          have hcall : ∀ W : World, Below w.heap.size w W → Calls Try.prog f (#[.int .i64 (r : Int), .int .i64 (c : Int)] ++ caps) W fun e w' => e = .returned (.int .u8 (V (X r c))) ∧ ∃ q, w' = W.drewN q :=
            fun W hW => HF.out r c W hrn hcm hW
          have HC := Lib.hid hcall; clear hcall
          have HI := Lib.hid hI; clear hI
          have x1 : ∀ q v, ((wr.drewN q).setCell ⟨w.heap.size + 1 + r, c, none⟩ v).cell? ⟨w.heap.size, r, none⟩ = some (.slice (some ⟨w.heap.size + 1 + r, 0, none⟩) m m) := fun q v =>
            (World.cell?_setCell_other _ _ _ _ (fun e => by injection e; omega)).trans t1
          go_wp2_with fail
          go_region_held3 (fun w' => w'.cell? ⟨w.heap.size, r, none⟩ = some (.slice (some ⟨w.heap.size + 1 + r, 0, none⟩) m m)) (first | go_keep | exact x1 _ _)
            (((with_reducible refine Calls.mono (HC.out _ ?_) ?_); (exact HI.out.below.drew); rintro e w' ⟨rfl, q, rfl⟩))
          all_goals
            go_wp2
            go_roundg (m - (c + 1))
            case measure => go_light; omega
            case rel => go_light; exact ⟨c + 1, by omega, rfl, by simp, inner_step HI.out _⟩
        · obtain rfl : c = m := by omega
          have hcz : ¬ ((c : Int) < (c : Int)) := by omega
          go_wp2
          go_roundg (n - (r + 1))
          case measure => go_light; omega
          case rel => go_light; exact ⟨r + 1, by omega, rfl, by simp, inner_done hI⟩
    · have hrz : ¬ ((r : Int) < (n : Int)) := by omega
      go_wp2
      go_ret
      obtain rfl : r = n := by omega
      exact ⟨rfl, hO⟩
end Go.Proofs.Ytohbijjkkadbaaa.Mat
