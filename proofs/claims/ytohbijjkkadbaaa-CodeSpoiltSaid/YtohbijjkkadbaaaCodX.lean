/- Sums of texts: walked. -/
import Derived.Test.YtohbijjkkadbaaaCodW
import Derived.Deep.AppendLies
import Derived.Deep.RegionHeld3
namespace Go.Proofs.Ytohbijjkkadbaaa.Mat
open Go.RowKit Fld

theorem grownBy_drew {w w' : World} {row : Option Nat} (h : w.drew.grownBy w' row) : w.grownBy w' row := ⟨h.os, h.tape, h.output, h.size, h.block⟩
set_option maxRecDepth 100000 in
set_option maxHeartbeats 1600000 in
theorem xor_any (a b : ByteArray) (ha : a.size ≤ 140737488351232) (w : World) :
    Calls Try.prog 25 #[.string a, .string b] w (TextRet w (xs a b)) := by
  obtain ⟨j0, ji, jz0, jz1, jz2⟩ := info_parts infoByte
  go_enter Try.func25, Try.ntmps25
  go_wp2
  go_loopg [5, 6] (min a.size b.size) (fun gh v i wr => ∃ x, x ≤ min a.size b.size ∧ gh = min a.size b.size - x ∧ i = .int .i64 (x : Nat) ∧ Below w.heap.size w wr ∧ wr.ownsRow w.heap.size 5 1 v x (vals x (fun c => bt a c ^^^ bt b c)))
  case atStart => exact ⟨0, Nat.zero_le _, rfl, rfl, Below.refl _ _, World.ownsRow_nil _ _ _ _⟩
  case round =>
    obtain ⟨x, hx, rfl, rfl, hB, hO⟩ := hrel
    have HB := Lib.hid hB
    have HO := Lib.hid hO
    clear hB hO
    by_cases hxa : x < a.size
    · have g1 : decide ((x : Int) < (a.size : Int)) = true := by simp; omega
      by_cases hxb : x < b.size
      · have g2 : decide ((x : Int) < (b.size : Int)) = true := by simp; omega
        have k1 := fun w => str_at a x hxa w
        have k2 := fun w => str_at b x hxb w
        go_wp2_with fail
        go_region_held3 (fun _ => True)
          (first | exact trivial | go_keep)
          ((refine step_append_lies _ (by rfl) _ _ _ (by rfl) w.heap.size 5 j0 _ 1 1 Try.underlying55 ji jz0 jz1 jz2 rfl (by omega) u5 x (vals x (fun c => bt a c ^^^ bt b c)) (by rfl) ((HO.out.alloc _).drew)
                ⟨wr.heap.size, 0, none⟩ 1 1 [.int .u8 (bits .xor .u8 (V (bt a x)) (V (bt b x)))] (by rfl) (by rfl) (one_news (w := wr) _ _) (by simp [Value.oneCell']) (by omega) (by unfold maxLen; omega) (by omega) (by have := HB.out.size; simp; omega) (wr.heap.size + 1) (by simp) ?_; intro gg cp w1 hown1 hgrow hat hlt; rw [xor_V] at hown1 hgrow; have HN := Lib.hid (row_next (f := fun c => bt a c ^^^ bt b c) (o := .cells #[.int .u8 (V (bt a x ^^^ bt b x))] 5) HB.out HO.out hown1 (grownBy_drew hgrow))))
        all_goals
          go_wp2
          go_roundg (min a.size b.size - (x + 1))
          case measure => go_light; omega
          case rel => go_light; exact ⟨x + 1, by omega, rfl, by simp, HN.out.1, HN.out.2⟩
      · have g2 : decide ((x : Int) < (b.size : Int)) = false := by simp; omega
        obtain rfl : x = min a.size b.size := by omega
        obtain ⟨A2, c2, rfl, hrw⟩ := own_rw HO.out
        have hcv := row_convert (c := c2) hrw
        clear hrw HO
        go_wp2
        go_ret
        exact ⟨rfl, HB.out⟩
    · have g1 : decide ((x : Int) < (a.size : Int)) = false := by simp; omega
      obtain rfl : x = min a.size b.size := by omega
      obtain ⟨A2, c2, rfl, hrw⟩ := own_rw HO.out
      have hcv := row_convert (c := c2) hrw
      clear hrw HO
      go_wp2
      go_ret
      exact ⟨rfl, HB.out⟩
end Go.Proofs.Ytohbijjkkadbaaa.Mat
