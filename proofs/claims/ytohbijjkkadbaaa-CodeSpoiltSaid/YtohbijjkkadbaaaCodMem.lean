/- Shards in memory; what slices take; May; choices: walked. -/
import Derived.Test.YtohbijjkkadbaaaMatL
import Derived.Test.YtohbijjkkadbaaaMatR
import Derived.Test.YtohbijjkkadbaaaCodMath
import Derived.Test.YtohbijjkkadbaaaCodPick
namespace Go.Proofs.Ytohbijjkkadbaaa.Mat
open Go.RowKit Fld

/-- what is read of shards at A: n texts S -/
def St (w : World) (B : Nat) (A : Option Addr) (n : Nat) (S : Nat → ByteArray) : Prop :=
  0 < n → ∃ ad, A = some ad ∧ ad.block < B ∧ ∀ r, r < n → w.cell? (ad.add r) = some (.string (S r))
section
variable {w w' : World} {B B' n : Nat} {A : Option Addr} {S S' : Nat → ByteArray}
theorem St.keep (h : St w B A n S) (hk : ∀ p : Addr, p.block < B → w'.cell? p = w.cell? p) (hB : B ≤ B') : St w' B' A n S := fun hn => by
  obtain ⟨ad, e, hb, hc⟩ := h hn
  exact ⟨ad, e, by omega, fun r hr => (hk _ (by rw [block_of_add]; exact hb)).trans (hc r hr)⟩
theorem St.below (h : St w B A n S) (hb : Below B w w') (hB : B ≤ B') : St w' B' A n S := h.keep (fun _ hp => hb.cell hp) hB
theorem St.up (h : St w w.heap.size A n S) (hb : Below w.heap.size w w') : St w' w'.heap.size A n S := h.below hb hb.size
theorem St.drewN (h : St w B A n S) (k : Nat) : St (w.drewN k) B A n S := h
theorem St.drew (h : St w B A n S) : St w.drew B A n S := h
theorem St.at_ (h : St w B A n S) {r : Nat} (hr : r < n) : ∃ ad, A = some ad ∧ ad.block < B ∧ w.cell? (ad.add r) = some (.string (S r)) := by
  obtain ⟨ad, e, hb, hc⟩ := h (by omega)
  exact ⟨ad, e, hb, hc r hr⟩
theorem St.congr (h : St w B A n S) (e : ∀ i, i < n → S i = S' i) : St w B A n S' := fun hn => by
  obtain ⟨ad, h1, h2, h3⟩ := h hn
  exact ⟨ad, h1, h2, fun r hr => by rw [h3 r hr, e r hr]⟩
theorem St.less (h : St w B A n S) {k : Nat} (hk : k ≤ n) : St w B A k S := fun hn => by
  obtain ⟨ad, h1, h2, h3⟩ := h (by omega)
  exact ⟨ad, h1, h2, fun r hr => h3 r (by omega)⟩
theorem St.nil_ (w : World) (B : Nat) (A) (S) : St w B A 0 S := fun h => absurd h (by omega)
theorem add_add (a : Addr) (i j : Nat) : (a.add i).add j = a.add (i + j) := by
  unfold Addr.add
  by_cases h1 : i = 0
  · subst h1; simp
  · by_cases h2 : j = 0
    · subst h2; simp
    · rw [if_neg h1, if_neg h2, if_neg (by omega)]; simp [Nat.add_assoc]
theorem St.rest (h : St w B A n S) {k cap : Nat} (hc : n ≤ cap) : St w B (if cap = k then A else A.map (·.add k)) (n - k) (fun i => S (k + i)) := fun hn => by
  obtain ⟨ad, rfl, h2, h3⟩ := h (by omega)
  by_cases e : cap = k
  · exfalso
    omega
  · rw [if_neg e]
    exact ⟨_, rfl, by rw [block_of_add]; exact h2, fun r hr => by rw [add_add]; exact h3 (k + r) (by omega)⟩
theorem St.of_has {b : Nat} (h : Has w b 9 n (fun c => .string (S c))) (hB : b < B) : St w B (some ⟨b, 0, none⟩) n S := fun _ =>
  ⟨_, rfl, hB, fun c hc => by rw [add_lit]; exact h.cell hc⟩
end
end Go.Proofs.Ytohbijjkkadbaaa.Mat
