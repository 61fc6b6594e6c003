import Derived.WalkKit
import Derived.WalkSpells
import Derived.WalkLawsBesides
import Derived.Deep.Light
namespace Go.Proofs.Ytabahmcbhapbiaa
open Go.RowKit

/-- An op that is right (P3). -/
def rightB (k a b s : Int) : Bool := decide (0 ≤ s ∧ s ≤ 3 ∧ ((k = 0 ∧ a = 0 ∧ b = 0) ∨ (k = 1 ∧ 0 ≤ a ∧ a ≤ 1000 ∧ 0 ≤ b ∧ b ≤ 255) ∨ (k = 2 ∧ 0 ≤ a ∧ a ≤ 1000 ∧ b = 0)))
theorem rightB_iff (k a b s : Int) : rightB k a b s = true ↔ (0 ≤ s ∧ s ≤ 3 ∧ ((k = 0 ∧ a = 0 ∧ b = 0) ∨ (k = 1 ∧ 0 ≤ a ∧ a ≤ 1000 ∧ 0 ≤ b ∧ b ≤ 255) ∨ (k = 2 ∧ 0 ≤ a ∧ a ≤ 1000 ∧ b = 0))) := by
  simp [rightB]

/-- The number of the answer: OK or ErrOp. -/
def eno (b : Bool) : Int := if b then 0 else 2
theorem eno_eq {c : Bool} {x : Int} (h : (c = true → x = 0) ∧ (¬ c = true → x = 2)) : x = eno c := by
  unfold eno; split
  · exact h.1 ‹_›
  · exact h.2 ‹_›
theorem eno_true {c : Bool} (h : c = true) : eno c = 0 := by rw [h]; rfl
theorem eno_false {c : Bool} (h : c = false) : eno c = 2 := by rw [h]; rfl

/-- An op that fits a text of n bytes. -/
def fitsB (n k a : Int) : Bool := decide ((k = 1 → a ≤ n) ∧ (k = 2 → a < n))
theorem fitsB_iff (n k a : Int) : fitsB n k a = true ↔ ((k = 1 → a ≤ n) ∧ (k = 2 → a < n)) := by
  unfold fitsB; exact decide_eq_true_iff

theorem ret_bool {a b : Bool} (h : a = b) : Ending.returned (.bool a) = .returned (.bool b) := by rw [h]
theorem ret_int {k : IntKind} {a b : Int} (h : a = b) : Ending.returned (.int k a) = .returned (.int k b) := by rw [h]

/-! What was there stays: one step each. -/
theorem bel_trans {w x y : World} (h : Below w.heap.size w x) (k : Below x.heap.size x y) : Below w.heap.size w y := h.trans (k.mono h.size)
theorem bel_alloc {w x : World} (h : Below w.heap.size w x) (o : Obj) : Below w.heap.size w (x.alloc o) := h.alloc h.size o
theorem bel_drewN {w x : World} (h : Below w.heap.size w x) (n : Nat) : Below w.heap.size w (x.drewN n) := h.trans ⟨rfl, rfl, rfl, Nat.le_refl _, fun _ _ => rfl⟩
theorem bel_set {w x : World} (h : Below w.heap.size w x) {p : Addr} (hp : w.heap.size ≤ p.block) (u : Value) : Below w.heap.size w (x.setCell p u) := h.setCell hp u
/-- All old cells and marks read as before. -/
theorem bcell {W w1 : World} (hb : Below W.heap.size W w1) : (∀ b o, b < W.heap.size → w1.cell? ⟨b, o, none⟩ = W.cell? ⟨b, o, none⟩) ∧ (∀ b o, b < W.heap.size → w1.frozen? ⟨b, o, none⟩ = W.frozen? ⟨b, o, none⟩) :=
  ⟨fun b o h => hb.cell (p := ⟨b, o, none⟩) h, fun b o h => hb.frozen (p := ⟨b, o, none⟩) h⟩
end Go.Proofs.Ytabahmcbhapbiaa
