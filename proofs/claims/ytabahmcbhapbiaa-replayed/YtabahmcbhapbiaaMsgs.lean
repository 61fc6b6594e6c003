import Derived.Test.YtabahmcbhapbiaaOps4
import Derived.Test.YtabahmcbhapbiaaMachine
namespace Go.Proofs.Ytabahmcbhapbiaa
open Go.RowKit Go.Lib
set_option linter.unusedVariables false

/-! ### Messages in memory: six cells each -/
def Msg.cells (x : Msg) : List Value := [.int .i64 x.o.k, .int .i64 x.o.p, .int .i64 x.o.b, .int .i64 x.o.s, .int .i64 (x.sent : Int), .int .i64 (x.came : Int)]
def flat6 (l : List Msg) : List Value := l.flatMap Msg.cells
theorem flat6_len : ∀ l : List Msg, (flat6 l).length = l.length * 6
  | [] => rfl
  | o :: l => by
    show (o.cells ++ flat6 l).length = _
    rw [List.length_append, flat6_len l, List.length_cons]
    show 6 + _ = _
    omega
theorem flat6_append (a b : List Msg) : flat6 (a ++ b) = flat6 a ++ flat6 b := List.flatMap_append
theorem flat6_one (l : List Msg) : ∀ u ∈ flat6 l, u.oneCell' = true := by
  intro u hu
  obtain ⟨r, _, hr⟩ := List.mem_flatMap.1 hu
  simp only [Msg.cells, List.mem_cons, List.not_mem_nil, or_false] at hr
  rcases hr with rfl | rfl | rfl | rfl | rfl | rfl <;> rfl
theorem rowq6_len {w : World} {v : Value} {l : List Msg} {g : Option Nat} (h : RowQ w 6 v (flat6 l) g) : ∃ a c, v = .slice a l.length c := by
  rcases h with ⟨rfl, h2, _⟩ | ⟨gb, off, n, cap, _, rfl, h3, _⟩
  · have e0 : l = [] := by
      have := congrArg List.length h2
      rw [flat6_len] at this
      exact List.length_eq_zero_iff.1 (by simp only [List.length_nil] at this; omega)
    subst e0
    exact ⟨none, 0, rfl⟩
  · have e0 : n = l.length := by rw [flat6_len] at h3; omega
    subst e0
    exact ⟨_, _, rfl⟩
/-- A queue that isn't empty: where it lies, and its first message. -/
theorem rowq6_head {w : World} {v : Value} {x : Msg} {l : List Msg} {g : Option Nat} (h : RowQ w 6 v (flat6 (x :: l)) g) :
    ∃ gb off cap, g = some gb ∧ v = .slice (some ⟨gb, off, none⟩) (l.length + 1) cap ∧ l.length + 1 ≤ cap ∧ cap ≤ 9223372036854775807 ∧ gb < w.heap.size ∧
      (w.cell? ⟨gb, off, none⟩ = some (.int .i64 x.o.k) ∧ w.cell? ⟨gb, off + 1, none⟩ = some (.int .i64 x.o.p) ∧ w.cell? ⟨gb, off + 2, none⟩ = some (.int .i64 x.o.b) ∧ w.cell? ⟨gb, off + 3, none⟩ = some (.int .i64 x.o.s) ∧ w.cell? ⟨gb, off + 4, none⟩ = some (.int .i64 (x.sent : Int)) ∧ w.cell? ⟨gb, off + 5, none⟩ = some (.int .i64 (x.came : Int))) ∧
      RowQ w 6 (.slice (some ⟨gb, off + 6, none⟩) l.length (cap - 1)) (flat6 l) (some gb) := by
  rcases h with ⟨_, h2, _⟩ | ⟨gb, off, n, cap, hg, hv, h3, h4, h5, h6, h7, h8⟩
  · have := congrArg List.length h2
    rw [flat6_len] at this
    simp at this
  · have e0 : n = l.length + 1 := by rw [flat6_len, List.length_cons] at h3; omega
    subst e0
    have hc : ∀ j, j < 6 → (flat6 (x :: l))[j]? = x.cells[j]? := fun j hj => by
      show (x.cells ++ flat6 l)[j]? = _
      rw [List.getElem?_append_left (by show j < 6; exact hj)]
    refine ⟨gb, off, cap, hg, hv, h4, h5, h6, ⟨h7 0 _ (hc 0 (by decide)), h7 1 _ (hc 1 (by decide)), h7 2 _ (hc 2 (by decide)), h7 3 _ (hc 3 (by decide)), h7 4 _ (hc 4 (by decide)), h7 5 _ (hc 5 (by decide))⟩, Or.inr ⟨gb, off + 6, l.length, cap - 1, rfl, rfl, flat6_len l, by omega, by omega, h6, fun j y hj => ?_, fun j hj => ?_⟩⟩
    · rw [Nat.add_assoc]
      refine h7 (6 + j) y ?_
      show (x.cells ++ flat6 l)[6 + j]? = _
      rw [List.getElem?_append_right (by show 6 ≤ _; omega), show 6 + j - x.cells.length = j by show 6 + j - 6 = j; omega]
      exact hj
    · rw [Nat.add_assoc]
      exact h8 (6 + j) (by omega)
end Go.Proofs.Ytabahmcbhapbiaa
