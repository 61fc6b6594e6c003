import Derived.Test.YtabahmcbhapbiaaRows
import Derived.Test.YtabahmcbhapbiaaMem
import Derived.Test.YtabahmcbhapbiaaTurnBase
import Derived.BigRegion
namespace Go.Proofs.Ytabahmcbhapbiaa
open Go.RowKit Go.Lib
set_option linter.unusedVariables false

/-! ### Ops in memory: four cells each -/
def Op4.cells (o : Op4) : List Value := [.int .i64 o.k, .int .i64 o.p, .int .i64 o.b, .int .i64 o.s]
def flat4 (l : List Op4) : List Value := l.flatMap Op4.cells
theorem flat4_len : ∀ l : List Op4, (flat4 l).length = l.length * 4
  | [] => rfl
  | o :: l => by
    show (o.cells ++ flat4 l).length = _
    rw [List.length_append, flat4_len l, List.length_cons]
    show 4 + _ = _
    omega
theorem flat4_append (a b : List Op4) : flat4 (a ++ b) = flat4 a ++ flat4 b := List.flatMap_append
theorem flat4_one (l : List Op4) : ∀ u ∈ flat4 l, u.oneCell' = true := by
  intro u hu
  obtain ⟨r, _, hr⟩ := List.mem_flatMap.1 hu
  simp only [Op4.cells, List.mem_cons, List.not_mem_nil, or_false] at hr
  rcases hr with rfl | rfl | rfl | rfl <;> rfl
theorem flat4_at : ∀ (l : List Op4) (k i : Nat) (hk : k < l.length), i < 4 → (flat4 l)[k * 4 + i]? = l[k].cells[i]?
  | r :: l, 0, i, _, hi => by
    show (r.cells ++ flat4 l)[0 * 4 + i]? = _
    rw [Nat.zero_mul, Nat.zero_add, List.getElem?_append_left (by show i < 4; exact hi)]; rfl
  | r :: l, k + 1, i, hk, hi => by
    show (r.cells ++ flat4 l)[(k + 1) * 4 + i]? = _
    rw [List.getElem?_append_right (by show 4 ≤ _; omega), show (k + 1) * 4 + i - r.cells.length = k * 4 + i by show (k + 1) * 4 + i - 4 = _; omega, flat4_at l k i (by simpa using hk) hi]
    rfl
theorem infoOp4 : (Try.prog.info? 26).map (fun i => (i.zero, i.size, i.bytes)) = some (some (.agg #[.int .i64 0, .int .i64 0, .int .i64 0, .int .i64 0]), 4, 32) := by kernel_rfl

theorem rowq_src {P : Program} {tx e : TypeId} {w : World} {v : Value} {l : List Op4} {g : Option Nat} (hk : P.underlying tx = some (.slice e)) (h : RowQ w 4 v (flat4 l) g) : Src P 4 tx v l.length (flat4 l) w := by
  rcases h with ⟨rfl, h2, _⟩ | ⟨gb, off, n, cap, _, rfl, h3, _, _, _, h7, _⟩
  · have e0 : l = [] := by
      have := congrArg List.length h2
      rw [flat4_len] at this
      exact List.length_eq_zero_iff.1 (by simp only [List.length_nil] at this; omega)
    subst e0
    exact Src.ofNil w hk 0
  · have e0 : n = l.length := by rw [flat4_len] at h3; omega
    subst e0
    exact Src.ofSlice w hk ⟨gb, off, none⟩ _ _ (flat4 l) (flat4_len l) (fun j u hj => by rw [Addr.add_lit]; exact h7 j u hj) (flat4_one l)
/-- The length of such a slice. -/
theorem rowq_len {w : World} {v : Value} {l : List Op4} {g : Option Nat} (h : RowQ w 4 v (flat4 l) g) : ∃ a c, v = .slice a l.length c := by
  rcases h with ⟨rfl, h2, _⟩ | ⟨gb, off, n, cap, _, rfl, h3, _⟩
  · have e0 : l = [] := by
      have := congrArg List.length h2
      rw [flat4_len] at this
      exact List.length_eq_zero_iff.1 (by simp only [List.length_nil] at this; omega)
    subst e0
    exact ⟨none, 0, rfl⟩
  · have e0 : n = l.length := by rw [flat4_len] at h3; omega
    subst e0
    exact ⟨_, _, rfl⟩

end Go.Proofs.Ytabahmcbhapbiaa
