import Derived.Test.YtabahmcbhapbiaaTurnBase
namespace Go.Proofs.Ytabahmcbhapbiaa

section
variable (ak ap ab as1 bk bp bb bs : Int)
theorem turn_0x : turn ⟨0, ap, ab, as1⟩ ⟨bk, bp, bb, bs⟩ = (⟨0, ap, ab, as1⟩, ⟨bk, bp, bb, bs⟩) := by simp [turn]
theorem turn_x0 : turn ⟨ak, ap, ab, as1⟩ ⟨0, bp, bb, bs⟩ = (⟨ak, ap, ab, as1⟩, ⟨0, bp, bb, bs⟩) := by simp [turn]
theorem turn_ii_le (h : ap < bp ∨ (ap = bp ∧ as1 ≤ bs)) : turn ⟨1, ap, ab, as1⟩ ⟨1, bp, bb, bs⟩ = (⟨1, ap, ab, as1⟩, ⟨1, bp + 1, bb, bs⟩) := by simp [turn, h]
theorem turn_ii_gt (h : ¬ (ap < bp ∨ (ap = bp ∧ as1 ≤ bs))) : turn ⟨1, ap, ab, as1⟩ ⟨1, bp, bb, bs⟩ = (⟨1, ap + 1, ab, as1⟩, ⟨1, bp, bb, bs⟩) := by simp only [turn]; rw [if_neg (by simp), if_pos (by simp), if_neg h]
theorem turn_id_le (h : ap ≤ bp) : turn ⟨1, ap, ab, as1⟩ ⟨2, bp, bb, bs⟩ = (⟨1, ap, ab, as1⟩, ⟨2, bp + 1, bb, bs⟩) := by simp [turn, h]
theorem turn_id_gt (h : bp < ap) : turn ⟨1, ap, ab, as1⟩ ⟨2, bp, bb, bs⟩ = (⟨1, ap - 1, ab, as1⟩, ⟨2, bp, bb, bs⟩) := by simp only [turn]; rw [if_neg (by simp), if_neg (by simp), if_pos (by simp), if_neg (by omega)]
theorem turn_di_le (h : bp ≤ ap) : turn ⟨2, ap, ab, as1⟩ ⟨1, bp, bb, bs⟩ = (⟨2, ap + 1, ab, as1⟩, ⟨1, bp, bb, bs⟩) := by simp [turn, h]
theorem turn_di_gt (h : ap < bp) : turn ⟨2, ap, ab, as1⟩ ⟨1, bp, bb, bs⟩ = (⟨2, ap, ab, as1⟩, ⟨1, bp - 1, bb, bs⟩) := by simp only [turn]; rw [if_neg (by simp), if_neg (by simp), if_neg (by simp), if_pos (by simp), if_neg (by omega)]
theorem turn_dd_eq : turn ⟨2, bp, ab, as1⟩ ⟨2, bp, bb, bs⟩ = (⟨0, 0, 0, as1⟩, ⟨0, 0, 0, bs⟩) := by simp [turn]
theorem turn_dd_lt (h : ap < bp) : turn ⟨2, ap, ab, as1⟩ ⟨2, bp, bb, bs⟩ = (⟨2, ap, ab, as1⟩, ⟨2, bp - 1, bb, bs⟩) := by
  unfold turn; simp only; rw [if_neg (by omega), if_neg (by omega), if_neg (by omega), if_neg (by omega), if_neg (by omega), if_pos h]
theorem turn_dd_gt (h : bp < ap) : turn ⟨2, ap, ab, as1⟩ ⟨2, bp, bb, bs⟩ = (⟨2, ap - 1, ab, as1⟩, ⟨2, bp, bb, bs⟩) := by
  unfold turn; simp only; rw [if_neg (by omega), if_neg (by omega), if_neg (by omega), if_neg (by omega), if_neg (by omega), if_neg (by omega)]
end
end Go.Proofs.Ytabahmcbhapbiaa
