import Derived.Test.YtabahmcbhapbiaaQMath
import Derived.Test.YtabahmcbhapbiaaQTurnRefA
import Derived.Test.YtabahmcbhapbiaaQTurnRefB
import Derived.Test.YtabahmcbhapbiaaQTurnRefC
import Derived.Test.YtabahmcbhapbiaaQTurnRefD
import Derived.Test.YtabahmcbhapbiaaQTurnOpB
namespace Go.Proofs.Ytabahmcbhapbiaa
open Go.RowKit

theorem hidden {p : Prop} (h : p) : Hid p := h

theorem refTurned_any (a b : Op4) (ha : a.k = 0 ∨ a.k = 1 ∨ a.k = 2) (hb : b.k = 0 ∨ b.k = 1 ∨ b.k = 2) (a0 : 0 ≤ a.p) (a1 : a.p ≤ 1000000000000000) (b0 : 0 ≤ b.p) (b1 : b.p ≤ 1000000000000000) (w : World) :
    Calls Try.prog 95 #[.agg #[.int .i64 a.k, .int .i64 a.p, .int .i64 a.b, .int .i64 a.s], .agg #[.int .i64 b.k, .int .i64 b.p, .int .i64 b.b, .int .i64 b.s]] w fun e w' => e = .returned (turnV (turn a b)) ∧ Below w.heap.size w w' := by
  obtain ⟨ak, ap, ab, as1⟩ := a
  obtain ⟨bk, bp, bb, bs⟩ := b
  simp only at ha hb a0 a1 b0 b1
  simp only
  rcases ha with rfl | rfl | rfl
  · exact turned_0x _ _ _ _ _ _ _ a0 a1 b0 b1 _ (turnV_eq (turn_0x _ _ _ _ _ _ _)) w
  · rcases hb with rfl | rfl | rfl
    · exact turned_x0 _ _ _ _ _ _ _ a0 a1 b0 b1 (by decide) _ (turnV_eq (turn_x0 _ _ _ _ _ _ _)) w
    · by_cases h : ap < bp
      · exact turned_ii_lt _ _ _ _ _ _ a0 a1 b0 b1 h _ (turnV_eq (turn_ii_le _ _ _ _ _ _ (Or.inl h))) w
      by_cases h1 : ap = bp
      · subst h1
        by_cases h2 : as1 ≤ bs
        · exact turned_ii_eq _ _ _ _ _ b0 b1 h2 _ (turnV_eq (turn_ii_le _ _ _ _ _ _ (Or.inr ⟨rfl, h2⟩))) w
        · exact turned_ii_eq2 _ _ _ _ _ b0 b1 (by omega) _ (turnV_eq (turn_ii_gt _ _ _ _ _ _ (by omega))) w
      · exact turned_ii_gt _ _ _ _ _ _ a0 a1 b0 b1 (by omega) _ (turnV_eq (turn_ii_gt _ _ _ _ _ _ (by omega))) w
    · by_cases h : ap ≤ bp
      · exact turned_id_le _ _ _ _ _ _ a0 a1 b0 b1 h _ (turnV_eq (turn_id_le _ _ _ _ _ _ h)) w
      · exact turned_id_gt _ _ _ _ _ _ a0 a1 b0 b1 (by omega) _ (turnV_eq (turn_id_gt _ _ _ _ _ _ (by omega))) w
  · rcases hb with rfl | rfl | rfl
    · exact turned_x0 _ _ _ _ _ _ _ a0 a1 b0 b1 (by decide) _ (turnV_eq (turn_x0 _ _ _ _ _ _ _)) w
    · by_cases h : bp ≤ ap
      · exact turned_di_le _ _ _ _ _ _ a0 a1 b0 b1 h _ (turnV_eq (turn_di_le _ _ _ _ _ _ h)) w
      · exact turned_di_gt _ _ _ _ _ _ a0 a1 b0 b1 (by omega) _ (turnV_eq (turn_di_gt _ _ _ _ _ _ (by omega))) w
    · by_cases h : ap < bp
      · exact turned_dd_lt _ _ _ _ _ _ a0 a1 b0 b1 h _ (turnV_eq (turn_dd_lt _ _ _ _ _ _ h)) w
      by_cases h1 : ap = bp
      · subst h1
        exact turned_dd_eq _ _ _ _ _ b0 b1 _ (turnV_eq (turn_dd_eq _ _ _ _ _)) w
      · exact turned_dd_gt _ _ _ _ _ _ a0 a1 b0 b1 (by omega) _ (turnV_eq (turn_dd_gt _ _ _ _ _ _ (by omega))) w

theorem opTurn_any (a b : Op4) (ha : a.k = 0 ∨ a.k = 1 ∨ a.k = 2) (hb : b.k = 0 ∨ b.k = 1 ∨ b.k = 2) (a0 : 0 ≤ a.p) (a1 : a.p ≤ 1000000000000000) (b0 : 0 ≤ b.p) (b1 : b.p ≤ 1000000000000000) (w : World) :
    Calls Try.prog 32 #[.agg #[.int .i64 a.k, .int .i64 a.p, .int .i64 a.b, .int .i64 a.s], .agg #[.int .i64 b.k, .int .i64 b.p, .int .i64 b.b, .int .i64 b.s]] w fun e w' => e = .returned (turnV (turn a b)) ∧ Below w.heap.size w w' := by
  obtain ⟨ak, ap, ab, as1⟩ := a
  obtain ⟨bk, bp, bb, bs⟩ := b
  simp only at ha hb a0 a1 b0 b1
  simp only
  rcases ha with rfl | rfl | rfl
  · exact opTurn_0x _ _ _ _ _ _ _ _ _ _ _ _ _ _ _ (hidden fun w => stay_any _ _ _ _ _ _ _ _ _ rfl w) _ (turnV_eq (turn_0x _ _ _ _ _ _ _)) w
  · rcases hb with rfl | rfl | rfl
    · first | exact opTurn_10 _ _ _ _ _ _ _ _ _ _ _ _ _ _ (hidden fun w => stay_any _ _ _ _ _ _ _ _ _ rfl w) _ (turnV_eq (turn_x0 _ _ _ _ _ _ _)) w | exact opTurn_20 _ _ _ _ _ _ _ _ _ _ _ _ _ _ (hidden fun w => stay_any _ _ _ _ _ _ _ _ _ rfl w) _ (turnV_eq (turn_x0 _ _ _ _ _ _ _)) w
    · by_cases h : ap < bp
      · exact opTurn_11 _ _ _ _ _ _ _ _ _ _ _ _ _ _ (hidden fun w => tii_lt _ _ _ _ _ _ a0 a1 b0 b1 h _ rfl w) _ (turnV_eq (turn_ii_le _ _ _ _ _ _ (Or.inl h))) w
      by_cases h1 : ap = bp
      · subst h1
        by_cases h2 : as1 ≤ bs
        · exact opTurn_11 _ _ _ _ _ _ _ _ _ _ _ _ _ _ (hidden fun w => tii_eq _ _ _ _ _ b0 b1 h2 _ rfl w) _ (turnV_eq (turn_ii_le _ _ _ _ _ _ (Or.inr ⟨rfl, h2⟩))) w
        · exact opTurn_11 _ _ _ _ _ _ _ _ _ _ _ _ _ _ (hidden fun w => tii_eq2 _ _ _ _ _ b0 b1 (by omega) _ rfl w) _ (turnV_eq (turn_ii_gt _ _ _ _ _ _ (by omega))) w
      · exact opTurn_11 _ _ _ _ _ _ _ _ _ _ _ _ _ _ (hidden fun w => tii_gt _ _ _ _ _ _ a0 a1 b0 b1 (by omega) _ rfl w) _ (turnV_eq (turn_ii_gt _ _ _ _ _ _ (by omega))) w
    · by_cases h : ap ≤ bp
      · exact opTurn_12 _ _ _ _ _ _ _ _ _ _ _ _ _ _ (hidden fun w => tid_le _ _ _ _ _ _ a0 a1 b0 b1 h _ rfl w) _ (turnV_eq (turn_id_le _ _ _ _ _ _ h)) w
      · exact opTurn_12 _ _ _ _ _ _ _ _ _ _ _ _ _ _ (hidden fun w => tid_gt _ _ _ _ _ _ a0 a1 b0 b1 (by omega) _ rfl w) _ (turnV_eq (turn_id_gt _ _ _ _ _ _ (by omega))) w
  · rcases hb with rfl | rfl | rfl
    · first | exact opTurn_10 _ _ _ _ _ _ _ _ _ _ _ _ _ _ (hidden fun w => stay_any _ _ _ _ _ _ _ _ _ rfl w) _ (turnV_eq (turn_x0 _ _ _ _ _ _ _)) w | exact opTurn_20 _ _ _ _ _ _ _ _ _ _ _ _ _ _ (hidden fun w => stay_any _ _ _ _ _ _ _ _ _ rfl w) _ (turnV_eq (turn_x0 _ _ _ _ _ _ _)) w
    · by_cases h : bp ≤ ap
      · exact opTurn_21 _ _ _ _ _ _ _ _ _ _ _ _ _ _ (hidden fun w => tdi_le _ _ _ _ _ _ a0 a1 b0 b1 h _ rfl w) _ (turnV_eq (turn_di_le _ _ _ _ _ _ h)) w
      · exact opTurn_21 _ _ _ _ _ _ _ _ _ _ _ _ _ _ (hidden fun w => tdi_gt _ _ _ _ _ _ a0 a1 b0 b1 (by omega) _ rfl w) _ (turnV_eq (turn_di_gt _ _ _ _ _ _ (by omega))) w
    · by_cases h : ap < bp
      · exact opTurn_22 _ _ _ _ _ _ _ _ _ _ _ _ _ _ (hidden fun w => tdd_lt _ _ _ _ _ _ a0 a1 b0 b1 h _ rfl w) _ (turnV_eq (turn_dd_lt _ _ _ _ _ _ h)) w
      by_cases h1 : ap = bp
      · subst h1
        exact opTurn_22 _ _ _ _ _ _ _ _ _ _ _ _ _ _ (hidden fun w => tdd_eq _ _ _ _ _ b0 b1 _ rfl w) _ (turnV_eq (turn_dd_eq _ _ _ _ _)) w
      · exact opTurn_22 _ _ _ _ _ _ _ _ _ _ _ _ _ _ (hidden fun w => tdd_gt _ _ _ _ _ _ a0 a1 b0 b1 (by omega) _ rfl w) _ (turnV_eq (turn_dd_gt _ _ _ _ _ _ (by omega))) w

end Go.Proofs.Ytabahmcbhapbiaa
