import Derived.Test.YtabahmcbhapbiaaEndMem
import Derived.BigRegion
namespace Go.Proofs.Ytabahmcbhapbiaa
open Go.RowKit Go.Lib
set_option linter.unusedVariables false
set_option maxHeartbeats 1000000 in
theorem enext_none (b o s c : Nat) (vo vq : Value) (l : List Op4) (go gq : Option Nat) (w : World) (h : EndAt w b o s c vo vq l [] go gq) :
    Calls Try.prog 43 #[.pointer (some ⟨b, o, none⟩)] w fun e w' =>
      e = .returned (.tuple #[.agg #[.int .i64 0, .int .i64 0, .int .i64 0, .int .i64 0, .int .i64 0, .int .i64 0], .bool false]) ∧ Below w.heap.size w w' := by
  obtain ⟨lt, c0, c1, c2, c3, qo, qq, fr, no, nq, ne⟩ := h
  obtain ⟨ua, uc, rfl⟩ := rowq6_len qq
  clear qo qq no nq ne
  go_enter Try.func43, Try.ntmps43
  go_wp2
  simp [bodyPost, results, Try.results43, go_sem]
  exact bel_alloc (Below.refl _ _) _
set_option maxHeartbeats 1000000 in
theorem enext_some (b o s c : Nat) (vo vq : Value) (l : List Op4) (μ : Msg) (r : List Msg) (go gq : Option Nat) (w : World) (h : EndAt w b o s c vo vq l (μ :: r) go gq) :
    Calls Try.prog 43 #[.pointer (some ⟨b, o, none⟩)] w fun e w' =>
      e = .returned (.tuple #[.agg #[.int .i64 μ.o.k, .int .i64 μ.o.p, .int .i64 μ.o.b, .int .i64 μ.o.s, .int .i64 (μ.sent : Int), .int .i64 (μ.came : Int)], .bool true]) ∧ Hid (∃ vq', EndSet w w' b o s c vo vq' l r go gq) := by
  have HE : Hid (∀ v, RowQ w 6 v (flat6 r) gq → EndSet w (w.setCell ⟨b, o + 3, none⟩ v) b o s c vo v l r go gq) := fun v hv => h.setQ v r hv
  obtain ⟨lt, c0, c1, c2, c3, qo, qq, fr, no, nq, ne⟩ := h
  obtain ⟨gb, off, cap, hg, hv, hc1, hc2, hgl, ⟨x0, x1, x2, x3, x4, x5⟩, hqt⟩ := rowq6_head qq
  subst hv
  have hcap : (r.length : Int) + 1 ≤ (cap : Int) := by omega
  have hcap1 : 1 ≤ (cap : Int) := by omega
  have hgb : ¬ (gb = b) := fun e => nq (by rw [hg, e])
  have HQ : Hid (RowQ w 6 (.slice (some ⟨gb, off + 6, none⟩) r.length (cap - 1)) (flat6 r) gq) := by rw [hg]; exact hqt
  have HQ0 : Hid (r.length = 0 → RowQ w 6 (.slice (some ⟨gb, off, none⟩) r.length 0) (flat6 r) gq) := fun e => by
    rw [hg]
    exact Or.inr ⟨gb, off, 0, 0, rfl, by rw [e], by rw [flat6_len, e], Nat.le_refl _, by omega, hgl, fun j x hj => by
      have := (List.getElem?_eq_some_iff.1 hj).1
      rw [flat6_len, e] at this
      omega, fun j hj => by omega⟩
  clear qo qq no nq ne hqt hg
  go_enter Try.func43, Try.ntmps43
  go_wp2
  · simp [bodyPost, results, Try.results43, go_sem]
    have hE := HE.out _ (HQ0.out (by omega))
    exact ⟨_, hE.below (bel_alloc (bel_alloc (Below.refl _ _) _) _)⟩
  · simp [bodyPost, results, Try.results43, go_sem]
    have hE := HE.out _ HQ.out
    exact ⟨_, hE.below (bel_alloc (bel_alloc (Below.refl _ _) _) _)⟩
end Go.Proofs.Ytabahmcbhapbiaa
