import Derived.Test.YtabahmcbhapbiaaDevMoot
import Derived.Test.YtabahmcbhapbiaaApply
import Derived.Test.YtabahmcbhapbiaaSquare
namespace Go.Proofs.Ytabahmcbhapbiaa
open Go.RowKit Go.Lib
set_option linter.unusedVariables false
/-- 'Do', in plain words. -/
theorem opDo_app (t u : List UInt8) (o : Op4) (hw : Wf o) (ha : app t o = some u) (ht : t.length ≤ 1000) (w : World) :
    Calls Try.prog 34 #[dstr t, .agg #[.int .i64 o.k, .int .i64 o.p, .int .i64 o.b, .int .i64 o.s]] w fun e w' => e = .returned (dstr u) ∧ Below w.heap.size w w' := by
  have hsz : (ByteArray.mk t.toArray).size = t.length := by show t.toArray.size = _; simp
  obtain ⟨w0, w1, w2, w3⟩ := hw
  unfold app at ha
  have hfit : (o.k = 1 → o.p ≤ t.length) ∧ (o.k = 2 → o.p < t.length) := by
    refine ⟨fun e => ?_, fun e => ?_⟩
    · rw [if_pos e] at ha
      split at ha
      · omega
      · cases ha
    · rw [if_neg (by omega), if_pos e] at ha
      split at ha
      · omega
      · cases ha
  have hd : (⟨u.toArray⟩ : ByteArray) = doneS ⟨t.toArray⟩ o.k o.p o.b := by
    unfold doneS
    by_cases e1 : o.k = 1
    · rw [if_pos e1] at ha ⊢
      rw [if_pos (by have := hfit.1 e1; omega)] at ha
      cases ha
      simp [ins]
    · rw [if_neg e1] at ha ⊢
      by_cases e2 : o.k = 2
      · rw [if_pos e2] at ha ⊢
        rw [if_pos (by have := hfit.2 e2; omega)] at ha
        cases ha
        simp [del]
      · rw [if_neg e2] at ha ⊢
        cases ha
        rfl
  show Calls Try.prog 34 #[.string ⟨t.toArray⟩, _] w fun e w' => e = .returned (.string ⟨u.toArray⟩) ∧ _
  rw [hd]
  exact opDo_any ⟨t.toArray⟩ o.k o.p o.b o.s (by rw [rightB_iff]; have h1 := hfit.1; have h2 := hfit.2; omega) (by rw [fitsB_iff, hsz]; exact hfit) (by rw [hsz]; omega) w

end Go.Proofs.Ytabahmcbhapbiaa
