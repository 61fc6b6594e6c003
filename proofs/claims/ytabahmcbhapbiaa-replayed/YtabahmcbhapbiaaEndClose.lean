import Derived.Test.YtabahmcbhapbiaaEndMem
import Derived.BigRegion
namespace Go.Proofs.Ytabahmcbhapbiaa
open Go.RowKit Go.Lib
set_option linter.unusedVariables false
set_option maxHeartbeats 1000000 in
theorem eclose_any (b o s c : Nat) (vo vq : Value) (l : List Op4) (q : List Msg) (go gq : Option Nat) (d : Nat) (w : World) (h : EndAt w b o s c vo vq l q go gq) (hls : l.length ≤ s) (hs : s ≤ 1000000000000000000) (hd : d ≤ l.length) :
    Calls Try.prog 93 #[.pointer (some ⟨b, o, none⟩), .int .i64 ((s - l.length + d : Nat) : Int)] w fun e w' =>
      e = .returned (.tuple #[]) ∧ Hid (∃ vo', EndSet w w' b o s c vo' vq (l.drop d) q go gq) := by
  obtain ⟨va, vc, rfl⟩ := rowq_len h.qo
  obtain ⟨kn, hkn⟩ : ∃ kn : Nat, kn = s - l.length + d := ⟨_, rfl⟩
  rw [← hkn]
  have e1 : (kn : Int) - ((s : Int) - (l.length : Int)) = (d : Int) := by omega
  have hd' : (d : Int) ≤ (l.length : Int) := by omega
  have HS : Hid (∀ v, RowQ w 4 v (flat4 (l.drop d)) go → ∃ vo', EndSet w (w.setCell ⟨b, o + 2, none⟩ v).drew b o s c vo' vq (l.drop d) q go gq) := fun v hv => by
    have h2 := h.setO v (l.drop d) hv
    exact ⟨v, h2.en.keep (F := fun _ => False) (KeptX.refl _ _).drew (fun _ _ e => e), h2.kx.drew, fun j hj => h2.ot j hj⟩
  have hqo := h.qo
  obtain ⟨lt, c0, c1, c2, c3, qo, qq, fr, no, nq, ne⟩ := h
  clear qo qq no nq ne
  rcases rowq4_drop hqo hd with ⟨rfl, hn0, rfl, hl0, hg0⟩ | ⟨gb, off, rfl, hg, _, hc1, hc2, hr1, hr2⟩
  · subst hl0
    have hd0 : d = 0 := by simpa using hd
    subst hd0
    have HR : Hid (RowQ w 4 (.slice none 0 0) (flat4 (([] : List Op4).drop 0)) go) := hqo
    clear hqo
    go_enter Try.func93, Try.ntmps93
    go_wp2_with fail
    go_region
    all_goals go_wp2
    all_goals simp [bodyPost, results, Try.results93, go_sem]
    all_goals exact HS.out _ HR.out
  · have hcap : (d : Int) ≤ (vc : Int) := by omega
    have HR1 : Hid (RowQ w 4 (.slice (some ⟨gb, off + d * 4, none⟩) (l.length - d) (vc - d)) (flat4 (l.drop d)) go) := hr1
    have HR2 : Hid (vc = d → RowQ w 4 (.slice (some ⟨gb, off, none⟩) (l.length - d) 0) (flat4 (l.drop d)) go) := hr2
    clear hqo hr1 hr2 hg
    go_enter Try.func93, Try.ntmps93
    go_wp2_with fail
    go_region
    all_goals go_wp2
    all_goals simp [bodyPost, results, Try.results93, go_sem]
    · exact HS.out _ (HR2.out (by omega))
    · exact HS.out _ HR1.out
end Go.Proofs.Ytabahmcbhapbiaa
