import Derived.Test.YtabahmcbhapbiaaQDevMoot
import Derived.Test.YtabahmcbhapbiaaQApply
import Derived.Test.YtabahmcbhapbiaaQMath
import Derived.Test.YtabahmcbhapbiaaQDevType
namespace Go.Proofs.Ytabahmcbhapbiaa
open Go.RowKit Go.Lib
set_option linter.unusedVariables false
/-- 'Do', in plain words. -/
theorem opDo_app (t u : List UInt8) (o : Op4) (hw : Wf o) (ha : app t o = some u) (ht : t.length ≤ 1000) (w : World) :
    Calls Try.prog 34 #[dstr t, .agg #[.int .i64 o.k, .int .i64 o.p, .int .i64 o.b, .int .i64 o.s]] w fun e w' => e = .returned (dstr u) ∧ Below w.heap.size w w' := by
  have hsz : (ByteArray.mk t.toArray).size = t.length := by show t.toArray.size = _; simp
  obtain ⟨w0, w1, w2, w3⟩ := hw
  unfold app at ha
  have hfit : (o.k = 1 → o.p ≤ t.length) ∧ (o.k = 2 → o.p < t.length) := by
    refine ⟨fun e => ?_, fun e => ?_⟩
    · rw [if_pos e] at ha
      split at ha
      · omega
      · cases ha
    · rw [if_neg (by omega), if_pos e] at ha
      split at ha
      · omega
      · cases ha
  have hd : (⟨u.toArray⟩ : ByteArray) = doneS ⟨t.toArray⟩ o.k o.p o.b := by
    unfold doneS
    by_cases e1 : o.k = 1
    · rw [if_pos e1] at ha ⊢
      rw [if_pos (by have := hfit.1 e1; omega)] at ha
      cases ha
      simp [ins]
    · rw [if_neg e1] at ha ⊢
      by_cases e2 : o.k = 2
      · rw [if_pos e2] at ha ⊢
        rw [if_pos (by have := hfit.2 e2; omega)] at ha
        cases ha
        simp [del]
      · rw [if_neg e2] at ha ⊢
        cases ha
        rfl
  show Calls Try.prog 34 #[.string ⟨t.toArray⟩, _] w fun e w' => e = .returned (.string ⟨u.toArray⟩) ∧ _
  rw [hd]
  exact opDo_any ⟨t.toArray⟩ o.k o.p o.b o.s (by rw [rightB_iff]; have h1 := hfit.1; have h2 := hfit.2; omega) (by rw [fitsB_iff, hsz]; exact hfit) (by rw [hsz]; omega) w

end Go.Proofs.Ytabahmcbhapbiaa

namespace Go.Proofs.Ytabahmcbhapbiaa
open Go.RowKit Go.Lib
set_option linter.unusedVariables false
set_option maxHeartbeats 1000000 in
theorem ctype_no (cb i : Nat) (x : Cli) (go gq : Option Nat) (o : Op4) (w : World) (h : CliMem w cb i x go gq) (hm : (mayT x.text.length x.ho.length o == 0) = false) :
    Calls Try.prog 45 #[.pointer (some ⟨cb, 0, none⟩), .agg #[.int .i64 o.k, .int .i64 o.p, .int .i64 o.b, .int .i64 o.s]] w fun e w' => e = .returned (.int .i64 (mayT x.text.length x.ho.length o)) ∧ Below w.heap.size w w' := by
  have HM : Hid (∀ W, Below w.heap.size w W → Calls Try.prog 71 #[.pointer (some ⟨cb, 0, none⟩), .agg #[.int .i64 o.k, .int .i64 o.p, .int .i64 o.b, .int .i64 o.s]] W fun e w' => e = .returned (.int .i64 (mayT x.text.length x.ho.length o)) ∧ Below W.heap.size W w') := fun W hW => mayType_any cb i x go gq o W (h.below hW)
  clear h
  generalize mayT x.text.length x.ho.length o = e0 at *
  go_enter Try.func45, Try.ntmps45
  go_wp2_with fail
  refine (HM.out _ (bel_alloc (Below.refl _ _) _)).mono ?_
  rintro e w1 ⟨rfl, hb1⟩
  have HB : Hid (Below w.heap.size w w1) := bel_trans (bel_alloc (Below.refl _ _) _) hb1
  clear hb1
  go_wp2
  go_ret
  exact ⟨rfl, HB.out⟩
/-- A client's text is set. -/
theorem CliMem.setText {w : World} {cb i : Nat} {x : Cli} {go gq : Option Nat} (h : CliMem w cb i x go gq) (t : List UInt8) : CliMem (w.setCell ⟨cb, 5, none⟩ (dstr t)) cb i { x with text := t } go gq ∧ LocKept w (w.setCell ⟨cb, 5, none⟩ (dstr t)) cb go gq go gq := by
  obtain ⟨⟨vo, vq, he⟩, h4, h5⟩ := h
  have hk : KeptX (fun k => k = cb) w (w.setCell ⟨cb, 5, none⟩ (dstr t)) := (KeptX.refl (fun k => k = cb) w).setCell (p := ⟨cb, 5, none⟩) (fun _ => rfl) _
  have ho : ∀ j, j ≠ 5 → (w.setCell ⟨cb, 5, none⟩ (dstr t)).cell? ⟨cb, j, none⟩ = w.cell? ⟨cb, j, none⟩ := fun j hj => World.cell?_setCell_other _ _ _ _ (by simp only [ne_eq, Addr.mk.injEq]; omega)
  refine ⟨⟨⟨vo, vq, ⟨Nat.lt_of_lt_of_le he.lt hk.size, (ho _ (by omega)).trans he.c0, (ho _ (by omega)).trans he.c1, (ho _ (by omega)).trans he.c2, (ho _ (by omega)).trans he.c3, he.qo.keep hk (fun k e e2 => he.no (by rw [e, e2])), he.qq.keep hk (fun k e e2 => he.nq (by rw [e, e2])), fun j => by rw [World.frozen?_setCell]; exact he.fr j, he.no, he.nq, he.ne⟩⟩, (ho 4 (by omega)).trans h4, by simp [go_sem, h5]⟩, ⟨hk.mono (fun _ _ e => Or.inl e), fun _ e => Or.inl e, fun _ e => Or.inl e⟩⟩
/-- How 'Type' stands when the op is done on the text. -/
structure TypeMid (w : World) (cb i : Nat) (x : Cli) (go gq : Option Nat) (o : Op4) (t : List UInt8) (W : World) : Prop where
  lk : LocKept w W cb go gq go gq
  cm : CliMem W cb i { x with text := t } go gq
  lw : w.heap.size < W.heap.size
  op : Op4At W w.heap.size 0 ⟨o.k, o.p, o.b, i⟩
set_option maxHeartbeats 2000000 in
theorem ctype_ok (cb i : Nat) (x : Cli) (go gq : Option Nat) (o : Op4) (t : List UInt8) (w : World) (h : CliMem w cb i x go gq) (hi : i < 4) (hm : mayT x.text.length x.ho.length o = 0) (ha : app x.text ⟨o.k, o.p, o.b, i⟩ = some t) (hw : Wf ⟨o.k, o.p, o.b, i⟩) (hlen : x.text.length ≤ 1000) (hs : x.hs ≤ 1000000000000000000) (hq : (x.up.length + 1) * 48 ≤ 140737488355328) (hoo : x.ho.length ≤ 100) :
    Calls Try.prog 45 #[.pointer (some ⟨cb, 0, none⟩), .agg #[.int .i64 o.k, .int .i64 o.p, .int .i64 o.b, .int .i64 o.s]] w fun e w' => e = .returned (.int .i64 0) ∧ Hid (∃ go' gq', CliMem w' cb i (typeC x ⟨o.k, o.p, o.b, i⟩ t) go' gq' ∧ LocKept w w' cb go gq go' gq') := by
  have HM : Hid (∀ W, Below w.heap.size w W → Calls Try.prog 71 #[.pointer (some ⟨cb, 0, none⟩), .agg #[.int .i64 o.k, .int .i64 o.p, .int .i64 o.b, .int .i64 o.s]] W fun e w' => e = .returned (.int .i64 0) ∧ Below W.heap.size W w') := fun W hW => by rw [← hm]; exact mayType_any cb i x go gq o W (h.below hW)
  have HD : Hid (∀ W, Calls Try.prog 34 #[dstr x.text, .agg #[.int .i64 o.k, .int .i64 o.p, .int .i64 o.b, .int .i64 (i : Int)]] W fun e w' => e = .returned (dstr t) ∧ Below W.heap.size W w') := fun W => opDo_app x.text t ⟨o.k, o.p, o.b, i⟩ hw ha hlen W
  have HC : Hid (CliMem w cb i x go gq) := h
  obtain ⟨⟨vo, vq, he⟩, h4, h5⟩ := h
  have lt := he.lt
  have fr := he.fr
  have hcn : ¬ (cb = w.heap.size) := by omega
  have HSd : Hid (∀ W, LocKept w W cb go gq go gq → CliMem W cb i { x with text := t } go gq → Calls Try.prog 72 #[.pointer (some ⟨cb, 0, none⟩), .agg #[.int .i64 o.k, .int .i64 o.p, .int .i64 o.b, .int .i64 (i : Int)]] W fun e w' => e = .returned (.tuple #[]) ∧ Hid (∃ go' gq', CliMem w' cb i (typeC x ⟨o.k, o.p, o.b, i⟩ t) go' gq' ∧ LocKept w w' cb go gq go' gq')) := fun W hk hc => by
    obtain ⟨⟨vo, vq, he⟩, h4, h5⟩ := hc
    refine (esend_any cb 0 x.hs x.hc vo vq x.ho x.up go gq ⟨o.k, o.p, o.b, i⟩ W he hs (by omega) hq).mono ?_
    rintro e w' ⟨rfl, vo', vq', go', gq', he', hk'⟩
    exact ⟨rfl, go', gq', ⟨⟨vo', vq', he'⟩, (hk'.ot 4 (by omega)).trans h4, (hk'.ot 5 (by omega)).trans h5⟩, hk.trans (LocKept.of_end hk')⟩
  clear he hm ha hw
  go_enter Try.func45, Try.ntmps45
  go_wp2_with fail
  refine (HM.out _ (bel_alloc (Below.refl _ _) _)).mono ?_
  rintro e w1 ⟨rfl, hb1⟩
  have HB : Hid (Below w.heap.size w w1) := bel_trans (bel_alloc (Below.refl _ _) _) hb1
  obtain ⟨hc1, hf1⟩ := bcell hb1
  have k0 := hc1 w.heap.size 0 (by simp)
  have k1 := hc1 w.heap.size 1 (by simp)
  have k2 := hc1 w.heap.size 2 (by simp)
  have k3 := hc1 w.heap.size 3 (by simp)
  have kf := fun j => hf1 w.heap.size j (by simp)
  simp [go_sem] at k0 k1 k2 k3 kf
  have lt1 : cb < w1.heap.size := by have := HB.out.size; omega
  have e4 : w1.cell? ⟨cb, 4, none⟩ = some (.int .i64 (i : Int)) := (HB.out.cell (p := ⟨cb, 4, none⟩) lt).trans h4
  have e5 : w1.cell? ⟨cb, 5, none⟩ = some (dstr x.text) := (HB.out.cell (p := ⟨cb, 5, none⟩) lt).trans h5
  have ef : ∀ j, w1.frozen? ⟨cb, j, none⟩ = false := fun j => (HB.out.frozen (p := ⟨cb, j, none⟩) lt).trans (fr j)
  have ltw : w.heap.size < w1.heap.size := by have := hb1.size; simp at this; omega
  clear hc1 hf1 hb1
  have HFin : Hid (∀ W2, Below (w1.setCell ⟨w.heap.size, 3, none⟩ (.int .i64 (i : Int))).drew.heap.size (w1.setCell ⟨w.heap.size, 3, none⟩ (.int .i64 (i : Int))).drew W2 → TypeMid w cb i x go gq o t (W2.setCell ⟨cb, 5, none⟩ (dstr t)) ∧ W2.cell? ⟨cb, 5, none⟩ = some (dstr x.text) ∧ W2.frozen? ⟨cb, 5, none⟩ = false) := fun W2 hW2 => by
    have hbs : Below w.heap.size w (w1.setCell ⟨w.heap.size, 3, none⟩ (.int .i64 (i : Int))) := bel_set HB.out (p := ⟨w.heap.size, 3, none⟩) (Nat.le_refl _) _
    have hzz : (w1.setCell ⟨w.heap.size, 3, none⟩ (.int .i64 (i : Int))).drew.heap.size = w1.heap.size := by simp [World.setCell]
    have hW : Below w.heap.size w W2 := hbs.drew.trans (hW2.mono (by omega))
    have hc := HC.out.below hW
    obtain ⟨h1, h2⟩ := hc.setText t
    have hsz : w.heap.size < W2.heap.size := by have := hW2.size; omega
    have hn : (⟨cb, 5, none⟩ : Addr).block ≠ w.heap.size := by show cb ≠ _; omega
    have g : ∀ j, W2.cell? ⟨w.heap.size, j, none⟩ = (w1.setCell ⟨w.heap.size, 3, none⟩ (.int .i64 (i : Int))).cell? ⟨w.heap.size, j, none⟩ := fun j => hW2.cell (p := ⟨w.heap.size, j, none⟩) (by show w.heap.size < _; omega)
    refine ⟨⟨(LocKept.of_below hW).trans h2, h1, by simp [World.setCell]; omega, ⟨?_, ?_, ?_, ?_⟩⟩, hc.c5, by obtain ⟨_, _, he⟩ := hc.en; exact he.fr 5⟩
    · rw [World.cell?_setCell_far _ _ _ _ hn, g]; simp [go_sem, k0]
    · rw [World.cell?_setCell_far _ _ _ _ hn, g]; simp [go_sem, k1]
    · rw [World.cell?_setCell_far _ _ _ _ hn, g]; simp [go_sem, k2]
    · rw [World.cell?_setCell_far _ _ _ _ hn, g]; simp [go_sem, k3]
  go_wp2_with fail
  go_cut [] (fun W => TypeMid w cb i x go gq o t W)
  case first =>
    go_region_with ((go_at_call 34; refine (HD.out _).mono ?_; rintro e w2 ⟨rfl, hb2⟩; obtain ⟨hm2, t5, tf⟩ := HFin.out w2 hb2; have HM2 : Hid (TypeMid w cb i x go gq o t (w2.setCell ⟨cb, 5, none⟩ (dstr t))) := hm2; clear hb2 hm2))
    all_goals go_wp2_with fail
    all_goals go_meet
    all_goals exact HM2.out
  case rest =>
    obtain ⟨lk, cm, lw, ⟨x0, x1, x2, x3⟩⟩ := hcut
    have HS2 := hidP (HSd.out wc.drew (lk.below (Below.refl _ _).drew) (cm.below (Below.refl _ _).drew))
    have hbl : w.heap.size < wc.heap.size := lw
    clear lk cm HSd HFin HD HM HC k0 k1 k2 k3 kf e4 e5 ef
    go_wp2_with fail
    go_region_with ((go_at_call 72; refine HS2.out.mono ?_; rintro e w3 ⟨rfl, hfin⟩; have HF3 : Hid (∃ go' gq', CliMem w3 cb i (typeC x ⟨o.k, o.p, o.b, i⟩ t) go' gq' ∧ LocKept w w3 cb go gq go' gq') := hfin; clear hfin))
    all_goals go_wp2
    all_goals go_ret
    all_goals exact ⟨rfl, HF3.out⟩
end Go.Proofs.Ytabahmcbhapbiaa
