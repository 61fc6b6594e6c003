import Derived.Test.YtabahmcbhapbiaaQEndMem
import Derived.BigRegion
import Derived.Deep.RegionLawGrows
import Derived.Deep.DeepCutAuto
namespace Go.Proofs.Ytabahmcbhapbiaa
open Go.RowKit Go.Lib
set_option linter.unusedVariables false
/-- How 'send' stands when the message is in the queue. -/
structure SendMid (w : World) (b o s c : Nat) (vo : Value) (l : List Op4) (q : List Msg) (go gq : Option Nat) (x : Op4) (W : World) : Prop where
  kx : KeptX (fun k => k = b ∨ gq = some k) w W
  nx : w.heap.size < W.heap.size
  ot : ∀ j, (j < o ∨ o + 4 ≤ j) → W.cell? ⟨b, j, none⟩ = w.cell? ⟨b, j, none⟩
  en : ∃ a n cp gq', EndAt W b o s c vo (.slice a n cp) l (q ++ [⟨x, s, c⟩]) go gq' ∧ (∀ k, gq' = some k → gq = some k ∨ w.heap.size < k)
  xs : Op4At W w.heap.size 0 x
theorem send_mid {w W1 : World} {b o s c : Nat} {vo vq : Value} {l : List Op4} {q : List Msg} {go gq : Option Nat} {x : Op4} {a : Option Addr} {n cp : Nat} (h : EndAt w b o s c vo vq l q go gq)
    (hw : ∃ g', RowQ W1 6 (.slice a n cp) (flat6 (q ++ [⟨x, s, c⟩])) g' ∧ KeptX (fun k => gq = some k) (w.alloc (.cells #[.int .i64 x.k, .int .i64 x.p, .int .i64 x.b, .int .i64 x.s] 26)).drew W1 ∧ (∀ k, g' = some k → gq = some k ∨ w.heap.size + 1 < k)) :
    SendMid w b o s c vo l q go gq x (W1.setCell ⟨b, o + 3, none⟩ (.slice a n cp)) := by
  obtain ⟨g', hr, hk, hg⟩ := hw
  have hsz : w.heap.size + 1 ≤ W1.heap.size := by have := hk.size; simpa using this
  have hk0 : KeptX (fun k => gq = some k) w W1 := ((KeptX.refl _ _).alloc _).drew.trans hk (fun _ _ e => e)
  have hk1 : KeptX (fun k => k = b ∨ gq = some k) w W1 := hk0.mono (fun _ _ e => Or.inr e)
  have hc : ∀ j, W1.cell? ⟨b, j, none⟩ = w.cell? ⟨b, j, none⟩ := fun j => hk0.cell (p := ⟨b, j, none⟩) h.lt h.nq
  have hgb : g' ≠ some b := fun e => by
    rcases hg b e with e | e
    · exact h.nq e
    · have := h.lt; omega
  have hlt := h.lt
  refine ⟨hk1.setCell (p := ⟨b, o + 3, none⟩) (fun _ => Or.inl rfl) _, by show w.heap.size < (W1.setCell _ _).heap.size; simp [World.setCell]; omega, fun j hj => ?_, ⟨a, n, cp, g', ⟨?_, ?_, ?_, ?_, ?_, ?_, ?_, ?_, h.no, hgb, fun k e e2 => ?_⟩, fun k e => (hg k e).imp id (fun x => by omega)⟩, ?_⟩
  · rw [World.cell?_setCell_other _ _ _ _ (by simp only [ne_eq, Addr.mk.injEq]; omega)]; exact hc j
  · show b < (W1.setCell _ _).heap.size
    simp [World.setCell]; omega
  · rw [World.cell?_setCell_other _ _ _ _ (by simp only [ne_eq, Addr.mk.injEq]; omega)]; exact (hc _).trans h.c0
  · rw [World.cell?_setCell_other _ _ _ _ (by simp only [ne_eq, Addr.mk.injEq]; omega)]; exact (hc _).trans h.c1
  · rw [World.cell?_setCell_other _ _ _ _ (by simp only [ne_eq, Addr.mk.injEq]; omega)]; exact (hc _).trans h.c2
  · have := (hc (o + 3)).trans h.c3
    simp [go_sem, this]
  · exact h.qo.keep (F := fun k => k = b ∨ gq = some k) (hk1.setCell (p := ⟨b, o + 3, none⟩) (fun _ => Or.inl rfl) _) (fun k e e2 => by
      rcases e2 with e2 | e2
      · exact h.no (by rw [e, e2])
      · exact h.ne k e e2)
  · exact hr.keep (F := fun k => k = b) ((KeptX.refl (fun k => k = b) W1).setCell (p := ⟨b, o + 3, none⟩) (fun _ => rfl) _) (fun k e e2 => hgb (by rw [e, e2]))
  · intro j
    rw [World.frozen?_setCell]
    exact (hk0.frozen (p := ⟨b, j, none⟩) h.lt h.nq).trans (h.fr j)
  · rcases hg k e2 with e3 | e3
    · exact h.ne k e e3
    · have := h.qo.lt k e; omega
  · have h0 : Op4At (w.alloc (.cells #[.int .i64 x.k, .int .i64 x.p, .int .i64 x.b, .int .i64 x.s] 26)).drew w.heap.size 0 x := by unfold Op4At; simp [go_sem]
    have hn : gq ≠ some w.heap.size := fun e => by have := h.qq.lt _ e; omega
    have h1 : Op4At W1 w.heap.size 0 x := op4at_keep h0 hk (by simp) hn
    have hbn : (⟨b, o + 3, none⟩ : Addr).block ≠ w.heap.size := by show b ≠ _; omega
    exact ⟨(World.cell?_setCell_far _ _ _ _ hbn).trans h1.1, (World.cell?_setCell_far _ _ _ _ hbn).trans h1.2.1, (World.cell?_setCell_far _ _ _ _ hbn).trans h1.2.2.1, (World.cell?_setCell_far _ _ _ _ hbn).trans h1.2.2.2⟩
theorem send_end {w wc W2 : World} {b o s c : Nat} {vo : Value} {l : List Op4} {q : List Msg} {go gq : Option Nat} {x : Op4} {a : Option Addr} {n cp : Nat} (hlt : b < w.heap.size) (hgo : ∀ k, go = some k → k < w.heap.size) (h : SendMid w b o s c vo l q go gq x wc)
    (hw : ∃ g', RowQ W2 4 (.slice a n cp) (flat4 (l ++ [x])) g' ∧ KeptX (fun k => go = some k) (wc.setCell ⟨b, o, none⟩ (.int .i64 ((s : Int) + 1))).drew W2 ∧ (∀ k, g' = some k → go = some k ∨ wc.heap.size < k)) :
    ∃ vo' vq' go' gq', EndAt (W2.setCell ⟨b, o + 2, none⟩ (.slice a n cp)) b o (s + 1) c vo' vq' (l ++ [x]) (q ++ [⟨x, s, c⟩]) go' gq' ∧ EndKept w (W2.setCell ⟨b, o + 2, none⟩ (.slice a n cp)) b o go gq go' gq' := by
  obtain ⟨g', hr, hk, hg⟩ := hw
  obtain ⟨kx, nx, ot, ⟨a1, n1, cp1, gq', he, hgq⟩, xs⟩ := h
  have hlc := he.lt
  have hk0 : KeptX (fun k => k = b ∨ go = some k) wc W2 := ((KeptX.refl _ _).setCell (p := ⟨b, o, none⟩) (fun _ => Or.inl rfl) _).drew.trans hk (fun _ _ e => Or.inr e)
  have hkf : KeptX (fun k => k = b ∨ go = some k) wc (W2.setCell ⟨b, o + 2, none⟩ (.slice a n cp)) := hk0.setCell (p := ⟨b, o + 2, none⟩) (fun _ => Or.inl rfl) _
  have hc : ∀ j, W2.cell? ⟨b, j, none⟩ = (wc.setCell ⟨b, o, none⟩ (.int .i64 ((s : Int) + 1))).cell? ⟨b, j, none⟩ := fun j => hk.cell (p := ⟨b, j, none⟩) (by show b < _; simpa [World.setCell] using hlc) he.no
  have hgb : g' ≠ some b := fun e => by
    rcases hg b e with e | e
    · exact he.no e
    · omega
  refine ⟨.slice a n cp, .slice a1 n1 cp1, g', gq', ⟨?_, ?_, ?_, ?_, ?_, ?_, ?_, ?_, hgb, he.nq, fun k e e2 => ?_⟩, ⟨?_, fun j hj => ?_, fun k e => ?_, fun k e => (hgq k e).imp id (fun x => by omega)⟩⟩
  · exact Nat.lt_of_lt_of_le hlc hkf.size
  · rw [World.cell?_setCell_other _ _ _ _ (by simp only [ne_eq, Addr.mk.injEq]; omega), hc]
    have := he.c0
    simp [go_sem, this]
  · rw [World.cell?_setCell_other _ _ _ _ (by simp only [ne_eq, Addr.mk.injEq]; omega), hc, World.cell?_setCell_other _ _ _ _ (by simp only [ne_eq, Addr.mk.injEq]; omega)]
    exact he.c1
  · have : W2.cell? ⟨b, o + 2, none⟩ = some vo := by
      rw [hc, World.cell?_setCell_other _ _ _ _ (by simp only [ne_eq, Addr.mk.injEq]; omega)]
      exact he.c2
    simp [go_sem, this]
  · rw [World.cell?_setCell_other _ _ _ _ (by simp only [ne_eq, Addr.mk.injEq]; omega), hc, World.cell?_setCell_other _ _ _ _ (by simp only [ne_eq, Addr.mk.injEq]; omega)]
    exact he.c3
  · exact hr.keep (F := fun k => k = b) ((KeptX.refl (fun k => k = b) W2).setCell (p := ⟨b, o + 2, none⟩) (fun _ => rfl) _) (fun k e e2 => hgb (by rw [e, e2]))
  · refine he.qq.keep hkf (fun k e e2 => ?_)
    rcases e2 with e2 | e2
    · exact he.nq (by rw [e, e2])
    · exact he.ne k e2 e
  · intro j
    rw [World.frozen?_setCell]
    refine (hk.frozen (p := ⟨b, j, none⟩) (by show b < _; simpa [World.setCell] using hlc) he.no).trans ?_
    show (wc.setCell _ _).frozen? _ = _
    rw [World.frozen?_setCell]
    exact he.fr j
  · rcases hg k e with e3 | e3
    · exact he.ne k e3 e2
    · have := he.qq.lt k e2; omega
  · refine (kx.mono (G := fun k => k = b ∨ go = some k ∨ gq = some k) (fun k _ e => e.elim Or.inl (fun e => Or.inr (Or.inr e)))).trans hkf (fun k _ e => e.elim Or.inl (fun e => Or.inr (Or.inl e)))
  · rw [World.cell?_setCell_other _ _ _ _ (by simp only [ne_eq, Addr.mk.injEq]; omega), hc, World.cell?_setCell_other _ _ _ _ (by simp only [ne_eq, Addr.mk.injEq]; omega)]
    exact ot j hj
  · rcases hg k e with e3 | e3
    · exact Or.inl e3
    · right; omega
set_option maxHeartbeats 4000000 in
theorem esend_any (b o s c : Nat) (vo vq : Value) (l : List Op4) (q : List Msg) (go gq : Option Nat) (x : Op4) (w : World) (h : EndAt w b o s c vo vq l q go gq) (hs : s ≤ 1000000000000000000) (hl : (l.length + 1) * 32 ≤ 140737488355328) (hq : (q.length + 1) * 48 ≤ 140737488355328) :
    Calls Try.prog 72 #[.pointer (some ⟨b, o, none⟩), .agg #[.int .i64 x.k, .int .i64 x.p, .int .i64 x.b, .int .i64 x.s]] w fun e w' =>
      e = .returned (.tuple #[]) ∧ Hid (∃ vo' vq' go' gq', EndAt w' b o (s + 1) c vo' vq' (l ++ [x]) (q ++ [⟨x, s, c⟩]) go' gq' ∧ EndKept w w' b o go gq go' gq') := by
  have HE : Hid (EndAt w b o s c vo vq l q go gq) := h
  obtain ⟨lt, c0, c1, c2, c3, qo, qq, fr, no, nq, ne⟩ := h
  obtain ⟨va, vc, rfl⟩ := rowq_len qo
  obtain ⟨ua, uc, rfl⟩ := rowq6_len qq
  have b1 : b < w.heap.size + 1 := by omega
  have b2 : b < w.heap.size + 1 + 1 := by omega
  have HA : Hid (∃ v' W', (∀ ty, (Builtin.append_ #[84, 84] ty #[.slice ua q.length uc, .slice (some ⟨w.heap.size + 1, 0, none⟩) 1 1]).run Try.prog ((w.alloc (.cells #[.int .i64 x.k, .int .i64 x.p, .int .i64 x.b, .int .i64 x.s] 26)).drew.alloc (.cells #[.int .i64 x.k, .int .i64 x.p, .int .i64 x.b, .int .i64 x.s, .int .i64 (s : Int), .int .i64 (c : Int)] 94)) = .ok v' W') ∧
      ((∃ a n c, v' = .slice a n c) ∧ ∃ g', RowQ W' 6 v' (flat6 (q ++ [⟨x, s, c⟩])) g' ∧ KeptX (fun k => gq = some k) (w.alloc (.cells #[.int .i64 x.k, .int .i64 x.p, .int .i64 x.b, .int .i64 x.s] 26)).drew W' ∧ (∀ k, g' = some k → gq = some k ∨ w.heap.size + 1 < k))) := by
    have hq1 := qq.keep (w' := (w.alloc (.cells #[.int .i64 x.k, .int .i64 x.p, .int .i64 x.b, .int .i64 x.s] 26)).drew) (F := fun _ => False) ((KeptX.refl _ _).alloc _).drew (fun _ _ e => e)
    have h1 := app6 hq1 ⟨x, s, c⟩ hq
    rw [show ((w.alloc (.cells #[.int .i64 x.k, .int .i64 x.p, .int .i64 x.b, .int .i64 x.s] 26)).drew).heap.size = w.heap.size + 1 by simp] at h1
    exact h1
  have HF : Hid (∀ (a : Option Addr) (n cp : Nat) (W1 : World), (∃ g', RowQ W1 6 (.slice a n cp) (flat6 (q ++ [⟨x, s, c⟩])) g' ∧ KeptX (fun k => gq = some k) (w.alloc (.cells #[.int .i64 x.k, .int .i64 x.p, .int .i64 x.b, .int .i64 x.s] 26)).drew W1 ∧ (∀ k, g' = some k → gq = some k ∨ w.heap.size + 1 < k)) →
      SendMid w b o s c (.slice va l.length vc) l q go gq x (W1.setCell ⟨b, o + 3, none⟩ (.slice a n cp)) ∧ W1.cell? ⟨b, o + 3, none⟩ = some (.slice ua q.length uc) ∧ W1.frozen? ⟨b, o + 3, none⟩ = false) := fun a n cp W1 hh => ⟨send_mid HE.out hh, by
        obtain ⟨g', hr, hk, hg⟩ := hh
        have hk0 : KeptX (fun k => gq = some k) w W1 := ((KeptX.refl _ _).alloc _).drew.trans hk (fun _ _ e => e)
        exact ⟨(hk0.cell (p := ⟨b, o + 3, none⟩) lt nq).trans c3, (hk0.frozen (p := ⟨b, o + 3, none⟩) lt nq).trans (fr _)⟩⟩
  clear qo qq no nq ne
  go_enter Try.func72, Try.ntmps72
  go_wp2_with fail
  go_cut [] (fun W => SendMid w b o s c (.slice va l.length vc) l q go gq x W)
  case first =>
    go_region_law (refine step_append_ex (by rfl) _ _ _ _ (by rfl) _ _ (by rfl) (by rfl) _ HA.out ?_; rintro v1 W1 ⟨⟨a1, n1, cp1, rfl⟩, hw1⟩; obtain ⟨hm, hc3, hf3⟩ := HF.out _ _ _ _ hw1; have HM : Hid (SendMid w b o s c (.slice va l.length vc) l q go gq x (W1.setCell ⟨b, o + 3, none⟩ (.slice a1 n1 cp1))) := hm; clear hw1 hm)
    all_goals go_wp2_with fail
    all_goals go_meet
    all_goals exact HM.out
  case rest =>
    have HM : Hid (SendMid w b o s c (.slice va l.length vc) l q go gq x wc) := hcut
    obtain ⟨kx, nx, ot, ⟨a1, n1, cp1, gq', he, hgq⟩, xs⟩ := hcut
    obtain ⟨x0, x1, x2, x3⟩ := xs
    have d0 := he.c0
    have d2 := he.c2
    have df := he.fr
    have bl := he.lt
    have bl1 : b < wc.heap.size + 1 := by omega
    have nx1 : w.heap.size < wc.heap.size + 1 := by omega
    have hbn : ¬ (b = w.heap.size) := by omega
    have HB : Hid (∃ v' W', (∀ ty, (Builtin.append_ #[49, 49] ty #[.slice va l.length vc, .slice (some ⟨wc.heap.size, 0, none⟩) 1 1]).run Try.prog ((wc.setCell ⟨b, o, none⟩ (.int .i64 ((s : Int) + 1))).drew.alloc (.cells #[.int .i64 x.k, .int .i64 x.p, .int .i64 x.b, .int .i64 x.s] 26)) = .ok v' W') ∧
        ((∃ a n c, v' = .slice a n c) ∧ ∃ g', RowQ W' 4 v' (flat4 (l ++ [x])) g' ∧ KeptX (fun k => go = some k) (wc.setCell ⟨b, o, none⟩ (.int .i64 ((s : Int) + 1))).drew W' ∧ (∀ k, g' = some k → go = some k ∨ wc.heap.size < k))) := by
      have hq1 := he.qo.keep (w' := (wc.setCell ⟨b, o, none⟩ (.int .i64 ((s : Int) + 1))).drew) (F := fun k => k = b) ((KeptX.refl (fun k => k = b) wc).setCell (p := ⟨b, o, none⟩) (fun _ => rfl) _).drew (fun k e e2 => he.no (by rw [e, e2]))
      have h1 := app4 hq1 x hl
      rw [show ((wc.setCell ⟨b, o, none⟩ (.int .i64 ((s : Int) + 1))).drew).heap.size = wc.heap.size by simp [World.setCell]] at h1
      exact h1
    have HG : Hid (∀ (a : Option Addr) (n cp : Nat) (W2 : World), (∃ g', RowQ W2 4 (.slice a n cp) (flat4 (l ++ [x])) g' ∧ KeptX (fun k => go = some k) (wc.setCell ⟨b, o, none⟩ (.int .i64 ((s : Int) + 1))).drew W2 ∧ (∀ k, g' = some k → go = some k ∨ wc.heap.size < k)) →
        (∃ vo' vq' go' gq', EndAt (W2.setCell ⟨b, o + 2, none⟩ (.slice a n cp)) b o (s + 1) c vo' vq' (l ++ [x]) (q ++ [⟨x, s, c⟩]) go' gq' ∧ EndKept w (W2.setCell ⟨b, o + 2, none⟩ (.slice a n cp)) b o go gq go' gq') ∧ (∃ z, W2.cell? ⟨b, o + 2, none⟩ = some z) ∧ W2.frozen? ⟨b, o + 2, none⟩ = false) := fun a n cp W2 hh => ⟨send_end lt HE.out.qo.lt HM.out hh, by
          obtain ⟨g', hr, hk, hg⟩ := hh
          refine ⟨⟨.slice va l.length vc, ?_⟩, ?_⟩
          · rw [hk.cell (p := ⟨b, o + 2, none⟩) (by show b < _; simpa [World.setCell] using bl) he.no]
            show (wc.setCell _ _).cell? _ = _
            rw [World.cell?_setCell_other _ _ _ _ (by simp only [ne_eq, Addr.mk.injEq]; omega)]
            exact d2
          · rw [hk.frozen (p := ⟨b, o + 2, none⟩) (by show b < _; simpa [World.setCell] using bl) he.no]
            show (wc.setCell _ _).frozen? _ = _
            rw [World.frozen?_setCell]
            exact df _⟩
    clear kx nx ot hgq he c0 c1 c2 c3 fr
    go_wp2_with fail
    go_region_law (refine step_append_ex (by rfl) _ _ _ _ (by rfl) _ _ (by rfl) (by rfl) _ HB.out ?_; rintro v2 W2 ⟨⟨a2, n2, cp2, rfl⟩, hw2⟩; obtain ⟨hm, ⟨z, hc2⟩, hf2⟩ := HG.out _ _ _ _ hw2; have HM2 : Hid (∃ vo' vq' go' gq', EndAt (W2.setCell ⟨b, o + 2, none⟩ (.slice a2 n2 cp2)) b o (s + 1) c vo' vq' (l ++ [x]) (q ++ [⟨x, s, c⟩]) go' gq' ∧ EndKept w (W2.setCell ⟨b, o + 2, none⟩ (.slice a2 n2 cp2)) b o go gq go' gq') := hm; clear hw2 hm)
    all_goals go_wp2
    all_goals simp [bodyPost, results, Try.results72, go_sem]
    all_goals exact HM2.out
end Go.Proofs.Ytabahmcbhapbiaa
