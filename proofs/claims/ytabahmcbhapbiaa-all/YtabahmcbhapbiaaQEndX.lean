import Derived.Test.YtabahmcbhapbiaaQEndMem
import Derived.BigRegion
import Derived.Test.YtabahmcbhapbiaaQRefTakeR
namespace Go.Proofs.Ytabahmcbhapbiaa
open Go.RowKit Go.Lib
set_option linter.unusedVariables false
set_option maxHeartbeats 1000000 in
theorem eclose_any (b o s c : Nat) (vo vq : Value) (l : List Op4) (q : List Msg) (go gq : Option Nat) (d : Nat) (w : World) (h : EndAt w b o s c vo vq l q go gq) (hls : l.length ≤ s) (hs : s ≤ 1000000000000000000) (hd : d ≤ l.length) :
    Calls Try.prog 93 #[.pointer (some ⟨b, o, none⟩), .int .i64 ((s - l.length + d : Nat) : Int)] w fun e w' =>
      e = .returned (.tuple #[]) ∧ Hid (∃ vo', EndSet w w' b o s c vo' vq (l.drop d) q go gq) := by
  obtain ⟨va, vc, rfl⟩ := rowq_len h.qo
  obtain ⟨kn, hkn⟩ : ∃ kn : Nat, kn = s - l.length + d := ⟨_, rfl⟩
  rw [← hkn]
  have e1 : (kn : Int) - ((s : Int) - (l.length : Int)) = (d : Int) := by omega
  have hd' : (d : Int) ≤ (l.length : Int) := by omega
  have HS : Hid (∀ v, RowQ w 4 v (flat4 (l.drop d)) go → ∃ vo', EndSet w (w.setCell ⟨b, o + 2, none⟩ v).drew b o s c vo' vq (l.drop d) q go gq) := fun v hv => by
    have h2 := h.setO v (l.drop d) hv
    exact ⟨v, h2.en.keep (F := fun _ => False) (KeptX.refl _ _).drew (fun _ _ e => e), h2.kx.drew, fun j hj => h2.ot j hj⟩
  have hqo := h.qo
  obtain ⟨lt, c0, c1, c2, c3, qo, qq, fr, no, nq, ne⟩ := h
  clear qo qq no nq ne
  rcases rowq4_drop hqo hd with ⟨rfl, hn0, rfl, hl0, hg0⟩ | ⟨gb, off, rfl, hg, _, hc1, hc2, hr1, hr2⟩
  · subst hl0
    have hd0 : d = 0 := by simpa using hd
    subst hd0
    have HR : Hid (RowQ w 4 (.slice none 0 0) (flat4 (([] : List Op4).drop 0)) go) := hqo
    clear hqo
    go_enter Try.func93, Try.ntmps93
    go_wp2_with fail
    go_region
    all_goals go_wp2
    all_goals simp [bodyPost, results, Try.results93, go_sem]
    all_goals exact HS.out _ HR.out
  · have hcap : (d : Int) ≤ (vc : Int) := by omega
    have HR1 : Hid (RowQ w 4 (.slice (some ⟨gb, off + d * 4, none⟩) (l.length - d) (vc - d)) (flat4 (l.drop d)) go) := hr1
    have HR2 : Hid (vc = d → RowQ w 4 (.slice (some ⟨gb, off, none⟩) (l.length - d) 0) (flat4 (l.drop d)) go) := hr2
    clear hqo hr1 hr2 hg
    go_enter Try.func93, Try.ntmps93
    go_wp2_with fail
    go_region
    all_goals go_wp2
    all_goals simp [bodyPost, results, Try.results93, go_sem]
    · exact HS.out _ (HR2.out (by omega))
    · exact HS.out _ HR1.out
end Go.Proofs.Ytabahmcbhapbiaa

namespace Go.Proofs.Ytabahmcbhapbiaa
open Go.RowKit Go.Lib
set_option linter.unusedVariables false
set_option linter.unusedSimpArgs false
/-- A row of a list is set anew. -/
def put4o (w : World) (b o : Nat) (u : Op4) : World := (((w.setCell ⟨b, o, none⟩ (.int .i64 u.k)).setCell ⟨b, o + 1, none⟩ (.int .i64 u.p)).setCell ⟨b, o + 2, none⟩ (.int .i64 u.b)).setCell ⟨b, o + 3, none⟩ (.int .i64 u.s)
theorem put4o_size (w : World) (b o : Nat) (u : Op4) : (put4o w b o u).heap.size = w.heap.size := by unfold put4o; simp [World.setCell]
theorem put4o_frozen (w : World) (b o c j : Nat) (u : Op4) : (put4o w b o u).frozen? ⟨c, j, none⟩ = w.frozen? ⟨c, j, none⟩ := by unfold put4o; simp only [World.frozen?_setCell]
theorem put4o_other (w : World) {b o c j : Nat} (u : Op4) (h : b ≠ c ∨ j < o ∨ o + 4 ≤ j) : (put4o w b o u).cell? ⟨c, j, none⟩ = w.cell? ⟨c, j, none⟩ := by
  unfold put4o
  rw [World.cell?_setCell_other _ _ _ _ (by simp only [ne_eq, Addr.mk.injEq]; omega), World.cell?_setCell_other _ _ _ _ (by simp only [ne_eq, Addr.mk.injEq]; omega), World.cell?_setCell_other _ _ _ _ (by simp only [ne_eq, Addr.mk.injEq]; omega), World.cell?_setCell_other _ _ _ _ (by simp only [ne_eq, Addr.mk.injEq]; omega)]
theorem put4o_in (w : World) {b o : Nat} (u : Op4) (h : ∀ j, j < 4 → (w.cell? ⟨b, o + j, none⟩).isSome = true) (j : Nat) (hj : j < 4) : (put4o w b o u).cell? ⟨b, o + j, none⟩ = u.cells[j]? := by
  obtain ⟨x0, h0⟩ := Option.isSome_iff_exists.1 (h 0 (by omega))
  obtain ⟨x1, h1⟩ := Option.isSome_iff_exists.1 (h 1 (by omega))
  obtain ⟨x2, h2⟩ := Option.isSome_iff_exists.1 (h 2 (by omega))
  obtain ⟨x3, h3⟩ := Option.isSome_iff_exists.1 (h 3 (by omega))
  rw [Nat.add_zero] at h0
  unfold put4o
  match j, hj with
  | 0, _ => simp [go_sem, h0, h1, h2, h3, Op4.cells]
  | 1, _ => simp [go_sem, h0, h1, h2, h3, Op4.cells]
  | 2, _ => simp [go_sem, h0, h1, h2, h3, Op4.cells]
  | 3, _ => simp [go_sem, h0, h1, h2, h3, Op4.cells]
theorem put4o_keptX {F : Nat → Prop} {a w : World} (h : KeptX F a w) {b : Nat} (o : Nat) (hb : b < a.heap.size → F b) (u : Op4) : KeptX F a (put4o w b o u) := by
  unfold put4o
  exact (((h.setCell (p := ⟨b, o, none⟩) hb _).setCell (p := ⟨b, o + 1, none⟩) hb _).setCell (p := ⟨b, o + 2, none⟩) hb _).setCell (p := ⟨b, o + 3, none⟩) hb _
theorem flat4_set : ∀ (l : List Op4) (i : Nat) (u : Op4) (j : Nat), i < l.length → (flat4 (l.set i u))[j]? = if i * 4 ≤ j ∧ j < i * 4 + 4 then u.cells[j - i * 4]? else (flat4 l)[j]?
  | r :: l, 0, u, j, _ => by
    show (u.cells ++ flat4 l)[j]? = if _ then _ else (r.cells ++ flat4 l)[j]?
    by_cases hj : j < 4
    · rw [if_pos (by omega), List.getElem?_append_left (by show j < 4; exact hj)]; simp
    · rw [if_neg (by omega), List.getElem?_append_right (by show 4 ≤ j; omega), List.getElem?_append_right (by show 4 ≤ j; omega)]; rfl
  | r :: l, i + 1, u, j, hi => by
    show (r.cells ++ flat4 (l.set i u))[j]? = if _ then _ else (r.cells ++ flat4 l)[j]?
    by_cases hj : j < 4
    · rw [if_neg (by omega), List.getElem?_append_left (by show j < 4; exact hj), List.getElem?_append_left (by show j < 4; exact hj)]
    · rw [List.getElem?_append_right (by show 4 ≤ j; omega), List.getElem?_append_right (by show 4 ≤ j; omega), flat4_set l i u _ (by simpa using hi)]
      have e : r.cells.length = 4 := rfl
      rw [e]
      by_cases hc : (i + 1) * 4 ≤ j ∧ j < (i + 1) * 4 + 4
      · rw [if_pos hc, if_pos (by omega), show j - 4 - i * 4 = j - (i + 1) * 4 by omega]
      · rw [if_neg hc, if_neg (by omega)]
theorem rowq4_set {w : World} {gb off n cap : Nat} {l : List Op4} (h : RowQ w 4 (.slice (some ⟨gb, off, none⟩) n cap) (flat4 l) (some gb)) {i : Nat} (hi : i < l.length) (u : Op4) : RowQ (put4o w gb (off + i * 4) u) 4 (.slice (some ⟨gb, off, none⟩) n cap) (flat4 (l.set i u)) (some gb) := by
  rcases h with ⟨h1, _, _⟩ | ⟨gb', off', n', cap', hg, hv, h3, h4, h5, h6, h7, h8⟩
  · cases h1
  · cases hg
    cases hv
    have en : n = l.length := by rw [flat4_len] at h3; omega
    have hin : ∀ j, j < 4 → (w.cell? ⟨gb, off + i * 4 + j, none⟩).isSome = true := fun j hj => by
      rw [Nat.add_assoc]; exact (h8 (i * 4 + j) (by omega)).1
    refine Or.inr ⟨gb, off, n, cap, rfl, rfl, by rw [flat4_len, List.length_set, ← flat4_len]; exact h3, h4, h5, by rw [put4o_size]; exact h6, fun j y hj => ?_, fun j hj => ?_⟩
    · rw [flat4_set _ _ _ _ hi] at hj
      by_cases hc : i * 4 ≤ j ∧ j < i * 4 + 4
      · rw [if_pos hc] at hj
        rw [show off + j = off + i * 4 + (j - i * 4) by omega, put4o_in w u hin _ (by omega)]
        exact hj
      · rw [if_neg hc] at hj
        rw [put4o_other w u (by omega)]
        exact h7 j y hj
    · rw [put4o_frozen]
      refine ⟨?_, (h8 j hj).2⟩
      by_cases hc : i * 4 ≤ j ∧ j < i * 4 + 4
      · rw [show off + j = off + i * 4 + (j - i * 4) by omega, put4o_in w u hin _ (by omega)]
        have h4' : j - i * 4 < 4 := by omega
        rw [List.getElem?_eq_getElem (by show j - i * 4 < 4; exact h4')]
        rfl
      · rw [put4o_other w u (by omega)]
        exact (h8 j hj).1

/-- How the loop stands: the op lies at the block ob; q of the open ones are turned. -/
structure MeetAt (W0 : World) (ob : Nat) (go : Option Nat) (va : Option Addr) (n vc : Nat) (x : Op4) (L : List Op4) (q : Nat) (W : World) : Prop where
  kx : KeptX (fun k => k = ob ∨ go = some k) W0 W
  op : Op4At W ob 0 (cross x (L.take q)).1
  fz : ∀ j, W.frozen? ⟨ob, j, none⟩ = false
  rq : RowQ W 4 (.slice va n vc) (flat4 ((cross x (L.take q)).2 ++ L.drop q)) go
theorem meet_round {W0 wr wc : World} {ob gb off n vc q : Nat} {x : Op4} {L : List Op4} (hq : q < L.length) (hob : ob < W0.heap.size) (hgb : gb < W0.heap.size) (hne : gb ≠ ob) (h : MeetAt W0 ob (some gb) (some ⟨gb, off, none⟩) n vc x L q wr) (hb : Below wr.heap.size wr wc) :
    MeetAt W0 ob (some gb) (some ⟨gb, off, none⟩) n vc x L (q + 1) (put4o (put4o wc ob 0 (turn (cross x (L.take q)).1 L[q]).1) gb (off + q * 4) (turn (cross x (L.take q)).1 L[q]).2) := by
  obtain ⟨kx, op, fz, rq⟩ := h
  have hsz := kx.size
  have hsz2 := hb.size
  have kc : KeptX (fun k => k = ob ∨ some gb = some k) W0 wc := kx.trans (KeptX.of_below (F := fun _ => False) hb) (fun _ _ e => e.elim)
  have hct := cross_take x L q hq
  have hop : Op4At wc ob 0 (cross x (L.take q)).1 := op4at_keep op (KeptX.of_below (F := fun _ => False) hb) (by omega) (fun e => e)
  have hin : ∀ j, j < 4 → (wc.cell? ⟨ob, 0 + j, none⟩).isSome = true := fun j hj => by
    match j, hj with
    | 0, _ => rw [hop.1]; rfl
    | 1, _ => rw [hop.2.1]; rfl
    | 2, _ => rw [hop.2.2.1]; rfl
    | 3, _ => rw [hop.2.2.2]; rfl
  have hpi := put4o_in wc (turn (cross x (L.take q)).1 L[q]).1 hin
  refine ⟨put4o_keptX (put4o_keptX kc 0 (fun _ => Or.inl rfl) _) _ (fun _ => Or.inr rfl) _, ?_, fun j => ?_, ?_⟩
  · rw [hct]
    refine ⟨?_, ?_, ?_, ?_⟩
    · rw [put4o_other _ _ (Or.inl hne)]; exact hpi 0 (by omega)
    · rw [put4o_other _ _ (Or.inl hne)]; exact hpi 1 (by omega)
    · rw [put4o_other _ _ (Or.inl hne)]; exact hpi 2 (by omega)
    · rw [put4o_other _ _ (Or.inl hne)]; exact hpi 3 (by omega)
  · rw [put4o_frozen, put4o_frozen, hb.frozen (p := ⟨ob, j, none⟩) (by show ob < _; omega)]
    exact fz j
  · have hl : (cross x (L.take q)).2.length = q := by rw [cross_len, List.length_take]; omega
    have e : (cross x (L.take q)).2 ++ [(turn (cross x (L.take q)).1 L[q]).2] ++ L.drop (q + 1) = ((cross x (L.take q)).2 ++ L.drop q).set q (turn (cross x (L.take q)).1 L[q]).2 := by
      rw [List.set_append_right _ _ (by omega), hl, Nat.sub_self, List.drop_eq_getElem_cons hq, List.set_cons_zero]
      simp
    rw [hct]
    simp only
    rw [e]
    refine rowq4_set ?_ (by rw [List.length_append, hl, List.length_drop]; omega) _
    exact rq.keep (F := fun k => k = ob) (put4o_keptX (KeptX.of_below (F := fun k => k = ob) hb) 0 (fun _ => rfl) _) (fun k e e2 => hne (by cases e; exact e2))

/-- The loop is done: the end as it is now. -/
theorem meet_fin {w wa w1 W0 wr : World} {b o s c n vc : Nat} {va : Option Addr} {vq : Value} {q : List Msg} {go gq : Option Nat} {x : Op4} {L : List Op4} (h0 : Below w.heap.size w wa) (hb : b < w.heap.size) (hgo : ∀ k, go = some k → k < w.heap.size) (hgq : ∀ k, gq = some k → k < w.heap.size) (hS : EndSet wa w1 b o s c (.slice va n vc) vq L q go gq)
    (hk0 : KeptX (fun _ => False) w1 W0) (hM : MeetAt W0 w1.heap.size go va n vc x L L.length wr) :
    EndAt wr b o s c (.slice va n vc) vq (cross x L).2 q go gq ∧ EndKept w wr b o go gq go gq := by
  obtain ⟨kx, op, fz, rq⟩ := hM
  rw [List.take_of_length_le (Nat.le_refl _), List.drop_length, List.append_nil] at rq
  have hz1 : w.heap.size ≤ w1.heap.size := Nat.le_trans h0.size hS.kx.size
  have kw : KeptX (fun k => k = w1.heap.size ∨ go = some k) w1 wr := (hk0.mono (fun _ _ e => e.elim)).trans kx (fun _ _ e => e)
  have hcl : ∀ j, wr.cell? ⟨b, j, none⟩ = w1.cell? ⟨b, j, none⟩ := fun j => kw.cell (p := ⟨b, j, none⟩) hS.en.lt (fun e => by
    rcases e with e | e
    · have : b = w1.heap.size := e
      omega
    · exact hS.en.no e)
  have hfz : ∀ j, wr.frozen? ⟨b, j, none⟩ = w1.frozen? ⟨b, j, none⟩ := fun j => kw.frozen (p := ⟨b, j, none⟩) hS.en.lt (fun e => by
    rcases e with e | e
    · have : b = w1.heap.size := e
      omega
    · exact hS.en.no e)
  have kW : KeptX (fun k => k = b ∨ go = some k ∨ gq = some k) w w1 := (KeptX.of_below (F := fun k => k = b ∨ go = some k ∨ gq = some k) h0).trans hS.kx (fun _ _ e => Or.inl e)
  refine ⟨⟨Nat.lt_of_lt_of_le hS.en.lt kw.size, (hcl _).trans hS.en.c0, (hcl _).trans hS.en.c1, (hcl _).trans hS.en.c2, (hcl _).trans hS.en.c3, rq, hS.en.qq.keep kw (fun k e e2 => ?_), fun j => (hfz j).trans (hS.en.fr j), hS.en.no, hS.en.nq, hS.en.ne⟩, ⟨kW.trans kw (fun i hi e => ?_), fun j hj => ?_, fun k e => Or.inl e, fun k e => Or.inl e⟩⟩
  · rcases e2 with e2 | e2
    · have := hgq k e; omega
    · exact hS.en.ne k e2 e
  · rcases e with e | e
    · omega
    · exact Or.inr (Or.inl e)
  · rw [hcl, hS.ot j hj]
    exact h0.cell (p := ⟨b, j, none⟩) hb
end Go.Proofs.Ytabahmcbhapbiaa

namespace Go.Proofs.Ytabahmcbhapbiaa
open Go.RowKit Go.Lib
set_option linter.unusedVariables false
set_option maxHeartbeats 1000000 in
theorem enext_none (b o s c : Nat) (vo vq : Value) (l : List Op4) (go gq : Option Nat) (w : World) (h : EndAt w b o s c vo vq l [] go gq) :
    Calls Try.prog 43 #[.pointer (some ⟨b, o, none⟩)] w fun e w' =>
      e = .returned (.tuple #[.agg #[.int .i64 0, .int .i64 0, .int .i64 0, .int .i64 0, .int .i64 0, .int .i64 0], .bool false]) ∧ Below w.heap.size w w' := by
  obtain ⟨lt, c0, c1, c2, c3, qo, qq, fr, no, nq, ne⟩ := h
  obtain ⟨ua, uc, rfl⟩ := rowq6_len qq
  clear qo qq no nq ne
  go_enter Try.func43, Try.ntmps43
  go_wp2
  simp [bodyPost, results, Try.results43, go_sem]
  exact bel_alloc (Below.refl _ _) _
set_option maxHeartbeats 1000000 in
theorem enext_some (b o s c : Nat) (vo vq : Value) (l : List Op4) (μ : Msg) (r : List Msg) (go gq : Option Nat) (w : World) (h : EndAt w b o s c vo vq l (μ :: r) go gq) :
    Calls Try.prog 43 #[.pointer (some ⟨b, o, none⟩)] w fun e w' =>
      e = .returned (.tuple #[.agg #[.int .i64 μ.o.k, .int .i64 μ.o.p, .int .i64 μ.o.b, .int .i64 μ.o.s, .int .i64 (μ.sent : Int), .int .i64 (μ.came : Int)], .bool true]) ∧ Hid (∃ vq', EndSet w w' b o s c vo vq' l r go gq) := by
  have HE : Hid (∀ v, RowQ w 6 v (flat6 r) gq → EndSet w (w.setCell ⟨b, o + 3, none⟩ v) b o s c vo v l r go gq) := fun v hv => h.setQ v r hv
  obtain ⟨lt, c0, c1, c2, c3, qo, qq, fr, no, nq, ne⟩ := h
  obtain ⟨gb, off, cap, hg, hv, hc1, hc2, hgl, ⟨x0, x1, x2, x3, x4, x5⟩, hqt⟩ := rowq6_head qq
  subst hv
  have hcap : (r.length : Int) + 1 ≤ (cap : Int) := by omega
  have hcap1 : 1 ≤ (cap : Int) := by omega
  have hgb : ¬ (gb = b) := fun e => nq (by rw [hg, e])
  have HQ : Hid (RowQ w 6 (.slice (some ⟨gb, off + 6, none⟩) r.length (cap - 1)) (flat6 r) gq) := by rw [hg]; exact hqt
  have HQ0 : Hid (r.length = 0 → RowQ w 6 (.slice (some ⟨gb, off, none⟩) r.length 0) (flat6 r) gq) := fun e => by
    rw [hg]
    exact Or.inr ⟨gb, off, 0, 0, rfl, by rw [e], by rw [flat6_len, e], Nat.le_refl _, by omega, hgl, fun j x hj => by
      have := (List.getElem?_eq_some_iff.1 hj).1
      rw [flat6_len, e] at this
      omega, fun j hj => by omega⟩
  clear qo qq no nq ne hqt hg
  go_enter Try.func43, Try.ntmps43
  go_wp2
  · simp [bodyPost, results, Try.results43, go_sem]
    have hE := HE.out _ (HQ0.out (by omega))
    exact ⟨_, hE.below (bel_alloc (bel_alloc (Below.refl _ _) _) _)⟩
  · simp [bodyPost, results, Try.results43, go_sem]
    have hE := HE.out _ HQ.out
    exact ⟨_, hE.below (bel_alloc (bel_alloc (Below.refl _ _) _) _)⟩
end Go.Proofs.Ytabahmcbhapbiaa
