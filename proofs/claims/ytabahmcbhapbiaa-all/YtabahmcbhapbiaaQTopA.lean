import Derived.Test.YtabahmcbhapbiaaQLawA
import Derived.Test.YtabahmcbhapbiaaQLook
namespace Go.Proofs.Ytabahmcbhapbiaa
open Go.RowKit Go.Lib
set_option linter.unusedVariables false
theorem markN_four (r t : Nat) (ht : t < 4) : markN (4 * r + t) = markN (4 * r) := by
  unfold markN
  rw [show (4 * r + t) / 4 = 4 * r / 4 by omega]
/-- The lists that came out, each with its mark; Z: the blocks of all of them. -/
def AllQ (wb k : Nat) (Z : Nat → Prop) (W : World) : Prop :=
  ∃ v vs g, W.cell? ⟨wb, 1, none⟩ = some v ∧ RowQ W 1 v vs g ∧ (∀ b, g = some b → Z b) ∧ vs.length ≤ 4 * k ∧ vs.length ≤ 10000000000000 ∧ (∃ r, vs.length = 4 * r) ∧ ∀ i (hi : i < vs.length), ∃ j gv, j ≤ 1000000 ∧ RowQ W 4 vs[i] (reps j ⟨markN i, 0, 0, 0⟩) gv ∧ ∀ b, gv = some b → Z b ∧ g ≠ some b
section
variable {wb k : Nat} {Z : Nat → Prop} {W W' : World}
theorem AllQ.keep (h : AllQ wb k Z W) (hk : KeptX (fun k => ¬ Z k) W W') (he : W'.cell? ⟨wb, 1, none⟩ = W.cell? ⟨wb, 1, none⟩) : AllQ wb k Z W' := by
  obtain ⟨v, vs, g, h1, h2, h3, h4, h5, h6, h7⟩ := h
  refine ⟨v, vs, g, he.trans h1, h2.keep hk (fun b e hn => hn (h3 b e)), h3, h4, h5, h6, fun i hi => ?_⟩
  obtain ⟨j, gv, r1, r2, r3⟩ := h7 i hi
  exact ⟨j, gv, r1, r2.keep hk (fun b e hn => hn (r3 b e).1), r3⟩
theorem AllQ.more (h : AllQ wb k Z W) : AllQ wb (k + 1) Z W := by
  obtain ⟨v, vs, g, h1, h2, h3, h4, h5⟩ := h
  exact ⟨v, vs, g, h1, h2, h3, by omega, h5⟩
/-- looks: all of them read as they were left. -/
theorem AllQ.looks (h : AllQ wb k Z W) : Calls Try.prog 29 #[.pointer (some ⟨wb, 0, none⟩)] W fun e w' => e = .returned (.bool true) ∧ Below W.heap.size W w' := by
  obtain ⟨v, vs, g, h1, h2, h3, h4, h5, h6, h7⟩ := h
  rcases h2 with ⟨rfl, _, _⟩ | ⟨ob, oo, n, cap, hg, rfl, hl, _, _, _, hc, _⟩
  · refine (looks_none _ _ h1).mono ?_
    rintro e w' ⟨rfl, rfl⟩
    exact ⟨rfl, Below.refl _ _⟩
  · rw [Nat.mul_one] at hl
    subst hl
    refine looks_some wb ob oo vs.length cap W h1 (by omega) (fun i hi => ⟨vs[i], hc i _ (List.getElem?_eq_getElem hi), ?_⟩)
    obtain ⟨j, gv, r1, r2, _⟩ := h7 i hi
    have r0 := r2
    rcases r2 with ⟨e, _, _⟩ | ⟨gb, off, n, c, _, e, hl2, _⟩
    · exact Or.inl e
    · rw [reps_len] at hl2
      have hj : n = j := by omega
      subst hj
      refine Or.inr ⟨gb, off, n, c, e, by omega, fun q hq => ?_⟩
      rw [e] at r0
      obtain ⟨gb2, off2, e2, ho⟩ := rowq_op4 (l := List.replicate n ⟨markN i, 0, 0, 0⟩) r0 (k := q) (by simpa using hq)
      cases e2
      simpa using ho
end
section
variable {w W : World} {wb n k len : Nat} {p : Nat → Pr} {own : Nat → Nat → Prop} {Z : Nat → Prop} {vs : List Value} {v : Value} {g : Option Nat} {W' : World}
/-- What a Look leaves. -/
theorem LawW.look (h : LawW w wb n p own Z W) (hk : KeptX (fun k => k = wb ∨ g = some k ∨ (none : Option Nat) = some k) W W') (hg : ∀ b, g = some b → Z b) (hc : W'.cell? ⟨wb, 0, none⟩ = W.cell? ⟨wb, 0, none⟩) (hf : ∀ j, W'.frozen? ⟨wb, j, none⟩ = W.frozen? ⟨wb, j, none⟩) :
    LawW w wb n p own (fun k => Z k ∨ (W.heap.size ≤ k ∧ k < W'.heap.size)) W' := by
  have ks := hk.size
  have k0 := h.kx.size
  have wl := h.wlt
  have nz : ∀ k, Z k → k ≠ wb := fun k e e2 => by have := (h.zo k e).1; omega
  obtain ⟨a, n0, c, g0, c0, rq, o0, hg0⟩ := h.sl
  refine ⟨h.kx.trans hk (fun i hi e => ?_), wl, fun j => (hf j).trans (h.fr j), h.ps.keep hk (fun i q hi e e2 => ?_), fun i q hi e => ⟨(h.og i q hi e).1, fun z => ?_⟩, fun q z => ?_, ⟨a, n0, c, g0, hc.trans c0, rq.keep hk (fun q e e2 => ?_), o0, fun q e => ?_⟩⟩
  · rcases e with e | e | e
    · exact e
    · have := (h.zo i (hg i e)).1
      omega
    · cases e
  · have := h.og i q hi e
    rcases e2 with e2 | e2 | e2
    · omega
    · exact this.2 (hg q e2)
    · cases e2
  · rcases z with z | z
    · exact (h.og i q hi e).2 z
    · have := (h.ps.pa i hi).lt e
      omega
  · rcases z with z | z
    · have := h.zo q z
      exact ⟨this.1, by omega⟩
    · exact ⟨by omega, z.2⟩
  · obtain ⟨g1, g2, g3, g4, g5⟩ := hg0 q e
    rcases e2 with e2 | e2 | e2
    · omega
    · exact g3 (hg q e2)
    · cases e2
  · obtain ⟨g1, g2, g3, g4, g5⟩ := hg0 q e
    refine ⟨g1, by omega, fun z => ?_, g4, fun i => (hk.frozen (p := ⟨q, i, none⟩) g2 (fun e2 => ?_)).trans (g5 i)⟩
    · rcases z with z | z
      · exact g3 z
      · omega
    · rcases e2 with e2 | e2 | e2
      · have e3 : q = wb := e2
        omega
      · exact g3 (hg q e2)
      · cases e2
theorem allQ_look (h : LawW w wb n p own Z W) (hv : W.cell? ⟨wb, 1, none⟩ = some v) (hq : RowQ W 1 v vs g) (hg : ∀ b, g = some b → Z b) (hl : vs.length ≤ 4 * k) (hk9 : k ≤ 1400000000000) (h4 : ∃ r, vs.length = 4 * r)
    (hi : ∀ i (hi : i < vs.length), ∃ j gv, j ≤ 1000000 ∧ RowQ W 4 vs[i] (reps j ⟨markN i, 0, 0, 0⟩) gv ∧ ∀ b, gv = some b → Z b ∧ g ≠ some b) (hlen : len ≤ 1000) (ho : OpenedAt W.heap.size wb len vs g none ⟨markN vs.length, 0, 0, 0⟩ W W') :
    AllQ wb (k + 1) (fun k => Z k ∨ (W.heap.size ≤ k ∧ k < W'.heap.size)) W' ∧ LawW w wb n p own (fun k => Z k ∨ (W.heap.size ≤ k ∧ k < W'.heap.size)) W' := by
  obtain ⟨v', g', L, o1, o2, o3, o4, o5, o6, o7, o8⟩ := ho
  refine ⟨⟨v', vs ++ L, g', o1, o2, fun b e => ?_, by rw [List.length_append, o3]; omega, by rw [List.length_append, o3]; omega, ?_, fun i hil => ?_⟩, h.look o6 hg (o7 0 (by omega)) o8⟩
  · rcases o4 b e with x | x
    · exact Or.inl (hg b x)
    · exact Or.inr ⟨x, o2.lt b e⟩
  · obtain ⟨r, hr⟩ := h4
    exact ⟨r + 1, by rw [List.length_append, o3]; omega⟩
  · by_cases hlt : i < vs.length
    · obtain ⟨j, gv, r1, r2, r3⟩ := hi i hlt
      rw [List.getElem_append_left hlt]
      refine ⟨j, gv, r1, r2.keep o6 (fun b e e2 => ?_), fun b e => ⟨Or.inl (r3 b e).1, fun e4 => ?_⟩⟩
      · rcases e2 with e2 | e2 | e2
        · have := (h.zo b (r3 b e).1).1
          have := h.wlt
          omega
        · exact (r3 b e).2 e2
        · cases e2
      · have := (h.zo b (r3 b e).1).2
        rcases o4 b e4 with x | x
        · exact (r3 b e).2 x
        · omega
    · rw [List.length_append, o3] at hil
      obtain ⟨r, hr⟩ := h4
      rw [List.getElem_append_right (by omega)]
      obtain ⟨j, gv, r1, r2, r3⟩ := o5 _ (List.getElem_mem (show i - vs.length < L.length by omega))
      have hmk : markN i = markN vs.length := by
        rw [hr, show i = 4 * r + (i - 4 * r) by omega]
        exact markN_four r _ (by omega)
      rw [hmk]
      exact ⟨j, gv, by omega, r2, fun b e => ⟨Or.inr ⟨(r3 b e).1, r2.lt b e⟩, (r3 b e).2⟩⟩
end
/-- Any script: as the document says. -/
theorem all_plays (sa : Option Addr) (n c : Nat) (ops : List Rec) (w : World) (hn : ops.length = n) (hbig : (6 + n) * 104 ≤ 140737488355328)
    (hnil : sa = none → n = 0) (hsrc : ∀ a, sa = some a → ∀ j v, (flat ops)[j]? = some v → w.cell? (a.add j) = some v) (ht : ∀ r ∈ ops, r.t.size + 1 ≤ 140737488355328 ∧ I64 r.on ∧ I64 r.aa) :
    Calls Try.prog 12 #[.slice sa n c, .int .i64 10] w fun e w' => e = .returned (.bool true) ∧ Below w.heap.size w w' := by
  have qk : ∀ k Z W W', AllQ w.heap.size k Z W → (∀ k, Z k → k < W.heap.size) → KeptX (fun k => ¬ Z k) W W' → W'.cell? ⟨w.heap.size, 1, none⟩ = W.cell? ⟨w.heap.size, 1, none⟩ → AllQ w.heap.size k Z W' := fun k Z W W' hq _ hk he => hq.keep hk he
  have qs : ∀ k Z W, AllQ w.heap.size k Z W → AllQ w.heap.size (k + 1) Z W := fun k Z W hq => hq.more
  refine plays_gen 10 (by decide) sa n c ops w hn hbig hnil hsrc (fun W2 g hr hb hz h0 h1 hf => ⟨_, lawPlays (Q := AllQ w.heap.size) (by decide) ?_ hr hb hz h0 h1 hf ht ⟨_, [], none, h1, RowQ.nil _ _, fun b e => (by cases e), by simp, by simp, ⟨0, rfl⟩, fun i hi => absurd hi (by simp)⟩ qk qs (fun k Z W _ _ hq => hq.looks) ?_⟩)
  · rw [List.length_append, hn]
    exact hbig
  · intro k Z W n p own r h hn0 hnk hN hk9 hq hon haa hkd hl
    obtain ⟨kd, on, aa, t, xk, xp, xb, xs, yk, yp, yb, ys⟩ := r
    simp only at hkd hon haa hl
    rcases hkd with rfl | rfl
    · refine step_look h hn0 (by omega) on aa hon t xk xp xb xs yk yp yb ys (fun i hi W0 hb0 => ?_)
      have h0' := h.below hb0
      have hq0 : AllQ w.heap.size k Z W0 := hq.keep (KeptX.of_below hb0) (hb0.cell (p := ⟨w.heap.size, 1, none⟩) h.lt)
      by_cases hc : hasB (p i).m.n aa = true
      · obtain ⟨c, rfl, hcn⟩ := hasB_elim hc
        obtain ⟨v, vs, g, q1, q2, q3, q4, q5, q6, q7⟩ := hq0
        have hfew := ((h.ps.iv i hi).cl c hcn).few
        refine (looked_ok (h0'.ps.pa i hi) c hcn (by omega) q1 q2 (by omega) (h0'.fr 1) h0'.lt (fun e => by have := (h0'.zo _ (q3 _ e)).1; have := h0'.wlt; omega)).mono ?_
        rintro e w' ⟨rfl, ho⟩
        obtain ⟨a1, a2⟩ := allQ_look h0' q1 q2 q3 q4 hk9 q6 q7 (by omega) ho.out
        exact ⟨rfl, n, p, own, _, a2, fun _ => hn0, by omega, fun j hj => by have := hN j hj; omega, a1⟩
      · refine (looked_no (h0'.ps.pa i hi) w.heap.size aa (by simpa using hc)).mono ?_
        rintro e w' ⟨rfl, hb1⟩
        exact ⟨rfl, n, p, own, Z, h0'.below hb1, fun _ => hn0, by omega, fun j hj => by have := hN j hj; omega, (hq0.keep (KeptX.of_below hb1) (hb1.cell (p := ⟨w.heap.size, 1, none⟩) h0'.lt)).more⟩
    · refine (step_told h hN (by omega) hn0 (by omega) on aa hon haa t xk xp xb xs yk yp yb ys).mono ?_
      rintro e w' ⟨rfl, hw⟩
      exact ⟨rfl, lawS_goes qk qs (fun q z => (h.zo q z).2) hq hnk (fun _ => hn0) hw.out⟩
end Go.Proofs.Ytabahmcbhapbiaa

namespace Go.Proofs.Ytabahmcbhapbiaa
open Go.ChangeShapes Go.WideShapes Go.ChangeAt Go.RowKit
set_option linter.unusedVariables false
set_option maxHeartbeats 1000000 in
theorem all_walk (sa : Option Addr) (n c : Nat) (ops : List Rec) (w : World) (hn : ops.length = n) (hbig : (6 + n) * 104 ≤ 140737488355328)
    (hnil : sa = none → n = 0) (hsrc : ∀ a, sa = some a → ∀ j v, (flat ops)[j]? = some v → w.cell? (a.add j) = some v) (ht : ∀ r ∈ ops, r.t.size + 1 ≤ 140737488355328 ∧ I64 r.on ∧ I64 r.aa) :
    Calls Try.prog 9 #[.slice sa n c] w fun e w' => e = .returned (.bool true) ∧ Below w.heap.size w w' := by
  have HP : Hid (Calls Try.prog 12 #[.slice sa n c, .int .i64 10] w fun e w' => e = .returned (.bool true) ∧ Below w.heap.size w w') := all_plays sa n c ops w hn hbig hnil hsrc ht
  clear hn hbig hnil hsrc ht
  go_enter Try.func9, Try.ntmps9
  go_wp2_with fail
  refine HP.out.mono ?_
  rintro e w1 ⟨rfl, hb⟩
  go_wp2
  go_ret
  exact ⟨rfl, hb⟩

set_option maxRecDepth 100000 in
theorem all_lifted (os : Os) (started : os.Started) (H : Type) (enc : TypeId × Value → H) :
    ReturnsInHanded {} Try.checked os 9 .any (Rows.allSpec.pre6 enc Try.prog Try.f9 Rows.allRow.domain false) (Rows.allSpec.post enc Try.prog Try.f9 false true false false) := by
  refine returnsInHanded_of_change_sized (C := Try.checked) own started (by kernel_rfl) Try.func9
    (ChangeSpec.witness6 (enc := enc) (C := Try.checked) false ⟨#[], #[.slice none 0 0], []⟩ 8 (by kernel_rfl) (by kernel_rfl) (by kernel_rfl) (by kernel_rfl)) ?_
  intro W base args ds gs before hval0 hW hcnd hsz0 _
  have hval : ∀ (j : Nat) t v, Try.f9.params[j]? = some t → args[j]? = some v → Value.okWide Try.prog W .any base t v := hval0
  have hW' := hW
  obtain ⟨p, q, hA0, hV, rfl, hfz, hnd⟩ := hW
  have hA : DataW.TrodAll enc Try.prog W 0 (fun _ => true) true Try.f9.params.toList args.toList ds p := hA0
  have hsz : (DataW.weightsEach Try.prog (Try.f9.params.toList ++ Rows.allSpec.plain.varTypes Try.prog) (ds ++ gs)).all (· ≤ reachBytes) = true := hsz0
  rw [Try.params9] at hA hval hsz
  obtain ⟨v0, vs0, d0, ds0, p0, q0, hargs, rfl, rfl, h0, r0⟩ := trodAll_cons hA
  obtain ⟨rfl, rfl, rfl⟩ := trodAll_nil r0
  obtain rfl : args = #[v0] := by cases args; simp_all
  obtain ⟨rfl, rfl⟩ := trodVars_none hV
  obtain ⟨sa, n, c, rfl⟩ := okWide_slice Try.underlying22 (hval 0 22 v0 rfl rfl)
  have k0 := h0
  have lt0 : ∀ x ∈ p0, x.block < W.heap.size := by obtain ⟨m, hm⟩ := k0; exact DataW.trod_lt m _ _ _ hm
  have hwt : ∀ m ∈ d0.weights Try.prog 22, m ≤ reachBytes := fun m hm => by
    have := List.all_eq_true.1 hsz _ (DataW.weights_mem_each (j := 0) (t := 22) (d := d0) rfl rfl m hm)
    simpa using this
  obtain ⟨ops, e1, e2, e3, e4, e5⟩ : ∃ ops : List Rec, ops.length = n ∧ (6 + n) * 104 ≤ 140737488355328 ∧ (sa = none → n = 0) ∧ (∀ a, sa = some a → ∀ j v, (flat ops)[j]? = some v → W.cell? (a.add j) = some v) ∧ ∀ r ∈ ops, r.t.size + 1 ≤ 140737488355328 ∧ I64 r.on ∧ I64 r.aa := by
    obtain ⟨fuel, hf⟩ := h0
    exact open_script2 (by simpa [Value.cells] using hf) hwt
  clear hA0 hval0 hsz0
  refine (all_walk sa n c ops W e1 e2 e3 e4 e5).mono fun e W' ⟨he, bel⟩ => ?_
  subst he
  exact ⟨_, rfl, _, _, _, [], _, [], hW', trodAll_mk1 (shut_bool Try.underlying4 _), (trodAll_cons_mk (Below.trod laidOut (by kernel_rfl) (of_decide_eq_true (by kernel_rfl)) k0 bel lt0) trodAll_mk0), rfl, bel.frame _, fun h => by cases h⟩

theorem all_holds : Rows.AllSaid :=
  OpenClaim.holds_of_wide 9 Try.f9 rfl rfl rfl rfl rfl rfl rfl ⟨rfl, rfl, rfl, rfl, rfl⟩ rfl rfl rfl rfl rfl (by kernel_rfl) Try.func9 (by kernel_rfl)
    (of_decide_eq_true (by kernel_rfl)) (by unfold Func.isWrapper; first | (rw [if_pos (by decide +kernel)]; kernel_rfl) | (rw [if_neg (by decide +kernel)]; exact ⟨rfl, rfl⟩))
    (fun os started H enc _ => all_lifted os started H enc)
end Go.Proofs.Ytabahmcbhapbiaa
