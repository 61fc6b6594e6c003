import Derived.Test.YtabahmcbhapbiaaQLawA
namespace Go.Proofs.Ytabahmcbhapbiaa
open Go.RowKit Go.Lib
set_option linter.unusedVariables false
/-- A script up to Text: as the document says. -/
theorem talk_plays (sa : Option Addr) (n c : Nat) (ops : List Rec) (w : World) (hn : ops.length = n) (hbig : (6 + n) * 104 ≤ 140737488355328)
    (hnil : sa = none → n = 0) (hsrc : ∀ a, sa = some a → ∀ j v, (flat ops)[j]? = some v → w.cell? (a.add j) = some v) (ht : ∀ r ∈ ops, r.t.size + 1 ≤ 140737488355328 ∧ I64 r.on ∧ I64 r.aa) :
    Calls Try.prog 12 #[.slice sa n c, .int .i64 8] w fun e w' => e = .returned (.bool true) ∧ Below w.heap.size w w' := by
  refine plays_gen 8 (by decide) sa n c ops w hn hbig hnil hsrc (fun W2 g hr hb hz h0 h1 hf => ⟨_, lawPlays (Q := fun _ _ W => W.cell? ⟨w.heap.size, 1, none⟩ = some (.slice none 0 0)) (by decide) ?_ hr hb hz h0 h1 hf ht h1 ?_ ?_ ?_ ?_⟩)
  · rw [List.length_append, hn]
    exact hbig
  · intro k Z W W' hq _ _ he
    exact he.trans hq
  · intro k Z W hq
    exact hq
  · intro k Z W _ _ hq
    refine (looks_none _ _ hq).mono ?_
    rintro e w' ⟨rfl, rfl⟩
    exact ⟨rfl, Below.refl _ _⟩
  · intro k Z W n p own r _ _ _ _ _ _ _ _ h9 hl
    omega
end Go.Proofs.Ytabahmcbhapbiaa

namespace Go.Proofs.Ytabahmcbhapbiaa
open Go.ChangeShapes Go.WideShapes Go.ChangeAt Go.RowKit
set_option linter.unusedVariables false
set_option maxHeartbeats 1000000 in
theorem talks_walk (sa : Option Addr) (n c : Nat) (ops : List Rec) (w : World) (hn : ops.length = n) (hbig : (6 + n) * 104 ≤ 140737488355328)
    (hnil : sa = none → n = 0) (hsrc : ∀ a, sa = some a → ∀ j v, (flat ops)[j]? = some v → w.cell? (a.add j) = some v) (ht : ∀ r ∈ ops, r.t.size + 1 ≤ 140737488355328 ∧ I64 r.on ∧ I64 r.aa) :
    Calls Try.prog 6 #[.slice sa n c] w fun e w' => e = .returned (.bool true) ∧ Below w.heap.size w w' := by
  have HP : Hid (Calls Try.prog 12 #[.slice sa n c, .int .i64 8] w fun e w' => e = .returned (.bool true) ∧ Below w.heap.size w w') := talk_plays sa n c ops w hn hbig hnil hsrc ht
  clear hn hbig hnil hsrc ht
  go_enter Try.func6, Try.ntmps6
  go_wp2_with fail
  refine HP.out.mono ?_
  rintro e w1 ⟨rfl, hb⟩
  go_wp2
  go_ret
  exact ⟨rfl, hb⟩

set_option maxRecDepth 100000 in
theorem talks_lifted (os : Os) (started : os.Started) (H : Type) (enc : TypeId × Value → H) :
    ReturnsInHanded {} Try.checked os 6 .any (Rows.talksSpec.pre6 enc Try.prog Try.f6 Rows.talksRow.domain false) (Rows.talksSpec.post enc Try.prog Try.f6 false true false false) := by
  refine returnsInHanded_of_change_sized (C := Try.checked) own started (by kernel_rfl) Try.func6
    (ChangeSpec.witness6 (enc := enc) (C := Try.checked) false ⟨#[], #[.slice none 0 0], []⟩ 8 (by kernel_rfl) (by kernel_rfl) (by kernel_rfl) (by kernel_rfl)) ?_
  intro W base args ds gs before hval0 hW hcnd hsz0 _
  have hval : ∀ (j : Nat) t v, Try.f6.params[j]? = some t → args[j]? = some v → Value.okWide Try.prog W .any base t v := hval0
  have hW' := hW
  obtain ⟨p, q, hA0, hV, rfl, hfz, hnd⟩ := hW
  have hA : DataW.TrodAll enc Try.prog W 0 (fun _ => true) true Try.f6.params.toList args.toList ds p := hA0
  have hsz : (DataW.weightsEach Try.prog (Try.f6.params.toList ++ Rows.talksSpec.plain.varTypes Try.prog) (ds ++ gs)).all (· ≤ reachBytes) = true := hsz0
  rw [Try.params6] at hA hval hsz
  obtain ⟨v0, vs0, d0, ds0, p0, q0, hargs, rfl, rfl, h0, r0⟩ := trodAll_cons hA
  obtain ⟨rfl, rfl, rfl⟩ := trodAll_nil r0
  obtain rfl : args = #[v0] := by cases args; simp_all
  obtain ⟨rfl, rfl⟩ := trodVars_none hV
  obtain ⟨sa, n, c, rfl⟩ := okWide_slice Try.underlying22 (hval 0 22 v0 rfl rfl)
  have k0 := h0
  have lt0 : ∀ x ∈ p0, x.block < W.heap.size := by obtain ⟨m, hm⟩ := k0; exact DataW.trod_lt m _ _ _ hm
  have hwt : ∀ m ∈ d0.weights Try.prog 22, m ≤ reachBytes := fun m hm => by
    have := List.all_eq_true.1 hsz _ (DataW.weights_mem_each (j := 0) (t := 22) (d := d0) rfl rfl m hm)
    simpa using this
  obtain ⟨ops, e1, e2, e3, e4, e5⟩ : ∃ ops : List Rec, ops.length = n ∧ (6 + n) * 104 ≤ 140737488355328 ∧ (sa = none → n = 0) ∧ (∀ a, sa = some a → ∀ j v, (flat ops)[j]? = some v → W.cell? (a.add j) = some v) ∧ ∀ r ∈ ops, r.t.size + 1 ≤ 140737488355328 ∧ I64 r.on ∧ I64 r.aa := by
    obtain ⟨fuel, hf⟩ := h0
    exact open_script2 (by simpa [Value.cells] using hf) hwt
  clear hA0 hval0 hsz0
  refine (talks_walk sa n c ops W e1 e2 e3 e4 e5).mono fun e W' ⟨he, bel⟩ => ?_
  subst he
  exact ⟨_, rfl, _, _, _, [], _, [], hW', trodAll_mk1 (shut_bool Try.underlying4 _), (trodAll_cons_mk (Below.trod laidOut (by kernel_rfl) (of_decide_eq_true (by kernel_rfl)) k0 bel lt0) trodAll_mk0), rfl, bel.frame _, fun h => by cases h⟩

theorem talks_holds : Rows.TalksSaid :=
  OpenClaim.holds_of_wide 6 Try.f6 rfl rfl rfl rfl rfl rfl rfl ⟨rfl, rfl, rfl, rfl, rfl⟩ rfl rfl rfl rfl rfl (by kernel_rfl) Try.func6 (by kernel_rfl)
    (of_decide_eq_true (by kernel_rfl)) (by unfold Func.isWrapper; first | (rw [if_pos (by decide +kernel)]; kernel_rfl) | (rw [if_neg (by decide +kernel)]; exact ⟨rfl, rfl⟩))
    (fun os started H enc _ => talks_lifted os started H enc)
end Go.Proofs.Ytabahmcbhapbiaa
