import Derived.Test.YtabahmcbhapbiaaQPly
import Derived.ProofKit
import Derived.OpenShut
import Derived.SizedLaws
import Derived.Deep.Slices
import Derived.Below
namespace Go.Proofs.Ytabahmcbhapbiaa
open Go.ChangeShapes Go.WideShapes Go.ChangeAt Go.RowKit
set_option linter.unusedVariables false

theorem own : ownKnob Try.prog.godebug = none := by kernel_rfl
theorem laidOut : laidOutB Try.prog = true := by kernel_rfl

/-! The script's cells. -/
theorem cellsInt : Try.prog.cellsOf 3 = 1 := by kernel_rfl
theorem cellsStr : Try.prog.cellsOf 9 = 1 := by kernel_rfl
theorem cellsOp4 : Try.prog.cellsOf 26 = 4 := by kernel_rfl
theorem cellsRec : Try.prog.cellsOf 68 = 12 := by kernel_rfl
theorem bytesRec : Try.prog.bytesOf 68 = 104 := by kernel_rfl

theorem list4 {α : Type} : ∀ {l : List α}, l.length = 4 → ∃ a b c d, l = [a, b, c, d]
  | [a, b, c, d], _ => ⟨a, b, c, d, rfl⟩
theorem list12 {α : Type} : ∀ {l : List α}, l.length = 12 → ∃ a b c d e f g h i j k m, l = [a, b, c, d, e, f, g, h, i, j, k, m]
  | [a, b, c, d, e, f, g, h, i, j, k, m], _ => ⟨a, b, c, d, e, f, g, h, i, j, k, m, rfl⟩
theorem reach_eq : reachBytes = 140737488351232 := by kernel_rfl

section
variable {H : Type} {enc : TypeId × Value → H} {w : World} {base : Nat} {spare : Nat → Bool} {held : Bool}

theorem open_op4 {fuel : Nat} {cs : List Value} {x : DataW H × List MemPlace} (h : DataW.trod enc Try.prog w base spare held fuel 26 cs = some x) :
    ∃ k p b s : Int, cs = [.int .i64 k, .int .i64 p, .int .i64 b, .int .i64 s] := by
  obtain ⟨xs, n, rfl, rfl, hl, hxl, hf⟩ := DataW.trod_struct Try.underlying26 h
  rw [cellsOp4] at hl
  have hx : xs.length = 4 := hxl
  obtain ⟨y0, e0⟩ : ∃ y, xs[0]? = some y := ⟨_, List.getElem?_eq_getElem (by omega)⟩
  obtain ⟨y1, e1⟩ : ∃ y, xs[1]? = some y := ⟨_, List.getElem?_eq_getElem (by omega)⟩
  obtain ⟨y2, e2⟩ : ∃ y, xs[2]? = some y := ⟨_, List.getElem?_eq_getElem (by omega)⟩
  obtain ⟨y3, e3⟩ : ∃ y, xs[3]? = some y := ⟨_, List.getElem?_eq_getElem (by omega)⟩
  have g0 : DataW.trod enc Try.prog w base spare held n 3 ((cs.drop 0).take (Try.prog.cellsOf 3)) = xs[0]? := hf 0 _ rfl
  have g1 : DataW.trod enc Try.prog w base spare held n 3 ((cs.drop 1).take (Try.prog.cellsOf 3)) = xs[1]? := hf 1 _ rfl
  have g2 : DataW.trod enc Try.prog w base spare held n 3 ((cs.drop 2).take (Try.prog.cellsOf 3)) = xs[2]? := hf 2 _ rfl
  have g3 : DataW.trod enc Try.prog w base spare held n 3 ((cs.drop 3).take (Try.prog.cellsOf 3)) = xs[3]? := hf 3 _ rfl
  rw [cellsInt] at g0 g1 g2 g3
  obtain ⟨k, hk, _, _⟩ := DataW.trod_int Try.underlying3 (g0.trans e0)
  obtain ⟨p, hp, _, _⟩ := DataW.trod_int Try.underlying3 (g1.trans e1)
  obtain ⟨b, hb, _, _⟩ := DataW.trod_int Try.underlying3 (g2.trans e2)
  obtain ⟨s, hs, _, _⟩ := DataW.trod_int Try.underlying3 (g3.trans e3)
  obtain ⟨c0, c1, c2, c3, rfl⟩ := list4 hl
  simp at hk hp hb hs
  exact ⟨k, p, b, s, by rw [hk, hp, hb, hs]⟩

theorem open_rec {fuel : Nat} {cs : List Value} {x : DataW H × List MemPlace} (h : DataW.trod enc Try.prog w base spare held fuel 68 cs = some x) :
    ∃ r : Rec, cs = r.cells ∧ r.t.data.toList.length ∈ x.1.weights Try.prog 68 := by
  obtain ⟨xs, n, rfl, rfl, hl, hxl, hf⟩ := DataW.trod_struct Try.underlying68 h
  rw [cellsRec] at hl
  have hx : xs.length = 6 := hxl
  obtain ⟨y0, e0⟩ : ∃ y, xs[0]? = some y := ⟨_, List.getElem?_eq_getElem (by omega)⟩
  obtain ⟨y1, e1⟩ : ∃ y, xs[1]? = some y := ⟨_, List.getElem?_eq_getElem (by omega)⟩
  obtain ⟨y2, e2⟩ : ∃ y, xs[2]? = some y := ⟨_, List.getElem?_eq_getElem (by omega)⟩
  obtain ⟨y3, e3⟩ : ∃ y, xs[3]? = some y := ⟨_, List.getElem?_eq_getElem (by omega)⟩
  obtain ⟨y4, e4⟩ : ∃ y, xs[4]? = some y := ⟨_, List.getElem?_eq_getElem (by omega)⟩
  obtain ⟨y5, e5⟩ : ∃ y, xs[5]? = some y := ⟨_, List.getElem?_eq_getElem (by omega)⟩
  have g0 : DataW.trod enc Try.prog w base spare held n 3 ((cs.drop 0).take (Try.prog.cellsOf 3)) = xs[0]? := hf 0 _ rfl
  have g1 : DataW.trod enc Try.prog w base spare held n 3 ((cs.drop 1).take (Try.prog.cellsOf 3)) = xs[1]? := hf 1 _ rfl
  have g2 : DataW.trod enc Try.prog w base spare held n 3 ((cs.drop 2).take (Try.prog.cellsOf 3)) = xs[2]? := hf 2 _ rfl
  have g3 : DataW.trod enc Try.prog w base spare held n 9 ((cs.drop 3).take (Try.prog.cellsOf 9)) = xs[3]? := hf 3 _ rfl
  have g4 : DataW.trod enc Try.prog w base spare held n 26 ((cs.drop 4).take (Try.prog.cellsOf 26)) = xs[4]? := hf 4 _ rfl
  have g5 : DataW.trod enc Try.prog w base spare held n 26 ((cs.drop 8).take (Try.prog.cellsOf 26)) = xs[5]? := hf 5 _ rfl
  rw [cellsInt] at g0 g1 g2
  rw [cellsStr] at g3
  rw [cellsOp4] at g4 g5
  obtain ⟨kd, h0, _, _⟩ := DataW.trod_int Try.underlying3 (g0.trans e0)
  obtain ⟨on, h1, _, _⟩ := DataW.trod_int Try.underlying3 (g1.trans e1)
  obtain ⟨aa, h2, _, _⟩ := DataW.trod_int Try.underlying3 (g2.trans e2)
  obtain ⟨t, h3, hy3, _⟩ := DataW.trod_string Try.underlying9 (g3.trans e3)
  obtain ⟨xk, xp, xb, xs', h4⟩ := open_op4 (g4.trans e4)
  obtain ⟨yk, yp, yb, ys, h5⟩ := open_op4 (g5.trans e5)
  refine ⟨⟨kd, on, aa, t, xk, xp, xb, xs', yk, yp, yb, ys⟩, ?_, ?_⟩
  · obtain ⟨c0, c1, c2, c3, c4, c5, c6, c7, c8, c9, c10, c11, rfl⟩ := list12 hl
    simp at h0 h1 h2 h3 h4 h5
    obtain ⟨h4a, h4b, h4c, h4d⟩ := h4
    obtain ⟨h5a, h5b, h5c, h5d⟩ := h5
    simp only [Rec.cells, h0, h1, h2, h3, h4a, h4b, h4c, h4d, h5a, h5b, h5c, h5d]
  · simp only [DataW.weights, Try.underlying68]
    refine DataW.weights_mem_each (j := 3) (t := 9) (d := .lit (.string t.data.toList)) rfl ?_ _ (by simp [DataW.weights])
    rw [List.getElem?_map, e3, hy3]; rfl

theorem weightsAll_mem {P : Program} {e : TypeId} : ∀ {l : List (DataW H)} {d : DataW H}, d ∈ l → ∀ n ∈ d.weights P e, n ∈ DataW.weightsAll P e l
  | d0 :: l, d, hd, n, hn => by
    simp only [DataW.weightsAll, List.mem_append]
    rcases List.mem_cons.1 hd with rfl | h
    · exact Or.inl hn
    · exact Or.inr (weightsAll_mem h n hn)

/-- WHAT A SCRIPT IS THAT CAN BE READ. -/
theorem open_script {fuel : Nat} {sa : Option Addr} {n c : Nat} {d : DataW H} {ps : List MemPlace} (h : DataW.trod enc Try.prog w base spare held fuel 22 [.slice sa n c] = some (d, ps))
    (hw : ∀ m ∈ d.weights Try.prog 22, m ≤ reachBytes) :
    ∃ ops : List Rec, ops.length = n ∧ (6 + n) * 104 ≤ 140737488355328 ∧ (sa = none → n = 0) ∧ (∀ a, sa = some a → ∀ j v, (flat ops)[j]? = some v → w.cell? (a.add j) = some v) ∧ ∀ r ∈ ops, r.t.size + 1 ≤ 140737488355328 := by
  have hrb := reach_eq
  rcases Deep.open_slice Try.underlying22 h with ⟨hcs, hx⟩ | ⟨a, len, cap, m, nn, D, Pl, hcs, _, hlc, _, hm, hx, hel⟩
  · simp at hcs
    obtain ⟨rfl, rfl, rfl⟩ := hcs
    exact ⟨[], rfl, by omega, fun _ => rfl, fun a ha => (by cases ha), fun r hr => (by cases hr)⟩
  · simp at hcs
    obtain ⟨rfl, rfl, rfl⟩ := hcs
    have hd := congrArg Prod.fst hx
    simp only at hd
    rw [hd] at hw
    clear hx hd h
    have hnm : n ≤ m := by rw [hm]; split <;> omega
    have hbig : (n + (m - n)) * 104 ≤ reachBytes := by
      refine hw _ ?_
      simp only [DataW.weights, Try.underlying22, bytesRec, List.length_map, List.length_range]
      exact List.mem_cons_self
    have hI : Inhabited Rec := ⟨⟨0, 0, 0, ⟨#[]⟩, 0, 0, 0, 0, 0, 0, 0, 0⟩⟩
    obtain ⟨f, hf⟩ := Deep.choose_lt (α := Rec) (n := n) (p := fun i r => (∀ k, k < 12 → w.cell? (a.add (i * 12 + k)) = r.cells[k]?) ∧ r.t.size + 1 ≤ 140737488355328) (fun i hi => by
      obtain ⟨cs', h1, h2⟩ := hel i (by omega)
      obtain ⟨r, hr, hrw⟩ := open_rec h2
      rw [cellsRec] at h1
      obtain ⟨_, _, hcell⟩ := World.cells?_some h1
      refine ⟨r, fun k hk => ?_, ?_⟩
      · have := hcell k hk
        rw [Deep.add_add] at this
        rw [this, hr]
      · have hle := hw r.t.data.toList.length (by
          simp only [DataW.weights, Try.underlying22]
          refine List.mem_cons_of_mem _ (List.mem_append_left _ (weightsAll_mem (d := D i) (List.mem_map.2 ⟨i, List.mem_range.2 hi, rfl⟩) _ hrw)))
        have e : r.t.data.toList.length = r.t.size := by simp
        omega)
    refine ⟨(List.range n).map f, by simp, by omega, fun h => (by cases h), fun a' ha j v hj => ?_, fun r hr => ?_⟩
    · cases ha
      have hjl : j < n * 12 := by
        have := (List.getElem?_eq_some_iff.1 hj).1
        rw [flat_len] at this
        simpa using this
      have hk : j / 12 < n := by omega
      have hji : j / 12 * 12 + j % 12 = j := by omega
      rw [← hji, flat_at _ (j / 12) (j % 12) (by simpa using hk) (by omega)] at hj
      rw [← hji, (hf (j / 12) hk).1 (j % 12) (by omega)]
      simpa using hj
    · obtain ⟨i, hi, rfl⟩ := List.mem_map.1 hr
      exact (hf i (List.mem_range.1 hi)).2
end

set_option maxHeartbeats 1000000 in
theorem ops_walk (sa : Option Addr) (n c : Nat) (ops : List Rec) (w : World) (hn : ops.length = n) (hbig : (6 + n) * 104 ≤ 140737488355328)
    (hnil : sa = none → n = 0) (hsrc : ∀ a, sa = some a → ∀ j v, (flat ops)[j]? = some v → w.cell? (a.add j) = some v) (ht : ∀ r ∈ ops, r.t.size + 1 ≤ 140737488355328) :
    Calls Try.prog 3 #[.slice sa n c] w fun e w' => e = .returned (.bool true) ∧ Below w.heap.size w w' := by
  have HP : Hid (Calls Try.prog 12 #[.slice sa n c, .int .i64 3] w fun e w' => e = .returned (.bool true) ∧ Below w.heap.size w w') := plays_any sa n c ops w hn hbig hnil hsrc ht
  clear hn hbig hnil hsrc ht
  go_enter Try.func3, Try.ntmps3
  go_wp2_with fail
  refine HP.out.mono ?_
  rintro e w1 ⟨rfl, hb⟩
  go_wp2
  go_ret
  exact ⟨rfl, hb⟩

set_option maxRecDepth 100000 in
theorem lifted (os : Os) (started : os.Started) (H : Type) (enc : TypeId × Value → H) :
    ReturnsInHanded {} Try.checked os 3 .any (Rows.opsSpec.pre6 enc Try.prog Try.f3 Rows.opsRow.domain false) (Rows.opsSpec.post enc Try.prog Try.f3 false true false false) := by
  refine returnsInHanded_of_change_sized (C := Try.checked) own started (by kernel_rfl) Try.func3
    (ChangeSpec.witness6 (enc := enc) (C := Try.checked) false ⟨#[], #[.slice none 0 0], []⟩ 8 (by kernel_rfl) (by kernel_rfl) (by kernel_rfl) (by kernel_rfl)) ?_
  intro W base args ds gs before hval0 hW hcnd hsz0 _
  have hval : ∀ (j : Nat) t v, Try.f3.params[j]? = some t → args[j]? = some v → Value.okWide Try.prog W .any base t v := hval0
  have hW' := hW
  obtain ⟨p, q, hA0, hV, rfl, hfz, hnd⟩ := hW
  have hA : DataW.TrodAll enc Try.prog W 0 (fun _ => true) true Try.f3.params.toList args.toList ds p := hA0
  have hsz : (DataW.weightsEach Try.prog (Try.f3.params.toList ++ Rows.opsSpec.plain.varTypes Try.prog) (ds ++ gs)).all (· ≤ reachBytes) = true := hsz0
  rw [Try.params3] at hA hval hsz
  obtain ⟨v0, vs0, d0, ds0, p0, q0, hargs, rfl, rfl, h0, r0⟩ := trodAll_cons hA
  obtain ⟨rfl, rfl, rfl⟩ := trodAll_nil r0
  obtain rfl : args = #[v0] := by cases args; simp_all
  obtain ⟨rfl, rfl⟩ := trodVars_none hV
  obtain ⟨sa, n, c, rfl⟩ := okWide_slice Try.underlying22 (hval 0 22 v0 rfl rfl)
  have k0 := h0
  have lt0 : ∀ x ∈ p0, x.block < W.heap.size := by obtain ⟨m, hm⟩ := k0; exact DataW.trod_lt m _ _ _ hm
  have hwt : ∀ m ∈ d0.weights Try.prog 22, m ≤ reachBytes := fun m hm => by
    have := List.all_eq_true.1 hsz _ (DataW.weights_mem_each (j := 0) (t := 22) (d := d0) rfl rfl m hm)
    simpa using this
  obtain ⟨ops, e1, e2, e3, e4, e5⟩ : ∃ ops : List Rec, ops.length = n ∧ (6 + n) * 104 ≤ 140737488355328 ∧ (sa = none → n = 0) ∧ (∀ a, sa = some a → ∀ j v, (flat ops)[j]? = some v → W.cell? (a.add j) = some v) ∧ ∀ r ∈ ops, r.t.size + 1 ≤ 140737488355328 := by
    obtain ⟨fuel, hf⟩ := h0
    exact open_script (by simpa [Value.cells] using hf) hwt
  clear hA0 hval0 hsz0
  refine (ops_walk sa n c ops W e1 e2 e3 e4 e5).mono fun e W' ⟨he, bel⟩ => ?_
  subst he
  exact ⟨_, rfl, _, _, _, [], _, [], hW', trodAll_mk1 (shut_bool Try.underlying4 _), (trodAll_cons_mk (Below.trod laidOut (by kernel_rfl) (of_decide_eq_true (by kernel_rfl)) k0 bel lt0) trodAll_mk0), rfl, bel.frame _, fun h => by cases h⟩

theorem ops_holds : Rows.OpsSaid :=
  OpenClaim.holds_of_wide 3 Try.f3 rfl rfl rfl rfl rfl rfl rfl ⟨rfl, rfl, rfl, rfl, rfl⟩ rfl rfl rfl rfl rfl (by kernel_rfl) Try.func3 (by kernel_rfl)
    (of_decide_eq_true (by kernel_rfl)) (by unfold Func.isWrapper; first | (rw [if_pos (by decide +kernel)]; kernel_rfl) | (rw [if_neg (by decide +kernel)]; exact ⟨rfl, rfl⟩))
    (fun os started H enc _ => lifted os started H enc)
end Go.Proofs.Ytabahmcbhapbiaa
