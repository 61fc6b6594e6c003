import Derived.Test.YtabahmcbhapbiaaQOps
import Derived.Test.YtabahmcbhapbiaaQKOpen
import Derived.Test.YtabahmcbhapbiaaQPly
import Derived.Test.YtabahmcbhapbiaaQRefM
import Derived.Test.YtabahmcbhapbiaaQDevInv
import Derived.Test.YtabahmcbhapbiaaQDevNew
import Derived.Test.YtabahmcbhapbiaaQRefNew
import Derived.Test.YtabahmcbhapbiaaQPlain
import Derived.Deep.DeepCutAuto
import Derived.Deep.RegionHeld3
import Derived.Test.YtabahmcbhapbiaaQRefDown
import Derived.Test.YtabahmcbhapbiaaQRefX
import Derived.Test.YtabahmcbhapbiaaQDevText
import Derived.Test.YtabahmcbhapbiaaQRefCalls
import Derived.Test.YtabahmcbhapbiaaQRefUp
import Derived.Test.YtabahmcbhapbiaaQRefTypeOk
import Derived.Test.YtabahmcbhapbiaaQRefTypeOk2
namespace Go.Proofs.Ytabahmcbhapbiaa
open Go.ChangeShapes Go.WideShapes Go.ChangeAt Go.RowKit
set_option linter.unusedVariables false
section
variable {H : Type} {enc : TypeId × Value → H} {w : World} {base : Nat} {spare : Nat → Bool} {held : Bool}

theorem open_rec2 {fuel : Nat} {cs : List Value} {x : DataW H × List MemPlace} (h : DataW.trod enc Try.prog w base spare held fuel 68 cs = some x) :
    ∃ r : Rec, cs = r.cells ∧ r.t.data.toList.length ∈ x.1.weights Try.prog 68 ∧ I64 r.on ∧ I64 r.aa := by
  obtain ⟨xs, n, rfl, rfl, hl, hxl, hf⟩ := DataW.trod_struct Try.underlying68 h
  rw [cellsRec] at hl
  have hx : xs.length = 6 := hxl
  obtain ⟨y0, e0⟩ : ∃ y, xs[0]? = some y := ⟨_, List.getElem?_eq_getElem (by omega)⟩
  obtain ⟨y1, e1⟩ : ∃ y, xs[1]? = some y := ⟨_, List.getElem?_eq_getElem (by omega)⟩
  obtain ⟨y2, e2⟩ : ∃ y, xs[2]? = some y := ⟨_, List.getElem?_eq_getElem (by omega)⟩
  obtain ⟨y3, e3⟩ : ∃ y, xs[3]? = some y := ⟨_, List.getElem?_eq_getElem (by omega)⟩
  obtain ⟨y4, e4⟩ : ∃ y, xs[4]? = some y := ⟨_, List.getElem?_eq_getElem (by omega)⟩
  obtain ⟨y5, e5⟩ : ∃ y, xs[5]? = some y := ⟨_, List.getElem?_eq_getElem (by omega)⟩
  have g0 : DataW.trod enc Try.prog w base spare held n 3 ((cs.drop 0).take (Try.prog.cellsOf 3)) = xs[0]? := hf 0 _ rfl
  have g1 : DataW.trod enc Try.prog w base spare held n 3 ((cs.drop 1).take (Try.prog.cellsOf 3)) = xs[1]? := hf 1 _ rfl
  have g2 : DataW.trod enc Try.prog w base spare held n 3 ((cs.drop 2).take (Try.prog.cellsOf 3)) = xs[2]? := hf 2 _ rfl
  have g3 : DataW.trod enc Try.prog w base spare held n 9 ((cs.drop 3).take (Try.prog.cellsOf 9)) = xs[3]? := hf 3 _ rfl
  have g4 : DataW.trod enc Try.prog w base spare held n 26 ((cs.drop 4).take (Try.prog.cellsOf 26)) = xs[4]? := hf 4 _ rfl
  have g5 : DataW.trod enc Try.prog w base spare held n 26 ((cs.drop 8).take (Try.prog.cellsOf 26)) = xs[5]? := hf 5 _ rfl
  rw [cellsInt] at g0 g1 g2
  rw [cellsStr] at g3
  rw [cellsOp4] at g4 g5
  obtain ⟨kd, h0, _, _⟩ := DataW.trod_int Try.underlying3 (g0.trans e0)
  obtain ⟨on, h1, _, z1⟩ := DataW.trod_int Try.underlying3 (g1.trans e1)
  obtain ⟨aa, h2, _, z2⟩ := DataW.trod_int Try.underlying3 (g2.trans e2)
  obtain ⟨t, h3, hy3, _⟩ := DataW.trod_string Try.underlying9 (g3.trans e3)
  obtain ⟨xk, xp, xb, xs', h4⟩ := open_op4 (g4.trans e4)
  obtain ⟨yk, yp, yb, ys, h5⟩ := open_op4 (g5.trans e5)
  refine ⟨⟨kd, on, aa, t, xk, xp, xb, xs', yk, yp, yb, ys⟩, ?_, ?_, i64_wf z1, i64_wf z2⟩
  · obtain ⟨c0, c1, c2, c3, c4, c5, c6, c7, c8, c9, c10, c11, rfl⟩ := list12 hl
    simp at h0 h1 h2 h3 h4 h5
    obtain ⟨h4a, h4b, h4c, h4d⟩ := h4
    obtain ⟨h5a, h5b, h5c, h5d⟩ := h5
    simp only [Rec.cells, h0, h1, h2, h3, h4a, h4b, h4c, h4d, h5a, h5b, h5c, h5d]
  · simp only [DataW.weights, Try.underlying68]
    refine DataW.weights_mem_each (j := 3) (t := 9) (d := .lit (.string t.data.toList)) rfl ?_ _ (by simp [DataW.weights])
    rw [List.getElem?_map, e3, hy3]; rfl

/-- WHAT A SCRIPT IS THAT CAN BE READ. -/
theorem open_script2 {fuel : Nat} {sa : Option Addr} {n c : Nat} {d : DataW H} {ps : List MemPlace} (h : DataW.trod enc Try.prog w base spare held fuel 22 [.slice sa n c] = some (d, ps))
    (hw : ∀ m ∈ d.weights Try.prog 22, m ≤ reachBytes) :
    ∃ ops : List Rec, ops.length = n ∧ (6 + n) * 104 ≤ 140737488355328 ∧ (sa = none → n = 0) ∧ (∀ a, sa = some a → ∀ j v, (flat ops)[j]? = some v → w.cell? (a.add j) = some v) ∧ ∀ r ∈ ops, r.t.size + 1 ≤ 140737488355328 ∧ I64 r.on ∧ I64 r.aa := by
  have hrb := reach_eq
  rcases Deep.open_slice Try.underlying22 h with ⟨hcs, hx⟩ | ⟨a, len, cap, m, nn, D, Pl, hcs, _, hlc, _, hm, hx, hel⟩
  · simp at hcs
    obtain ⟨rfl, rfl, rfl⟩ := hcs
    exact ⟨[], rfl, by omega, fun _ => rfl, fun a ha => (by cases ha), fun r hr => (by cases hr)⟩
  · simp at hcs
    obtain ⟨rfl, rfl, rfl⟩ := hcs
    have hd := congrArg Prod.fst hx
    simp only at hd
    rw [hd] at hw
    clear hx hd h
    have hnm : n ≤ m := by rw [hm]; split <;> omega
    have hbig : (n + (m - n)) * 104 ≤ reachBytes := by
      refine hw _ ?_
      simp only [DataW.weights, Try.underlying22, bytesRec, List.length_map, List.length_range]
      exact List.mem_cons_self
    have hI : Inhabited Rec := ⟨⟨0, 0, 0, ⟨#[]⟩, 0, 0, 0, 0, 0, 0, 0, 0⟩⟩
    obtain ⟨f, hf⟩ := Deep.choose_lt (α := Rec) (n := n) (p := fun i r => (∀ k, k < 12 → w.cell? (a.add (i * 12 + k)) = r.cells[k]?) ∧ r.t.size + 1 ≤ 140737488355328 ∧ I64 r.on ∧ I64 r.aa) (fun i hi => by
      obtain ⟨cs', h1, h2⟩ := hel i (by omega)
      obtain ⟨r, hr, hrw, z1, z2⟩ := open_rec2 h2
      rw [cellsRec] at h1
      obtain ⟨_, _, hcell⟩ := World.cells?_some h1
      refine ⟨r, fun k hk => ?_, ?_, z1, z2⟩
      · have := hcell k hk
        rw [Deep.add_add] at this
        rw [this, hr]
      · have hle := hw r.t.data.toList.length (by
          simp only [DataW.weights, Try.underlying22]
          refine List.mem_cons_of_mem _ (List.mem_append_left _ (weightsAll_mem (d := D i) (List.mem_map.2 ⟨i, List.mem_range.2 hi, rfl⟩) _ hrw)))
        have e : r.t.data.toList.length = r.t.size := by simp
        omega)
    refine ⟨(List.range n).map f, by simp, by omega, fun h => (by cases h), fun a' ha j v hj => ?_, fun r hr => ?_⟩
    · cases ha
      have hjl : j < n * 12 := by
        have := (List.getElem?_eq_some_iff.1 hj).1
        rw [flat_len] at this
        simpa using this
      have hk : j / 12 < n := by omega
      have hji : j / 12 * 12 + j % 12 = j := by omega
      rw [← hji, flat_at _ (j / 12) (j % 12) (by simpa using hk) (by omega)] at hj
      rw [← hji, (hf (j / 12) hk).1 (j % 12) (by omega)]
      simpa using hj
    · obtain ⟨i, hi, rfl⟩ := List.mem_map.1 hr
      exact (hf i (List.mem_range.1 hi)).2
end

end Go.Proofs.Ytabahmcbhapbiaa

namespace Go.Proofs.Ytabahmcbhapbiaa
open Go.RowKit Go.Lib
set_option linter.unusedVariables false
def recV (r : Rec) : Value := .agg #[.int .i64 r.kd, .int .i64 r.on, .int .i64 r.aa, .string r.t, .int .i64 r.xk, .int .i64 r.xp, .int .i64 r.xb, .int .i64 r.xs, .int .i64 r.yk, .int .i64 r.yp, .int .i64 r.yb, .int .i64 r.ys]
/-- What is told of the world ahead of each step: S k ahead of the k-th. -/
structure PlayS (w : World) (last : Int) (all : List Rec) (g : Nat) (W2 : World) (S : Nat → World → Prop) : Prop where
  zero : S 0 W2
  bel : ∀ k W, S k W → Below w.heap.size w W
  rows : ∀ k W, S k W → rowsAt W g all
  step : ∀ k W (hk : k < all.length), S k W → all[k].kd ≤ last → Calls Try.prog 28 #[.pointer (some ⟨w.heap.size, 0, none⟩), recV all[k]] W fun e w' => e = .returned (.bool true) ∧ S (k + 1) w'
  skip : ∀ k W (hk : k < all.length), S k W → last < all[k].kd → S (k + 1) W
  looks : ∀ k W, S k W → Calls Try.prog 29 #[.pointer (some ⟨w.heap.size, 0, none⟩)] W fun e w' => e = .returned (.bool true) ∧ S k w'
  some : ∀ k W, 2 ≤ k → S k W → ∃ a n c, W.cell? ⟨w.heap.size, 0, none⟩ = some (.slice a n c) ∧ 0 < n
set_option maxHeartbeats 2000000 in
set_option maxRecDepth 100000 in
theorem plays_gen (last : Int) (hl4 : 4 ≤ last) (sa : Option Addr) (n c : Nat) (ops : List Rec) (w : World) (hn : ops.length = n) (hbig : (6 + n) * 104 ≤ 140737488355328)
    (hnil : sa = none → n = 0) (hsrc : ∀ a, sa = some a → ∀ j v, (flat ops)[j]? = some v → w.cell? (a.add j) = some v)
    (hG : ∀ W2 g, rowsAt W2 g (first ++ ops) → Below w.heap.size w W2 → w.heap.size < W2.heap.size → W2.cell? ⟨w.heap.size, 0, none⟩ = some (.slice none 0 0) → W2.cell? ⟨w.heap.size, 1, none⟩ = some (.slice none 0 0) → (∀ j, W2.frozen? ⟨w.heap.size, j, none⟩ = false) → ∃ S, PlayS w last (first ++ ops) g W2 S) :
    Calls Try.prog 12 #[.slice sa n c, .int .i64 last] w fun e w' => e = .returned (.bool true) ∧ Below w.heap.size w w' := by
  have HG : Hid _ := hG
  clear hG
  obtain ⟨N, hN⟩ : ∃ N, N = 6 + n := ⟨_, rfl⟩
  rw [← hN] at hbig
  have HA : Hid (∃ v' w', (∀ ty, (Builtin.append_ #[22, 22] ty #[.slice (some ⟨w.heap.size + 1 + 1, 0, none⟩) 6 6, .slice sa n c]).run Try.prog
      (((w.alloc (.cells #[.slice none 0 0, .slice none 0 0] 66)).alloc (.cells #[.int .i64 1, .int .i64 1, .int .i64 120, .int .i64 0] 26)).alloc (.cells (flat first).toArray 68)) = .ok v' w') ∧ Laid w N (first ++ ops) v' w') :=
    plays_append w ops sa n c N hn hN hbig hnil hsrc
  have HL : Hid ((first ++ ops).length = N) := by show _ = _; rw [List.length_append, hn, hN]; rfl
  generalize first ++ ops = all at *
  clear hnil hsrc hn hN
  go_enter Try.func12, Try.ntmps12
  go_wp2_with (at_builtin; refine wpList_append_ex _ rfl _ _ _ _ rfl _ _ rfl rfl (Laid w N all) HA.out ?_; rintro v' W2 ⟨g, cap, hv, hrows, hbel, hz, hc0, hc1, hfr⟩; subst hv)
  obtain ⟨S, hS⟩ := HG.out W2 g hrows hbel hz hc0 hc1 hfr
  have HS : Hid (PlayS w last all g W2 S) := hS
  clear hrows hbel hc0 hc1 hfr HA HG hS
  go_loopw [8] (fun i wr => ∃ k : Nat, k ≤ N ∧ i = .int .i64 k ∧ S k wr) (fun i _ => N - (RowKit.intOf i).toNat)
  case atStart => exact ⟨0, Nat.zero_le _, rfl, HS.out.zero⟩
  case round =>
    obtain ⟨k, hk, rfl, hs0⟩ := hrel
    have HK : Hid (S k wr) := hs0
    by_cases hlt : k < N
    · have hlt' : k < all.length := by rw [HL.out]; exact hlt
      obtain ⟨c0, c1, c2, c3, c4, c5, c6, c7, c8, c9, c10, c11⟩ := (HS.out.rows k wr hs0).at k hlt'
      have hki : (k : Int) < (N : Int) := by omega
      have HST : Hid (all[k].kd ≤ last → Calls Try.prog 28 #[.pointer (some ⟨w.heap.size, 0, none⟩), recV all[k]] wr fun e w' => e = .returned (.bool true) ∧ S (k + 1) w') := HS.out.step k wr hlt' hs0
      have HSK : Hid (last < all[k].kd → S (k + 1) wr) := HS.out.skip k wr hlt' hs0
      generalize all[k] = r at *
      clear hlt' hs0
      by_cases hkd : r.kd ≤ last
      · have HST' : Hid (Calls Try.prog 28 #[.pointer (some ⟨w.heap.size, 0, none⟩), .agg #[.int .i64 r.kd, .int .i64 r.on, .int .i64 r.aa, .string r.t, .int .i64 r.xk, .int .i64 r.xp, .int .i64 r.xb, .int .i64 r.xs, .int .i64 r.yk, .int .i64 r.yp, .int .i64 r.yb, .int .i64 r.ys]] wr fun e w' => e = .returned (.bool true) ∧ S (k + 1) w') := HST.out hkd
        clear HST HSK
        go_wp2_with fail
        refine HST'.out.mono ?_
        rintro e w3 ⟨rfl, hs3⟩
        have HS3 : Hid (S (k + 1) w3) := hs3
        clear hs3 HST' c0 c1 c2 c3 c4 c5 c6 c7 c8 c9 c10 c11
        by_cases hk0 : 0 < k
        · obtain ⟨a0, n0, cc0, w0, hn0⟩ := HS.out.some (k + 1) w3 (by omega) HS3.out
          have hk1 : (0 : Int) < (k : Int) := by omega
          have hn1 : ¬ ((n0 : Int) = 0) := by omega
          go_wp2_with (go_at_call 29; refine (HS.out.looks _ _ HS3.out).mono ?_; rintro e w4 ⟨rfl, hs4⟩)
          all_goals exact ⟨⟨k + 1, by omega, by go_num, hs4⟩, by simp [RowKit.intOf]; omega⟩
        · have hk1 : (k : Int) ≤ 0 := by omega
          go_wp2_with (go_at_call 29; refine (HS.out.looks _ _ HS3.out).mono ?_; rintro e w4 ⟨rfl, hs4⟩)
          all_goals exact ⟨⟨k + 1, by omega, by go_num, hs4⟩, by simp [RowKit.intOf]; omega⟩
      · have hkd' : last < r.kd := by omega
        have HSK' : Hid (S (k + 1) wr) := HSK.out hkd'
        clear HST HSK
        go_wp2
        all_goals exact ⟨⟨k + 1, by omega, by go_num, HSK'.out⟩, by simp [RowKit.intOf]; omega⟩
    · go_wp2
      go_ret
      exact ⟨rfl, HS.out.bel k wr HK.out⟩
end Go.Proofs.Ytabahmcbhapbiaa

namespace Go.Proofs.Ytabahmcbhapbiaa
open Go.RowKit Go.Lib
set_option linter.unusedVariables false
/-- A moot of the program at xb and the document's at rb, apart from one another; own: the blocks of both. -/
def PairAt (W : World) (xb : Nat) (mx : Moo) (rb : Nat) (mr : Moo) (own : Nat → Prop) : Prop :=
  ∃ Lx ox Lr ow, DevM W xb mx Lx ox ∧ RefM W rb mr Lr ow ∧ (∀ k, ox k ≠ none → ow k = none) ∧ ∀ k, own k ↔ (ox k ≠ none ∨ ow k ≠ none)
def PFrm (w : World) (own : Nat → Prop) (w' : World) (own' : Nat → Prop) : Prop := KeptX own w w' ∧ ∀ k, own' k → own k ∨ w.heap.size ≤ k
theorem PFrm.refl (w : World) (own : Nat → Prop) : PFrm w own w own := ⟨KeptX.refl _ _, fun _ h => Or.inl h⟩
theorem PFrm.trans {w w' w'' : World} {o o' o'' : Nat → Prop} (h : PFrm w o w' o') (k : PFrm w' o' w'' o'') : PFrm w o w'' o'' :=
  ⟨h.1.trans k.1 (fun i hi e => (h.2 i e).elim (fun x => x) (fun x => absurd hi (by omega))), fun i e => (k.2 i e).elim (fun x => h.2 i x) (fun x => Or.inr (Nat.le_trans h.1.size x))⟩
theorem PFrm.below {w w' : World} {o : Nat → Prop} (h : Below w.heap.size w w') : PFrm w o w' o := ⟨KeptX.of_below h, fun _ e => Or.inl e⟩
section
variable {W W' : World} {xb rb : Nat} {mx mr : Moo} {own : Nat → Prop}
theorem PairAt.keep {F : Nat → Prop} (h : PairAt W xb mx rb mr own) (hk : KeptX F W W') (hF : ∀ k, own k → ¬ F k) : PairAt W' xb mx rb mr own := by
  obtain ⟨Lx, ox, Lr, ow, hx, hr, ha, ho⟩ := h
  exact ⟨Lx, ox, Lr, ow, hx.keep hk (fun k e => hF k ((ho k).2 (Or.inl e))), hr.keep hk (fun k e => hF k ((ho k).2 (Or.inr e))), ha, ho⟩
theorem PairAt.below (h : PairAt W xb mx rb mr own) (hb : Below W.heap.size W W') : PairAt W' xb mx rb mr own := h.keep (KeptX.of_below (F := fun _ => False) hb) (fun _ _ e => e)
theorem PairAt.lt (h : PairAt W xb mx rb mr own) {k : Nat} (e : own k) : k < W.heap.size := by
  obtain ⟨Lx, ox, Lr, ow, hx, hr, ha, ho⟩ := h
  exact ((ho k).1 e).elim (hx.lt k) (hr.lt k)
/-- A call of the program's moot. -/
theorem PairAt.x (h : PairAt W xb mx rb mr own) : ∃ Lx ox, DevM W xb mx Lx ox ∧ ∀ w' m' L' ox', DevM w' xb m' L' ox' → DFrm W ox w' ox' → ∃ own', PairAt w' xb m' rb mr own' ∧ PFrm W own w' own' := by
  obtain ⟨Lx, ox, Lr, ow, hx, hr, ha, ho⟩ := h
  refine ⟨Lx, ox, hx, fun w' m' L' ox' hd hf => ⟨fun k => ox' k ≠ none ∨ ow k ≠ none, ⟨L', ox', Lr, ow, hd, hr.keep hf.kx (fun k e e2 => e (ha k e2)), fun k e => ?_, fun k => Iff.rfl⟩, hf.kx.mono (fun k _ e => (ho k).2 (Or.inl e)), fun k e => ?_⟩⟩
  · rcases hf.nw k e with x | x
    · exact ha k x
    · exact hr.new x
  · rcases e with e | e
    · exact (hf.nw k e).imp (fun x => (ho k).2 (Or.inl x)) id
    · exact Or.inl ((ho k).2 (Or.inr e))
/-- A call of the document's. -/
theorem PairAt.r (h : PairAt W xb mx rb mr own) : ∃ Lr ow, RefM W rb mr Lr ow ∧ ∀ w' m' L' ow', RefM w' rb m' L' ow' → Frm W ow w' ow' → ∃ own', PairAt w' xb mx rb m' own' ∧ PFrm W own w' own' := by
  obtain ⟨Lx, ox, Lr, ow, hx, hr, ha, ho⟩ := h
  refine ⟨Lr, ow, hr, fun w' m' L' ow' hd hf => ⟨fun k => ox k ≠ none ∨ ow' k ≠ none, ⟨Lx, ox, L', ow', hx.keep hf.1 (fun k e e2 => e2 (ha k e)), hd, fun k e => ?_, fun k => Iff.rfl⟩, hf.1.mono (fun k _ e => (ho k).2 (Or.inr e)), fun k e => ?_⟩⟩
  · refine Classical.byContradiction (fun c => ?_)
    rcases hf.2 k c with x | x
    · exact x (ha k e)
    · exact e (hx.fresh x)
  · rcases e with e | e
    · exact Or.inl ((ho k).2 (Or.inl e))
    · exact (hf.2 k e).imp (fun x => (ho k).2 (Or.inr x)) id
/-- Both made, one after the other. -/
theorem pair_new {w w1 w2 : World} {L1 : DLay} {o1 : Nat → Option Nat} {L2 : Lay} {o2 : Nat → Option Slot} {m : Moo} (h1 : DevM w1 xb m L1 o1) (g1 : ∀ k, o1 k ≠ none → w.heap.size ≤ k) (hb : Below w1.heap.size w1 w2) (h2 : RefM w2 rb m L2 o2) (g2 : ∀ k, o2 k ≠ none → w1.heap.size ≤ k) (hs : w.heap.size ≤ w1.heap.size) :
    ∃ own, PairAt w2 xb m rb m own ∧ ∀ k, own k → w.heap.size ≤ k := by
  refine ⟨fun k => o1 k ≠ none ∨ o2 k ≠ none, ⟨L1, o1, L2, o2, h1.below hb, h2, fun k e => ?_, fun k => Iff.rfl⟩, fun k e => e.elim (g1 k) (fun x => Nat.le_trans hs (g2 k x))⟩
  refine Classical.byContradiction (fun c => ?_)
  have := g2 k c
  have := h1.lt k e
  omega
end
structure Pr where
  xb : Nat
  rb : Nat
  first : List UInt8
  m : Moo
def updN {α : Type} (f : Nat → α) (i : Nat) (a : α) : Nat → α := fun j => if j = i then a else f j
/-- All pairs of moots, apart. -/
structure PairsAt (W : World) (n : Nat) (p : Nat → Pr) (own : Nat → Nat → Prop) : Prop where
  pa : ∀ i, i < n → PairAt W (p i).xb (p i).m (p i).rb (p i).m (own i)
  iv : ∀ i, i < n → Inv (p i).first (p i).m
  ap : ∀ i j k, i < n → j < n → own i k → own j k → i = j
section
variable {W W' : World} {n : Nat} {p : Nat → Pr} {own : Nat → Nat → Prop}
theorem PairsAt.keep {F : Nat → Prop} (h : PairsAt W n p own) (hk : KeptX F W W') (hF : ∀ i k, i < n → own i k → ¬ F k) : PairsAt W' n p own := ⟨fun i hi => (h.pa i hi).keep hk (fun k e => hF i k hi e), h.iv, h.ap⟩
theorem PairsAt.below (h : PairsAt W n p own) (hb : Below W.heap.size W W') : PairsAt W' n p own := h.keep (KeptX.of_below (F := fun _ => False) hb) (fun _ _ _ _ e => e)
/-- One of them has gone on. -/
theorem PairsAt.set (h : PairsAt W n p own) {i : Nat} (hi : i < n) {m' : Moo} {o' : Nat → Prop} (hp : PairAt W' (p i).xb m' (p i).rb m' o') (hf : PFrm W (own i) W' o') (hI : Inv (p i).first m') : PairsAt W' n (updN p i { p i with m := m' }) (updN own i o') := by
  have far : ∀ j k, j < n → j ≠ i → own j k → o' k → False := fun j k hj hji e e' => by
    rcases hf.2 k e' with x | x
    · exact hji (h.ap j i k hj hi e x)
    · have := (h.pa j hj).lt e; omega
  refine ⟨fun j hj => ?_, fun j hj => ?_, fun a b k ha hb ea eb => ?_⟩
  · by_cases e : j = i
    · subst e; simp only [updN, if_true]; exact hp
    · simp only [updN, if_neg e]; exact (h.pa j hj).keep hf.1 (fun k x y => e (h.ap j i k hj hi x y))
  · by_cases e : j = i
    · subst e; simp only [updN, if_true]; exact hI
    · simp only [updN, if_neg e]; exact h.iv j hj
  · by_cases e : a = i
    · by_cases e2 : b = i
      · rw [e, e2]
      · simp only [updN, if_neg e2] at eb
        subst e
        simp only [updN, if_true] at ea
        exact (far b k hb e2 eb ea).elim
    · simp only [updN, if_neg e] at ea
      by_cases e2 : b = i
      · subst e2
        simp only [updN, if_true] at eb
        exact (far a k ha e ea eb).elim
      · simp only [updN, if_neg e2] at eb
        exact h.ap a b k ha hb ea eb
/-- One more. -/
theorem PairsAt.add (h : PairsAt W n p own) (hb : Below W.heap.size W W') {q : Pr} {o' : Nat → Prop} (hp : PairAt W' q.xb q.m q.rb q.m o') (ho : ∀ k, o' k → W.heap.size ≤ k) (hI : Inv q.first q.m) : PairsAt W' (n + 1) (updN p n q) (updN own n o') := by
  have far : ∀ j k, j < n → own j k → o' k → False := fun j k hj e e' => by
    have := ho k e'
    have := (h.pa j hj).lt e
    omega
  refine ⟨fun j hj => ?_, fun j hj => ?_, fun a b k ha hb' ea eb => ?_⟩
  · by_cases e : j = n
    · subst e; simp only [updN, if_true]; exact hp
    · simp only [updN, if_neg e]; exact (h.pa j (by omega)).below hb
  · by_cases e : j = n
    · subst e; simp only [updN, if_true]; exact hI
    · simp only [updN, if_neg e]; exact h.iv j (by omega)
  · by_cases e : a = n
    · by_cases e2 : b = n
      · rw [e, e2]
      · simp only [updN, if_neg e2] at eb
        subst e
        simp only [updN, if_true] at ea
        exact (far b k (by omega) eb ea).elim
    · simp only [updN, if_neg e] at ea
      by_cases e2 : b = n
      · subst e2
        simp only [updN, if_true] at eb
        exact (far a k (by omega) ea eb).elim
      · simp only [updN, if_neg e2] at eb
        exact h.ap a b k (by omega) (by omega) ea eb
end
end Go.Proofs.Ytabahmcbhapbiaa

namespace Go.Proofs.Ytabahmcbhapbiaa
open Go.RowKit Go.Lib
set_option linter.unusedVariables false
def prRow (p : Nat → Pr) (i : Nat) : List Value := [.pointer (some ⟨(p i).xb, 0, none⟩), .pointer (some ⟨(p i).rb, 0, none⟩)]
theorem prRow_len (p : Nat → Pr) (i : Nat) : (prRow p i).length = 2 := rfl
theorem prRow_one (p : Nat → Pr) (i : Nat) : ∀ u ∈ prRow p i, u.oneCell' = true := by
  intro u hu
  simp only [prRow, List.mem_cons, List.not_mem_nil, or_false] at hu
  rcases hu with rfl | rfl <;> rfl
theorem infoPair : (Try.prog.info? 104).map (fun i => (i.zero, i.size, i.bytes)) = some (some (.agg #[.pointer none, .pointer none]), 2, 16) := by kernel_rfl
/-- The statement's world: its block wb, n pairs; Z: what else of the blocks must stay. -/
structure LawW (w : World) (wb n : Nat) (p : Nat → Pr) (own : Nat → Nat → Prop) (Z : Nat → Prop) (W : World) : Prop where
  kx : KeptX (fun k => k = wb) w W
  wlt : wb < w.heap.size
  fr : ∀ j, W.frozen? ⟨wb, j, none⟩ = false
  ps : PairsAt W n p own
  og : ∀ i k, i < n → own i k → w.heap.size ≤ k ∧ ¬ Z k
  zo : ∀ k, Z k → w.heap.size ≤ k ∧ k < W.heap.size
  sl : ∃ a n0 c g, W.cell? ⟨wb, 0, none⟩ = some (.slice a n0 c) ∧ RowQ W 2 (.slice a n0 c) (flatN (prRow p) n) g ∧ Off0 (.slice a n0 c) ∧ ∀ k, g = some k → w.heap.size ≤ k ∧ k < W.heap.size ∧ ¬ Z k ∧ (∀ i, i < n → ¬ own i k) ∧ ∀ i, W.frozen? ⟨k, i, none⟩ = false
section
variable {w W W' : World} {wb n : Nat} {p : Nat → Pr} {own : Nat → Nat → Prop} {Z : Nat → Prop}
theorem LawW.lt (h : LawW w wb n p own Z W) : wb < W.heap.size := Nat.lt_of_lt_of_le h.wlt h.kx.size
theorem LawW.below (h : LawW w wb n p own Z W) (hb : Below W.heap.size W W') : LawW w wb n p own Z W' := by
  have hk : KeptX (fun _ => False) W W' := KeptX.of_below hb
  obtain ⟨a, n0, c, g, c0, rq, o0, hg⟩ := h.sl
  refine ⟨h.kx.trans hk (fun _ _ e => e.elim), h.wlt, fun j => (hk.frozen (p := ⟨wb, j, none⟩) h.lt (fun e => e)).trans (h.fr j), h.ps.below hb, h.og, fun k e => ⟨(h.zo k e).1, Nat.lt_of_lt_of_le (h.zo k e).2 hk.size⟩, ⟨a, n0, c, g, (hk.cell (p := ⟨wb, 0, none⟩) h.lt (fun e => e)).trans c0, rq.keep hk (fun _ _ e => e), o0, fun k e => ?_⟩⟩
  obtain ⟨g1, g2, g3, g4, g5⟩ := hg k e
  exact ⟨g1, Nat.lt_of_lt_of_le g2 hk.size, g3, g4, fun i => (hk.frozen (p := ⟨k, i, none⟩) g2 (fun e => e)).trans (g5 i)⟩
/-- One pair has gone on. -/
theorem LawW.set (h : LawW w wb n p own Z W) {i : Nat} (hi : i < n) {m' : Moo} {o' : Nat → Prop} (hp : PairAt W' (p i).xb m' (p i).rb m' o') (hf : PFrm W (own i) W' o') (hI : Inv (p i).first m') :
    LawW w wb n (updN p i { p i with m := m' }) (updN own i o') Z W' ∧ KeptX (fun k => ¬ Z k) W W' ∧ ∀ j, W'.cell? ⟨wb, j, none⟩ = W.cell? ⟨wb, j, none⟩ := by
  have nw : ¬ own i wb := fun e => by have := (h.og i wb hi e).1; have := h.wlt; omega
  have cw : ∀ j, W'.cell? ⟨wb, j, none⟩ = W.cell? ⟨wb, j, none⟩ := fun j => hf.1.cell (p := ⟨wb, j, none⟩) h.lt nw
  have ks := h.kx.size
  obtain ⟨a, n0, c, g, c0, rq, o0, hg⟩ := h.sl
  refine ⟨⟨h.kx.trans hf.1 (fun k hk e => absurd (h.og i k hi e).1 (by omega)), h.wlt, fun j => (hf.1.frozen (p := ⟨wb, j, none⟩) h.lt nw).trans (h.fr j), h.ps.set hi hp hf hI, fun j k hj e => ?_, fun k e => ⟨(h.zo k e).1, Nat.lt_of_lt_of_le (h.zo k e).2 hf.1.size⟩, ⟨a, n0, c, g, (cw 0).trans c0, ?_, o0, fun k e => ?_⟩⟩, hf.1.mono (fun k _ e => (h.og i k hi e).2), cw⟩
  · by_cases e1 : j = i
    · subst e1
      simp only [updN, if_true] at e
      rcases hf.2 k e with x | x
      · exact h.og j k hj x
      · exact ⟨by omega, fun z => by have := (h.zo k z).2; omega⟩
    · simp only [updN, if_neg e1] at e
      exact h.og j k hj e
  · have := rq.keep hf.1 (fun k e e2 => (hg k e).2.2.2.1 i hi e2)
    rw [flatN_congr (s := prRow p) n (fun j _ => ?_)]
    · exact this
    · unfold prRow updN
      by_cases e1 : j = i
      · subst e1; simp
      · simp [e1]
  · obtain ⟨g1, g2, g3, g4, g5⟩ := hg k e
    refine ⟨g1, Nat.lt_of_lt_of_le g2 hf.1.size, g3, fun j hj e2 => ?_, fun j => (hf.1.frozen (p := ⟨k, j, none⟩) g2 (g4 i hi)).trans (g5 j)⟩
    by_cases e1 : j = i
    · subst e1
      simp only [updN, if_true] at e2
      rcases hf.2 k e2 with x | x
      · exact g4 j hj x
      · omega
    · simp only [updN, if_neg e1] at e2
      exact g4 j hj e2
/-- One pair more is put down. -/
theorem LawW.add {W1 : World} (h : LawW w wb n p own Z W) (hb : Below W.heap.size W W1) {q : Pr} {o' : Nat → Prop} (hp : PairAt W1 q.xb q.m q.rb q.m o') (ho : ∀ k, o' k → W.heap.size ≤ k) (hI : Inv q.first q.m) (hn : (n + 1) * 16 ≤ 140737488355328) :
    ∃ (a : Option Addr) (n0 c : Nat), W1.cell? ⟨wb, 0, none⟩ = some (.slice a n0 c) ∧ W1.frozen? ⟨wb, 0, none⟩ = false ∧ wb < W1.heap.size ∧
      ∃ v' W', (∀ ty, (Builtin.append_ #[63, 63] ty #[.slice a n0 c, .slice (some ⟨W1.heap.size, 0, none⟩) 1 1]).run Try.prog (W1.alloc (.cells #[.pointer (some ⟨q.xb, 0, none⟩), .pointer (some ⟨q.rb, 0, none⟩)] 104)) = .ok v' W') ∧
        ((∃ a' n' c', v' = .slice a' n' c') ∧ (LawW w wb (n + 1) (updN p n q) (updN own n o') Z (W'.setCell ⟨wb, 0, none⟩ v') ∧ KeptX (fun k => ¬ Z k) W (W'.setCell ⟨wb, 0, none⟩ v') ∧ (W'.setCell ⟨wb, 0, none⟩ v').cell? ⟨wb, 1, none⟩ = W.cell? ⟨wb, 1, none⟩) ∧ W'.cell? ⟨wb, 0, none⟩ = some (.slice a n0 c) ∧ W'.frozen? ⟨wb, 0, none⟩ = false) := by
  have h1 := h.below hb
  have psz := hb.size
  have wl := h.wlt
  have hk : KeptX (fun _ => False) W W1 := KeptX.of_below hb
  obtain ⟨a, n0, c, g, c0, rq, o0, hg⟩ := h.sl
  have hs0 := h.kx.size
  have c0' : W1.cell? ⟨wb, 0, none⟩ = some (.slice a n0 c) := (hk.cell (p := ⟨wb, 0, none⟩) h.lt (fun e => e)).trans c0
  obtain ⟨v', W', hrun, ⟨a', n', c', hv'⟩, g', q', k', d', of', f'⟩ := appN (W := W1) (t := 63) (e := 104) (row := prRow (updN p n q)) (j := n) (g := g) (v := .slice a n0 c) Try.underlying63 infoPair rfl (by decide) (prRow_len _) (prRow_one _ n) (by rw [flatN_congr (s := prRow p) n (fun j hj => by unfold prRow updN; rw [if_neg (by omega)])]; exact rq.keep hk (fun _ _ e => e)) #[.pointer (some ⟨q.xb, 0, none⟩), .pointer (some ⟨q.rb, 0, none⟩)] (by simp [prRow, updN]) hn (by omega)
  subst hv'
  have nm : g ≠ some wb := fun e => by have := (hg wb e).1; omega
  have cW : ∀ j, W'.cell? ⟨wb, j, none⟩ = W1.cell? ⟨wb, j, none⟩ := fun j => k'.cell (p := ⟨wb, j, none⟩) h1.lt nm
  have fW : ∀ j, W'.frozen? ⟨wb, j, none⟩ = false := fun j => (k'.frozen (p := ⟨wb, j, none⟩) h1.lt nm).trans (h1.fr j)
  have hks : KeptX (fun k => k = wb) W' (W'.setCell ⟨wb, 0, none⟩ (.slice a' n' c')) := (KeptX.refl (fun k => k = wb) W').setCell (p := ⟨wb, 0, none⟩) (fun _ => rfl) _
  have K1 : KeptX (fun k => k = wb ∨ g = some k) W1 (W'.setCell ⟨wb, 0, none⟩ (.slice a' n' c')) := (k'.mono (fun _ _ e => Or.inr e)).trans hks (fun _ _ e => Or.inl e)
  have hof := o0.next of'
  obtain ⟨tb, tcap, htg, htv, htl, _, _⟩ := rowN_open (size := 2) (by decide) (prRow_len _) q' hof (Nat.succ_pos n)
  have hlt' : wb < W.heap.size := h.lt
  have k1s := k'.size
  have k2s := hks.size
  refine ⟨a, n0, c, c0', h1.fr 0, h1.lt, _, W', hrun, ⟨a', n', c', rfl⟩, ⟨⟨h1.kx.trans K1 (fun k hk e => e.elim id (fun e => absurd (hg k e).1 (by omega))), wl, fun j => by rw [World.frozen?_setCell]; exact fW j, (h.ps.add hb hp ho hI).keep K1 (fun i k hi e => ?_), fun i k hi e => ?_, fun k e => ⟨(h.zo k e).1, by have := (h.zo k e).2; omega⟩, ⟨a', n', c', g', ?_, q'.keep hks (fun k e e2 => ?_), hof, fun k e => ?_⟩⟩, (hk.mono (fun _ _ e => e.elim)).trans K1 (fun k _ e => ?_), ?_⟩, (cW 0).trans c0', fW 0⟩
  · by_cases e1 : i = n
    · subst e1
      simp only [updN, if_true] at e
      have := ho k e
      rintro (e2 | e2)
      · omega
      · have := (hg k e2).2.1; omega
    · simp only [updN, if_neg e1] at e
      have hi' : i < n := by omega
      rintro (e2 | e2)
      · have := (h.og i k hi' e).1; omega
      · exact (hg k e2).2.2.2.1 i hi' e
  · by_cases e1 : i = n
    · subst e1
      simp only [updN, if_true] at e
      have := ho k e
      exact ⟨by omega, fun z => by have := (h.zo k z).2; omega⟩
    · simp only [updN, if_neg e1] at e
      exact h.og i k (by omega) e
  · have := (cW 0).trans c0'
    simp [go_sem, this]
  · rcases d' k e with x | x
    · exact nm (by rw [x, e2])
    · omega
  · have hkt : k = tb := by rw [htg] at e; cases e; rfl
    rcases d' k e with x | x
    · obtain ⟨g1, g2, g3, g4, g5⟩ := hg k x
      refine ⟨g1, by omega, g3, fun i hi e2 => ?_, fun i => ?_⟩
      · by_cases e1 : i = n
        · subst e1
          simp only [updN, if_true] at e2
          have := ho k e2
          omega
        · simp only [updN, if_neg e1] at e2
          exact g4 i (by omega) e2
      · rw [World.frozen?_setCell]
        rcases f' k e with ⟨_, y⟩ | y
        · exact ((y i).trans (hk.frozen (p := ⟨k, i, none⟩) g2 (fun e => e))).trans (g5 i)
        · exact y i
    · refine ⟨by omega, by omega, fun z => by have := (h.zo k z).2; omega, fun i hi e2 => ?_, fun i => ?_⟩
      · have := ((h.ps.add hb hp ho hI).pa i hi).lt e2
        omega
      · rw [World.frozen?_setCell]
        rcases f' k e with ⟨y, _⟩ | y
        · have := (hg k y).2.1
          omega
        · exact y i
  · rcases e with e | e
    · exact fun z => by have := (h.zo k z).1; omega
    · exact (hg k e).2.2.1
  · exact (World.cell?_setCell_other _ _ _ _ (by simp)).trans ((cW 1).trans (hk.cell (p := ⟨wb, 1, none⟩) h.lt (fun e => e)))
end
end Go.Proofs.Ytabahmcbhapbiaa

namespace Go.Proofs.Ytabahmcbhapbiaa
open Go.RowKit Go.Lib
set_option linter.unusedVariables false
set_option maxHeartbeats 1000000 in
theorem refNew_arg (n : Int) (hn : n < 1 ∨ 4 < n) (t : List UInt8) (w : World) :
    Calls Try.prog 77 #[.int .i64 n, dstr t] w fun e w' => e = .returned (.tuple #[.pointer none, .int .i64 1]) ∧ w' = w := by
  by_cases h1 : n < 1
  · clear hn
    go_enter Try.func77, Try.ntmps77
    go_wp2_with fail
    go_ret2
    exact ⟨rfl, rfl⟩
  · have h4 : 4 < n := by omega
    have h1' : 1 ≤ n := by omega
    clear hn h1
    go_enter Try.func77, Try.ntmps77
    go_wp2_with fail
    go_ret2
    exact ⟨rfl, rfl⟩
set_option maxHeartbeats 1000000 in
theorem refNew_full (n : Nat) (n1 : 1 ≤ n) (n4 : n ≤ 4) (t : List UInt8) (ht : 60 < t.length) (w : World) :
    Calls Try.prog 77 #[.int .i64 (n : Int), dstr t] w fun e w' => e = .returned (.tuple #[.pointer none, .int .i64 3]) ∧ w' = w := by
  have i1 : 1 ≤ (n : Int) := by omega
  have i4 : (n : Int) ≤ 4 := by omega
  have il : 60 < (t.length : Int) := by omega
  have isz := dstr_size t
  go_enter Try.func77, Try.ntmps77
  go_wp2_with fail
  go_ret2
  exact ⟨rfl, rfl⟩
/-- New, of both: refused by both with the same, or a pair. -/
theorem pair_begin (n : Int) (t : List UInt8) :
    (∃ ev : Int, (n < 1 ∨ 4 < n ∨ 60 < t.length) ∧ (∀ W, Calls Try.prog 30 #[.int .i64 n, dstr t] W fun e w' => e = .returned (.tuple #[.pointer none, .int .i64 ev]) ∧ w' = W) ∧ ∀ W, Calls Try.prog 77 #[.int .i64 n, dstr t] W fun e w' => e = .returned (.tuple #[.pointer none, .int .i64 ev]) ∧ w' = W) ∨
    ∃ k : Nat, n = k ∧ Inv t (newM k t) ∧ (∀ w, Calls Try.prog 30 #[.int .i64 n, dstr t] w fun e w' => ∃ xb, e = .returned (.tuple #[.pointer (some ⟨xb, 0, none⟩), .int .i64 0]) ∧ Hid (Below w.heap.size w w' ∧ ∃ L own, DevM w' xb (newM k t) L own ∧ ∀ k, own k ≠ none → w.heap.size ≤ k)) ∧
      ∀ w, Calls Try.prog 77 #[.int .i64 n, dstr t] w fun e w' => ∃ rb, e = .returned (.tuple #[.pointer (some ⟨rb, 0, none⟩), .int .i64 0]) ∧ Hid (Below w.heap.size w w' ∧ ∃ L own, RefM w' rb (newM k t) L own ∧ ∀ k, own k ≠ none → w.heap.size ≤ k) := by
  by_cases hn : n < 1 ∨ 4 < n
  · exact Or.inl ⟨1, by omega, fun W => devNew_arg n hn t W, fun W => refNew_arg n hn t W⟩
  · obtain ⟨k, rfl⟩ : ∃ k : Nat, n = k := ⟨n.toNat, by omega⟩
    by_cases ht : 60 < t.length
    · exact Or.inl ⟨3, by omega, fun W => devNew_full k (by omega) (by omega) t ht W, fun W => refNew_full k (by omega) (by omega) t ht W⟩
    · refine Or.inr ⟨k, rfl, inv_new (by omega) (by omega) (by omega), fun w => (devNew_ok k (by omega) (by omega) t (by omega) w).mono ?_, fun w => (refNew_ok k (by omega) (by omega) t (by omega) w).mono ?_⟩
      · rintro e w' ⟨mb, L, own, rfl, h⟩
        exact ⟨mb, rfl, h.out.2.1, L, own, h.out.1, h.out.2.2⟩
      · rintro e w' ⟨mb, L, own, rfl, h⟩
        exact ⟨mb, rfl, h.out.2.1, L, own, h.out.1, h.out.2.2⟩
end Go.Proofs.Ytabahmcbhapbiaa

namespace Go.Proofs.Ytabahmcbhapbiaa
open Go.RowKit Go.Lib
set_option linter.unusedVariables false
/-- How the statement's world stands when a step has been made. -/
def LawGoesL (lo : Nat) (w : World) (wb n : Nat) (Z : Nat → Prop) (N : Nat) (W W' : World) : Prop :=
  ∃ n' p' own', LawW w wb n' p' own' Z W' ∧ lo ≤ n' ∧ n' ≤ n + 1 ∧ (∀ i, i < n' → (p' i).m.hist.length ≤ N + 1) ∧ KeptX (fun k => ¬ Z k) W W' ∧ W'.cell? ⟨wb, 1, none⟩ = W.cell? ⟨wb, 1, none⟩
/-- As many pairs as there were, or one more. -/
def LawGoes (w : World) (wb n : Nat) (Z : Nat → Prop) (N : Nat) (W W' : World) : Prop := LawGoesL n w wb n Z N W W'
section
variable {w W : World} {wb n : Nat} {p : Nat → Pr} {own : Nat → Nat → Prop} {Z : Nat → Prop}
theorem LawGoesL.any {W' : World} {lo N : Nat} (h : LawGoesL lo w wb n Z N W W') (hl : n ≤ lo) : LawGoes w wb n Z N W W' := by
  obtain ⟨n', p', own', h1, h2, h3⟩ := h
  exact ⟨n', p', own', h1, Nat.le_trans hl h2, h3⟩
set_option maxHeartbeats 1000000 in
theorem begins_no (h : LawW w wb n p own Z W) {N : Nat} (hN : ∀ i, i < n → (p i).m.hist.length ≤ N) (c : Int) (t : List UInt8) (ev : Int) (hx : ∀ W, Calls Try.prog 30 #[.int .i64 c, dstr t] W fun e w' => e = .returned (.tuple #[.pointer none, .int .i64 ev]) ∧ w' = W) (hr : ∀ W, Calls Try.prog 77 #[.int .i64 c, dstr t] W fun e w' => e = .returned (.tuple #[.pointer none, .int .i64 ev]) ∧ w' = W) :
    Calls Try.prog 49 #[.pointer (some ⟨wb, 0, none⟩), .int .i64 c, dstr t] W fun e w' => e = .returned (.bool true) ∧ Hid (LawGoes w wb n Z N W w') := by
  have HF : Hid (∀ W', Below W.heap.size W W' → LawGoes w wb n Z N W W') := fun W' hb => ⟨n, p, own, h.below hb, Nat.le_refl _, by omega, fun i hi => by have := hN i hi; omega, KeptX.of_below hb, (KeptX.of_below (F := fun _ => False) hb).cell (p := ⟨wb, 1, none⟩) h.lt (fun e => e)⟩
  have HX : Hid _ := hx
  have HR : Hid _ := hr
  clear hx hr h hN
  go_enter Try.func49, Try.ntmps49
  go_wp2_with (first | (go_at_call 30; refine (HX.out _).mono ?_; rintro e w1 ⟨rfl, rfl⟩) | (go_at_call 77; refine (HR.out _).mono ?_; rintro e w1 ⟨rfl, rfl⟩) | (go_at_call 52; refine (num_any _ _).mono ?_; rintro e w1 ⟨rfl, rfl⟩))
  all_goals go_ret
  all_goals exact ⟨rfl, HF.out _ (by first | exact Below.refl _ _ | exact (Below.refl _ _).drew)⟩
theorem begins_mem {w1 w2 : World} {xb rb k : Nat} {t : List UInt8} (h : LawW w wb n p own Z W) {N : Nat} (hN : ∀ i, i < n → (p i).m.hist.length ≤ N) (hn : (n + 1) * 16 ≤ 140737488355328) (hI : Inv t (newM k t))
    (d1 : Below W.heap.size W w1 ∧ ∃ L own, DevM w1 xb (newM k t) L own ∧ ∀ k, own k ≠ none → W.heap.size ≤ k) (d2 : Below w1.heap.size w1 w2 ∧ ∃ L own, RefM w2 rb (newM k t) L own ∧ ∀ k, own k ≠ none → w1.heap.size ≤ k) :
    ∃ (a : Option Addr) (n0 c : Nat), w2.cell? ⟨wb, 0, none⟩ = some (.slice a n0 c) ∧ w2.frozen? ⟨wb, 0, none⟩ = false ∧ wb < w2.heap.size ∧
      ∃ v' W', (∀ ty, (Builtin.append_ #[63, 63] ty #[.slice a n0 c, .slice (some ⟨w2.heap.size, 0, none⟩) 1 1]).run Try.prog (w2.alloc (.cells #[.pointer (some ⟨xb, 0, none⟩), .pointer (some ⟨rb, 0, none⟩)] 104)) = .ok v' W') ∧
        ((∃ a' n' c', v' = .slice a' n' c') ∧ LawGoesL (n + 1) w wb n Z N W (W'.setCell ⟨wb, 0, none⟩ v') ∧ W'.cell? ⟨wb, 0, none⟩ = some (.slice a n0 c) ∧ W'.frozen? ⟨wb, 0, none⟩ = false) := by
  obtain ⟨b1, L1, o1, hd, g1⟩ := d1
  obtain ⟨b2, L2, o2, hr, g2⟩ := d2
  obtain ⟨o', hp, ho⟩ := pair_new (w := W) hd g1 b2 hr g2 b1.size
  obtain ⟨a, n0, c, e1, e2, e3, v', W', hrun, hv, ⟨q1, q2, q3⟩, q4, q5⟩ := h.add (bel_trans b1 b2) (q := ⟨xb, rb, t, newM k t⟩) hp ho hI hn
  refine ⟨a, n0, c, e1, e2, e3, v', W', hrun, hv, ⟨n + 1, _, _, q1, Nat.le_refl _, Nat.le_refl _, fun i hi => ?_, q2, q3⟩, q4, q5⟩
  by_cases e : i = n
  · subst e; simp only [updN, if_true]; show 0 ≤ _; omega
  · simp only [updN, if_neg e]; have := hN i (by omega); omega
set_option maxHeartbeats 1000000 in
theorem begins_ok (h : LawW w wb n p own Z W) {N : Nat} (hN : ∀ i, i < n → (p i).m.hist.length ≤ N) (hn : (n + 1) * 16 ≤ 140737488355328) (c : Int) (t : List UInt8) (k : Nat) (hI : Inv t (newM k t))
    (hx : ∀ w, Calls Try.prog 30 #[.int .i64 c, dstr t] w fun e w' => ∃ xb, e = .returned (.tuple #[.pointer (some ⟨xb, 0, none⟩), .int .i64 0]) ∧ Hid (Below w.heap.size w w' ∧ ∃ L own, DevM w' xb (newM k t) L own ∧ ∀ k, own k ≠ none → w.heap.size ≤ k))
    (hr : ∀ w, Calls Try.prog 77 #[.int .i64 c, dstr t] w fun e w' => ∃ rb, e = .returned (.tuple #[.pointer (some ⟨rb, 0, none⟩), .int .i64 0]) ∧ Hid (Below w.heap.size w w' ∧ ∃ L own, RefM w' rb (newM k t) L own ∧ ∀ k, own k ≠ none → w.heap.size ≤ k)) :
    Calls Try.prog 49 #[.pointer (some ⟨wb, 0, none⟩), .int .i64 c, dstr t] W fun e w' => e = .returned (.bool true) ∧ Hid (LawGoesL (n + 1) w wb n Z N W w') := by
  have HM : Hid (∀ w1 w2 xb rb, (Below W.heap.size W w1 ∧ ∃ L own, DevM w1 xb (newM k t) L own ∧ ∀ k, own k ≠ none → W.heap.size ≤ k) → (Below w1.heap.size w1 w2 ∧ ∃ L own, RefM w2 rb (newM k t) L own ∧ ∀ k, own k ≠ none → w1.heap.size ≤ k) → _) := fun w1 w2 xb rb d1 d2 => begins_mem h hN hn hI d1 d2
  have HX : Hid _ := hx
  have HR : Hid _ := hr
  clear hx hr h hN hI hn
  go_enter Try.func49, Try.ntmps49
  go_wp2_with fail
  refine (HX.out _).mono ?_
  rintro e w1 ⟨xb, rfl, hd1⟩
  go_wp2_with fail
  refine (HR.out _).mono ?_
  rintro e w2 ⟨rb, rfl, hd2⟩
  obtain ⟨a, n0, c0, m0, mf, lm, hA⟩ := HM.out w1 w2 xb rb hd1.out hd2.out
  have HA : Hid _ := hA
  have lm1 : wb < w2.heap.size + 1 := by omega
  clear hA HM HX HR hd1 hd2
  go_wp2_with (first | (go_at_call 52; refine (num_any _ _).mono ?_; rintro e w1 ⟨rfl, rfl⟩) | (at_builtin; go_must (refine wpList_append_ex _ rfl _ _ _ _ rfl _ _ rfl rfl _ HA.out ?_; rintro v1 W1 ⟨⟨a1, n1', c1, rfl⟩, hw1, t1, tf⟩; have HS1 : Hid _ := hw1; clear hw1)))
  all_goals go_ret
  all_goals exact ⟨rfl, HS1.out⟩
/-- begins. -/
theorem begins_any (h : LawW w wb n p own Z W) {N : Nat} (hN : ∀ i, i < n → (p i).m.hist.length ≤ N) (hn : (n + 1) * 16 ≤ 140737488355328) (c : Int) (t : List UInt8) :
    Calls Try.prog 49 #[.pointer (some ⟨wb, 0, none⟩), .int .i64 c, dstr t] W fun e w' => e = .returned (.bool true) ∧ Hid (LawGoes w wb n Z N W w') := by
  rcases pair_begin c t with ⟨ev, _, hx, hr⟩ | ⟨k, hk, hI, hx, hr⟩
  · exact begins_no h hN c t ev hx hr
  · refine (begins_ok h hN hn c t k hI hx hr).mono ?_
    rintro e w' ⟨rfl, hw⟩
    exact ⟨rfl, hw.out.any (Nat.le_succ n)⟩
/-- begins, of what is right. -/
theorem begins_right (h : LawW w wb n p own Z W) {N : Nat} (hN : ∀ i, i < n → (p i).m.hist.length ≤ N) (hn : (n + 1) * 16 ≤ 140737488355328) (c : Int) (hc : 1 ≤ c ∧ c ≤ 4) (t : List UInt8) (ht : t.length ≤ 60) :
    Calls Try.prog 49 #[.pointer (some ⟨wb, 0, none⟩), .int .i64 c, dstr t] W fun e w' => e = .returned (.bool true) ∧ Hid (LawGoesL (n + 1) w wb n Z N W w') := by
  rcases pair_begin c t with ⟨ev, hh, _⟩ | ⟨k, hk, hI, hx, hr⟩
  · omega
  · exact begins_ok h hN hn c t k hI hx hr
end
end Go.Proofs.Ytabahmcbhapbiaa

namespace Go.Proofs.Ytabahmcbhapbiaa
open Go.RowKit Go.Lib
set_option linter.unusedVariables false
/-- A script has fewer steps than this. -/
def FewL (m : Moo) : Prop := m.hist.length ≤ 1500000000000
theorem FewL.few {m : Moo} (h : FewL m) : Few m := by
  have : m.hist.length ≤ 1500000000000 := h
  show (m.hist.length + 1) * 48 ≤ _
  omega
section
variable {W : World} {xb rb : Nat} {mx mr m' : Moo} {own : Nat → Prop} {f : FuncId} {vs : Array Value} {R : Ending}
/-- What a call on one of a pair leaves. -/
def Went (W : World) (own : Nat → Prop) (xb : Nat) (mx : Moo) (rb : Nat) (mr : Moo) (w' : World) : Prop := Hid (∃ own', PairAt w' xb mx rb mr own' ∧ PFrm W own w' own')
theorem went_below (h : PairAt W xb mx rb mr own) {w' : World} (hb : Below W.heap.size W w') : Went W own xb mx rb mr w' := ⟨own, h.below hb, PFrm.below hb⟩
theorem stay_x (h : PairAt W xb mx rb mr own) (hC : ∀ L ox, DevM W xb mx L ox → Calls Try.prog f vs W fun e w' => e = R ∧ Below W.heap.size W w') : Calls Try.prog f vs W fun e w' => e = R ∧ Went W own xb mx rb mr w' := by
  obtain ⟨L, ox, hd, _⟩ := h.x
  refine (hC L ox hd).mono ?_
  rintro e w' ⟨rfl, hb⟩
  exact ⟨rfl, went_below h hb⟩
theorem stay_r (h : PairAt W xb mx rb mr own) (hC : ∀ L ow, RefM W rb mr L ow → Calls Try.prog f vs W fun e w' => e = R ∧ Below W.heap.size W w') : Calls Try.prog f vs W fun e w' => e = R ∧ Went W own xb mx rb mr w' := by
  obtain ⟨L, ow, hd, _⟩ := h.r
  refine (hC L ow hd).mono ?_
  rintro e w' ⟨rfl, hb⟩
  exact ⟨rfl, went_below h hb⟩
theorem go_x (h : PairAt W xb mx rb mr own) (hC : ∀ L ox, DevM W xb mx L ox → Calls Try.prog f vs W fun e w' => e = R ∧ ∃ L' ox', DevM w' xb m' L' ox' ∧ DFrm W ox w' ox') : Calls Try.prog f vs W fun e w' => e = R ∧ Went W own xb m' rb mr w' := by
  obtain ⟨L, ox, hd, hn⟩ := h.x
  refine (hC L ox hd).mono ?_
  rintro e w' ⟨rfl, L', ox', h1, h2⟩
  exact ⟨rfl, hn _ _ _ _ h1 h2⟩
theorem go_r (h : PairAt W xb mx rb mr own) (hC : ∀ L ow, RefM W rb mr L ow → Calls Try.prog f vs W fun e w' => e = R ∧ ∃ L' ow', RefM w' rb m' L' ow' ∧ Frm W ow w' ow') : Calls Try.prog f vs W fun e w' => e = R ∧ Went W own xb mx rb m' w' := by
  obtain ⟨L, ow, hd, hn⟩ := h.r
  refine (hC L ow hd).mono ?_
  rintro e w' ⟨rfl, L', ow', h1, h2⟩
  exact ⟨rfl, hn _ _ _ _ h1 h2⟩
end
section
variable {first : List UInt8} {m : Moo}
/-- Down, of both. -/
theorem pair_down (hI : Inv first m) (hF : FewL m) (c : Int) : ∃ m' ev, Inv first m' ∧ m'.hist.length ≤ m.hist.length + 1 ∧
    (∀ W xb rb mr own, PairAt W xb m rb mr own → Calls Try.prog 27 #[.pointer (some ⟨xb, 0, none⟩), .int .i64 c] W fun e w' => e = .returned (.int .i64 ev) ∧ Went W own xb m' rb mr w') ∧
    (∀ W xb mx rb own, PairAt W xb mx rb m own → Calls Try.prog 54 #[.pointer (some ⟨rb, 0, none⟩), .int .i64 c] W fun e w' => e = .returned (.int .i64 ev) ∧ Went W own xb mx rb m' w') := by
  by_cases hc : hasB m.n c = true
  · obtain ⟨k, rfl, hk⟩ := hasB_elim hc
    cases hd : (m.cl k).dn with
    | nil =>
      refine ⟨m, 5, hI, by omega, fun W xb rb mr own h => stay_x h (fun L ox hx => devDown_none hx k hk hd), fun W xb mx rb own h => stay_r h (fun L ow hr => (refDown_none hr k hk hd).mono ?_)⟩
      rintro e w' ⟨rfl, rfl⟩
      exact ⟨rfl, Below.refl _ _⟩
    | cons μ r =>
      obtain ⟨h1, h2, t, h3, h4⟩ := inv_down hI hk hd
      obtain ⟨b1, b2, b3⟩ := inv_dnBd hI hk hd
      have hf := (hI.cl k hk).facts
      have hlk := link_len (hI.cl k hk).link
      have hl : m.hist.length ≤ 1500000000000 := hF
      have htl := inv_textLen hI hk
      refine ⟨m.set k (takeC (m.cl k) μ r t), 0, h4, by show m.hist.length ≤ _; omega, fun W xb rb mr own h => go_x h (fun L ox hx => ?_), fun W xb mx rb own h => go_r h (fun L ow hr => refDown_ok hr hk hd h1 h2 (by omega) (by omega) (by omega) b1 b2 t h3 b3 (by omega))⟩
      obtain ⟨t', e1, _, hC⟩ := devDown_inv hx hI hF.few k hk μ r hd
      rw [h3] at e1
      cases e1
      refine hC.mono ?_
      rintro e w' ⟨rfl, ox', hd'⟩
      exact ⟨rfl, L, ox', hd'⟩
  · have hc' : hasB m.n c = false := by simpa using hc
    refine ⟨m, 1, hI, by omega, fun W xb rb mr own h => stay_x h (fun L ox hx => devDown_arg hx c hc'), fun W xb mx rb own h => stay_r h (fun L ow hr => (refDown_arg hr c hc').mono ?_)⟩
    rintro e w' ⟨rfl, rfl⟩
    exact ⟨rfl, Below.refl _ _⟩
end
end Go.Proofs.Ytabahmcbhapbiaa

namespace Go.Proofs.Ytabahmcbhapbiaa
open Go.RowKit Go.Lib
set_option linter.unusedVariables false
theorem text_same (m : Moo) (c : Int) : dtextV m c = textV m c ∧ dtextE m c = textE m c := ⟨rfl, rfl⟩
theorem textV_str (m : Moo) (c : Int) : ∃ s : ByteArray, textV m c = .string s := by
  unfold textV
  split
  · exact ⟨_, rfl⟩
  · split
    · exact ⟨_, rfl⟩
    · exact ⟨_, rfl⟩
/-- Text, of both. -/
theorem pair_text (m : Moo) (c : Int) : ∃ (s : ByteArray) (ev : Int), (∀ W xb rb mr own, PairAt W xb m rb mr own → Calls Try.prog 20 #[.pointer (some ⟨xb, 0, none⟩), .int .i64 c] W fun e w' => e = .returned (.tuple #[.string s, .int .i64 ev]) ∧ w' = W) ∧
    (∀ W xb mx rb own, PairAt W xb mx rb m own → Calls Try.prog 55 #[.pointer (some ⟨rb, 0, none⟩), .int .i64 c] W fun e w' => e = .returned (.tuple #[.string s, .int .i64 ev]) ∧ w' = W) := by
  obtain ⟨s, hs⟩ := textV_str m c
  refine ⟨s, textE m c, fun W xb rb mr own h => ?_, fun W xb mx rb own h => ?_⟩
  · obtain ⟨L, ox, hx, _⟩ := h.x
    refine (devText_any hx c).mono ?_
    rintro e w' ⟨rfl, rfl⟩
    rw [(text_same m c).1, (text_same m c).2, hs]
    exact ⟨rfl, rfl⟩
  · obtain ⟨L, ow, hr, _⟩ := h.r
    refine (refText_any hr c).mono ?_
    rintro e w' ⟨rfl, rfl⟩
    rw [hs]
    exact ⟨rfl, rfl⟩
end Go.Proofs.Ytabahmcbhapbiaa

namespace Go.Proofs.Ytabahmcbhapbiaa
open Go.RowKit Go.Lib
set_option linter.unusedVariables false
theorem lpick_any (c : Int) (hc : I64 c) (n : Nat) (hn : 0 < n) (hn2 : n ≤ 1000000000000000) (w : World) :
    Calls Try.prog 50 #[.int .i64 c, .int .i64 (n : Int)] w fun e w' => e = .returned (.int .i64 (pickN c n : Int)) ∧ w = w' := by
  obtain ⟨h1, h2⟩ := hc
  rw [pickN_int c hn]
  have hn0 : ¬ ((n : Int) = 0) := by omega
  by_cases h : c < 0
  · rw [if_pos h]
    go_enter Try.func50, Try.ntmps50
    go_wp2
    go_ret
    have e : -((c + 1).tmod (n : Int)) = -(c + 1) % (n : Int) := by rw [← Int.neg_tmod]; exact Int.tmod_eq_emod_of_nonneg (by omega)
    rw [e]
    exact ⟨rfl, rfl⟩
  · rw [if_neg h]
    have h' : 0 ≤ c := by omega
    go_enter Try.func50, Try.ntmps50
    go_wp2
    go_ret
    exact ⟨rfl, rfl⟩
section
variable {w W : World} {wb n : Nat} {p : Nat → Pr} {own : Nat → Nat → Prop} {Z : Nat → Prop}
/-- Where the pairs lie. -/
theorem LawW.open (h : LawW w wb n p own Z W) (hn : 0 < n) : ∃ tb tcap, W.cell? ⟨wb, 0, none⟩ = some (.slice (some ⟨tb, 0, none⟩) n tcap) ∧ tb < W.heap.size ∧ ∀ i, i < n → W.cell? ⟨tb, i * 2, none⟩ = some (.pointer (some ⟨(p i).xb, 0, none⟩)) ∧ W.cell? ⟨tb, i * 2 + 1, none⟩ = some (.pointer (some ⟨(p i).rb, 0, none⟩)) := by
  obtain ⟨a, n0, c, g, c0, rq, o0, hg⟩ := h.sl
  obtain ⟨tb, tcap, htg, htv, htl, htc, _⟩ := rowN_open (size := 2) (by decide) (prRow_len _) rq o0 hn
  rw [htv] at c0
  refine ⟨tb, tcap, c0, htl, fun i hi => ⟨?_, htc i 1 hi (by omega)⟩⟩
  have := htc i 0 hi (by omega)
  rw [Nat.add_zero] at this
  exact this
theorem LawW.stay (h : LawW w wb n p own Z W) {N : Nat} (hN : ∀ i, i < n → (p i).m.hist.length ≤ N) {W' : World} (hb : Below W.heap.size W W') : LawGoes w wb n Z N W W' :=
  ⟨n, p, own, h.below hb, Nat.le_refl _, by omega, fun i hi => by have := hN i hi; omega, KeptX.of_below hb, (KeptX.of_below (F := fun _ => False) hb).cell (p := ⟨wb, 1, none⟩) h.lt (fun e => e)⟩
/-- A pair that has gone on, both of it. -/
theorem LawW.went (h : LawW w wb n p own Z W) {N : Nat} (hN : ∀ i, i < n → (p i).m.hist.length ≤ N) {i : Nat} (hi : i < n) {m' : Moo} (hI : Inv (p i).first m') (hm : m'.hist.length ≤ (p i).m.hist.length + 1) {W0 : World} (hb : Below W.heap.size W W0) {W1 W2 : World} {o1 : Nat → Prop}
    (h1 : PFrm W0 (own i) W1 o1) (h2 : Went W1 o1 (p i).xb m' (p i).rb m' W2) : LawGoes w wb n Z N W W2 := by
  obtain ⟨o2, hp, hf⟩ := h2
  obtain ⟨q1, q2, q3⟩ := h.set hi hp ((PFrm.below hb).trans (h1.trans hf)) hI
  refine ⟨n, _, _, q1, Nat.le_refl _, by omega, fun j hj => ?_, q2, q3 1⟩
  by_cases e : j = i
  · subst e; simp only [updN, if_true]; have := hN j hj; omega
  · simp only [updN, if_neg e]; have := hN j hj; omega
set_option maxHeartbeats 2000000 in
theorem step_down (h : LawW w wb n p own Z W) {N : Nat} (hN : ∀ i, i < n → (p i).m.hist.length ≤ N) (hNB : N ≤ 1500000000000) (hn0 : 0 < n) (hn2 : n ≤ 1000000000000000) (on aa : Int) (hon : I64 on) (t : ByteArray) (xk xp xb xs yk yp yb ys : Int) :
    Calls Try.prog 28 #[.pointer (some ⟨wb, 0, none⟩), .agg #[.int .i64 7, .int .i64 on, .int .i64 aa, .string t, .int .i64 xk, .int .i64 xp, .int .i64 xb, .int .i64 xs, .int .i64 yk, .int .i64 yp, .int .i64 yb, .int .i64 ys]] W fun e w' => e = .returned (.bool true) ∧ Hid (LawGoes w wb n Z N W w') := by
  obtain ⟨tb, tcap, c0, tl, hc⟩ := h.open hn0
  have hi := pickN_lt on hn0
  obtain ⟨c1, c2⟩ := hc _ hi
  have HP : Hid (∀ W, Calls Try.prog 50 #[.int .i64 on, .int .i64 (n : Int)] W fun e w' => e = .returned (.int .i64 (pickN on n : Int)) ∧ W = w') := fun W => lpick_any on hon n hn0 hn2 W
  generalize pickN on n = i at *
  obtain ⟨m', ev, hI', hm', hX, hR⟩ := pair_down (h.ps.iv i hi) (show (p i).m.hist.length ≤ _ by have := hN i hi; omega) aa
  have HX : Hid (∀ W0, Below W.heap.size W W0 → Calls Try.prog 27 #[.pointer (some ⟨(p i).xb, 0, none⟩), .int .i64 aa] W0 fun e w' => e = .returned (.int .i64 ev) ∧ Went W0 (own i) (p i).xb m' (p i).rb (p i).m w' ∧ ∀ k j, W.heap.size ≤ k → k < W0.heap.size → w'.cell? ⟨k, j, none⟩ = W0.cell? ⟨k, j, none⟩) := fun W0 hb => by
    refine (hX W0 _ _ _ _ ((h.ps.pa i hi).below hb)).mono ?_
    rintro e w' ⟨rfl, hw⟩
    obtain ⟨o1, hp1, hf1⟩ := hw
    exact ⟨rfl, ⟨o1, hp1, hf1⟩, fun k j h1 h2 => hf1.1.cell (p := ⟨k, j, none⟩) h2 (fun e => by have : k < W.heap.size := (h.ps.pa i hi).lt e; omega)⟩
  have HR : Hid (∀ W0 W1, Below W.heap.size W W0 → Went W0 (own i) (p i).xb m' (p i).rb (p i).m W1 → Calls Try.prog 54 #[.pointer (some ⟨(p i).rb, 0, none⟩), .int .i64 aa] W1 fun e w' => e = .returned (.int .i64 ev) ∧ Hid (LawGoes w wb n Z N W w')) := fun W0 W1 hb hw => by
    obtain ⟨o1, hp1, hf1⟩ := hw
    refine (hR W1 _ _ _ _ hp1).mono ?_
    rintro e w' ⟨rfl, hw'⟩
    exact ⟨rfl, h.went hN hi hI' hm' hb hf1 hw'⟩
  have lw := h.lt
  have hni : (0 : Int) < (n : Int) := by omega
  have hii : (i : Int) < (n : Int) := by omega
  clear hX hR h hN hc hI' hm' hon
  go_enter Try.func28, Try.ntmps28
  go_wp2_with fail
  go_region_held3 (fun W' => W'.cell? ⟨wb, 0, none⟩ = some (.slice (some ⟨tb, 0, none⟩) n tcap) ∧ W'.cell? ⟨tb, i * 2, none⟩ = some (.pointer (some ⟨(p i).xb, 0, none⟩)) ∧ W'.cell? ⟨tb, i * 2 + 1, none⟩ = some (.pointer (some ⟨(p i).rb, 0, none⟩)) ∧ W'.cell? ⟨W.heap.size, 1, none⟩ = some (.int .i64 on)) (simp [go_sem, *]) ((go_at_call 50; refine (HP.out _).mono ?_; rintro e w1 ⟨rfl, rfl⟩))
  all_goals
    go_wp2_with fail
    refine (HX.out _ (by repeat (first | exact Below.refl _ _ | apply Below.drew | refine bel_alloc ?_ _))).mono ?_
    rintro e w1 ⟨rfl, hw1, hc1⟩
    have r1 : w1.cell? ⟨W.heap.size + 1, 1, none⟩ = some (.pointer (some ⟨(p i).rb, 0, none⟩)) := by rw [hc1 _ _ (by omega) (by simp <;> omega)]; simp [go_sem]
    have r2 : w1.cell? ⟨W.heap.size, 2, none⟩ = some (.int .i64 aa) := by rw [hc1 _ _ (by omega) (by simp <;> omega)]; simp [go_sem]
    have HR1 := hidP (HR.out _ _ (by repeat (first | exact Below.refl _ _ | apply Below.drew | refine bel_alloc ?_ _)) hw1)
    clear hc1 HX HR
    go_wp2_with fail
    refine HR1.out.mono ?_
    rintro e w2 ⟨rfl, hw2⟩
    go_wp2_with (go_at_call 52; refine (num_any _ _).mono ?_; rintro e w3 ⟨rfl, rfl⟩)
    all_goals go_ret
    all_goals exact ⟨rfl, hw2⟩
end
end Go.Proofs.Ytabahmcbhapbiaa

namespace Go.Proofs.Ytabahmcbhapbiaa
open Go.RowKit Go.Lib
set_option linter.unusedVariables false
section
variable {w W : World} {wb n : Nat} {p : Nat → Pr} {own : Nat → Nat → Prop} {Z : Nat → Prop}
theorem LawGoesL.below {W0 W' : World} {lo N : Nat} (hb : Below W.heap.size W W0) (hw : wb < W.heap.size) (h : LawGoesL lo w wb n Z N W0 W') : LawGoesL lo w wb n Z N W W' := by
  obtain ⟨n', p', own', h1, h2, h3, h4, h5, h6⟩ := h
  exact ⟨n', p', own', h1, h2, h3, h4, (KeptX.of_below (F := fun k => ¬ Z k) hb).trans h5 (fun _ _ e => e), h6.trans (hb.cell (p := ⟨wb, 1, none⟩) hw)⟩
set_option maxHeartbeats 1000000 in
/-- A step that is a New. -/
theorem step_new (hw : wb < W.heap.size) {lo N : Nat} (on aa : Int) (t : ByteArray) (xk xp xb xs yk yp yb ys : Int)
    (hB : ∀ W0, Below W.heap.size W W0 → Calls Try.prog 49 #[.pointer (some ⟨wb, 0, none⟩), .int .i64 aa, .string t] W0 fun e w' => e = .returned (.bool true) ∧ Hid (LawGoesL lo w wb n Z N W0 w')) :
    Calls Try.prog 28 #[.pointer (some ⟨wb, 0, none⟩), .agg #[.int .i64 4, .int .i64 on, .int .i64 aa, .string t, .int .i64 xk, .int .i64 xp, .int .i64 xb, .int .i64 xs, .int .i64 yk, .int .i64 yp, .int .i64 yb, .int .i64 ys]] W fun e w' => e = .returned (.bool true) ∧ Hid (LawGoesL lo w wb n Z N W w') := by
  have HB : Hid _ := hB
  clear hB
  go_enter Try.func28, Try.ntmps28
  go_wp2_with fail
  refine (HB.out _ (bel_alloc (Below.refl _ _) _)).mono ?_
  rintro e w1 ⟨rfl, hw1⟩
  go_wp2_with fail
  all_goals go_ret
  all_goals exact ⟨rfl, hw1.out.below (bel_alloc (Below.refl _ _) _) hw⟩
set_option maxHeartbeats 2000000 in
/-- A step of another kind. -/
theorem step_rest (h : LawW w wb n p own Z W) {N : Nat} (hN : ∀ i, i < n → (p i).m.hist.length ≤ N) (hn0 : 0 < n) (hn2 : n ≤ 1000000000000000) (kd on aa : Int) (hon : I64 on) (t : ByteArray) (xk xp xb xs yk yp yb ys : Int)
    (k1 : (kd == 1) = false) (k2 : (kd == 2) = false) (k3 : (kd == 3) = false) (k4 : (kd == 4) = false) (k5 : (kd == 5) = false) (k6 : (kd == 6) = false) (k7 : (kd == 7) = false) (k8 : (kd == 8) = false) (k9 : (kd == 9) = false) (k10 : (kd == 10) = false) :
    Calls Try.prog 28 #[.pointer (some ⟨wb, 0, none⟩), .agg #[.int .i64 kd, .int .i64 on, .int .i64 aa, .string t, .int .i64 xk, .int .i64 xp, .int .i64 xb, .int .i64 xs, .int .i64 yk, .int .i64 yp, .int .i64 yb, .int .i64 ys]] W fun e w' => e = .returned (.bool true) ∧ Hid (LawGoes w wb n Z N W w') := by
  obtain ⟨tb, tcap, c0, tl, hc⟩ := h.open hn0
  have hi := pickN_lt on hn0
  obtain ⟨c1, c2⟩ := hc _ hi
  have HP : Hid (∀ W, Calls Try.prog 50 #[.int .i64 on, .int .i64 (n : Int)] W fun e w' => e = .returned (.int .i64 (pickN on n : Int)) ∧ W = w') := fun W => lpick_any on hon n hn0 hn2 W
  generalize pickN on n = i at *
  have HF : Hid (∀ W', Below W.heap.size W W' → LawGoes w wb n Z N W W') := fun W' hb => h.stay hN hb
  have lw := h.lt
  have hni : (0 : Int) < (n : Int) := by omega
  have hii : (i : Int) < (n : Int) := by omega
  clear h hN hc hon
  go_enter Try.func28, Try.ntmps28
  go_wp2_with fail
  go_region_held3 (fun W' => W'.cell? ⟨wb, 0, none⟩ = some (.slice (some ⟨tb, 0, none⟩) n tcap) ∧ W'.cell? ⟨tb, i * 2, none⟩ = some (.pointer (some ⟨(p i).xb, 0, none⟩)) ∧ W'.cell? ⟨tb, i * 2 + 1, none⟩ = some (.pointer (some ⟨(p i).rb, 0, none⟩)) ∧ W'.cell? ⟨W.heap.size, 1, none⟩ = some (.int .i64 on)) (simp [go_sem, *]) ((go_at_call 50; refine (HP.out _).mono ?_; rintro e w1 ⟨rfl, rfl⟩))
  all_goals
    go_wp2_with fail
    all_goals go_ret
    all_goals exact ⟨rfl, HF.out _ (by repeat (first | exact Below.refl _ _ | apply Below.drew | refine bel_alloc ?_ _))⟩
end
end Go.Proofs.Ytabahmcbhapbiaa

namespace Go.Proofs.Ytabahmcbhapbiaa
open Go.RowKit Go.Lib
set_option linter.unusedVariables false
section
variable {first : List UInt8} {m : Moo}
/-- Up, of both. -/
theorem pair_up (hI : Inv first m) (hF : FewL m) (c : Int) : ∃ m' ev, Inv first m' ∧ m'.hist.length ≤ m.hist.length + 1 ∧
    (∀ W xb rb mr own, PairAt W xb m rb mr own → Calls Try.prog 25 #[.pointer (some ⟨xb, 0, none⟩), .int .i64 c] W fun e w' => e = .returned (.int .i64 ev) ∧ Went W own xb m' rb mr w') ∧
    (∀ W xb mx rb own, PairAt W xb mx rb m own → Calls Try.prog 53 #[.pointer (some ⟨rb, 0, none⟩), .int .i64 c] W fun e w' => e = .returned (.int .i64 ev) ∧ Went W own xb mx rb m' w') := by
  by_cases hc : hasB m.n c = true
  · obtain ⟨k, rfl, hk⟩ := hasB_elim hc
    cases hu : (m.cl k).up with
    | nil =>
      refine ⟨m, 5, hI, by omega, fun W xb rb mr own h => stay_x h (fun L ox hx => devUp_none hx k hk hu), fun W xb mx rb own h => stay_r h (fun L ow hr => (refUp_none hr k hk hu).mono ?_)⟩
      rintro e w' ⟨rfl, rfl⟩
      exact ⟨rfl, Below.refl _ _⟩
    | cons μ r =>
      obtain ⟨h1, h2, h3, _, _, t, h5, h6⟩ := inv_up hI hk hu
      obtain ⟨b1, b2⟩ := inv_upBd hI (few2 hI hF.few) hk hu
      have hf := (hI.cl k hk).facts
      have hcm := ((hI.cl k hk).upB 0 μ (by rw [hu]; rfl)).2.2
      have hl : m.hist.length ≤ 1500000000000 := hF
      have htl := inv_srvLen hI
      refine ⟨upM m k μ r t, 0, h6, by show (m.hist ++ _).length ≤ _; simp, fun W xb rb mr own h => go_x h (fun L ox hx => ?_), fun W xb mx rb own h => go_r h (fun L ow hr => refUp_ok hr hk hu h1 h2 (by omega) (by omega) (by omega) b1 b2 t h5 h3 (by omega) (by omega) (fun i hi => ?_))⟩
      · obtain ⟨t', e1, _, hC⟩ := devUp_inv hx hI hF.few k hk μ r hu
        rw [h5] at e1
        cases e1
        refine hC.mono ?_
        rintro e w' ⟨rfl, ox', hd'⟩
        exact ⟨rfl, L, ox', hd'⟩
      · have hi2 := (hI.cl i hi).facts
        exact ⟨by omega, by omega, by omega⟩
  · have hc' : hasB m.n c = false := by simpa using hc
    refine ⟨m, 1, hI, by omega, fun W xb rb mr own h => stay_x h (fun L ox hx => devUp_arg hx c hc'), fun W xb mx rb own h => stay_r h (fun L ow hr => (refUp_arg hr c hc').mono ?_)⟩
    rintro e w' ⟨rfl, rfl⟩
    exact ⟨rfl, Below.refl _ _⟩
end
end Go.Proofs.Ytabahmcbhapbiaa

namespace Go.Proofs.Ytabahmcbhapbiaa
open Go.RowKit Go.Lib
set_option linter.unusedVariables false
section
variable {w W : World} {wb n : Nat} {p : Nat → Pr} {own : Nat → Nat → Prop} {Z : Nat → Prop}
set_option maxHeartbeats 2000000 in
theorem step_up (h : LawW w wb n p own Z W) {N : Nat} (hN : ∀ i, i < n → (p i).m.hist.length ≤ N) (hNB : N ≤ 1500000000000) (hn0 : 0 < n) (hn2 : n ≤ 1000000000000000) (on aa : Int) (hon : I64 on) (t : ByteArray) (xk xp xb xs yk yp yb ys : Int) :
    Calls Try.prog 28 #[.pointer (some ⟨wb, 0, none⟩), .agg #[.int .i64 6, .int .i64 on, .int .i64 aa, .string t, .int .i64 xk, .int .i64 xp, .int .i64 xb, .int .i64 xs, .int .i64 yk, .int .i64 yp, .int .i64 yb, .int .i64 ys]] W fun e w' => e = .returned (.bool true) ∧ Hid (LawGoes w wb n Z N W w') := by
  obtain ⟨tb, tcap, c0, tl, hc⟩ := h.open hn0
  have hi := pickN_lt on hn0
  obtain ⟨c1, c2⟩ := hc _ hi
  have HP : Hid (∀ W, Calls Try.prog 50 #[.int .i64 on, .int .i64 (n : Int)] W fun e w' => e = .returned (.int .i64 (pickN on n : Int)) ∧ W = w') := fun W => lpick_any on hon n hn0 hn2 W
  generalize pickN on n = i at *
  obtain ⟨m', ev, hI', hm', hX, hR⟩ := pair_up (h.ps.iv i hi) (show (p i).m.hist.length ≤ _ by have := hN i hi; omega) aa
  have HX : Hid (∀ W0, Below W.heap.size W W0 → Calls Try.prog 25 #[.pointer (some ⟨(p i).xb, 0, none⟩), .int .i64 aa] W0 fun e w' => e = .returned (.int .i64 ev) ∧ Went W0 (own i) (p i).xb m' (p i).rb (p i).m w' ∧ ∀ k j, W.heap.size ≤ k → k < W0.heap.size → w'.cell? ⟨k, j, none⟩ = W0.cell? ⟨k, j, none⟩) := fun W0 hb => by
    refine (hX W0 _ _ _ _ ((h.ps.pa i hi).below hb)).mono ?_
    rintro e w' ⟨rfl, hw⟩
    obtain ⟨o1, hp1, hf1⟩ := hw
    exact ⟨rfl, ⟨o1, hp1, hf1⟩, fun k j h1 h2 => hf1.1.cell (p := ⟨k, j, none⟩) h2 (fun e => by have : k < W.heap.size := (h.ps.pa i hi).lt e; omega)⟩
  have HR : Hid (∀ W0 W1, Below W.heap.size W W0 → Went W0 (own i) (p i).xb m' (p i).rb (p i).m W1 → Calls Try.prog 53 #[.pointer (some ⟨(p i).rb, 0, none⟩), .int .i64 aa] W1 fun e w' => e = .returned (.int .i64 ev) ∧ Hid (LawGoes w wb n Z N W w')) := fun W0 W1 hb hw => by
    obtain ⟨o1, hp1, hf1⟩ := hw
    refine (hR W1 _ _ _ _ hp1).mono ?_
    rintro e w' ⟨rfl, hw'⟩
    exact ⟨rfl, h.went hN hi hI' hm' hb hf1 hw'⟩
  have lw := h.lt
  have hni : (0 : Int) < (n : Int) := by omega
  have hii : (i : Int) < (n : Int) := by omega
  clear hX hR h hN hc hI' hm' hon
  go_enter Try.func28, Try.ntmps28
  go_wp2_with fail
  go_region_held3 (fun W' => W'.cell? ⟨wb, 0, none⟩ = some (.slice (some ⟨tb, 0, none⟩) n tcap) ∧ W'.cell? ⟨tb, i * 2, none⟩ = some (.pointer (some ⟨(p i).xb, 0, none⟩)) ∧ W'.cell? ⟨tb, i * 2 + 1, none⟩ = some (.pointer (some ⟨(p i).rb, 0, none⟩)) ∧ W'.cell? ⟨W.heap.size, 1, none⟩ = some (.int .i64 on)) (simp [go_sem, *]) ((go_at_call 50; refine (HP.out _).mono ?_; rintro e w1 ⟨rfl, rfl⟩))
  all_goals
    go_wp2_with fail
    refine (HX.out _ (by repeat (first | exact Below.refl _ _ | apply Below.drew | refine bel_alloc ?_ _))).mono ?_
    rintro e w1 ⟨rfl, hw1, hc1⟩
    have r1 : w1.cell? ⟨W.heap.size + 1, 1, none⟩ = some (.pointer (some ⟨(p i).rb, 0, none⟩)) := by rw [hc1 _ _ (by omega) (by simp <;> omega)]; simp [go_sem]
    have r2 : w1.cell? ⟨W.heap.size, 2, none⟩ = some (.int .i64 aa) := by rw [hc1 _ _ (by omega) (by simp <;> omega)]; simp [go_sem]
    have HR1 := hidP (HR.out _ _ (by repeat (first | exact Below.refl _ _ | apply Below.drew | refine bel_alloc ?_ _)) hw1)
    clear hc1 HX HR
    go_wp2_with fail
    refine HR1.out.mono ?_
    rintro e w2 ⟨rfl, hw2⟩
    go_wp2_with (go_at_call 52; refine (num_any _ _).mono ?_; rintro e w3 ⟨rfl, rfl⟩)
    all_goals go_ret
    all_goals exact ⟨rfl, hw2⟩
end
end Go.Proofs.Ytabahmcbhapbiaa

namespace Go.Proofs.Ytabahmcbhapbiaa
open Go.RowKit Go.Lib
set_option linter.unusedVariables false
section
variable {first : List UInt8} {m : Moo} {w : World} {mb : Nat} {L : Lay} {own : Nat → Option Slot}
/-- mootref's Type, refused. -/
theorem refType_no (h : RefM w mb m L own) (c : Nat) (o : Op4) (hc : c < m.n) (hm : mayT (m.cl c).text.length (m.cl c).ho.length o ≠ 0) :
    Calls Try.prog 51 #[.pointer (some ⟨mb, 0, none⟩), .int .i64 (c : Int), .agg #[.int .i64 o.k, .int .i64 o.p, .int .i64 o.b, .int .i64 o.s]] w fun e w' => e = .returned (.int .i64 (mayT (m.cl c).text.length (m.cl c).ho.length o)) ∧ Below w.heap.size w w' := by
  unfold mayT at hm ⊢
  by_cases h1 : rightB o.k o.p o.b o.s = false ∨ o.k = 0 ∨ fitsB (m.cl c).text.length o.k o.p = false
  · rw [if_pos h1]; exact refType_op h c o hc h1
  · rw [if_neg h1] at hm ⊢
    have hr : rightB o.k o.p o.b o.s = true := by
      cases e : rightB o.k o.p o.b o.s
      · exact absurd (Or.inl e) h1
      · rfl
    have hf : fitsB (m.cl c).text.length o.k o.p = true := by
      cases e : fitsB (m.cl c).text.length o.k o.p
      · exact absurd (Or.inr (Or.inr e)) h1
      · rfl
    by_cases h2 : o.k = 1 ∧ 60 ≤ (m.cl c).text.length
    · rw [if_pos h2]; exact refType_full h c o hc h2.1 hr hf h2.2
    · rw [if_neg h2] at hm ⊢
      by_cases h3 : 20 ≤ (m.cl c).ho.length
      · rw [if_pos h3]
        have hk : o.k = 1 ∨ o.k = 2 := by
          have hw := (wf_asOf hr (c := 0) (by omega)).kind
          have : o.k ≠ 0 := fun e => h1 (Or.inr (Or.inl e))
          simp only at hw
          omega
        exact refType_busy h c o hc hk hr hf (fun e => by omega) h3
      · rw [if_neg h3] at hm; exact absurd rfl hm
/-- Type, of both. -/
theorem pair_type (hI : Inv first m) (hF : FewL m) (c : Int) (o : Op4) : ∃ m' ev, Inv first m' ∧ m'.hist.length ≤ m.hist.length + 1 ∧
    (∀ W xb rb mr own, PairAt W xb m rb mr own → Calls Try.prog 26 #[.pointer (some ⟨xb, 0, none⟩), .int .i64 c, .agg #[.int .i64 o.k, .int .i64 o.p, .int .i64 o.b, .int .i64 o.s]] W fun e w' => e = .returned (.int .i64 ev) ∧ Went W own xb m' rb mr w') ∧
    (∀ W xb mx rb own, PairAt W xb mx rb m own → Calls Try.prog 51 #[.pointer (some ⟨rb, 0, none⟩), .int .i64 c, .agg #[.int .i64 o.k, .int .i64 o.p, .int .i64 o.b, .int .i64 o.s]] W fun e w' => e = .returned (.int .i64 ev) ∧ Went W own xb mx rb m' w') := by
  by_cases hc : hasB m.n c = true
  · obtain ⟨k, rfl, hk⟩ := hasB_elim hc
    by_cases hm : mayT (m.cl k).text.length (m.cl k).ho.length o = 0
    · obtain ⟨h1, h2, h3, h4, h5⟩ := mayT_zero hm
      obtain ⟨t, ht⟩ := app_asOf h1 h3 k
      have hw := wf_asOf h1 (Nat.lt_of_lt_of_le hk hI.n4)
      have hf := (hI.cl k hk).facts
      have hl : m.hist.length ≤ 1500000000000 := hF
      have htl := inv_textLen hI hk
      have hkk : o.k = 1 ∨ o.k = 2 := by
        have hw := (wf_asOf h1 (c := 0) (by omega)).kind
        simp only at hw
        omega
      refine ⟨m.set k (typeC (m.cl k) (asOf o k) t), 0, inv_type hI hk hw rfl ht h5 h4, by show m.hist.length ≤ _; omega, fun W xb rb mr own h => go_x h (fun L ox hx => ?_), fun W xb mx rb own h => go_r h (fun L ow hr => ?_)⟩
      · obtain ⟨t', e1, _, hC⟩ := devType_inv hx hI hF.few k hk o hm
        rw [ht] at e1
        cases e1
        refine hC.mono ?_
        rintro e w' ⟨rfl, ox', hd'⟩
        exact ⟨rfl, L, ox', hd'⟩
      · rcases hkk with hkk | hkk
        · exact refType_ok1 hr k o hk hkk h1 h3 h4 h5 t ht hw (by omega) (by omega) (by omega)
        · exact refType_ok2 hr k o hk hkk h1 h3 h5 t ht hw (by omega) (by omega) (by omega)
    · exact ⟨m, _, hI, by omega, fun W xb rb mr own h => stay_x h (fun L ox hx => devType_no hx k o hk hm), fun W xb mx rb own h => stay_r h (fun L ow hr => refType_no hr k o hk hm)⟩
  · have hc' : hasB m.n c = false := by simpa using hc
    exact ⟨m, 1, hI, by omega, fun W xb rb mr own h => stay_x h (fun L ox hx => devType_arg hx c o hc'), fun W xb mx rb own h => stay_r h (fun L ow hr => refType_arg hr c o hc')⟩
end
end Go.Proofs.Ytabahmcbhapbiaa

namespace Go.Proofs.Ytabahmcbhapbiaa
open Go.RowKit Go.Lib
set_option linter.unusedVariables false
section
variable {w W : World} {wb n : Nat} {p : Nat → Pr} {own : Nat → Nat → Prop} {Z : Nat → Prop}
set_option maxHeartbeats 2000000 in
theorem step_type (h : LawW w wb n p own Z W) {N : Nat} (hN : ∀ i, i < n → (p i).m.hist.length ≤ N) (hNB : N ≤ 1500000000000) (hn0 : 0 < n) (hn2 : n ≤ 1000000000000000) (on aa : Int) (hon : I64 on) (t : ByteArray) (xk xp xb xs yk yp yb ys : Int) :
    Calls Try.prog 28 #[.pointer (some ⟨wb, 0, none⟩), .agg #[.int .i64 5, .int .i64 on, .int .i64 aa, .string t, .int .i64 xk, .int .i64 xp, .int .i64 xb, .int .i64 xs, .int .i64 yk, .int .i64 yp, .int .i64 yb, .int .i64 ys]] W fun e w' => e = .returned (.bool true) ∧ Hid (LawGoes w wb n Z N W w') := by
  obtain ⟨tb, tcap, c0, tl, hc⟩ := h.open hn0
  have hi := pickN_lt on hn0
  obtain ⟨c1, c2⟩ := hc _ hi
  have HP : Hid (∀ W, Calls Try.prog 50 #[.int .i64 on, .int .i64 (n : Int)] W fun e w' => e = .returned (.int .i64 (pickN on n : Int)) ∧ W = w') := fun W => lpick_any on hon n hn0 hn2 W
  generalize pickN on n = i at *
  obtain ⟨m', ev, hI', hm', hX, hR⟩ := pair_type (h.ps.iv i hi) (show (p i).m.hist.length ≤ _ by have := hN i hi; omega) aa ⟨xk, xp, xb, xs⟩
  have HX : Hid (∀ W0, Below W.heap.size W W0 → Calls Try.prog 26 #[.pointer (some ⟨(p i).xb, 0, none⟩), .int .i64 aa, .agg #[.int .i64 xk, .int .i64 xp, .int .i64 xb, .int .i64 xs]] W0 fun e w' => e = .returned (.int .i64 ev) ∧ Went W0 (own i) (p i).xb m' (p i).rb (p i).m w' ∧ ∀ k j, W.heap.size ≤ k → k < W0.heap.size → w'.cell? ⟨k, j, none⟩ = W0.cell? ⟨k, j, none⟩) := fun W0 hb => by
    refine (hX W0 _ _ _ _ ((h.ps.pa i hi).below hb)).mono ?_
    rintro e w' ⟨rfl, hw⟩
    obtain ⟨o1, hp1, hf1⟩ := hw
    exact ⟨rfl, ⟨o1, hp1, hf1⟩, fun k j h1 h2 => hf1.1.cell (p := ⟨k, j, none⟩) h2 (fun e => by have : k < W.heap.size := (h.ps.pa i hi).lt e; omega)⟩
  have HR : Hid (∀ W0 W1, Below W.heap.size W W0 → Went W0 (own i) (p i).xb m' (p i).rb (p i).m W1 → Calls Try.prog 51 #[.pointer (some ⟨(p i).rb, 0, none⟩), .int .i64 aa, .agg #[.int .i64 xk, .int .i64 xp, .int .i64 xb, .int .i64 xs]] W1 fun e w' => e = .returned (.int .i64 ev) ∧ Hid (LawGoes w wb n Z N W w')) := fun W0 W1 hb hw => by
    obtain ⟨o1, hp1, hf1⟩ := hw
    refine (hR W1 _ _ _ _ hp1).mono ?_
    rintro e w' ⟨rfl, hw'⟩
    exact ⟨rfl, h.went hN hi hI' hm' hb hf1 hw'⟩
  have lw := h.lt
  have hni : (0 : Int) < (n : Int) := by omega
  have hii : (i : Int) < (n : Int) := by omega
  clear hX hR h hN hc hI' hm' hon
  go_enter Try.func28, Try.ntmps28
  go_wp2_with fail
  go_region_held3 (fun W' => W'.cell? ⟨wb, 0, none⟩ = some (.slice (some ⟨tb, 0, none⟩) n tcap) ∧ W'.cell? ⟨tb, i * 2, none⟩ = some (.pointer (some ⟨(p i).xb, 0, none⟩)) ∧ W'.cell? ⟨tb, i * 2 + 1, none⟩ = some (.pointer (some ⟨(p i).rb, 0, none⟩)) ∧ W'.cell? ⟨W.heap.size, 1, none⟩ = some (.int .i64 on)) (simp [go_sem, *]) ((go_at_call 50; refine (HP.out _).mono ?_; rintro e w1 ⟨rfl, rfl⟩))
  all_goals
    go_wp2_with fail
    refine (HX.out _ (by repeat (first | exact Below.refl _ _ | apply Below.drew | refine bel_alloc ?_ _))).mono ?_
    rintro e w1 ⟨rfl, hw1, hc1⟩
    have r1 : w1.cell? ⟨W.heap.size + 1, 1, none⟩ = some (.pointer (some ⟨(p i).rb, 0, none⟩)) := by rw [hc1 _ _ (by omega) (by simp <;> omega)]; simp [go_sem]
    have r2 : w1.cell? ⟨W.heap.size, 2, none⟩ = some (.int .i64 aa) := by rw [hc1 _ _ (by omega) (by simp <;> omega)]; simp [go_sem]
    have r4 : w1.cell? ⟨W.heap.size, 4, none⟩ = some (.int .i64 xk) := by rw [hc1 _ _ (by omega) (by simp <;> omega)]; simp [go_sem]
    have r5 : w1.cell? ⟨W.heap.size, 5, none⟩ = some (.int .i64 xp) := by rw [hc1 _ _ (by omega) (by simp <;> omega)]; simp [go_sem]
    have r6 : w1.cell? ⟨W.heap.size, 6, none⟩ = some (.int .i64 xb) := by rw [hc1 _ _ (by omega) (by simp <;> omega)]; simp [go_sem]
    have r7 : w1.cell? ⟨W.heap.size, 7, none⟩ = some (.int .i64 xs) := by rw [hc1 _ _ (by omega) (by simp <;> omega)]; simp [go_sem]
    have HR1 := hidP (HR.out _ _ (by repeat (first | exact Below.refl _ _ | apply Below.drew | refine bel_alloc ?_ _)) hw1)
    clear hc1 HX HR
    go_wp2_with fail
    refine HR1.out.mono ?_
    rintro e w2 ⟨rfl, hw2⟩
    go_wp2_with (go_at_call 52; refine (num_any _ _).mono ?_; rintro e w3 ⟨rfl, rfl⟩)
    all_goals go_ret
    all_goals exact ⟨rfl, hw2⟩
end
end Go.Proofs.Ytabahmcbhapbiaa

namespace Go.Proofs.Ytabahmcbhapbiaa
open Go.RowKit Go.Lib
set_option linter.unusedVariables false
section
variable {w W : World} {wb n : Nat} {p : Nat → Pr} {own : Nat → Nat → Prop} {Z : Nat → Prop}
set_option maxHeartbeats 2000000 in
theorem step_text (h : LawW w wb n p own Z W) {N : Nat} (hN : ∀ i, i < n → (p i).m.hist.length ≤ N) (hn0 : 0 < n) (hn2 : n ≤ 1000000000000000) (on aa : Int) (hon : I64 on) (t : ByteArray) (xk xp xb xs yk yp yb ys : Int) :
    Calls Try.prog 28 #[.pointer (some ⟨wb, 0, none⟩), .agg #[.int .i64 8, .int .i64 on, .int .i64 aa, .string t, .int .i64 xk, .int .i64 xp, .int .i64 xb, .int .i64 xs, .int .i64 yk, .int .i64 yp, .int .i64 yb, .int .i64 ys]] W fun e w' => e = .returned (.bool true) ∧ Hid (LawGoes w wb n Z N W w') := by
  obtain ⟨tb, tcap, c0, tl, hc⟩ := h.open hn0
  have hi := pickN_lt on hn0
  obtain ⟨c1, c2⟩ := hc _ hi
  have HP : Hid (∀ W, Calls Try.prog 50 #[.int .i64 on, .int .i64 (n : Int)] W fun e w' => e = .returned (.int .i64 (pickN on n : Int)) ∧ W = w') := fun W => lpick_any on hon n hn0 hn2 W
  generalize pickN on n = i at *
  obtain ⟨s, ev, hX, hR⟩ := pair_text (p i).m aa
  have HF : Hid (∀ W', Below W.heap.size W W' → LawGoes w wb n Z N W W') := fun W' hb => h.stay hN hb
  have HX : Hid (∀ W0, Below W.heap.size W W0 → Calls Try.prog 20 #[.pointer (some ⟨(p i).xb, 0, none⟩), .int .i64 aa] W0 fun e w' => e = .returned (.tuple #[.string s, .int .i64 ev]) ∧ w' = W0) := fun W0 hb => hX W0 _ _ _ _ ((h.ps.pa i hi).below hb)
  have HR : Hid (∀ W0, Below W.heap.size W W0 → Calls Try.prog 55 #[.pointer (some ⟨(p i).rb, 0, none⟩), .int .i64 aa] W0 fun e w' => e = .returned (.tuple #[.string s, .int .i64 ev]) ∧ w' = W0) := fun W0 hb => hR W0 _ _ _ _ ((h.ps.pa i hi).below hb)
  have lw := h.lt
  have hni : (0 : Int) < (n : Int) := by omega
  have hii : (i : Int) < (n : Int) := by omega
  clear hX hR h hN hc hon
  go_enter Try.func28, Try.ntmps28
  go_wp2_with fail
  go_region_held3 (fun W' => W'.cell? ⟨wb, 0, none⟩ = some (.slice (some ⟨tb, 0, none⟩) n tcap) ∧ W'.cell? ⟨tb, i * 2, none⟩ = some (.pointer (some ⟨(p i).xb, 0, none⟩)) ∧ W'.cell? ⟨tb, i * 2 + 1, none⟩ = some (.pointer (some ⟨(p i).rb, 0, none⟩)) ∧ W'.cell? ⟨W.heap.size, 1, none⟩ = some (.int .i64 on)) (simp [go_sem, *]) ((go_at_call 50; refine (HP.out _).mono ?_; rintro e w1 ⟨rfl, rfl⟩))
  all_goals
    go_wp2_with (first | (go_at_call 20; refine (HX.out _ (by repeat (first | exact Below.refl _ _ | apply Below.drew | refine bel_alloc ?_ _))).mono ?_; rintro e w1 ⟨rfl, rfl⟩) | (go_at_call 55; refine (HR.out _ (by repeat (first | exact Below.refl _ _ | apply Below.drew | refine bel_alloc ?_ _))).mono ?_; rintro e w1 ⟨rfl, rfl⟩) | (go_at_call 52; refine (num_any _ _).mono ?_; rintro e w3 ⟨rfl, rfl⟩))
    all_goals go_ret
    all_goals exact ⟨rfl, HF.out _ (by repeat (first | exact Below.refl _ _ | apply Below.drew | refine bel_alloc ?_ _))⟩
end
end Go.Proofs.Ytabahmcbhapbiaa

namespace Go.Proofs.Ytabahmcbhapbiaa
open Go.RowKit Go.Lib
set_option linter.unusedVariables false
theorem dstr_bytes (t : ByteArray) : dstr t.data.toList = .string t := by
  show Value.string ⟨t.data.toList.toArray⟩ = _
  simp
section
variable {w W : World} {wb n : Nat} {p : Nat → Pr} {own : Nat → Nat → Prop} {Z : Nat → Prop}
/-- A step of the first three kinds. -/
theorem lstep_plain (h : LawW w wb n p own Z W) {N : Nat} (hN : ∀ i, i < n → (p i).m.hist.length ≤ N) (r : Rec) (hk : r.kd = 1 ∨ r.kd = 2 ∨ r.kd = 3) (ht : r.t.size + 1 ≤ 140737488355328) :
    Calls Try.prog 28 #[.pointer (some ⟨wb, 0, none⟩), recV r] W fun e w' => e = .returned (.bool true) ∧ Hid (LawGoes w wb n Z N W w') := by
  obtain ⟨kd, on, aa, t, xk, xp, xb, xs, yk, yp, yb, ys⟩ := r
  simp only at hk ht
  have hc : Calls Try.prog 28 #[.pointer (some ⟨wb, 0, none⟩), .agg #[.int .i64 kd, .int .i64 on, .int .i64 aa, .string t, .int .i64 xk, .int .i64 xp, .int .i64 xb, .int .i64 xs, .int .i64 yk, .int .i64 yp, .int .i64 yb, .int .i64 ys]] W fun e w' => e = .returned (.bool true) ∧ Below W.heap.size W w' := by
    rcases hk with rfl | rfl | rfl
    · exact step_plain wb 1 on aa t xk xp xb xs yk yp yb ys W (Or.inl rfl) (fun W => plain_right on aa t xk xp xb xs yk yp yb ys W)
    · exact step_plain wb 2 on aa t xk xp xb xs yk yp yb ys W (Or.inr (Or.inl rfl)) (fun W => plain_apply on aa t xk xp xb xs yk yp yb ys ht W)
    · exact step_plain wb 3 on aa t xk xp xb xs yk yp yb ys W (Or.inr (Or.inr rfl)) (fun W => plain_turn 3 on aa t xk xp xb xs yk yp yb ys rfl rfl W)
  refine hc.mono ?_
  rintro e w' ⟨rfl, hb⟩
  exact ⟨rfl, h.stay hN hb⟩
/-- The first moot of all. -/
theorem lstep_first (h : LawW w wb n p own Z W) {N : Nat} (hN : ∀ i, i < n → (p i).m.hist.length ≤ N) (hn : (n + 1) * 16 ≤ 140737488355328) (r : Rec) (hk : r.kd = 4) (ha : 1 ≤ r.aa ∧ r.aa ≤ 4) (ht : r.t.data.toList.length ≤ 60) :
    Calls Try.prog 28 #[.pointer (some ⟨wb, 0, none⟩), recV r] W fun e w' => e = .returned (.bool true) ∧ Hid (LawGoesL (n + 1) w wb n Z N W w') := by
  obtain ⟨kd, on, aa, t, xk, xp, xb, xs, yk, yp, yb, ys⟩ := r
  simp only at hk ht ha
  subst hk
  refine step_new h.lt on aa t xk xp xb xs yk yp yb ys (fun W0 hb => ?_)
  rw [← dstr_bytes t]
  exact begins_right (h.below hb) hN hn aa ha _ ht
/-- A step of any kind but Look and History. -/
theorem lstep_any (h : LawW w wb n p own Z W) {N : Nat} (hN : ∀ i, i < n → (p i).m.hist.length ≤ N) (hNB : N ≤ 1500000000000) (hn0 : 0 < n) (hn2 : n ≤ 1500000000000) (r : Rec) (h9 : r.kd ≠ 9) (h10 : r.kd ≠ 10) (hon : I64 r.on) (ht : r.t.size + 1 ≤ 140737488355328) :
    Calls Try.prog 28 #[.pointer (some ⟨wb, 0, none⟩), recV r] W fun e w' => e = .returned (.bool true) ∧ Hid (LawGoes w wb n Z N W w') := by
  by_cases hp : r.kd = 1 ∨ r.kd = 2 ∨ r.kd = 3
  · exact lstep_plain h hN r hp ht
  obtain ⟨kd, on, aa, t, xk, xp, xb, xs, yk, yp, yb, ys⟩ := r
  simp only at hp ht hon h9 h10
  by_cases h4 : kd = 4
  · subst h4
    refine step_new h.lt on aa t xk xp xb xs yk yp yb ys (fun W0 hb => ?_)
    rw [← dstr_bytes t]
    exact begins_any (h.below hb) hN (by omega) aa _
  by_cases h5 : kd = 5
  · subst h5; exact step_type h hN hNB hn0 (by omega) on aa hon t xk xp xb xs yk yp yb ys
  by_cases h6 : kd = 6
  · subst h6; exact step_up h hN hNB hn0 (by omega) on aa hon t xk xp xb xs yk yp yb ys
  by_cases h7 : kd = 7
  · subst h7; exact step_down h hN hNB hn0 (by omega) on aa hon t xk xp xb xs yk yp yb ys
  by_cases h8 : kd = 8
  · subst h8; exact step_text h hN hn0 (by omega) on aa hon t xk xp xb xs yk yp yb ys
  exact step_rest h hN hn0 (by omega) kd on aa hon t xk xp xb xs yk yp yb ys (beq_eq_false_iff_ne.2 (by omega)) (beq_eq_false_iff_ne.2 (by omega)) (beq_eq_false_iff_ne.2 (by omega)) (beq_eq_false_iff_ne.2 h4) (beq_eq_false_iff_ne.2 h5) (beq_eq_false_iff_ne.2 h6) (beq_eq_false_iff_ne.2 h7) (beq_eq_false_iff_ne.2 h8) (beq_eq_false_iff_ne.2 h9) (beq_eq_false_iff_ne.2 h10)
end
/-- How the statement's world stands ahead of the k-th step; Q: the lists that came out. -/
def LawS (Q : Nat → (Nat → Prop) → World → Prop) (W2 : World) (wb k : Nat) (W : World) : Prop :=
  Hid (∃ n p own Z, LawW W2 wb n p own Z W ∧ (2 ≤ k → 0 < n) ∧ n ≤ k ∧ (∀ i, i < n → (p i).m.hist.length ≤ k) ∧ Q k Z W)
section
variable {w W2 : World} {g : Nat} {ops : List Rec} {Q : Nat → (Nat → Prop) → World → Prop} {last : Int}
theorem lawS_goes {W W' : World} {wb n k lo : Nat} {Z : Nat → Prop} (qk : ∀ k Z W W', Q k Z W → (∀ k, Z k → k < W.heap.size) → KeptX (fun k => ¬ Z k) W W' → W'.cell? ⟨wb, 1, none⟩ = W.cell? ⟨wb, 1, none⟩ → Q k Z W') (qs : ∀ k Z W, Q k Z W → Q (k + 1) Z W)
    (hz : ∀ k, Z k → k < W.heap.size) (hq : Q k Z W) (hn : n ≤ k) (hlo : 2 ≤ k + 1 → 0 < lo) (h : LawGoesL lo W2 wb n Z k W W') : LawS Q W2 wb (k + 1) W' := by
  obtain ⟨n', p', own', h1, h2, h3, h4, h5, h6⟩ := h
  exact ⟨n', p', own', Z, h1, fun e => Nat.lt_of_lt_of_le (hlo e) h2, by omega, h4, qs _ _ _ (qk _ _ _ _ hq hz h5 h6)⟩
/-- All steps, told of the lists that came out and of Look and History. -/
theorem lawPlays (hl : 8 ≤ last) (hbig : (first ++ ops).length * 104 ≤ 140737488355328) (hr : rowsAt W2 g (first ++ ops)) (hb : Below w.heap.size w W2) (hz : w.heap.size < W2.heap.size) (h0 : W2.cell? ⟨w.heap.size, 0, none⟩ = some (.slice none 0 0)) (h1 : W2.cell? ⟨w.heap.size, 1, none⟩ = some (.slice none 0 0)) (hf : ∀ j, W2.frozen? ⟨w.heap.size, j, none⟩ = false)
    (ht : ∀ r ∈ ops, r.t.size + 1 ≤ 140737488355328 ∧ I64 r.on ∧ I64 r.aa)
    (q0 : Q 0 (fun _ => False) W2)
    (qk : ∀ k Z W W', Q k Z W → (∀ k, Z k → k < W.heap.size) → KeptX (fun k => ¬ Z k) W W' → W'.cell? ⟨w.heap.size, 1, none⟩ = W.cell? ⟨w.heap.size, 1, none⟩ → Q k Z W') (qs : ∀ k Z W, Q k Z W → Q (k + 1) Z W)
    (ql : ∀ k Z W, w.heap.size < W.heap.size → (∀ k, Z k → k < W.heap.size) → Q k Z W → Calls Try.prog 29 #[.pointer (some ⟨w.heap.size, 0, none⟩)] W fun e w' => e = .returned (.bool true) ∧ Below W.heap.size W w')
    (q9 : ∀ k Z W n p own r, LawW W2 w.heap.size n p own Z W → 0 < n → n ≤ k → (∀ i, i < n → (p i).m.hist.length ≤ k) → k ≤ 1400000000000 → Q k Z W → I64 r.on → I64 r.aa → (r.kd = 9 ∨ r.kd = 10) → r.kd ≤ last → Calls Try.prog 28 #[.pointer (some ⟨w.heap.size, 0, none⟩), recV r] W fun e w' => e = .returned (.bool true) ∧ LawS Q W2 w.heap.size (k + 1) w') :
    PlayS w last (first ++ ops) g W2 (LawS Q W2 w.heap.size) := by
  have hgw : g ≠ w.heap.size := by
    rintro rfl
    have : W2.cell? ⟨w.heap.size, 0, none⟩ = some (.int .i64 2) := hr 0 _ rfl
    rw [h0] at this
    cases this
  have hgl : g < W2.heap.size := block_lt_of_cell (hr 0 _ rfl)
  have hT : ∀ k (hk : k < (first ++ ops).length), (first ++ ops)[k].t.size + 1 ≤ 140737488355328 ∧ I64 (first ++ ops)[k].on ∧ I64 (first ++ ops)[k].aa := fun k hk => by
    rcases List.mem_append.1 (List.getElem_mem hk) with h | h
    · have : ∀ r ∈ first, r.t.size + 1 ≤ 140737488355328 ∧ I64 r.on ∧ I64 r.aa := by unfold I64; decide
      exact this _ h
    · exact ht _ h
  refine ⟨⟨0, fun _ => ⟨0, 0, [], newM 0 []⟩, fun _ _ => False, fun _ => False, ⟨KeptX.refl _ _, hz, hf, ⟨fun i hi => absurd hi (by omega), fun i hi => absurd hi (by omega), fun i j k hi => absurd hi (by omega)⟩, fun i k hi => absurd hi (by omega), fun k e => e.elim, ⟨none, 0, 0, none, h0, RowQ.nil _ _, fun _ _ _ _ e => (by cases e), fun k e => (by cases e)⟩⟩, fun e => absurd e (by omega), Nat.le_refl _, fun i hi => absurd hi (by omega), q0⟩, ?_, ?_, ?_, ?_, ?_, ?_⟩
  · rintro k W ⟨n, p, own, Z, h, _⟩
    exact hb.trans (h.kx.below (Nat.le_of_lt hz) (fun k hk e => by omega))
  · rintro k W ⟨n, p, own, Z, h, _⟩ j v hj
    exact (h.kx.cell (p := ⟨g, j, none⟩) hgl hgw).trans (hr j v hj)
  · rintro k W hk ⟨n, p, own, Z, h, hn0, hn, hN, hq⟩ hkd
    obtain ⟨t1, t2, t3⟩ := hT k hk
    have hzo : ∀ k, Z k → k < W.heap.size := fun k e => (h.zo k e).2
    by_cases k0 : k = 0
    · subst k0
      refine (lstep_plain h hN _ (Or.inr (Or.inl rfl)) t1).mono ?_
      rintro e w' ⟨rfl, hw⟩
      exact ⟨rfl, lawS_goes qk qs hzo hq hn (fun e => absurd e (by omega)) hw.out⟩
    by_cases k1 : k = 1
    · subst k1
      refine (lstep_first h hN (by omega) _ rfl ⟨by show (1 : Int) ≤ 2; decide, by show (2 : Int) ≤ 4; decide⟩ (by show 2 ≤ 60; decide)).mono ?_
      rintro e w' ⟨rfl, hw⟩
      exact ⟨rfl, lawS_goes qk qs hzo hq hn (fun e => by omega) hw.out⟩
    generalize (first ++ ops)[k] = r at *
    have hn0' := hn0 (by omega)
    by_cases h9 : r.kd = 9 ∨ r.kd = 10
    · exact q9 k Z W n p own r h hn0' hn hN (by omega) hq t2 t3 h9 hkd
    · refine (lstep_any h hN (by omega) hn0' (by omega) r (by omega) (by omega) t2 t1).mono ?_
      rintro e w' ⟨rfl, hw⟩
      exact ⟨rfl, lawS_goes qk qs hzo hq hn (fun e => hn0') hw.out⟩
  · rintro k W hk ⟨n, p, own, Z, h, hn0, hn, hN, hq⟩ hkd
    have k2 : 2 ≤ k := by
      refine Classical.byContradiction (fun e => ?_)
      have : k = 0 ∨ k = 1 := by omega
      rcases this with rfl | rfl
      · have : last < 2 := hkd
        omega
      · have : last < 4 := hkd
        omega
    exact ⟨n, p, own, Z, h, fun _ => hn0 k2, by omega, fun i hi => by have := hN i hi; omega, qs _ _ _ hq⟩
  · rintro k W ⟨n, p, own, Z, h, hn0, hn, hN, hq⟩
    refine (ql k Z W h.lt (fun k e => (h.zo k e).2) hq).mono ?_
    rintro e w' ⟨rfl, hb⟩
    exact ⟨rfl, n, p, own, Z, h.below hb, hn0, hn, hN, qk _ _ _ _ hq (fun k e => (h.zo k e).2) (KeptX.of_below hb) (hb.cell (p := ⟨w.heap.size, 1, none⟩) h.lt)⟩
  · rintro k W hk ⟨n, p, own, Z, h, hn0, hn, hN, hq⟩
    obtain ⟨tb, tcap, hc, _⟩ := h.open (hn0 hk)
    exact ⟨_, n, tcap, hc, hn0 hk⟩
end
end Go.Proofs.Ytabahmcbhapbiaa
