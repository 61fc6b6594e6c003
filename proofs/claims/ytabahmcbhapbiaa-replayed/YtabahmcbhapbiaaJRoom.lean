import Derived.Test.YtabahmcbhapbiaaDevCalls
import Derived.Deep.RegionLawGrows
import Derived.Lib.SliceRun
import Derived.Test.YtabahmcbhapbiaaAwake
import Derived.Test.YtabahmcbhapbiaaKOpen
import Derived.Test.YtabahmcbhapbiaaDevText
import Derived.Deep.LoopGhost
import Derived.Deep.DeepCutAuto
import Derived.Test.YtabahmcbhapbiaaInv
import Derived.Test.YtabahmcbhapbiaaSquareTop
import Derived.Deep.Slices
namespace Go.Proofs.Ytabahmcbhapbiaa
open Go.RowKit Go.Lib
set_option linter.unusedVariables false
set_option maxRecDepth 100000 in
/-- slices.Clone of a list of ops. -/
theorem clone4_any (v : Value) (l : List Op4) (g : Option Nat) (w : World) (h : RowQ w 4 v (flat4 l) g) (hl : l.length * 32 ≤ 140737488355328) :
    Calls Try.prog 67 #[v] w fun e w' => ∃ v' g', e = .returned v' ∧ Hid ((∃ a c, v' = .slice a l.length c) ∧ RowQ w' 4 v' (flat4 l) g' ∧ Below w.heap.size w w' ∧ ∀ k, g' = some k → w.heap.size ≤ k) := by
  rcases h with ⟨rfl, h2, h3⟩ | ⟨gb, off, n, cap, hg, rfl, h3, h4, h5, h6, h7, h8⟩
  · have e0 : l = [] := by
      have := congrArg List.length h2
      rw [flat4_len] at this
      exact List.length_eq_zero_iff.1 (by simp only [List.length_nil] at this; omega)
    subst e0
    clear h2 h3 hl
    have hu : ∀ (w : World) (a : Option Addr) (n c n' c' : Nat), (binOp .eql 49 (.slice a n c) (.slice none n' c')).run Try.prog w = .ok (.bool a.isNone) w := fun w a n c n' c' => Lib.run_eql_slice_nil w _ _ a n c n' c' Try.underlying49
    go_enter Try.func67, Try.ntmps67
    go_wp2
    go_ret
    exact ⟨_, none, rfl, ⟨none, 0, rfl⟩, RowQ.nil _ _, Below.refl _ _, fun k e => (by cases e)⟩
  · have e0 : n = l.length := by rw [flat4_len] at h3; omega
    subst e0
    have hq : RowQ w 4 (.slice (some ⟨gb, off, none⟩) l.length cap) (flat4 l) (some gb) := Or.inr ⟨gb, off, l.length, cap, rfl, rfl, flat4_len l, h4, h5, h6, h7, h8⟩
    have HA : Hid (∃ v' W', (∀ ty, (Builtin.append_ #[49, 49] ty #[.slice (some ⟨w.heap.size, 0, none⟩) 0 0, .slice (some ⟨gb, off, none⟩) l.length cap]).run Try.prog (w.alloc (.cells #[] 26)) = .ok v' W') ∧
        ((∃ a n c, v' = .slice a n c) ∧ ∃ g', (∃ a c, v' = .slice a l.length c) ∧ RowQ W' 4 v' (flat4 l) g' ∧ Below w.heap.size w W' ∧ ∀ k, g' = some k → w.heap.size ≤ k)) := by
      have q0 : RowQ (w.alloc (.cells #[] 26)) 4 (.slice (some ⟨w.heap.size, 0, none⟩) 0 0) (flat4 []) (some w.heap.size) := Or.inr ⟨w.heap.size, 0, 0, 0, rfl, rfl, rfl, Nat.le_refl _, by omega, by simp, fun j x hj => (by cases hj), fun j hj => by omega⟩
      have hq1 := hq.keep (w' := w.alloc (.cells #[] 26)) (F := fun _ => False) ((KeptX.refl _ _).alloc _) (fun _ _ e => e)
      obtain ⟨v', W', e1, g1, q1, k1, d1⟩ := rowq_append (P := Try.prog) (t := 49) (tx := 49) _ Try.underlying49 infoOp4 rfl (by decide) q0 (rowq_src Try.underlying49 hq1) (N := l.length) (by rw [flat4_len, flat4_len]; simp) hl (by omega)
      rw [show flat4 [] ++ flat4 l = flat4 l from rfl] at q1
      obtain ⟨a, c, hv⟩ := rowq_len q1
      have hb : Below w.heap.size w W' := ⟨k1.os, k1.tape, k1.output, by have := k1.size; simp at this; omega, fun k hk => (k1.block k (by simp; omega) (fun e => by cases e; omega)).trans (Below.heap_alloc _ _ _ hk)⟩
      refine ⟨v', W', e1, ⟨_, _, _, hv⟩, g1, ⟨a, c, hv⟩, q1, hb, fun k e => ?_⟩
      rcases d1 with d | d
      · rw [d] at e; cases e; exact Nat.le_refl _
      · rw [d] at e; cases e; simp
    clear hq h3 h4 h5 h7 h8 hg
    have hu : ∀ (w : World) (a : Option Addr) (n c n' c' : Nat), (binOp .eql 49 (.slice a n c) (.slice none n' c')).run Try.prog w = .ok (.bool a.isNone) w := fun w a n c n' c' => Lib.run_eql_slice_nil w _ _ a n c n' c' Try.underlying49
    go_enter Try.func67, Try.ntmps67
    go_wp2_with (at_builtin; go_must (refine wpList_append_ex _ rfl _ _ _ _ rfl _ _ rfl rfl _ HA.out ?_; rintro v1 W1 ⟨⟨a1, n1, c1, rfl⟩, hw1⟩; have HW := hidP hw1; clear hw1))
    go_ret
    obtain ⟨g', hw⟩ := HW.out
    exact ⟨_, g', rfl, hw⟩
section
variable {w w' : World} {mb : Nat} {m : Moo} {L : DLay} {own : Nat → Option Nat}
theorem waiting_any (b o s c : Nat) (vo vq : Value) (l : List Op4) (q : List Msg) (go gq : Option Nat) (w : World) (h : EndAt w b o s c vo vq l q go gq) :
    Calls Try.prog 38 #[.pointer (some ⟨b, o, none⟩)] w fun e w' => e = .returned (.int .i64 (q.length : Int)) ∧ w = w' := by
  obtain ⟨ua, uc, rfl⟩ := rowq6_len h.qq
  have c3 := h.c3
  clear h
  go_enter Try.func38, Try.ntmps38
  go_wp2
  go_ret
  exact ⟨rfl, rfl⟩
theorem open_any (b o s c : Nat) (vo vq : Value) (l : List Op4) (q : List Msg) (go gq : Option Nat) (w : World) (h : EndAt w b o s c vo vq l q go gq) (hl : l.length * 32 ≤ 140737488355328) :
    Calls Try.prog 40 #[.pointer (some ⟨b, o, none⟩)] w fun e w' => ∃ v' g', e = .returned v' ∧ Hid ((∃ a c, v' = .slice a l.length c) ∧ RowQ w' 4 v' (flat4 l) g' ∧ Below w.heap.size w w' ∧ ∀ k, g' = some k → w.heap.size ≤ k) := by
  have HC := hidP (clone4_any vo l go w h.qo hl)
  have c2 := h.c2
  obtain ⟨va, vc, rfl⟩ := rowq_len h.qo
  clear h hl
  go_enter Try.func40, Try.ntmps40
  go_wp2_with fail
  refine HC.out.mono ?_
  rintro e w1 ⟨v', g', rfl, hh⟩
  have HH := hidP hh
  obtain ⟨⟨a, c, rfl⟩, _⟩ := hh
  go_wp2
  go_ret
  exact ⟨_, g', rfl, HH.out⟩
theorem swaiting_any (h : DevM w mb m L own) (c : Nat) (hc : c < m.n) : Calls Try.prog 39 #[.pointer (some ⟨L.vb, 0, none⟩), .int .i64 (c : Int)] w fun e w' => e = .returned (.int .i64 ((m.cl c).dn.length : Int)) ∧ w = w' := by
  obtain ⟨go, gq, ⟨⟨vo, vq, he⟩, _⟩, _, _⟩ := h.se c hc
  have HW := hidP (waiting_any L.eb (c * 5) (m.cl c).ts (m.cl c).tc vo vq (m.cl c).tq (m.cl c).dn go gq w he)
  have v1 := h.v1
  have hc' : (c : Int) < (m.n : Int) := by omega
  clear h he
  go_enter Try.func39, Try.ntmps39
  go_wp2_with (go_at_call 38; refine HW.out.mono ?_; rintro e w1 ⟨rfl, rfl⟩)
  go_ret
  exact ⟨rfl, rfl⟩
set_option maxHeartbeats 1000000 in
theorem devLook_ok (h : DevM w mb m L own) (c : Nat) (hc : c < m.n) (hl : (m.cl c).ho.length * 32 ≤ 140737488355328) :
    Calls Try.prog 21 #[.pointer (some ⟨mb, 0, none⟩), .int .i64 (c : Int)] w fun e w' => ∃ a cc g', e = .returned (.tuple #[.agg #[.int .i64 ((m.cl c).up.length : Int), .int .i64 ((m.cl c).dn.length : Int), .slice a (m.cl c).ho.length cc], .int .i64 0]) ∧ Hid (RowQ w' 4 (.slice a (m.cl c).ho.length cc) (flat4 (m.cl c).ho) g' ∧ Below w.heap.size w w' ∧ ∀ k, g' = some k → w.heap.size ≤ k) := by
  have HH : Hid (∀ W, Below w.heap.size w W → Calls Try.prog 36 #[.pointer (some ⟨mb, 0, none⟩), .int .i64 (c : Int)] W fun e w' => e = .returned (.bool true) ∧ W = w') := fun W hW => by rw [← hasB_nat hc]; exact has_any (h.below hW) c
  have HW : Hid (∀ W, Below w.heap.size w W → Calls Try.prog 38 #[.pointer (some ⟨L.cb c, 0, none⟩)] W fun e w' => e = .returned (.int .i64 ((m.cl c).up.length : Int)) ∧ W = w') := fun W hW => by
    obtain ⟨go, gq, ⟨⟨vo, vq, he⟩, _, _⟩, _, _, _⟩ := (h.below hW).cl c hc
    exact waiting_any _ _ _ _ _ _ _ _ _ _ W he
  have HS : Hid (∀ W, Below w.heap.size w W → Calls Try.prog 39 #[.pointer (some ⟨L.vb, 0, none⟩), .int .i64 (c : Int)] W fun e w' => e = .returned (.int .i64 ((m.cl c).dn.length : Int)) ∧ W = w') := fun W hW => swaiting_any (h.below hW) c hc
  have HO : Hid (∀ W, Below w.heap.size w W → Calls Try.prog 40 #[.pointer (some ⟨L.cb c, 0, none⟩)] W fun e w' => ∃ v' g', e = .returned v' ∧ Hid ((∃ a cc, v' = .slice a (m.cl c).ho.length cc) ∧ RowQ w' 4 v' (flat4 (m.cl c).ho) g' ∧ Below W.heap.size W w' ∧ ∀ k, g' = some k → W.heap.size ≤ k)) := fun W hW => by
    obtain ⟨go, gq, ⟨⟨vo, vq, he⟩, _, _⟩, _, _, _⟩ := (h.below hW).cl c hc
    exact open_any _ _ _ _ _ _ _ _ _ _ W he hl
  have m0 := h.m0
  have m1 := h.m1
  have kp := h.kp c hc
  have lm := h.lto h.o0
  have lk := h.lto h.o2
  have hc' : (c : Int) < (m.n : Int) := by omega
  clear h hl
  go_enter Try.func21, Try.ntmps21
  go_wp2_with (go_at_call 36; refine (HH.out _ (by repeat (first | exact Below.refl _ _ | apply Below.drew | refine bel_alloc ?_ _))).mono ?_; rintro e w1 ⟨rfl, rfl⟩)
  go_region_with ((first | (go_at_call 38; refine (HW.out _ (by repeat (first | exact Below.refl _ _ | apply Below.drew | refine bel_alloc ?_ _))).mono ?_; rintro e w1 ⟨rfl, rfl⟩) | (go_at_call 39; refine (HS.out _ (by repeat (first | exact Below.refl _ _ | apply Below.drew | refine bel_alloc ?_ _))).mono ?_; rintro e w1 ⟨rfl, rfl⟩) | (go_at_call 40; refine (HO.out _ (by repeat (first | exact Below.refl _ _ | apply Below.drew | refine bel_alloc ?_ _))).mono ?_; rintro e w2 ⟨v2, g2, rfl, ⟨⟨a2, c2, rfl⟩, hq2, hb2, hg2⟩⟩; have HF : Hid (RowQ w2 4 (.slice a2 (m.cl c).ho.length c2) (flat4 (m.cl c).ho) g2 ∧ Below w.heap.size w w2 ∧ ∀ k, g2 = some k → w.heap.size < k) := ⟨hq2, bel_trans (by repeat (first | exact Below.refl _ _ | apply Below.drew | refine bel_alloc ?_ _)) hb2, fun k e => Nat.lt_of_lt_of_le (by simp) (hg2 k e)⟩; obtain ⟨hcX, hfX⟩ := bcell hb2; have p0 := hcX w.heap.size 0 (by simp); have p1 := hcX w.heap.size 1 (by simp); have p2 := hcX w.heap.size 2 (by simp); have pf := fun j => hfX w.heap.size j (by simp); clear hq2 hb2 hg2 hcX hfX; simp [go_sem] at p0 p1 p2 pf)))
  all_goals go_wp2
  all_goals simp [bodyPost, results, Try.results21, go_sem, p0, p1, p2]
  all_goals
    obtain ⟨hq, hb, hg⟩ := HF.out
    refine ⟨a2, c2, ⟨rfl, rfl⟩, g2, hq.keep (F := fun k => k = w.heap.size) ((((KeptX.refl (fun k => k = w.heap.size) _).setCell (p := ⟨w.heap.size, 0, none⟩) (fun _ => rfl) _).setCell (p := ⟨w.heap.size, 1, none⟩) (fun _ => rfl) _).setCell (p := ⟨w.heap.size, 2, none⟩) (fun _ => rfl) _) (fun k e e2 => by have := hg k e; omega), bel_set (bel_set (bel_set hb (p := ⟨w.heap.size, 0, none⟩) (Nat.le_refl _) _) (p := ⟨w.heap.size, 1, none⟩) (Nat.le_refl _) _) (p := ⟨w.heap.size, 2, none⟩) (Nat.le_refl _) _, fun k e => Nat.le_of_lt (hg k e)⟩
end
end Go.Proofs.Ytabahmcbhapbiaa
namespace Go.Proofs.Ytabahmcbhapbiaa
open Go.RowKit Go.Lib
set_option linter.unusedVariables false
/-- A room at its block. -/
structure RoomAt (w : World) (rb mb n : Nat) (first : List UInt8) (typed : Nat → Nat) (dels : Nat) : Prop where
  c0 : w.cell? ⟨rb, 0, none⟩ = some (.pointer (some ⟨mb, 0, none⟩))
  c1 : w.cell? ⟨rb, 1, none⟩ = some (.int .i64 (n : Int))
  c2 : w.cell? ⟨rb, 2, none⟩ = some (dstr first)
  ct : ∀ i, i < 256 → w.cell? ⟨rb, 3 + i, none⟩ = some (.int .i64 (typed i : Int))
  cd : w.cell? ⟨rb, 259, none⟩ = some (.int .i64 (dels : Int))
  fr : ∀ j, w.frozen? ⟨rb, j, none⟩ = false
  lt : rb < w.heap.size
theorem roomZero : Try.zeroCells47.toList = .pointer none :: .int .i64 0 :: .string ⟨#[]⟩ :: List.replicate 257 (.int .i64 0) := by kernel_rfl
theorem room_new (w : World) (mb n : Nat) (t : List UInt8) : RoomAt (w.alloc (.cells (((Try.zeroCells47.setIfInBounds 0 (.pointer (some ⟨mb, 0, none⟩))).setIfInBounds 1 (.int .i64 (n : Int))).setIfInBounds 2 (dstr t)) 47)) w.heap.size mb n t (fun _ => 0) 0 := by
  obtain ⟨Z, hZ⟩ : ∃ Z, Z = Try.zeroCells47 := ⟨_, rfl⟩
  have hz := roomZero
  rw [← hZ] at hz ⊢
  have hsz : Z.size = 260 := by rw [← Array.length_toList, hz]; simp only [List.length_cons, List.length_replicate]
  have hget : ∀ i, 3 ≤ i → i < 260 → (((Z.setIfInBounds 0 (.pointer (some ⟨mb, 0, none⟩))).setIfInBounds 1 (.int .i64 (n : Int))).setIfInBounds 2 (dstr t))[i]? = some (.int .i64 0) := fun i h3 hi => by
    rw [Array.getElem?_setIfInBounds_ne (by omega), Array.getElem?_setIfInBounds_ne (by omega), Array.getElem?_setIfInBounds_ne (by omega), ← Array.getElem?_toList, hz]
    obtain ⟨j, rfl⟩ : ∃ j, i = j + 3 := ⟨i - 3, by omega⟩
    simp only [List.getElem?_cons_succ]
    rw [List.getElem?_replicate, if_pos (by omega)]
  refine ⟨?_, ?_, ?_, fun i hi => ?_, ?_, fun j => World.frozen?_alloc_at _ _ _ j rfl, by simp⟩
  all_goals rw [World.cell?_alloc_at _ _ _ _ rfl]
  · rw [Array.getElem?_setIfInBounds_ne (by omega), Array.getElem?_setIfInBounds_ne (by omega), Array.getElem?_setIfInBounds_self_of_lt (by omega)]
  · rw [Array.getElem?_setIfInBounds_ne (by omega), Array.getElem?_setIfInBounds_self_of_lt (by simp; omega)]
  · rw [Array.getElem?_setIfInBounds_self_of_lt (by simp; omega)]
  · exact hget _ (by omega) (by omega)
  · exact hget _ (by omega) (by omega)
theorem RoomAt.keep {F : Nat → Prop} {w w' : World} {rb mb n : Nat} {first : List UInt8} {typed : Nat → Nat} {dels : Nat} (h : RoomAt w rb mb n first typed dels) (hk : KeptX F w w') (hF : ¬ F rb) : RoomAt w' rb mb n first typed dels :=
  have c : ∀ j, w'.cell? ⟨rb, j, none⟩ = w.cell? ⟨rb, j, none⟩ := fun j => hk.cell (p := ⟨rb, j, none⟩) h.lt hF
  ⟨(c _).trans h.c0, (c _).trans h.c1, (c _).trans h.c2, fun i hi => (c _).trans (h.ct i hi), (c _).trans h.cd, fun j => (hk.frozen (p := ⟨rb, j, none⟩) h.lt hF).trans (h.fr j), Nat.lt_of_lt_of_le h.lt hk.size⟩
theorem RoomAt.setTyped {w : World} {rb mb n : Nat} {first : List UInt8} {typed : Nat → Nat} {dels : Nat} (h : RoomAt w rb mb n first typed dels) (b : Nat) (hb : b < 256) : RoomAt (w.setCell ⟨rb, 3 + b, none⟩ (.int .i64 ((typed b : Int) + 1))) rb mb n first (fun i => if i = b then typed i + 1 else typed i) dels := by
  have ho : ∀ j, j ≠ 3 + b → (w.setCell ⟨rb, 3 + b, none⟩ (.int .i64 ((typed b : Int) + 1))).cell? ⟨rb, j, none⟩ = w.cell? ⟨rb, j, none⟩ := fun j hj => World.cell?_setCell_other _ _ _ _ (by simp only [ne_eq, Addr.mk.injEq]; omega)
  refine ⟨(ho _ (by omega)).trans h.c0, (ho _ (by omega)).trans h.c1, (ho _ (by omega)).trans h.c2, fun i hi => ?_, (ho _ (by omega)).trans h.cd, fun j => by rw [World.frozen?_setCell]; exact h.fr j, by simpa [World.setCell] using h.lt⟩
  by_cases e : i = b
  · subst e
    have := h.ct i hi
    simp [go_sem, this]
  · simp only [if_neg e]
    exact (ho _ (by omega)).trans (h.ct i hi)
theorem RoomAt.setDels {w : World} {rb mb n : Nat} {first : List UInt8} {typed : Nat → Nat} {dels : Nat} (h : RoomAt w rb mb n first typed dels) : RoomAt (w.setCell ⟨rb, 259, none⟩ (.int .i64 ((dels : Int) + 1))) rb mb n first typed (dels + 1) := by
  have ho : ∀ j, j ≠ 259 → (w.setCell ⟨rb, 259, none⟩ (.int .i64 ((dels : Int) + 1))).cell? ⟨rb, j, none⟩ = w.cell? ⟨rb, j, none⟩ := fun j hj => World.cell?_setCell_other _ _ _ _ (by simp only [ne_eq, Addr.mk.injEq]; omega)
  refine ⟨(ho _ (by omega)).trans h.c0, (ho _ (by omega)).trans h.c1, (ho _ (by omega)).trans h.c2, fun i hi => (ho _ (by omega)).trans (h.ct i hi), ?_, fun j => by rw [World.frozen?_setCell]; exact h.fr j, by simpa [World.setCell] using h.lt⟩
  have := h.cd
  simp [go_sem, this]
/-- How often each byte stands in a text. -/
def countB (t : List UInt8) : Nat → Nat := fun b => t.count (UInt8.ofNat b)
theorem countB_take (t : List UInt8) (j : Nat) (hj : j < t.length) : (fun i => if i = (t[j]).toNat then countB (t.take j) i + 1 else countB (t.take j) i) = fun i => if i < 256 then countB (t.take (j + 1)) i else (if i = (t[j]).toNat then countB (t.take j) i + 1 else countB (t.take j) i) := by
  funext i
  by_cases h : i < 256
  · rw [if_pos h]
    unfold countB
    rw [List.take_add_one, List.getElem?_eq_getElem hj, List.count_append]
    by_cases e : i = (t[j]).toNat
    · rw [if_pos e, e]
      simp
    · rw [if_neg e]
      have : ¬ (t[j] = UInt8.ofNat i) := fun e2 => e (by rw [e2, UInt8.toNat_ofNat']; omega)
      simp [this]
  · rw [if_neg h]
theorem RoomAt.congr {w : World} {rb mb n : Nat} {first : List UInt8} {typed typed' : Nat → Nat} {dels : Nat} (h : RoomAt w rb mb n first typed dels) (ht : ∀ i, i < 256 → typed' i = typed i) : RoomAt w rb mb n first typed' dels :=
  ⟨h.c0, h.c1, h.c2, fun i hi => by rw [ht i hi]; exact h.ct i hi, h.cd, h.fr, h.lt⟩
/-- A room and its moot, made since w; P: the blocks beside that are none of the moot's. -/
structure Rm (w W : World) (P : Nat → Prop) (rb mb : Nat) (first : List UInt8) (m : Moo) (typed : Nat → Nat) (dels : Nat) : Prop where
  ex : ∃ L own, DevM W mb m L own ∧ (∀ k, P k → own k = none) ∧ ∀ k, own k ≠ none → w.heap.size ≤ k
  ra : RoomAt W rb mb m.n first typed dels
  pr : P rb
  ge : ∀ k, P k → w.heap.size ≤ k ∧ k < W.heap.size
  bel : Below w.heap.size w W
section
variable {w W W' : World} {P : Nat → Prop} {rb mb : Nat} {first : List UInt8} {m : Moo} {typed : Nat → Nat} {dels : Nat}
theorem Rm.below (h : Rm w W P rb mb first m typed dels) (hb : Below W.heap.size W W') : Rm w W' P rb mb first m typed dels := by
  obtain ⟨⟨L, own, h1, h2, h3⟩, ra, pr, ge, bel⟩ := h
  exact ⟨⟨L, own, h1.below hb, h2, h3⟩, ra.keep (KeptX.of_below (F := fun _ => False) hb) (fun e => e), pr, fun k e => ⟨(ge k e).1, Nat.lt_of_lt_of_le (ge k e).2 hb.size⟩, bel_trans bel hb⟩
/-- A block that is new is none of the moot's. -/
theorem Rm.add (h : Rm w W P rb mb first m typed dels) (hb : Below W.heap.size W W') {k : Nat} (h1 : W.heap.size ≤ k) (h2 : k < W'.heap.size) : Rm w W' (fun x => P x ∨ x = k) rb mb first m typed dels := by
  have hb' := h.below hb
  obtain ⟨⟨L, own, e1, e2, e3⟩, _⟩ := h
  obtain ⟨_, ra, pr, ge, bel⟩ := hb'
  refine ⟨⟨L, own, e1.below hb, fun x e => e.elim (e2 x) (fun e => by rw [e]; exact e1.fresh h1), e3⟩, ra, Or.inl pr, fun x e => e.elim (ge x) (fun e => ?_), bel⟩
  rw [e]
  have := bel.size
  exact ⟨by
    have h9 := (ge rb pr).1
    have h10 := e1.lto e1.o0
    have h11 := e3 mb (by rw [e1.o0]; simp)
    omega, h2⟩
theorem Rm.fewer {Q : Nat → Prop} (h : Rm w W P rb mb first m typed dels) (hq : ∀ k, Q k → P k) (hr : Q rb) : Rm w W Q rb mb first m typed dels := by
  obtain ⟨⟨L, own, e1, e2, e3⟩, ra, pr, ge, bel⟩ := h
  exact ⟨⟨L, own, e1, fun k e => e2 k (hq k e), e3⟩, ra, hr, fun k e => ge k (hq k e), bel⟩
/-- A call on the moot. -/
theorem Rm.next (h : Rm w W P rb mb first m typed dels) : ∃ L own, DevM W mb m L own ∧ ∀ Wx, Below W.heap.size W Wx → ∀ W' own' m', DevM W' mb m' L own' → DFrm Wx own W' own' → m'.n = m.n →
    Rm w W' P rb mb first m' typed dels ∧ ∀ k, P k → ∀ j, W'.cell? ⟨k, j, none⟩ = W.cell? ⟨k, j, none⟩ ∧ W'.frozen? ⟨k, j, none⟩ = W.frozen? ⟨k, j, none⟩ := by
  obtain ⟨⟨L, own, h1, h2, h3⟩, ra, pr, ge, bel⟩ := h
  refine ⟨L, own, h1, fun Wx hx W' own' m' hd hf hn => ?_⟩
  have bx := bel_trans bel hx
  have hsx := hx.size
  have hP : ∀ k, P k → k < Wx.heap.size := fun k e => Nat.lt_of_lt_of_le (ge k e).2 hx.size
  refine ⟨⟨⟨L, own', hd, fun k e => ?_, fun k e => ?_⟩, ?_, pr, fun k e => ⟨(ge k e).1, Nat.lt_of_lt_of_le (hP k e) hf.kx.size⟩, ⟨hf.kx.os.trans bx.os, hf.kx.tape.trans bx.tape, hf.kx.output.trans bx.output, Nat.le_trans bx.size hf.kx.size, fun k hk => (hf.kx.block k (Nat.lt_of_lt_of_le hk bx.size) (fun e => by have := h3 k e; omega)).trans (bx.block k hk)⟩⟩, fun k e j => ?_⟩
  · by_cases e' : own' k = none
    · exact e'
    · rcases hf.nw k e' with x | x
      · exact absurd (h2 k e) x
      · have := hP k e; omega
  · rcases hf.nw k e with x | x
    · exact h3 k x
    · have := bx.size; omega
  · rw [hn]
    exact (ra.keep (KeptX.of_below (F := fun _ => False) hx) (fun e => e)).keep hf.kx (fun e => e (h2 rb pr))
  · have hk := hP k e
    exact ⟨(hf.kx.cell (p := ⟨k, j, none⟩) hk (fun x => x (h2 k e))).trans (hx.cell (p := ⟨k, j, none⟩) (ge k e).2), (hf.kx.frozen (p := ⟨k, j, none⟩) hk (fun x => x (h2 k e))).trans (hx.frozen (p := ⟨k, j, none⟩) (ge k e).2)⟩
end
set_option maxHeartbeats 2000000 in
theorem opened_short (cl : Int) (hcl : I64 cl) (t : List UInt8) (ht : t.length ≤ 60) (w : World) :
    Calls Try.prog 18 #[.int .i64 cl, dstr t] w fun e w' => ∃ rb mb, e = .returned (.pointer (some ⟨rb, 0, none⟩)) ∧ Hid (Rm w w' (fun x => x = rb) rb mb t (newM (1 + pickN cl 4) t) (countB t) 0) := by
  have HA : Hid (∀ W, Calls Try.prog 13 #[] W fun e w' => e = .returned (.bool true) ∧ Below W.heap.size W w') := fun W => awake_any W
  have HP : Hid (∀ W, Calls Try.prog 17 #[.int .i64 cl, .int .i64 4] W fun e w' => e = .returned (.int .i64 (pickN cl 4 : Int)) ∧ W = w') := fun W => pick_any cl hcl 4 (by omega) (by omega) W
  have l4 := pickN_lt cl (n := 4) (by omega)
  generalize pickN cl 4 = k at *
  have HN : Hid (∀ W, Calls Try.prog 30 #[.int .i64 (1 + (k : Int)), dstr t] W fun e w' => ∃ mb L own, e = .returned (.tuple #[.pointer (some ⟨mb, 0, none⟩), .int .i64 0]) ∧ Hid (DevM w' mb (newM (1 + k) t) L own ∧ Below W.heap.size W w' ∧ ∀ k, own k ≠ none → W.heap.size ≤ k)) := fun W => by
    have := devNew_ok (1 + k) (by omega) (by omega) t ht W
    rw [show (((1 + k : Nat)) : Int) = 1 + (k : Int) by omega] at this
    exact this
  have hsz := dstr_size t
  have hk4 : (k : Int) < 4 := by omega
  have il : (t.length : Int) ≤ 60 := by omega
  clear hcl
  go_enter Try.func18, Try.ntmps18
  go_wp2_with fail
  refine (HA.out _).mono ?_
  rintro e w1 ⟨rfl, hb1⟩
  have HB1 := hidP hb1
  clear hb1 HA
  go_wp2_with (go_at_call 17; refine (HP.out _).mono ?_; rintro e wp ⟨rfl, rfl⟩)
  refine (HN.out _).mono ?_
  rintro e w2 ⟨mb, L, own, rfl, hd⟩
  have HD := hidP hd
  clear hd HN HP
  have HR := hidP (room_new w2 mb (1 + k) t)
  rw [show (((1 + k : Nat)) : Int) = 1 + (k : Int) by omega] at HR
  go_wp2_with fail
  generalize hWa : w2.alloc _ = Wa at *
  have HWa := hidP hWa
  clear hWa
  go_loopw [10] (fun i wr => ∃ j : Nat, j ≤ t.length ∧ i = .int .i64 (j : Int) ∧ KeptX (fun x => x = w2.heap.size) Wa wr ∧ RoomAt wr w2.heap.size mb (1 + k) t (countB (t.take j)) 0) (fun i _ => t.length - (RowKit.intOf i).toNat)
  case atStart => exact ⟨0, Nat.zero_le _, rfl, KeptX.refl _ _, HR.out.congr (fun i hi => by unfold countB; simp)⟩
  case round =>
    obtain ⟨j, hjn, rfl, hkx, hra⟩ := hrel
    clear HR
    by_cases hlt : j < t.length
    · have hlt' : (j : Int) < (t.length : Int) := by omega
      have hj60 : j < 60 := by omega
      have hbv : ∀ h, (⟨t.toArray⟩ : ByteArray)[j]'h = t[j] := fun h => rfl
      obtain ⟨b, hb⟩ : ∃ b, b = (t[j]).toNat := ⟨_, rfl⟩
      have hb256 : b < 256 := by rw [hb]; exact (t[j]).toNat_lt
      have hbi : (b : Int) < 256 := by omega
      have hbv2 : ∀ h, ((⟨t.toArray⟩ : ByteArray)[j]'h).toNat = b := fun h => by rw [hb]; rfl
      have hct := hra.ct b hb256
      have hfr := hra.fr
      have hcnt : countB (t.take j) b ≤ 60 := by
        unfold countB
        have := List.count_le_length (a := UInt8.ofNat b) (l := t.take j)
        rw [List.length_take] at this
        omega
      have hcnti : (countB (t.take j) b : Int) ≤ 60 := by omega
      have HS := hidP (hra.setTyped b hb256)
      have HK := hidP (hkx.setCell (p := ⟨w2.heap.size, 3 + b, none⟩) (fun _ => rfl) (.int .i64 ((countB (t.take j) b : Int) + 1)))
      have HB := hidP hb
      clear hb hbv hkx hra
      go_wp2_with fail
      go_region
      all_goals go_wp2_with fail
      refine ⟨⟨j + 1, by omega, by go_num, HK.out.drew, (HS.out.keep (F := fun _ => False) (KeptX.refl _ _).drew (fun e => e)).congr (fun i hi => ?_)⟩, by simp [RowKit.intOf]; omega⟩
      have e := congrFun (countB_take t j hlt) i
      simp only [if_pos hi] at e
      rw [HB.out]
      exact e.symm
    · have hje : j = t.length := by omega
      subst hje
      rw [List.take_length] at hra
      have HF := hidP (show Rm w wr (fun x => x = w2.heap.size) w2.heap.size mb t (newM (1 + k) t) (countB t) 0 from by
        obtain ⟨h1, h2, h3⟩ := HD.out
        have hbw : Below w.heap.size w w2 := bel_trans HB1.out h2
        have hba : Below w2.heap.size w2 Wa := by rw [← HWa.out]; exact bel_alloc (Below.refl _ _) _
        have hg : w.heap.size ≤ w2.heap.size := hbw.size
        have hn : own w2.heap.size = none := h1.fresh (Nat.le_refl _)
        refine ⟨⟨L, own, (h1.below hba).keep hkx (fun x e e2 => e (by rw [e2]; exact hn)), fun x e => by rw [e]; exact hn, fun x e => Nat.le_trans HB1.out.size (h3 x e)⟩, hra, rfl, fun x e => by rw [e]; exact ⟨hg, hra.lt⟩, ?_⟩
        have hb2 := bel_trans hbw hba
        exact ⟨hkx.os.trans hb2.os, hkx.tape.trans hb2.tape, hkx.output.trans hb2.output, Nat.le_trans hb2.size hkx.size, fun x hx => (hkx.block x (Nat.lt_of_lt_of_le hx hb2.size) (by omega)).trans (hb2.block x hx)⟩)
      clear hkx hra
      go_wp2
      go_ret
      exact ⟨_, mb, rfl, HF.out⟩
set_option maxHeartbeats 2000000 in
theorem opened_long (cl : Int) (hcl : I64 cl) (t : List UInt8) (u : List UInt8) (hu : 60 < u.length) (htu : t = u.take 60) (ht : t.length ≤ 60) (w : World) :
    Calls Try.prog 18 #[.int .i64 cl, dstr u] w fun e w' => ∃ rb mb, e = .returned (.pointer (some ⟨rb, 0, none⟩)) ∧ Hid (Rm w w' (fun x => x = rb) rb mb t (newM (1 + pickN cl 4) t) (countB t) 0) := by
  have HA : Hid (∀ W, Calls Try.prog 13 #[] W fun e w' => e = .returned (.bool true) ∧ Below W.heap.size W w') := fun W => awake_any W
  have HP : Hid (∀ W, Calls Try.prog 17 #[.int .i64 cl, .int .i64 4] W fun e w' => e = .returned (.int .i64 (pickN cl 4 : Int)) ∧ W = w') := fun W => pick_any cl hcl 4 (by omega) (by omega) W
  have l4 := pickN_lt cl (n := 4) (by omega)
  generalize pickN cl 4 = k at *
  have HN : Hid (∀ W, Calls Try.prog 30 #[.int .i64 (1 + (k : Int)), dstr t] W fun e w' => ∃ mb L own, e = .returned (.tuple #[.pointer (some ⟨mb, 0, none⟩), .int .i64 0]) ∧ Hid (DevM w' mb (newM (1 + k) t) L own ∧ Below W.heap.size W w' ∧ ∀ k, own k ≠ none → W.heap.size ≤ k)) := fun W => by
    have := devNew_ok (1 + k) (by omega) (by omega) t ht W
    rw [show (((1 + k : Nat)) : Int) = 1 + (k : Int) by omega] at this
    exact this
  have hsz := dstr_size t
  have huz := dstr_size u
  have hul : (60 : Int) < (u.length : Int) := by omega
  have hext : (⟨u.toArray⟩ : ByteArray).extract 0 60 = ⟨t.toArray⟩ := by
    rw [htu]
    apply ByteArray.ext
    simp
  have HTU := hidP htu
  clear htu
  have hk4 : (k : Int) < 4 := by omega
  have il : (t.length : Int) ≤ 60 := by omega
  clear hcl
  go_enter Try.func18, Try.ntmps18
  go_wp2_with fail
  refine (HA.out _).mono ?_
  rintro e w1 ⟨rfl, hb1⟩
  have HB1 := hidP hb1
  clear hb1 HA
  go_wp2_with (go_at_call 17; refine (HP.out _).mono ?_; rintro e wp ⟨rfl, rfl⟩)
  refine (HN.out _).mono ?_
  rintro e w2 ⟨mb, L, own, rfl, hd⟩
  have HD := hidP hd
  clear hd HN HP
  have HR := hidP (room_new w2 mb (1 + k) t)
  rw [show (((1 + k : Nat)) : Int) = 1 + (k : Int) by omega] at HR
  go_wp2_with fail
  generalize hWa : w2.alloc _ = Wa at *
  have HWa := hidP hWa
  clear hWa
  go_loopw [10] (fun i wr => ∃ j : Nat, j ≤ t.length ∧ i = .int .i64 (j : Int) ∧ KeptX (fun x => x = w2.heap.size) Wa wr ∧ RoomAt wr w2.heap.size mb (1 + k) t (countB (t.take j)) 0) (fun i _ => t.length - (RowKit.intOf i).toNat)
  case atStart => exact ⟨0, Nat.zero_le _, rfl, KeptX.refl _ _, HR.out.congr (fun i hi => by unfold countB; simp)⟩
  case round =>
    obtain ⟨j, hjn, rfl, hkx, hra⟩ := hrel
    clear HR
    by_cases hlt : j < t.length
    · have hlt' : (j : Int) < (t.length : Int) := by omega
      have hj60 : j < 60 := by omega
      have hbv : ∀ h, (⟨t.toArray⟩ : ByteArray)[j]'h = t[j] := fun h => rfl
      obtain ⟨b, hb⟩ : ∃ b, b = (t[j]).toNat := ⟨_, rfl⟩
      have hb256 : b < 256 := by rw [hb]; exact (t[j]).toNat_lt
      have hbi : (b : Int) < 256 := by omega
      have hbv2 : ∀ h, ((⟨t.toArray⟩ : ByteArray)[j]'h).toNat = b := fun h => by rw [hb]; rfl
      have hct := hra.ct b hb256
      have hfr := hra.fr
      have hcnt : countB (t.take j) b ≤ 60 := by
        unfold countB
        have := List.count_le_length (a := UInt8.ofNat b) (l := t.take j)
        rw [List.length_take] at this
        omega
      have hcnti : (countB (t.take j) b : Int) ≤ 60 := by omega
      have HS := hidP (hra.setTyped b hb256)
      have HK := hidP (hkx.setCell (p := ⟨w2.heap.size, 3 + b, none⟩) (fun _ => rfl) (.int .i64 ((countB (t.take j) b : Int) + 1)))
      have HB := hidP hb
      clear hb hbv hkx hra
      go_wp2_with fail
      go_region
      all_goals go_wp2_with fail
      refine ⟨⟨j + 1, by omega, by go_num, HK.out.drew, (HS.out.keep (F := fun _ => False) (KeptX.refl _ _).drew (fun e => e)).congr (fun i hi => ?_)⟩, by simp [RowKit.intOf]; omega⟩
      have e := congrFun (countB_take t j hlt) i
      simp only [if_pos hi] at e
      rw [HB.out]
      exact e.symm
    · have hje : j = t.length := by omega
      subst hje
      rw [List.take_length] at hra
      have HF := hidP (show Rm w wr (fun x => x = w2.heap.size) w2.heap.size mb t (newM (1 + k) t) (countB t) 0 from by
        obtain ⟨h1, h2, h3⟩ := HD.out
        have hbw : Below w.heap.size w w2 := bel_trans HB1.out h2
        have hba : Below w2.heap.size w2 Wa := by rw [← HWa.out]; exact bel_alloc (Below.refl _ _) _
        have hg : w.heap.size ≤ w2.heap.size := hbw.size
        have hn : own w2.heap.size = none := h1.fresh (Nat.le_refl _)
        refine ⟨⟨L, own, (h1.below hba).keep hkx (fun x e e2 => e (by rw [e2]; exact hn)), fun x e => by rw [e]; exact hn, fun x e => Nat.le_trans HB1.out.size (h3 x e)⟩, hra, rfl, fun x e => by rw [e]; exact ⟨hg, hra.lt⟩, ?_⟩
        have hb2 := bel_trans hbw hba
        exact ⟨hkx.os.trans hb2.os, hkx.tape.trans hb2.tape, hkx.output.trans hb2.output, Nat.le_trans hb2.size hkx.size, fun x hx => (hkx.block x (Nat.lt_of_lt_of_le hx hb2.size) (by omega)).trans (hb2.block x hx)⟩)
      clear hkx hra
      go_wp2
      go_ret
      exact ⟨_, mb, rfl, HF.out⟩
/-- What is kept of a text. -/
def first60 (t : List UInt8) : List UInt8 := t.take 60
theorem first60_len (t : List UInt8) : (first60 t).length ≤ 60 := by unfold first60; rw [List.length_take]; omega
theorem first60_short {t : List UInt8} (h : t.length ≤ 60) : first60 t = t := by unfold first60; exact List.take_of_length_le h
end Go.Proofs.Ytabahmcbhapbiaa
namespace Go.Proofs.Ytabahmcbhapbiaa

/-! ### Bytes: none stands oftener than it was typed -/
/-- The byte of an insert. -/
def byteOf (o : Op4) : UInt8 := UInt8.ofNat o.b.toNat
/-- Inserts of the byte v; deletes; inserts: in a list. -/
def insB (v : UInt8) : List Op4 → Nat
  | [] => 0
  | o :: l => (if o.k = 1 ∧ byteOf o = v then 1 else 0) + insB v l
def delAll : List Op4 → Nat
  | [] => 0
  | o :: l => (if o.k = 2 then 1 else 0) + delAll l
theorem insB_append (v : UInt8) : ∀ l m : List Op4, insB v (l ++ m) = insB v l + insB v m
  | [], m => by simp [insB]
  | o :: l, m => by simp only [List.cons_append, insB, insB_append v l m]; omega
theorem delAll_append : ∀ l m : List Op4, delAll (l ++ m) = delAll l + delAll m
  | [], m => by simp [delAll]
  | o :: l, m => by simp only [List.cons_append, delAll, delAll_append l m]; omega
theorem insAll_append : ∀ l m : List Op4, insAll (l ++ m) = insAll l + insAll m
  | [], m => by simp [insAll]
  | o :: l, m => by simp only [List.cons_append, insAll, insAll_append l m]; omega

theorem count_ins (t : List UInt8) (i : Nat) (x v : UInt8) : (ins t i x).count v = t.count v + if x = v then 1 else 0 := by
  unfold ins
  rw [List.count_append, List.count_cons]
  have e : t.count v = (t.take i).count v + (t.drop i).count v := by rw [← List.count_append, List.take_append_drop]
  by_cases h : x = v <;> simp [h] <;> omega
theorem count_del (t : List UInt8) (i : Nat) (v : UInt8) : (del t i).count v ≤ t.count v := by
  unfold del
  rw [List.count_append]
  have e : t.count v = (t.take i).count v + (t.drop i).count v := by rw [← List.count_append, List.take_append_drop]
  have e2 : (t.drop (i + 1)).count v ≤ (t.drop i).count v := by
    rw [← List.drop_drop]
    exact List.Sublist.count_le _ (List.drop_sublist _ _)
  omega
theorem app_count {t u : List UInt8} {o : Op4} (h : app t o = some u) (v : UInt8) : u.count v ≤ t.count v + insB v [o] := by
  unfold app at h
  simp only [insB]
  split at h
  · rename_i hk
    split at h
    · cases h
      rw [count_ins]
      simp only [hk, true_and, byteOf]
      omega
    · cases h
  · split at h
    · split at h
      · cases h
        have := count_del t o.p.toNat v
        omega
      · cases h
    · cases h; omega
theorem app_lenK {t u : List UInt8} {o : Op4} (h : app t o = some u) : u.length + delAll [o] ≥ t.length + insAll [o] := by
  have := app_grow h
  simp only [grow, delAll, insAll] at this ⊢
  split at this <;> (try split at this) <;> (repeat' split) <;> omega

/-- Turning keeps an insert's byte, and makes no delete. -/
theorem turn_byte {a b : Op4} (ha : Wf a) (hb : Wf b) : ((turn a b).1.k = 1 → (turn a b).1.b = a.b) ∧ ((turn a b).2.k = 1 → (turn a b).2.b = b.b) ∧ ((turn a b).1.k = 2 → a.k = 2) ∧ ((turn a b).2.k = 2 → b.k = 2) := by
  obtain ⟨ak, ap, ab, as1⟩ := a
  obtain ⟨bk, bp, bb, bs⟩ := b
  unfold turn
  simp only
  repeat' split
  all_goals (refine ⟨?_, ?_, ?_, ?_⟩ <;> intro h <;> simp only at h ⊢ <;> first | assumption | omega)
theorem cross_byte {own : Bool} {c : Int} : ∀ {o : Op4} {l : List Op4}, Own own c o → (∀ x ∈ l, Own (!own) c x) → ((cross o l).1.k = 1 → (cross o l).1.b = o.b) ∧ ((cross o l).1.k = 2 → o.k = 2)
  | o, [], _, _ => ⟨fun _ => rfl, fun h => h⟩
  | o, x :: l, ho, hl => by
    have hx := hl x (by simp)
    have h := own_turn ho hx
    have hb := turn_byte ho.1 hx.1
    have hi := cross_ins (l := l) h.1 (fun y hy => hl y (by simp [hy]))
    obtain ⟨i1, i2⟩ := cross_byte (l := l) h.1 (fun y hy => hl y (by simp [hy]))
    rw [cross_cons]
    simp only
    refine ⟨fun hk => ?_, fun hk => hb.2.2.1 (i2 hk)⟩
    rw [i1 hk, hb.1 (hi.1 hk)]
theorem cross_count {own : Bool} {c : Int} {o : Op4} {l : List Op4} (ho : Own own c o) (hl : ∀ x ∈ l, Own (!own) c x) : (∀ v, insB v [(cross o l).1] = insB v [o]) ∧ insAll [(cross o l).1] = insAll [o] ∧ delAll [(cross o l).1] ≤ delAll [o] := by
  have h1 := cross_ins ho hl
  have h2 := cross_byte ho hl
  refine ⟨fun v => ?_, ?_, ?_⟩
  · simp only [insB]
    by_cases hk : o.k = 1
    · have hk' := h1.2 hk
      have e : byteOf (cross o l).1 = byteOf o := by unfold byteOf; rw [h2.1 hk']
      simp only [hk, hk', e]
    · have hk' : ¬ (cross o l).1.k = 1 := fun h => hk (h1.1 h)
      simp [hk, hk']
  · simp only [insAll]
    by_cases hk : o.k = 1
    · simp [hk, h1.2 hk]
    · have hk' : ¬ (cross o l).1.k = 1 := fun h => hk (h1.1 h)
      simp [hk, hk']
  · simp only [delAll]
    by_cases hk : (cross o l).1.k = 2
    · simp [hk, h2.2 hk]
    · simp [hk]

/-- A sum over the clients. -/
def sumC : Nat → (Nat → Nat) → Nat
  | 0, _ => 0
  | n + 1, f => sumC n f + f n
theorem sumC_congr {f g : Nat → Nat} : ∀ {n : Nat}, (∀ i, i < n → f i = g i) → sumC n f = sumC n g
  | 0, _ => rfl
  | n + 1, h => by simp only [sumC]; rw [sumC_congr (fun i hi => h i (by omega)), h n (by omega)]
/-- One of them turned. -/
theorem sumC_set {f g : Nat → Nat} {c : Nat} : ∀ {n : Nat}, c < n → (∀ i, i < n → i ≠ c → f i = g i) → sumC n f + g c = sumC n g + f c
  | 0, h, _ => by omega
  | n + 1, h, hi => by
    simp only [sumC]
    by_cases hc : c = n
    · subst hc
      have := sumC_congr (n := c) (f := f) (g := g) (fun i hi' => hi i (by omega) (by omega))
      omega
    · have := sumC_set (n := n) (by omega) (fun i hi' hne => hi i (by omega) hne)
      have := hi n (by omega) (fun h => hc h.symm)
      omega
theorem sumC_zero {f : Nat → Nat} : ∀ {n : Nat}, (∀ i, i < n → f i = 0) → sumC n f = 0
  | 0, _ => rfl
  | n + 1, h => by simp only [sumC]; rw [sumC_zero (fun i hi => h i (by omega)), h n (by omega)]

def ups (m : Moo) (i : Nat) : List Op4 := (m.cl i).up.map Msg.o
def dns (m : Moo) (i : Nat) : List Op4 := (m.cl i).dn.map Msg.o

/-- What is kept. 'typed v': how often v was typed, or stood there at first; 'all': all of these; 'dels': how many deletes were typed. -/
structure KeptOK (m : Moo) (typed : UInt8 → Nat) (all dels : Nat) : Prop where
  srv : ∀ v, m.srv.count v + sumC m.n (fun i => insB v (ups m i)) ≤ typed v
  cli : ∀ c, c < m.n → ∀ v, (m.cl c).text.count v + insB v (dns m c) + sumC m.n (fun i => if i = c then 0 else insB v (ups m i)) ≤ typed v
  len : all + sumC m.n (fun i => delAll (ups m i)) ≤ m.srv.length + sumC m.n (fun i => insAll (ups m i)) + dels

theorem kept_new {n : Nat} {t : List UInt8} : KeptOK (newM n t) (fun v => t.count v) t.length 0 := by
  have hz : ∀ f : Nat → Nat, (∀ i, f i = 0) → sumC n f = 0 := fun f h => sumC_zero (fun i _ => h i)
  refine ⟨fun v => ?_, fun c _ v => ?_, ?_⟩
  · show t.count v + sumC n (fun i => insB v (ups (newM n t) i)) ≤ t.count v
    have := hz (fun i => insB v (ups (newM n t) i)) (fun _ => rfl)
    omega
  · show t.count v + insB v [] + sumC n (fun i => if i = c then 0 else insB v (ups (newM n t) i)) ≤ t.count v
    have := hz (fun i => if i = c then 0 else insB v (ups (newM n t) i)) (fun i => by split <;> rfl)
    simp only [insB]
    omega
  · show t.length + sumC n (fun i => delAll (ups (newM n t) i)) ≤ t.length + sumC n (fun i => insAll (ups (newM n t) i)) + 0
    have h1 := hz (fun i => delAll (ups (newM n t) i)) (fun _ => rfl)
    have h2 := hz (fun i => insAll (ups (newM n t) i)) (fun _ => rfl)
    omega

theorem kept_type {m : Moo} {typed : UInt8 → Nat} {all dels : Nat} (h : KeptOK m typed all dels) {c : Nat} (hc : c < m.n) {o : Op4} {t : List UInt8} (ht : app (m.cl c).text o = some t) :
    KeptOK (m.set c (typeC (m.cl c) o t)) (fun v => typed v + insB v [o]) (all + insAll [o]) (dels + delAll [o]) := by
  have huc : ups (m.set c (typeC (m.cl c) o t)) c = ups m c ++ [o] := by simp [ups, Moo.set, typeC]
  have hui : ∀ i, i ≠ c → ups (m.set c (typeC (m.cl c) o t)) i = ups m i := fun i hi => by simp [ups, Moo.set, hi]
  have hdn : ∀ i, dns (m.set c (typeC (m.cl c) o t)) i = dns m i := fun i => by
    by_cases hi : i = c
    · subst hi; simp [dns, Moo.set, typeC]
    · simp [dns, Moo.set, hi]
  have htc : ((m.set c (typeC (m.cl c) o t)).cl c).text = t := by simp [Moo.set, typeC]
  have hti : ∀ i, i ≠ c → ((m.set c (typeC (m.cl c) o t)).cl i).text = (m.cl i).text := fun i hi => by simp [Moo.set, hi]
  refine ⟨fun v => ?_, fun i hi v => ?_, ?_⟩
  · have e := sumC_set (f := fun i => insB v (ups (m.set c (typeC (m.cl c) o t)) i)) (g := fun i => insB v (ups m i)) hc (fun i _ hne => by rw [hui i hne])
    simp only [huc, insB_append] at e
    have := h.srv v
    show m.srv.count v + sumC m.n (fun i => insB v (ups (m.set c (typeC (m.cl c) o t)) i)) ≤ _
    omega
  · have h0 := h.cli i hi v
    rw [hdn]
    show _ + _ + sumC m.n (fun j => if j = i then 0 else insB v (ups (m.set c (typeC (m.cl c) o t)) j)) ≤ _
    by_cases hic : i = c
    · subst hic
      rw [htc]
      have e := sumC_congr (n := m.n) (f := fun j => if j = i then 0 else insB v (ups (m.set i (typeC (m.cl i) o t)) j)) (g := fun j => if j = i then 0 else insB v (ups m j)) (fun j _ => by
        split
        · rfl
        · rename_i hj; rw [hui j hj])
      have := app_count ht v
      omega
    · rw [hti i hic]
      have e := sumC_set (f := fun j => if j = i then 0 else insB v (ups (m.set c (typeC (m.cl c) o t)) j)) (g := fun j => if j = i then 0 else insB v (ups m j)) hc (fun j _ hne => by rw [hui j hne])
      simp only [huc, insB_append, if_neg (fun h' : c = i => hic h'.symm)] at e
      omega
  · have e1 := sumC_set (f := fun i => insAll (ups (m.set c (typeC (m.cl c) o t)) i)) (g := fun i => insAll (ups m i)) hc (fun i _ hne => by rw [hui i hne])
    have e2 := sumC_set (f := fun i => delAll (ups (m.set c (typeC (m.cl c) o t)) i)) (g := fun i => delAll (ups m i)) hc (fun i _ hne => by rw [hui i hne])
    simp only [huc, insAll_append, delAll_append] at e1 e2
    have := h.len
    show _ + sumC m.n (fun i => delAll (ups (m.set c (typeC (m.cl c) o t)) i)) ≤ m.srv.length + sumC m.n (fun i => insAll (ups (m.set c (typeC (m.cl c) o t)) i)) + _
    omega

theorem kept_down {first : List UInt8} {m : Moo} {typed : UInt8 → Nat} {all dels : Nat} (hI : Inv first m) (h : KeptOK m typed all dels) {c : Nat} (hc : c < m.n) {μ : Msg} {r : List Msg} {t : List UInt8} (hd : (m.cl c).dn = μ :: r)
    (ht : app (m.cl c).text (dnO (m.cl c) μ) = some t) : KeptOK (m.set c (takeC (m.cl c) μ r t)) typed all dels := by
  have hl := link_len (hI.cl c hc).link
  have hμ : Own false c μ.o := hl.2.2.2.2.2.2.2 (μ.o, μ.came) (by rw [hd]; simp [prs])
  have hcc := (cross_count (own := false) (l := (m.cl c).ho.drop (μ.came - (m.cl c).hk)) hμ (fun y hy => hl.2.2.2.2.2.1 y (List.mem_of_mem_drop hy))).1
  have hup : ∀ i, ups (m.set c (takeC (m.cl c) μ r t)) i = ups m i := fun i => by
    by_cases hi : i = c
    · subst hi; simp [ups, Moo.set, takeC]
    · simp [ups, Moo.set, hi]
  have hu : ups (m.set c (takeC (m.cl c) μ r t)) = ups m := funext hup
  refine ⟨fun v => ?_, fun i hi v => ?_, ?_⟩
  · rw [hu]; exact h.srv v
  · have h0 := h.cli i hi v
    rw [hu]
    show _ + _ + sumC m.n (fun j => if j = i then 0 else insB v (ups m j)) ≤ _
    by_cases hic : i = c
    · subst hic
      have e1 : ((m.set i (takeC (m.cl i) μ r t)).cl i).text = t := by simp [Moo.set, takeC]
      have e2 : dns (m.set i (takeC (m.cl i) μ r t)) i = r.map Msg.o := by simp [dns, Moo.set, takeC]
      have e3 : insB v (dns m i) = insB v [μ.o] + insB v (r.map Msg.o) := by
        rw [← insB_append]; simp [dns, hd]
      have := app_count ht v
      have := hcc v
      rw [e1, e2]
      show t.count v + _ + _ ≤ _
      unfold dnO at *
      omega
    · have e1 : ((m.set c (takeC (m.cl c) μ r t)).cl i) = m.cl i := by simp [Moo.set, hic]
      have e2 : dns (m.set c (takeC (m.cl c) μ r t)) i = dns m i := by unfold dns; rw [e1]
      rw [e1, e2]; exact h0
  · rw [hu]; exact h.len

theorem kept_up {first : List UInt8} {m : Moo} {typed : UInt8 → Nat} {all dels : Nat} (hI : Inv first m) (h : KeptOK m typed all dels) {c : Nat} (hc : c < m.n) {μ : Msg} {r : List Msg} {t : List UInt8} (hu : (m.cl c).up = μ :: r)
    (ht : app m.srv (upO (m.cl c) μ) = some t) : KeptOK (upM m c μ r t) typed all dels := by
  have hl := link_len (hI.cl c hc).link
  have hμ : Own true c μ.o := hl.2.2.2.2.2.2.1 (μ.o, μ.came) (by rw [hu]; simp [prs])
  obtain ⟨hcc, hci, hcd⟩ := cross_count (own := true) (l := (m.cl c).tq.drop (μ.came - (m.cl c).tk)) hμ (fun y hy => hl.2.2.2.2.1 y (List.mem_of_mem_drop hy))
  have huc : ups (upM m c μ r t) c = r.map Msg.o := by simp [ups, upM, sendS, takeS]
  have hui : ∀ i, i ≠ c → ups (upM m c μ r t) i = ups m i := fun i hi => by simp [ups, upM, sendS, hi]
  have hc0 : ups m c = μ.o :: r.map Msg.o := by simp [ups, hu]
  have htx : ∀ i, ((upM m c μ r t).cl i).text = (m.cl i).text := fun i => by
    by_cases hi : i = c
    · subst hi; simp [upM, sendS, takeS]
    · simp [upM, sendS, hi]
  have hB : ∀ v, insB v (ups m c) = insB v [μ.o] + insB v (r.map Msg.o) := fun v => by rw [hc0, ← insB_append]; rfl
  have hA : insAll (ups m c) = insAll [μ.o] + insAll (r.map Msg.o) := by rw [hc0, ← insAll_append]; rfl
  have hD : delAll (ups m c) = delAll [μ.o] + delAll (r.map Msg.o) := by rw [hc0, ← delAll_append]; rfl
  refine ⟨fun v => ?_, fun i hi v => ?_, ?_⟩
  · have e := sumC_set (f := fun i => insB v (ups (upM m c μ r t) i)) (g := fun i => insB v (ups m i)) hc (fun i _ hne => by rw [hui i hne])
    simp only [huc, hB] at e
    have := h.srv v
    have := app_count ht v
    have := hcc v
    show t.count v + sumC m.n (fun i => insB v (ups (upM m c μ r t) i)) ≤ _
    unfold upO at *
    omega
  · have h0 := h.cli i hi v
    rw [htx]
    show _ + _ + sumC m.n (fun j => if j = i then 0 else insB v (ups (upM m c μ r t) j)) ≤ _
    by_cases hic : i = c
    · subst hic
      have e2 : insB v (dns (upM m i μ r t) i) = insB v (dns m i) := by
        have : dns (upM m i μ r t) i = dns m i ++ [noop i] := by simp [dns, upM, sendS, takeS]
        rw [this, insB_append]; simp [insB, noop]
      have e := sumC_congr (n := m.n) (f := fun j => if j = i then 0 else insB v (ups (upM m i μ r t) j)) (g := fun j => if j = i then 0 else insB v (ups m j)) (fun j _ => by
        split
        · rfl
        · rename_i hj; rw [hui j hj])
      omega
    · have e2 : insB v (dns (upM m c μ r t) i) = insB v (dns m i) + insB v [upO (m.cl c) μ] := by
        have : dns (upM m c μ r t) i = dns m i ++ [upO (m.cl c) μ] := by simp [dns, upM, sendS, hic]
        rw [this, insB_append]
      have e := sumC_set (f := fun j => if j = i then 0 else insB v (ups (upM m c μ r t) j)) (g := fun j => if j = i then 0 else insB v (ups m j)) hc (fun j _ hne => by rw [hui j hne])
      simp only [huc, hB, if_neg (fun h' : c = i => hic h'.symm)] at e
      have := hcc v
      unfold upO at *
      omega
  · have e1 := sumC_set (f := fun i => insAll (ups (upM m c μ r t) i)) (g := fun i => insAll (ups m i)) hc (fun i _ hne => by rw [hui i hne])
    have e2 := sumC_set (f := fun i => delAll (ups (upM m c μ r t) i)) (g := fun i => delAll (ups m i)) hc (fun i _ hne => by rw [hui i hne])
    simp only [huc, hA, hD] at e1 e2
    have := h.len
    have := app_lenK ht
    show _ + sumC m.n (fun i => delAll (ups (upM m c μ r t) i)) ≤ t.length + sumC m.n (fun i => insAll (ups (upM m c μ r t) i)) + _
    unfold upO at *
    omega

/-- When nothing is on its way: no more is missing than was deleted. -/
theorem kept_end {m : Moo} {typed : UInt8 → Nat} {all dels : Nat} (h : KeptOK m typed all dels) (hu : ∀ i, i < m.n → (m.cl i).up = []) : all ≤ m.srv.length + dels := by
  have h1 := sumC_zero (n := m.n) (f := fun i => delAll (ups m i)) (fun i hi => by simp [ups, hu i hi, delAll])
  have h2 := sumC_zero (n := m.n) (f := fun i => insAll (ups m i)) (fun i hi => by simp [ups, hu i hi, insAll])
  have := h.len
  omega
end Go.Proofs.Ytabahmcbhapbiaa
namespace Go.Proofs.Ytabahmcbhapbiaa
open Go.RowKit Go.Lib
set_option linter.unusedVariables false
theorem sumC_le {f : Nat → Nat} : ∀ {n i : Nat}, i < n → f i ≤ sumC n f
  | n + 1, i, h => by
    simp only [sumC]
    by_cases e : i = n
    · subst e; omega
    · have := sumC_le (f := f) (n := n) (i := i) (by omega); omega
theorem sumC_add {f g : Nat → Nat} : ∀ n : Nat, sumC n (fun i => f i + g i) = sumC n f + sumC n g
  | 0 => rfl
  | n + 1 => by simp only [sumC]; rw [sumC_add n]; omega
theorem sumC_one {b : Nat} : ∀ n : Nat, sumC n (fun i => if i = b then 1 else 0) = if b < n then 1 else 0
  | 0 => rfl
  | n + 1 => by
    simp only [sumC]
    rw [sumC_one n]
    by_cases e : n = b
    · subst e; simp
    · by_cases h : b < n
      · simp [h, e, show b < n + 1 by omega]
      · simp [h, e, show ¬ b < n + 1 by omega]
/-- One byte more. -/
def moreB (typed : Nat → Nat) (b : Nat) : Nat → Nat := fun i => if i = b then typed i + 1 else typed i
theorem sumC_more (typed : Nat → Nat) {b : Nat} (hb : b < 256) : sumC 256 (moreB typed b) = sumC 256 typed + 1 := by
  have e : moreB typed b = fun i => typed i + (if i = b then 1 else 0) := by
    funext i
    unfold moreB
    split <;> rfl
  rw [e, sumC_add, sumC_one, if_pos hb]
theorem countB_sum : ∀ t : List UInt8, sumC 256 (countB t) = t.length
  | [] => sumC_zero (fun i _ => by unfold countB; simp)
  | x :: t => by
    have e : sumC 256 (countB (x :: t)) = sumC 256 (moreB (countB t) x.toNat) := sumC_congr (fun i hi => by
      unfold countB moreB
      rw [List.count_cons]
      by_cases h : i = x.toNat
      · subst h; simp
      · have : ¬ (x = UInt8.ofNat i) := fun e2 => h (by rw [e2, UInt8.toNat_ofNat']; omega)
        simp [h, this])
    rw [e, sumC_more _ x.toNat_lt, countB_sum t, List.length_cons]
/-- How a room stands, in plain words; at most N ops were typed. -/
structure Good (first : List UInt8) (m : Moo) (typed : Nat → Nat) (dels N : Nat) : Prop where
  inv : Inv first m
  kept : KeptOK m (fun v => typed v.toNat) (sumC 256 typed) dels
  tot : m.hist.length + sumC m.n (fun i => (m.cl i).up.length) ≤ N
  tb : sumC 256 typed + dels ≤ N + 60
theorem good_few {first : List UInt8} {m : Moo} {typed : Nat → Nat} {dels N : Nat} (h : Good first m typed dels N) (hN : (N + 1) * 48 ≤ 140737488355328) : Few m := by
  have := h.tot
  show (m.hist.length + 1) * 48 ≤ 140737488355328
  have h2 : (m.hist.length + 1) * 48 ≤ (N + 1) * 48 := Nat.mul_le_mul_right _ (by omega)
  omega
theorem good_new {n : Nat} {t : List UInt8} (n1 : 1 ≤ n) (n4 : n ≤ 4) (ht : t.length ≤ 60) : Good t (newM n t) (countB t) 0 0 := by
  refine ⟨inv_new n1 n4 ht, ?_, ?_, ?_⟩
  · have h := kept_new (n := n) (t := t)
    rw [countB_sum]
    have e : (fun v : UInt8 => countB t v.toNat) = fun v => t.count v := by
      funext v
      unfold countB
      simp
    rw [e]
    exact h
  · show ([] : List Op4).length + sumC n (fun i => (newC t).up.length) ≤ 0
    have z : sumC n (fun i => (newC t).up.length) = 0 := sumC_zero (fun i _ => rfl)
    rw [z]
    simp
  · rw [countB_sum]; omega
theorem good_more {first : List UInt8} {m : Moo} {typed : Nat → Nat} {dels N M : Nat} (h : Good first m typed dels N) (hM : N ≤ M) : Good first m typed dels M := ⟨h.inv, h.kept, by have := h.tot; omega, by have := h.tb; omega⟩
section
variable {first : List UInt8} {m : Moo} {typed : Nat → Nat} {dels N : Nat}
theorem good_up (h : Good first m typed dels N) {c : Nat} (hc : c < m.n) {μ : Msg} {r : List Msg} {t : List UInt8} (hu : (m.cl c).up = μ :: r) (ht : app m.srv (upO (m.cl c) μ) = some t) (hI : Inv first (upM m c μ r t)) : Good first (upM m c μ r t) typed dels N := by
  refine ⟨hI, kept_up h.inv h.kept hc hu ht, ?_, h.tb⟩
  have h1 := sumC_set (f := fun i => ((upM m c μ r t).cl i).up.length) (g := fun i => (m.cl i).up.length) hc (fun i hi hn => by simp [upM, hn, sendS])
  have e1 : ((upM m c μ r t).cl c).up.length = r.length := by simp [upM, sendS, takeS]
  have e2 : (m.cl c).up.length = r.length + 1 := by rw [hu]; simp
  rw [e1, e2] at h1
  have := h.tot
  show (m.hist ++ [upO (m.cl c) μ]).length + sumC m.n (fun i => ((upM m c μ r t).cl i).up.length) ≤ N
  rw [List.length_append, List.length_singleton]
  omega
theorem good_down (h : Good first m typed dels N) {c : Nat} (hc : c < m.n) {μ : Msg} {r : List Msg} {t : List UInt8} (hd : (m.cl c).dn = μ :: r) (ht : app (m.cl c).text (dnO (m.cl c) μ) = some t) (hI : Inv first (m.set c (takeC (m.cl c) μ r t))) : Good first (m.set c (takeC (m.cl c) μ r t)) typed dels N := by
  refine ⟨hI, kept_down h.inv h.kept hc hd ht, ?_, h.tb⟩
  have e : sumC m.n (fun i => ((m.set c (takeC (m.cl c) μ r t)).cl i).up.length) = sumC m.n (fun i => (m.cl i).up.length) := sumC_congr (fun i hi => by
    by_cases e : i = c
    · subst e; rw [dset_at]; rfl
    · rw [dset_far _ _ e])
  show m.hist.length + sumC m.n (fun i => ((m.set c (takeC (m.cl c) μ r t)).cl i).up.length) ≤ N
  rw [e]
  exact h.tot
/-- A client typed an insert, or a delete. -/
theorem good_type (h : Good first m typed dels N) {c : Nat} (hc : c < m.n) {o : Op4} {t : List UInt8} (ht : app (m.cl c).text o = some t) (hI : Inv first (m.set c (typeC (m.cl c) o t))) (hk : o.k = 1 ∨ o.k = 2) (hb : o.k = 1 → 0 ≤ o.b ∧ o.b ≤ 255) :
    Good first (m.set c (typeC (m.cl c) o t)) (if o.k = 1 then moreB typed o.b.toNat else typed) (if o.k = 1 then dels else dels + 1) (N + 1) := by
  have hkt := kept_type h.kept hc ht
  have htot : (m.set c (typeC (m.cl c) o t)).hist.length + sumC (m.set c (typeC (m.cl c) o t)).n (fun i => ((m.set c (typeC (m.cl c) o t)).cl i).up.length) ≤ N + 1 := by
    have h1 := sumC_set (f := fun i => ((m.set c (typeC (m.cl c) o t)).cl i).up.length) (g := fun i => (m.cl i).up.length) hc (fun i hi hn => by rw [dset_far _ _ hn])
    rw [dset_at] at h1
    have e1 : (typeC (m.cl c) o t).up.length = (m.cl c).up.length + 1 := by simp [typeC]
    rw [e1] at h1
    have := h.tot
    show m.hist.length + sumC m.n (fun i => ((m.set c (typeC (m.cl c) o t)).cl i).up.length) ≤ N + 1
    omega
  have htb := h.tb
  rcases hk with e | e
  · have hbb := hb e
    have hb2 : o.b.toNat < 256 := by omega
    rw [if_pos e, if_pos e]
    refine ⟨hI, ?_, htot, by rw [sumC_more _ hb2]; omega⟩
    have e1 : (fun v : UInt8 => moreB typed o.b.toNat v.toNat) = fun v => typed v.toNat + insB v [o] := by
      funext v
      unfold moreB
      simp only [insB, byteOf, e, true_and, Nat.add_zero]
      by_cases ev : v.toNat = o.b.toNat
      · have : UInt8.ofNat o.b.toNat = v := by rw [← ev]; simp
        simp [ev, this]
      · have : ¬ (UInt8.ofNat o.b.toNat = v) := fun x => ev (by rw [← x, UInt8.toNat_ofNat']; omega)
        simp [ev, this]
    have e2 : insAll [o] = 1 := by simp [insAll, e]
    have e3 : delAll [o] = 0 := by simp [delAll, e]
    rw [e2, e3, Nat.add_zero] at hkt
    rw [e1, sumC_more _ hb2]
    exact hkt
  · have e0 : ¬ o.k = 1 := by omega
    rw [if_neg e0, if_neg e0]
    refine ⟨hI, ?_, htot, by omega⟩
    have e1 : (fun v : UInt8 => typed v.toNat) = fun v => typed v.toNat + insB v [o] := by
      funext v
      simp [insB, e0]
    have e2 : insAll [o] = 0 := by simp [insAll, e0]
    have e3 : delAll [o] = 1 := by simp [delAll, e]
    rw [e2, e3, Nat.add_zero] at hkt
    rw [e1]
    exact hkt
end
/-- What is kept of the blocks of P. -/
def Kp (P : Nat → Prop) (W W' : World) : Prop := ∀ k, P k → ∀ j, W'.cell? ⟨k, j, none⟩ = W.cell? ⟨k, j, none⟩ ∧ W'.frozen? ⟨k, j, none⟩ = W.frozen? ⟨k, j, none⟩
section
variable {w W : World} {P : Nat → Prop} {rb mb : Nat} {first : List UInt8} {m : Moo} {typed : Nat → Nat} {dels N : Nat}
theorem rm_up (h : Rm w W P rb mb first m typed dels) (g : Good first m typed dels N) (hN : (N + 1) * 48 ≤ 140737488355328) {c : Nat} (hc : c < m.n) {μ : Msg} {r : List Msg} (hu : (m.cl c).up = μ :: r) :
    ∃ m', m'.n = m.n ∧ (m'.cl c).up = r ∧ (∀ i, i ≠ c → (m'.cl i).up = (m.cl i).up) ∧ Good first m' typed dels N ∧ ∀ Wx, Below W.heap.size W Wx → Calls Try.prog 25 #[.pointer (some ⟨mb, 0, none⟩), .int .i64 (c : Int)] Wx fun e w' => e = .returned (.int .i64 0) ∧ Hid (Rm w w' P rb mb first m' typed dels ∧ Kp P W w') := by
  obtain ⟨_, _, _, _, _, t, ht, hI⟩ := inv_up g.inv hc hu
  refine ⟨upM m c μ r t, rfl, by simp [upM, sendS, takeS], fun i hi => by simp [upM, hi, sendS], good_up g hc hu ht hI, fun Wx hx => ?_⟩
  obtain ⟨L, own, hd, hn⟩ := h.next
  obtain ⟨t', ht', _, hC⟩ := devUp_inv (hd.below hx) g.inv (good_few g hN) c hc μ r hu
  rw [ht] at ht'
  cases ht'
  refine hC.mono ?_
  rintro e w' ⟨rfl, own', hd', hf'⟩
  exact ⟨rfl, hn Wx hx w' own' _ hd' hf' rfl⟩
theorem rm_down (h : Rm w W P rb mb first m typed dels) (g : Good first m typed dels N) (hN : (N + 1) * 48 ≤ 140737488355328) {c : Nat} (hc : c < m.n) {μ : Msg} {r : List Msg} (hd : (m.cl c).dn = μ :: r) :
    ∃ m', m'.n = m.n ∧ (m'.cl c).up = (m.cl c).up ∧ (m'.cl c).dn = r ∧ (∀ i, i ≠ c → m'.cl i = m.cl i) ∧ Good first m' typed dels N ∧ ∀ Wx, Below W.heap.size W Wx → Calls Try.prog 27 #[.pointer (some ⟨mb, 0, none⟩), .int .i64 (c : Int)] Wx fun e w' => e = .returned (.int .i64 0) ∧ Hid (Rm w w' P rb mb first m' typed dels ∧ Kp P W w') := by
  obtain ⟨_, _, t, ht, hI⟩ := inv_down g.inv hc hd
  refine ⟨m.set c (takeC (m.cl c) μ r t), rfl, by rw [dset_at]; rfl, by rw [dset_at]; rfl, fun i hi => dset_far _ _ hi, good_down g hc hd ht hI, fun Wx hx => ?_⟩
  obtain ⟨L, own, hdm, hn⟩ := h.next
  obtain ⟨t', ht', _, hC⟩ := devDown_inv (hdm.below hx) g.inv (good_few g hN) c hc μ r hd
  rw [ht] at ht'
  cases ht'
  refine hC.mono ?_
  rintro e w' ⟨rfl, own', hd', hf'⟩
  exact ⟨rfl, hn Wx hx w' own' _ hd' hf' rfl⟩
theorem Kp.refl (P : Nat → Prop) (W : World) : Kp P W W := fun _ _ _ => ⟨rfl, rfl⟩
theorem Kp.trans {P : Nat → Prop} {W W1 W2 : World} (h : Kp P W W1) (k : Kp P W1 W2) : Kp P W W2 := fun x e j => ⟨(k x e j).1.trans (h x e j).1, (k x e j).2.trans (h x e j).2⟩
theorem Kp.fewer {P Q : Nat → Prop} {W W1 : World} (h : Kp P W W1) (hq : ∀ k, Q k → P k) : Kp Q W W1 := fun x e j => h x (hq x e) j
theorem Rm.kb (h : Rm w W P rb mb first m typed dels) {W' : World} (hb : Below W.heap.size W W') : Kp P W W' := fun k e j => ⟨hb.cell (p := ⟨k, j, none⟩) (h.ge k e).2, hb.frozen (p := ⟨k, j, none⟩) (h.ge k e).2⟩
theorem rm_look (h : Rm w W P rb mb first m typed dels) (g : Good first m typed dels N) {c : Nat} (hc : c < m.n) :
    Calls Try.prog 21 #[.pointer (some ⟨mb, 0, none⟩), .int .i64 (c : Int)] W fun e w' => ∃ a cc, e = .returned (.tuple #[.agg #[.int .i64 ((m.cl c).up.length : Int), .int .i64 ((m.cl c).dn.length : Int), .slice a (m.cl c).ho.length cc], .int .i64 0]) ∧ Hid (Below W.heap.size W w') := by
  obtain ⟨L, own, hd, _⟩ := h.next
  have := (g.inv.cl c hc).few
  refine (devLook_ok hd c hc (by omega)).mono ?_
  rintro e w' ⟨a, cc, g', rfl, _, hb, _⟩
  exact ⟨a, cc, rfl, hb⟩
theorem rm_text (h : Rm w W P rb mb first m typed dels) {c : Nat} (hc : c < m.n) :
    Calls Try.prog 20 #[.pointer (some ⟨mb, 0, none⟩), .int .i64 (c : Int)] W fun e w' => e = .returned (.tuple #[dstr (m.cl c).text, .int .i64 0]) ∧ W = w' := by
  obtain ⟨L, own, hd, _⟩ := h.next
  exact devText_cli hd c hc
theorem rm_srv (h : Rm w W P rb mb first m typed dels) :
    Calls Try.prog 20 #[.pointer (some ⟨mb, 0, none⟩), .int .i64 (-1)] W fun e w' => e = .returned (.tuple #[dstr m.srv, .int .i64 0]) ∧ W = w' := by
  obtain ⟨L, own, hd, _⟩ := h.next
  exact devText_srv hd
end
end Go.Proofs.Ytabahmcbhapbiaa
namespace Go.Proofs.Ytabahmcbhapbiaa
open Go.RowKit Go.Lib
set_option linter.unusedVariables false
/-- What 'calm' makes of a moot. -/
structure CalmOK (m m' : Moo) (c : Nat) : Prop where
  n : m'.n = m.n
  up : (m'.cl c).up = []
  dn : (m'.cl c).dn = []
  ot : ∀ i, i ≠ c → (m'.cl i).up = (m.cl i).up
  id : (m.cl c).up = [] → ∀ i, i ≠ c → m'.cl i = m.cl i
section
variable {w W : World} {P : Nat → Prop} {rb mb : Nat} {first : List UInt8} {m : Moo} {typed : Nat → Nat} {dels N : Nat}
/-- How 'calm' stands: the look l lies at lb. -/
structure CalmAt (w W : World) (P : Nat → Prop) (rb mb : Nat) (first : List UInt8) (m : Moo) (typed : Nat → Nat) (dels N c lb U D : Nat) (m' : Moo) : Prop where
  rm : Rm w W (fun x => P x ∨ x = lb) rb mb first m' typed dels
  gd : Good first m' typed dels N
  l0 : W.cell? ⟨lb, 0, none⟩ = some (.int .i64 (U : Int))
  l1 : W.cell? ⟨lb, 1, none⟩ = some (.int .i64 (D : Int))
  lf : ∀ j, W.frozen? ⟨lb, j, none⟩ = false
  l2 : ∃ a n cc, W.cell? ⟨lb, 2, none⟩ = some (.slice a n cc)
  n : m'.n = m.n
  ot : ∀ i, i ≠ c → (m'.cl i).up = (m.cl i).up
  id : (m.cl c).up = [] → ∀ i, i ≠ c → m'.cl i = m.cl i
/-- The look is taken anew. -/
theorem calm_look {wr w2 : World} {c lb U D U2 D2 : Nat} {m' : Moo} {a : Option Addr} {n cc : Nat} (h : CalmAt w wr P rb mb first m typed dels N c lb U D m') (hne : rb ≠ lb) (hnP : ¬ P lb) (hb : Below wr.heap.size wr w2) :
    CalmAt w (((w2.setCell ⟨lb, 0, none⟩ (.int .i64 (U2 : Int))).setCell ⟨lb, 1, none⟩ (.int .i64 (D2 : Int))).setCell ⟨lb, 2, none⟩ (.slice a n cc)) P rb mb first m typed dels N c lb U2 D2 m' ∧ Kp P wr (((w2.setCell ⟨lb, 0, none⟩ (.int .i64 (U2 : Int))).setCell ⟨lb, 1, none⟩ (.int .i64 (D2 : Int))).setCell ⟨lb, 2, none⟩ (.slice a n cc)) := by
  have h2 := h.rm.below hb
  have hlb := (h.rm.ge lb (Or.inr rfl)).2
  have y0 := (hb.cell (p := ⟨lb, 0, none⟩) hlb).trans h.l0
  have y1 := (hb.cell (p := ⟨lb, 1, none⟩) hlb).trans h.l1
  obtain ⟨a2, n2, c2, hl2⟩ := h.l2
  have y2 := (hb.cell (p := ⟨lb, 2, none⟩) hlb).trans hl2
  have hk : KeptX (fun k => k = lb) w2 (((w2.setCell ⟨lb, 0, none⟩ (.int .i64 (U2 : Int))).setCell ⟨lb, 1, none⟩ (.int .i64 (D2 : Int))).setCell ⟨lb, 2, none⟩ (.slice a n cc)) := ((((KeptX.refl (fun k => k = lb) w2).setCell (p := ⟨lb, 0, none⟩) (fun _ => rfl) _).setCell (p := ⟨lb, 1, none⟩) (fun _ => rfl) _).setCell (p := ⟨lb, 2, none⟩) (fun _ => rfl) _)
  obtain ⟨⟨L, own, e1, e2, e3⟩, ra, pr, ge, bel⟩ := h2
  have hon := e2 lb (Or.inr rfl)
  have hgl := (ge lb (Or.inr rfl)).1
  refine ⟨⟨⟨⟨L, own, e1.keep hk (fun k e x => e (by rw [x]; exact hon)), e2, e3⟩, ra.keep hk hne, pr, fun k e => ⟨(ge k e).1, Nat.lt_of_lt_of_le (ge k e).2 hk.size⟩, ⟨hk.os.trans bel.os, hk.tape.trans bel.tape, hk.output.trans bel.output, Nat.le_trans bel.size hk.size, fun k hk1 => (hk.block k (Nat.lt_of_lt_of_le hk1 bel.size) (by omega)).trans (bel.block k hk1)⟩⟩, h.gd, by simp [go_sem, y0], by simp [go_sem, y1], fun j => by simp only [World.frozen?_setCell]; exact (hb.frozen (p := ⟨lb, j, none⟩) hlb).trans (h.lf j), ⟨a, n, cc, by simp [go_sem, y2]⟩, h.n, h.ot, h.id⟩, fun k e j => ?_⟩
  have hkw := (h.rm.ge k (Or.inl e)).2
  have hkn : k ≠ lb := fun x => hnP (by rw [← x]; exact e)
  exact ⟨(hk.cell (p := ⟨k, j, none⟩) (Nat.lt_of_lt_of_le hkw hb.size) hkn).trans (hb.cell (p := ⟨k, j, none⟩) hkw), (hk.frozen (p := ⟨k, j, none⟩) (Nat.lt_of_lt_of_le hkw hb.size) hkn).trans (hb.frozen (p := ⟨k, j, none⟩) hkw)⟩
set_option maxHeartbeats 4000000 in
theorem calm_any (h : Rm w W P rb mb first m typed dels) (g : Good first m typed dels N) (hN : (N + 1) * 48 ≤ 140737488355328) (c : Nat) (hc : c < m.n) :
    Calls Try.prog 22 #[.pointer (some ⟨rb, 0, none⟩), .int .i64 (c : Int)] W fun e w' => e = .returned (.bool true) ∧ Hid (∃ m', Rm w w' P rb mb first m' typed dels ∧ Good first m' typed dels N ∧ CalmOK m m' c ∧ Kp P W w') := by
  have c0 := h.ra.c0
  have HL := hidP (rm_look h g hc)
  have HR := hidP h
  have HG := hidP g
  clear h g
  go_enter Try.func22, Try.ntmps22
  go_wp2_with fail
  refine HL.out.mono ?_
  rintro e w1 ⟨a, cc, rfl, hb1⟩
  have HB1 := hidP hb1
  clear hb1 HL
  have H0 : Hid (CalmAt w (w1.alloc (.cells #[.int .i64 ((m.cl c).up.length : Int), .int .i64 ((m.cl c).dn.length : Int), .slice a (m.cl c).ho.length cc] 51)) P rb mb first m typed dels N c w1.heap.size (m.cl c).up.length (m.cl c).dn.length m ∧ Kp P W (w1.alloc (.cells #[.int .i64 ((m.cl c).up.length : Int), .int .i64 ((m.cl c).dn.length : Int), .slice a (m.cl c).ho.length cc] 51))) := by
    have hb := bel_trans HB1.out (bel_alloc (Below.refl _ _) (.cells #[.int .i64 ((m.cl c).up.length : Int), .int .i64 ((m.cl c).dn.length : Int), .slice a (m.cl c).ho.length cc] 51))
    exact ⟨⟨HR.out.add hb HB1.out.size (by simp), HG.out, by simp [go_sem], by simp [go_sem], fun j => by simp [go_sem], ⟨_, _, _, by simp [go_sem]; exact ⟨rfl, rfl, rfl⟩⟩, rfl, fun _ _ => rfl, fun _ _ _ => rfl⟩, HR.out.kb hb⟩
  have hU : (m.cl c).up.length ≤ 20 := (HG.out.inv.cl c hc).facts.2.2.2.2.1
  generalize hUe : (m.cl c).up.length = U at *
  have HUe := hidP hUe
  clear hUe
  generalize (m.cl c).dn.length = D0 at *
  go_wp2_with fail
  generalize hWa : w1.alloc _ = Wa at *
  clear hWa
  have hUi : (U : Int) ≤ 20 := by omega
  go_loopw [7] (fun i wr => ∃ (j : Nat) (m' : Moo), j ≤ U ∧ i = .int .i64 (j : Int) ∧ CalmAt w wr P rb mb first m typed dels N c w1.heap.size U D0 m' ∧ (m'.cl c).up.length = U - j ∧ Kp P W wr) (fun i _ => U - (RowKit.intOf i).toNat)
  case atStart => exact ⟨0, m, Nat.zero_le _, rfl, H0.out.1, by rw [HUe.out]; rfl, H0.out.2⟩
  case round =>
    obtain ⟨j, m', hjU, rfl, hca, hlen, hkp⟩ := hrel
    clear H0
    have x0 := hca.l0
    have r0 := hca.rm.ra.c0
    by_cases hlt : j < U
    · have hlt' : (j : Int) < (U : Int) := by omega
      obtain ⟨μ, r, hu⟩ : ∃ μ r, (m'.cl c).up = μ :: r := by
        cases e : (m'.cl c).up with
        | nil => rw [e] at hlen; simp at hlen; omega
        | cons μ r => exact ⟨μ, r, rfl⟩
      obtain ⟨m2, e1, e2, e3, e4, hC⟩ := rm_up hca.rm hca.gd hN (c := c) (by rw [hca.n]; exact hc) hu
      have HC := hidP (hC wr (Below.refl _ _))
      have HX := hidP hca
      have HKp := hidP hkp
      have HE := hidP (And.intro e1 (And.intro e2 (And.intro e3 e4)))
      clear hC hca hkp e1 e2 e3 e4
      go_wp2_with fail
      refine HC.out.mono ?_
      rintro e w2 ⟨rfl, hrm, hk2⟩
      have HN2 : Hid (CalmAt w w2 P rb mb first m typed dels N c w1.heap.size U D0 m2 ∧ (m2.cl c).up.length = U - (j + 1) ∧ Kp P W w2) := by
        obtain ⟨e1, e2, e3, e4⟩ := HE.out
        have hX := HX.out
        have kl := hk2 w1.heap.size (Or.inr rfl)
        refine ⟨⟨hrm, e4, (kl 0).1.trans hX.l0, (kl 1).1.trans hX.l1, fun x => (kl x).2.trans (hX.lf x), ?_, e1.trans hX.n, fun i hi => (e3 i hi).trans (hX.ot i hi), fun h0 => ?_⟩, ?_, HKp.out.trans (hk2.fewer (fun k e => Or.inl e))⟩
        · obtain ⟨a2, n2, c2, h2⟩ := hX.l2
          exact ⟨a2, n2, c2, (kl 2).1.trans h2⟩
        · have := HUe.out
          rw [h0] at this
          simp at this
          omega
        · rw [e2]
          have : (m'.cl c).up.length = r.length + 1 := by rw [hu]; simp
          omega
      clear hrm hk2 HC HX HKp HE hlen hu
      go_wp2_with fail
      exact ⟨⟨j + 1, m2, by omega, by go_num, HN2.out.1, HN2.out.2.1, HN2.out.2.2⟩, by simp [RowKit.intOf]; omega⟩
    · have hje : j = U := by omega
      subst hje
      have hup : (m'.cl c).up = [] := List.length_eq_zero_iff.1 (by omega)
      have hc' : c < m'.n := by rw [hca.n]; exact hc
      have HL := hidP (rm_look hca.rm hca.gd hc')
      have HX := hidP hca
      have HKp := hidP hkp
      have HUp := hidP hup
      have hlb := (hca.rm.ge w1.heap.size (Or.inr rfl)).2
      have hlf := hca.lf
      have hl1 := hca.l1
      obtain ⟨a2, n2, c2, hl2⟩ := hca.l2
      clear hca hkp hup hlen
      go_wp2_with fail
      refine HL.out.mono ?_
      rintro e w2 ⟨a3, cc3, rfl, hb2⟩
      have y0 := (hb2.cell (p := ⟨w1.heap.size, 0, none⟩) hlb).trans x0
      have y1 := (hb2.cell (p := ⟨w1.heap.size, 1, none⟩) hlb).trans hl1
      have y2 := (hb2.cell (p := ⟨w1.heap.size, 2, none⟩) hlb).trans hl2
      have yf : ∀ x, w2.frozen? ⟨w1.heap.size, x, none⟩ = false := fun x => (hb2.frozen (p := ⟨w1.heap.size, x, none⟩) hlb).trans (hlf x)
      have HB2 := hidP hb2
      clear hb2 HL hl1 hl2 hlf
      have hrne : rb ≠ w1.heap.size := fun e => by
        have := (HR.out.ge rb HR.out.pr).2
        have := HB1.out.size
        omega
      have hnP : ¬ P w1.heap.size := fun e => by
        have := (HR.out.ge _ e).2
        have := HB1.out.size
        omega
      have HC2 := hidP (calm_look (U2 := (m'.cl c).up.length) (D2 := (m'.cl c).dn.length) (a := a3) (n := (m'.cl c).ho.length) (cc := cc3) HX.out hrne hnP HB2.out)
      have hD : (m'.cl c).dn.length ≤ 3000000000000 := by
        have h1 := (HX.out.gd.inv.cl c hc').facts.2.2.2.2.2.2.2
        have h2 := few_len (good_few HX.out.gd hN)
        omega
      generalize hDe : (m'.cl c).dn.length = D at *
      have HDe := hidP hDe
      clear hDe
      go_wp2_with fail
      generalize hWb : World.setCell _ _ _ = Wb at *
      clear hWb
      have hDi : (D : Int) ≤ 3000000000000 := by omega
      go_loopw [9] (fun i wr => ∃ (j2 : Nat) (m2 : Moo), j2 ≤ D ∧ i = .int .i64 (j2 : Int) ∧ CalmAt w wr P rb mb first m typed dels N c w1.heap.size (m'.cl c).up.length D m2 ∧ (m2.cl c).up = [] ∧ (m2.cl c).dn.length = D - j2 ∧ Kp P W wr) (fun i _ => D - (RowKit.intOf i).toNat)
      case atStart => exact ⟨0, m', Nat.zero_le _, rfl, HC2.out.1, HUp.out, by rw [HDe.out]; rfl, HKp.out.trans HC2.out.2⟩
      case round =>
        obtain ⟨j2, m2, hjD, rfl, hca, hup2, hlen2, hkp2⟩ := hrel
        clear HC2 HKp HB2 HX y0 y1 y2 yf x0
        have x1 := hca.l1
        have r1 := hca.rm.ra.c0
        by_cases hlt2 : j2 < D
        · have hlt' : (j2 : Int) < (D : Int) := by omega
          obtain ⟨μ, r, hu⟩ : ∃ μ r, (m2.cl c).dn = μ :: r := by
            cases e : (m2.cl c).dn with
            | nil => rw [e] at hlen2; simp at hlen2; omega
            | cons μ r => exact ⟨μ, r, rfl⟩
          obtain ⟨m3, e1, e2, e3, e4, e5, hC⟩ := rm_down hca.rm hca.gd hN (c := c) (by rw [hca.n]; exact hc) hu
          have HC := hidP (hC wr (Below.refl _ _))
          have HX := hidP hca
          have HKp := hidP hkp2
          have HE := hidP (And.intro e1 (And.intro e2 (And.intro e3 (And.intro e4 e5))))
          have HUp2 := hidP hup2
          clear hC hca hkp2 e1 e2 e3 e4 e5 hup2
          go_wp2_with fail
          refine HC.out.mono ?_
          rintro e w3 ⟨rfl, hrm, hk3⟩
          have HN2 : Hid (CalmAt w w3 P rb mb first m typed dels N c w1.heap.size (m'.cl c).up.length D m3 ∧ (m3.cl c).up = [] ∧ (m3.cl c).dn.length = D - (j2 + 1) ∧ Kp P W w3) := by
            obtain ⟨e1, e2, e3, e4, e5⟩ := HE.out
            have hX := HX.out
            have kl := hk3 w1.heap.size (Or.inr rfl)
            refine ⟨⟨hrm, e5, (kl 0).1.trans hX.l0, (kl 1).1.trans hX.l1, fun x => (kl x).2.trans (hX.lf x), ?_, e1.trans hX.n, fun i hi => by rw [e4 i hi]; exact hX.ot i hi, fun h0 i hi => (e4 i hi).trans (hX.id h0 i hi)⟩, e2.trans HUp2.out, ?_, HKp.out.trans (hk3.fewer (fun k e => Or.inl e))⟩
            · obtain ⟨a2, n2, c2, h2⟩ := hX.l2
              exact ⟨a2, n2, c2, (kl 2).1.trans h2⟩
            · rw [e3]
              have : (m2.cl c).dn.length = r.length + 1 := by rw [hu]; simp
              omega
          clear hrm hk3 HC HX HKp HE hlen2 hu HUp2
          go_wp2_with fail
          exact ⟨⟨j2 + 1, m3, by omega, by go_num, HN2.out.1, HN2.out.2.1, HN2.out.2.2.1, HN2.out.2.2.2⟩, by simp [RowKit.intOf]; omega⟩
        · have hje : j2 = D := by omega
          subst hje
          have hdn2 : (m2.cl c).dn = [] := List.length_eq_zero_iff.1 (by omega)
          have hc2 : c < m2.n := by rw [hca.n]; exact hc
          have htx : (m2.cl c).text = m2.srv := inv_calm hca.gd.inv hc2 hup2 hdn2
          have HT1 := hidP (rm_text hca.rm hc2)
          rw [htx] at HT1
          have HT2 := hidP (rm_srv hca.rm)
          have HF : Hid (∃ m', Rm w wr P rb mb first m' typed dels ∧ Good first m' typed dels N ∧ CalmOK m m' c ∧ Kp P W wr) := ⟨m2, hca.rm.fewer (fun k e => Or.inl e) HR.out.pr, hca.gd, ⟨hca.n, hup2, hdn2, hca.ot, hca.id⟩, hkp2⟩
          clear hca hkp2 hup2 hdn2 htx hlen2
          go_wp2_with (first | (go_at_call_of 20 c; refine HT1.out.mono ?_; rintro e w3 ⟨rfl, rfl⟩) | (go_at_call 20; refine HT2.out.mono ?_; rintro e w3 ⟨rfl, rfl⟩))
          go_ret
          exact ⟨rfl, HF.out⟩
end
end Go.Proofs.Ytabahmcbhapbiaa
namespace Go.Proofs.Ytabahmcbhapbiaa
open Go.RowKit Go.Lib
set_option linter.unusedVariables false
section
variable {w W : World} {P : Nat → Prop} {rb mb : Nat} {first : List UInt8} {m : Moo} {typed : Nat → Nat} {dels N : Nat}
/-- What a step leaves. -/
def StepOK (w W w' : World) (P : Nat → Prop) (rb mb : Nat) (first : List UInt8) (m : Moo) (N : Nat) : Prop := ∃ m' typed' dels', Rm w w' P rb mb first m' typed' dels' ∧ Good first m' typed' dels' (N + 1) ∧ m'.n = m.n ∧ Kp (fun k => P k ∧ k ≠ rb) W w'
theorem step_same {W' : World} (h : Rm w W P rb mb first m typed dels) (g : Good first m typed dels N) (hb : Below W.heap.size W W') : StepOK w W W' P rb mb first m N := ⟨m, typed, dels, h.below hb, good_more g (by omega), rfl, (h.kb hb).fewer (fun k e => e.1)⟩
theorem rm_up_l (h : Rm w W P rb mb first m typed dels) (g : Good first m typed dels N) (hN : (N + 1) * 48 ≤ 140737488355328) {c : Nat} (hc : c < m.n) {μ : Msg} {r : List Msg} (hu : (m.cl c).up = μ :: r) (w1 Wx : World) (hb1 : Below W.heap.size W w1) (hx : Below w1.heap.size w1 Wx) (lb : Nat) (hk1 : w1.heap.size ≤ lb) (hk2 : lb < Wx.heap.size) :
    Calls Try.prog 25 #[.pointer (some ⟨mb, 0, none⟩), .int .i64 (c : Int)] Wx fun e w' => e = .returned (.int .i64 0) ∧ Hid (StepOK w W w' P rb mb first m N) ∧ ∀ j, w'.cell? ⟨lb, j, none⟩ = Wx.cell? ⟨lb, j, none⟩ := by
  have h2 := (h.below hb1).add hx hk1 hk2
  obtain ⟨m', e1, e2, e3, e4, hC⟩ := rm_up h2 g hN hc hu
  refine (hC Wx (Below.refl _ _)).mono ?_
  rintro e w' ⟨rfl, hr, hk⟩
  exact ⟨rfl, ⟨m', typed, dels, hr.fewer (fun k e => Or.inl e) h.pr, good_more e4 (by omega), e1, ((h.kb (bel_trans hb1 hx)).trans (hk.fewer (fun k e => Or.inl e))).fewer (fun k e => e.1)⟩, fun j => (hk lb (Or.inr rfl) j).1⟩
theorem rm_down_l (h : Rm w W P rb mb first m typed dels) (g : Good first m typed dels N) (hN : (N + 1) * 48 ≤ 140737488355328) {c : Nat} (hc : c < m.n) {μ : Msg} {r : List Msg} (hu : (m.cl c).dn = μ :: r) (w1 Wx : World) (hb1 : Below W.heap.size W w1) (hx : Below w1.heap.size w1 Wx) (lb : Nat) (hk1 : w1.heap.size ≤ lb) (hk2 : lb < Wx.heap.size) :
    Calls Try.prog 27 #[.pointer (some ⟨mb, 0, none⟩), .int .i64 (c : Int)] Wx fun e w' => e = .returned (.int .i64 0) ∧ Hid (StepOK w W w' P rb mb first m N) ∧ ∀ j, w'.cell? ⟨lb, j, none⟩ = Wx.cell? ⟨lb, j, none⟩ := by
  have h2 := (h.below hb1).add hx hk1 hk2
  obtain ⟨m', e1, e2, e3, e4, e5, hC⟩ := rm_down h2 g hN hc hu
  refine (hC Wx (Below.refl _ _)).mono ?_
  rintro e w' ⟨rfl, hr, hk⟩
  exact ⟨rfl, ⟨m', typed, dels, hr.fewer (fun k e => Or.inl e) h.pr, good_more e5 (by omega), e1, ((h.kb (bel_trans hb1 hx)).trans (hk.fewer (fun k e => Or.inl e))).fewer (fun k e => e.1)⟩, fun j => (hk lb (Or.inr rfl) j).1⟩
set_option maxRecDepth 8000 in
set_option maxHeartbeats 2000000 in
theorem step_calm (h : Rm w W P rb mb first m typed dels) (g : Good first m typed dels N) (hN : (N + 2) * 48 ≤ 140737488355328) (kd who xk xp xb xs : Int) (hw : I64 who) (h0 : (kd == 0) = false) (h1 : (kd == 1) = false) (h2 : (kd == 2) = false) :
    Calls Try.prog 19 #[.pointer (some ⟨rb, 0, none⟩), .agg #[.int .i64 kd, .int .i64 who, .int .i64 xk, .int .i64 xp, .int .i64 xb, .int .i64 xs]] W fun e w' => e = .returned (.bool true) ∧ Hid (StepOK w W w' P rb mb first m N) := by
  have hn1 := g.inv.n1
  have hn4 := g.inv.n4
  have hc := pickN_lt who (n := m.n) (by omega)
  have HP : Hid (∀ Wx, Calls Try.prog 17 #[.int .i64 who, .int .i64 (m.n : Int)] Wx fun e w' => e = .returned (.int .i64 (pickN who m.n : Int)) ∧ Wx = w') := fun Wx => pick_any who hw m.n (by omega) (by omega) Wx
  generalize pickN who m.n = c at *
  have c0 := h.ra.c0
  have c1 := h.ra.c1
  have lr := h.ra.lt
  have lr1 : rb < W.heap.size + 1 := by omega
  have HR := hidP h
  have HG := hidP g
  clear h g
  go_enter Try.func19, Try.ntmps19
  go_wp2_with fail
  go_region_held3 (fun Wx => Wx.cell? ⟨W.heap.size, 1, none⟩ = some (.int .i64 who) ∧ Wx.cell? ⟨rb, 1, none⟩ = some (.int .i64 (m.n : Int))) (simp [go_sem, *]) ((go_at_call 17; refine (HP.out _).mono ?_; rintro e wp ⟨rfl, rfl⟩))
  go_wp2_with fail
  refine (calm_any (HR.out.below (bel_alloc (Below.refl _ _) _).drew) HG.out (by omega) c hc).mono ?_
  rintro e w1 ⟨rfl, m', e1, e2, e3, e4⟩
  have HF : Hid (StepOK w W w1 P rb mb first m N) := ⟨m', typed, dels, e1, good_more e2 (by omega), e3.n, ((HR.out.kb (bel_alloc (Below.refl _ _) _).drew).trans e4).fewer (fun k e => e.1)⟩
  clear e1 e2 e3 e4
  go_wp2
  go_ret
  exact ⟨rfl, HF.out⟩
set_option maxRecDepth 8000 in
set_option maxHeartbeats 2000000 in
theorem step_up_none (h : Rm w W P rb mb first m typed dels) (g : Good first m typed dels N) (hN : (N + 2) * 48 ≤ 140737488355328) (kd who xk xp xb xs : Int) (hw : I64 who) (hk : kd = 1) (hq : (m.cl (pickN who m.n)).up = []) :
    Calls Try.prog 19 #[.pointer (some ⟨rb, 0, none⟩), .agg #[.int .i64 kd, .int .i64 who, .int .i64 xk, .int .i64 xp, .int .i64 xb, .int .i64 xs]] W fun e w' => e = .returned (.bool true) ∧ Hid (StepOK w W w' P rb mb first m N) := by
  have hn1 := g.inv.n1
  have hn4 := g.inv.n4
  have hc := pickN_lt who (n := m.n) (by omega)
  have HP : Hid (∀ Wx, Calls Try.prog 17 #[.int .i64 who, .int .i64 (m.n : Int)] Wx fun e w' => e = .returned (.int .i64 (pickN who m.n : Int)) ∧ Wx = w') := fun Wx => pick_any who hw m.n (by omega) (by omega) Wx
  generalize pickN who m.n = c at *
  have c0 := h.ra.c0
  have c1 := h.ra.c1
  have lr := h.ra.lt
  have lr1 : rb < W.heap.size + 1 := by omega
  subst hk
  have HL : Hid (∀ Wx, Below W.heap.size W Wx → Calls Try.prog 21 #[.pointer (some ⟨mb, 0, none⟩), .int .i64 (c : Int)] Wx fun e w' => ∃ a cc, e = .returned (.tuple #[.agg #[.int .i64 ((m.cl c).up.length : Int), .int .i64 ((m.cl c).dn.length : Int), .slice a (m.cl c).ho.length cc], .int .i64 0]) ∧ Hid (Below Wx.heap.size Wx w')) := fun Wx hx => rm_look (h.below hx) g hc
  have HU : Hid (∀ Wx, Below W.heap.size W Wx → Calls Try.prog 25 #[.pointer (some ⟨mb, 0, none⟩), .int .i64 (c : Int)] Wx fun e w' => e = .returned (.int .i64 5) ∧ Below Wx.heap.size Wx w') := fun Wx hx => by
    obtain ⟨L, own, hd, _⟩ := (h.below hx).next
    exact devUp_none hd c hc hq
  have hql : (m.cl c).up.length = 0 := by rw [hq]; rfl
  have HR := hidP h
  have HG := hidP g
  clear h g
  go_enter Try.func19, Try.ntmps19
  go_wp2_with fail
  go_region_held3 (fun Wx => Wx.cell? ⟨W.heap.size, 1, none⟩ = some (.int .i64 who) ∧ Wx.cell? ⟨rb, 1, none⟩ = some (.int .i64 (m.n : Int))) (simp [go_sem, *]) ((go_at_call 17; refine (HP.out _).mono ?_; rintro e wp ⟨rfl, rfl⟩))
  go_wp2_with fail
  refine (HL.out _ (by repeat (first | exact Below.refl _ _ | apply Below.drew | refine bel_alloc ?_ _))).mono ?_
  rintro e w1 ⟨a, cc, rfl, hb1⟩
  have HB1 := hidP (bel_trans (by repeat (first | exact Below.refl _ _ | apply Below.drew | refine bel_alloc ?_ _)) hb1 : Below W.heap.size W w1)
  have r0 := (HB1.out.cell (p := ⟨rb, 0, none⟩) lr).trans c0
  have lr2 : rb < w1.heap.size := Nat.lt_of_lt_of_le lr HB1.out.size
  have lr3 : rb < w1.heap.size + 1 := by omega
  clear hb1 HL
  go_wp2_with fail
  refine (HU.out _ (bel_trans HB1.out (by repeat (first | exact Below.refl _ _ | apply Below.drew | refine bel_alloc ?_ _)))).mono ?_
  rintro e w2 ⟨rfl, hb2⟩
  obtain ⟨hc2, hf2⟩ := bcell hb2
  have y0 := hc2 w1.heap.size 0 (by simp)
  have y1 := hc2 w1.heap.size 1 (by simp)
  have y2 := hc2 w1.heap.size 2 (by simp)
  simp [go_sem] at y0 y1 y2
  have HF := hidP (step_same HR.out HG.out (bel_trans (bel_trans HB1.out (by repeat (first | exact Below.refl _ _ | apply Below.drew | refine bel_alloc ?_ _))) hb2))
  clear hb2 hc2 hf2 HU
  go_wp2
  go_ret
  exact ⟨rfl, HF.out⟩
set_option maxRecDepth 8000 in
set_option maxHeartbeats 2000000 in
theorem step_up_some (h : Rm w W P rb mb first m typed dels) (g : Good first m typed dels N) (hN : (N + 2) * 48 ≤ 140737488355328) (kd who xk xp xb xs : Int) (hw : I64 who) (hk : kd = 1) (hq : (m.cl (pickN who m.n)).up ≠ []) :
    Calls Try.prog 19 #[.pointer (some ⟨rb, 0, none⟩), .agg #[.int .i64 kd, .int .i64 who, .int .i64 xk, .int .i64 xp, .int .i64 xb, .int .i64 xs]] W fun e w' => e = .returned (.bool true) ∧ Hid (StepOK w W w' P rb mb first m N) := by
  have hn1 := g.inv.n1
  have hn4 := g.inv.n4
  have hc := pickN_lt who (n := m.n) (by omega)
  have HP : Hid (∀ Wx, Calls Try.prog 17 #[.int .i64 who, .int .i64 (m.n : Int)] Wx fun e w' => e = .returned (.int .i64 (pickN who m.n : Int)) ∧ Wx = w') := fun Wx => pick_any who hw m.n (by omega) (by omega) Wx
  generalize pickN who m.n = c at *
  have c0 := h.ra.c0
  have c1 := h.ra.c1
  have lr := h.ra.lt
  have lr1 : rb < W.heap.size + 1 := by omega
  subst hk
  have HL : Hid (∀ Wx, Below W.heap.size W Wx → Calls Try.prog 21 #[.pointer (some ⟨mb, 0, none⟩), .int .i64 (c : Int)] Wx fun e w' => ∃ a cc, e = .returned (.tuple #[.agg #[.int .i64 ((m.cl c).up.length : Int), .int .i64 ((m.cl c).dn.length : Int), .slice a (m.cl c).ho.length cc], .int .i64 0]) ∧ Hid (Below Wx.heap.size Wx w')) := fun Wx hx => rm_look (h.below hx) g hc
  obtain ⟨μ, r, hu⟩ : ∃ μ r, (m.cl c).up = μ :: r := by
    cases e : (m.cl c).up with
    | nil => exact absurd e hq
    | cons μ r => exact ⟨μ, r, rfl⟩
  have hql : (m.cl c).up.length = r.length + 1 := by rw [hu]; simp
  have hqp : (0 : Int) < (r.length : Int) + 1 := by omega
  have HU := hidP (@rm_up_l w W P rb mb first m typed dels N h g (by omega) c hc μ r hu)
  clear hu hq
  have HR := hidP h
  have HG := hidP g
  clear h g
  go_enter Try.func19, Try.ntmps19
  go_wp2_with fail
  go_region_held3 (fun Wx => Wx.cell? ⟨W.heap.size, 1, none⟩ = some (.int .i64 who) ∧ Wx.cell? ⟨rb, 1, none⟩ = some (.int .i64 (m.n : Int))) (simp [go_sem, *]) ((go_at_call 17; refine (HP.out _).mono ?_; rintro e wp ⟨rfl, rfl⟩))
  go_wp2_with fail
  refine (HL.out _ (by repeat (first | exact Below.refl _ _ | apply Below.drew | refine bel_alloc ?_ _))).mono ?_
  rintro e w1 ⟨a, cc, rfl, hb1⟩
  have HB1 := hidP (bel_trans (by repeat (first | exact Below.refl _ _ | apply Below.drew | refine bel_alloc ?_ _)) hb1 : Below W.heap.size W w1)
  have r0 := (HB1.out.cell (p := ⟨rb, 0, none⟩) lr).trans c0
  have lr2 : rb < w1.heap.size := Nat.lt_of_lt_of_le lr HB1.out.size
  have lr3 : rb < w1.heap.size + 1 := by omega
  clear hb1 HL
  go_wp2_with fail
  refine (HU.out _ _ HB1.out (by repeat (first | exact Below.refl _ _ | apply Below.drew | refine bel_alloc ?_ _)) w1.heap.size (Nat.le_refl _) (by simp)).mono ?_
  rintro e w2 ⟨rfl, HF, hl⟩
  have y0 := hl 0
  have y1 := hl 1
  have y2 := hl 2
  simp [go_sem] at y0 y1 y2
  clear hl HU
  go_wp2
  go_ret
  exact ⟨rfl, HF.out⟩
set_option maxRecDepth 8000 in
set_option maxHeartbeats 2000000 in
theorem step_down_none (h : Rm w W P rb mb first m typed dels) (g : Good first m typed dels N) (hN : (N + 2) * 48 ≤ 140737488355328) (kd who xk xp xb xs : Int) (hw : I64 who) (hk : kd = 2) (hq : (m.cl (pickN who m.n)).dn = []) :
    Calls Try.prog 19 #[.pointer (some ⟨rb, 0, none⟩), .agg #[.int .i64 kd, .int .i64 who, .int .i64 xk, .int .i64 xp, .int .i64 xb, .int .i64 xs]] W fun e w' => e = .returned (.bool true) ∧ Hid (StepOK w W w' P rb mb first m N) := by
  have hn1 := g.inv.n1
  have hn4 := g.inv.n4
  have hc := pickN_lt who (n := m.n) (by omega)
  have HP : Hid (∀ Wx, Calls Try.prog 17 #[.int .i64 who, .int .i64 (m.n : Int)] Wx fun e w' => e = .returned (.int .i64 (pickN who m.n : Int)) ∧ Wx = w') := fun Wx => pick_any who hw m.n (by omega) (by omega) Wx
  generalize pickN who m.n = c at *
  have c0 := h.ra.c0
  have c1 := h.ra.c1
  have lr := h.ra.lt
  have lr1 : rb < W.heap.size + 1 := by omega
  subst hk
  have HL : Hid (∀ Wx, Below W.heap.size W Wx → Calls Try.prog 21 #[.pointer (some ⟨mb, 0, none⟩), .int .i64 (c : Int)] Wx fun e w' => ∃ a cc, e = .returned (.tuple #[.agg #[.int .i64 ((m.cl c).up.length : Int), .int .i64 ((m.cl c).dn.length : Int), .slice a (m.cl c).ho.length cc], .int .i64 0]) ∧ Hid (Below Wx.heap.size Wx w')) := fun Wx hx => rm_look (h.below hx) g hc
  have HU : Hid (∀ Wx, Below W.heap.size W Wx → Calls Try.prog 27 #[.pointer (some ⟨mb, 0, none⟩), .int .i64 (c : Int)] Wx fun e w' => e = .returned (.int .i64 5) ∧ Below Wx.heap.size Wx w') := fun Wx hx => by
    obtain ⟨L, own, hd, _⟩ := (h.below hx).next
    exact devDown_none hd c hc hq
  have hql : (m.cl c).dn.length = 0 := by rw [hq]; rfl
  have HR := hidP h
  have HG := hidP g
  clear h g
  go_enter Try.func19, Try.ntmps19
  go_wp2_with fail
  go_region_held3 (fun Wx => Wx.cell? ⟨W.heap.size, 1, none⟩ = some (.int .i64 who) ∧ Wx.cell? ⟨rb, 1, none⟩ = some (.int .i64 (m.n : Int))) (simp [go_sem, *]) ((go_at_call 17; refine (HP.out _).mono ?_; rintro e wp ⟨rfl, rfl⟩))
  go_wp2_with fail
  refine (HL.out _ (by repeat (first | exact Below.refl _ _ | apply Below.drew | refine bel_alloc ?_ _))).mono ?_
  rintro e w1 ⟨a, cc, rfl, hb1⟩
  have HB1 := hidP (bel_trans (by repeat (first | exact Below.refl _ _ | apply Below.drew | refine bel_alloc ?_ _)) hb1 : Below W.heap.size W w1)
  have r0 := (HB1.out.cell (p := ⟨rb, 0, none⟩) lr).trans c0
  have lr2 : rb < w1.heap.size := Nat.lt_of_lt_of_le lr HB1.out.size
  have lr3 : rb < w1.heap.size + 1 := by omega
  clear hb1 HL
  go_wp2_with fail
  refine (HU.out _ (bel_trans HB1.out (by repeat (first | exact Below.refl _ _ | apply Below.drew | refine bel_alloc ?_ _)))).mono ?_
  rintro e w2 ⟨rfl, hb2⟩
  obtain ⟨hc2, hf2⟩ := bcell hb2
  have y0 := hc2 w1.heap.size 0 (by simp)
  have y1 := hc2 w1.heap.size 1 (by simp)
  have y2 := hc2 w1.heap.size 2 (by simp)
  simp [go_sem] at y0 y1 y2
  have HF := hidP (step_same HR.out HG.out (bel_trans (bel_trans HB1.out (by repeat (first | exact Below.refl _ _ | apply Below.drew | refine bel_alloc ?_ _))) hb2))
  clear hb2 hc2 hf2 HU
  go_wp2
  go_ret
  exact ⟨rfl, HF.out⟩
set_option maxRecDepth 8000 in
set_option maxHeartbeats 2000000 in
theorem step_down_some (h : Rm w W P rb mb first m typed dels) (g : Good first m typed dels N) (hN : (N + 2) * 48 ≤ 140737488355328) (kd who xk xp xb xs : Int) (hw : I64 who) (hk : kd = 2) (hq : (m.cl (pickN who m.n)).dn ≠ []) :
    Calls Try.prog 19 #[.pointer (some ⟨rb, 0, none⟩), .agg #[.int .i64 kd, .int .i64 who, .int .i64 xk, .int .i64 xp, .int .i64 xb, .int .i64 xs]] W fun e w' => e = .returned (.bool true) ∧ Hid (StepOK w W w' P rb mb first m N) := by
  have hn1 := g.inv.n1
  have hn4 := g.inv.n4
  have hc := pickN_lt who (n := m.n) (by omega)
  have HP : Hid (∀ Wx, Calls Try.prog 17 #[.int .i64 who, .int .i64 (m.n : Int)] Wx fun e w' => e = .returned (.int .i64 (pickN who m.n : Int)) ∧ Wx = w') := fun Wx => pick_any who hw m.n (by omega) (by omega) Wx
  generalize pickN who m.n = c at *
  have c0 := h.ra.c0
  have c1 := h.ra.c1
  have lr := h.ra.lt
  have lr1 : rb < W.heap.size + 1 := by omega
  subst hk
  have HL : Hid (∀ Wx, Below W.heap.size W Wx → Calls Try.prog 21 #[.pointer (some ⟨mb, 0, none⟩), .int .i64 (c : Int)] Wx fun e w' => ∃ a cc, e = .returned (.tuple #[.agg #[.int .i64 ((m.cl c).up.length : Int), .int .i64 ((m.cl c).dn.length : Int), .slice a (m.cl c).ho.length cc], .int .i64 0]) ∧ Hid (Below Wx.heap.size Wx w')) := fun Wx hx => rm_look (h.below hx) g hc
  obtain ⟨μ, r, hu⟩ : ∃ μ r, (m.cl c).dn = μ :: r := by
    cases e : (m.cl c).dn with
    | nil => exact absurd e hq
    | cons μ r => exact ⟨μ, r, rfl⟩
  have hql : (m.cl c).dn.length = r.length + 1 := by rw [hu]; simp
  have hqp : (0 : Int) < (r.length : Int) + 1 := by omega
  have HU := hidP (@rm_down_l w W P rb mb first m typed dels N h g (by omega) c hc μ r hu)
  clear hu hq
  have HR := hidP h
  have HG := hidP g
  clear h g
  go_enter Try.func19, Try.ntmps19
  go_wp2_with fail
  go_region_held3 (fun Wx => Wx.cell? ⟨W.heap.size, 1, none⟩ = some (.int .i64 who) ∧ Wx.cell? ⟨rb, 1, none⟩ = some (.int .i64 (m.n : Int))) (simp [go_sem, *]) ((go_at_call 17; refine (HP.out _).mono ?_; rintro e wp ⟨rfl, rfl⟩))
  go_wp2_with fail
  refine (HL.out _ (by repeat (first | exact Below.refl _ _ | apply Below.drew | refine bel_alloc ?_ _))).mono ?_
  rintro e w1 ⟨a, cc, rfl, hb1⟩
  have HB1 := hidP (bel_trans (by repeat (first | exact Below.refl _ _ | apply Below.drew | refine bel_alloc ?_ _)) hb1 : Below W.heap.size W w1)
  have r0 := (HB1.out.cell (p := ⟨rb, 0, none⟩) lr).trans c0
  have lr2 : rb < w1.heap.size := Nat.lt_of_lt_of_le lr HB1.out.size
  have lr3 : rb < w1.heap.size + 1 := by omega
  clear hb1 HL
  go_wp2_with fail
  refine (HU.out _ _ HB1.out (by repeat (first | exact Below.refl _ _ | apply Below.drew | refine bel_alloc ?_ _)) w1.heap.size (Nat.le_refl _) (by simp)).mono ?_
  rintro e w2 ⟨rfl, HF, hl⟩
  have y0 := hl 0
  have y1 := hl 1
  have y2 := hl 2
  simp [go_sem] at y0 y1 y2
  clear hl HU
  go_wp2
  go_ret
  exact ⟨rfl, HF.out⟩
end
end Go.Proofs.Ytabahmcbhapbiaa
namespace Go.Proofs.Ytabahmcbhapbiaa
open Go.RowKit Go.Lib
set_option linter.unusedVariables false
section
variable {w W : World} {P : Nat → Prop} {rb mb : Nat} {first : List UInt8} {m : Moo} {typed : Nat → Nat} {dels N : Nat}
/-- Type, refused. -/
theorem ty_no (h : Rm w W P rb mb first m typed dels) {c : Nat} (hc : c < m.n) (o : Op4) (v : Int) (hv : v ≠ 0) (hm : mayT (m.cl c).text.length (m.cl c).ho.length o = v) (wl : World) (hb : Below W.heap.size W wl) (Wx : World) (hx : Below wl.heap.size wl Wx) :
    Calls Try.prog 26 #[.pointer (some ⟨mb, 0, none⟩), .int .i64 (c : Int), .agg #[.int .i64 o.k, .int .i64 o.p, .int .i64 o.b, .int .i64 o.s]] Wx fun e w' => e = .returned (.int .i64 v) ∧ Hid (Below W.heap.size W w') ∧ ∀ k j, k < wl.heap.size → w'.cell? ⟨k, j, none⟩ = wl.cell? ⟨k, j, none⟩ := by
  obtain ⟨L, own, hd, _⟩ := (h.below (bel_trans hb hx)).next
  have := devType_no hd c o hc (by rw [hm]; exact hv)
  rw [hm] at this
  refine this.mono ?_
  rintro e w' ⟨rfl, hb'⟩
  have h2 := bel_trans hx hb'
  exact ⟨rfl, bel_trans hb h2, fun k j hk => h2.cell (p := ⟨k, j, none⟩) hk⟩
/-- Type, done: the blocks ob and lb are new. -/
theorem ty_ok (h : Rm w W P rb mb first m typed dels) (g : Good first m typed dels N) (hN : (N + 2) * 48 ≤ 140737488355328) {c : Nat} (hc : c < m.n) (o : Op4) (hm : mayT (m.cl c).text.length (m.cl c).ho.length o = 0) (hk : o.k = 1 ∨ o.k = 2) (hob : o.k = 1 → 0 ≤ o.b ∧ o.b ≤ 255) :
    ∃ m' t, app (m.cl c).text o = some t ∧ (m'.cl c).text = t ∧ m'.n = m.n ∧ Good first m' (if o.k = 1 then moreB typed o.b.toNat else typed) (if o.k = 1 then dels else dels + 1) (N + 1) ∧
      ∀ (wa w3 wl : World) (ob lb : Nat), Below W.heap.size W wa → Below wa.heap.size wa w3 → wa.heap.size ≤ ob → ob < w3.heap.size → Below w3.heap.size w3 wl → w3.heap.size ≤ lb → lb < wl.heap.size → ∀ Wx, Below wl.heap.size wl Wx →
        Calls Try.prog 26 #[.pointer (some ⟨mb, 0, none⟩), .int .i64 (c : Int), .agg #[.int .i64 o.k, .int .i64 o.p, .int .i64 o.b, .int .i64 o.s]] Wx fun e w' => e = .returned (.int .i64 0) ∧ Hid (Rm w w' P rb mb first m' typed dels ∧ Kp P W w') ∧ ∀ k j, (k = rb ∨ k = ob ∨ k = lb) → w'.cell? ⟨k, j, none⟩ = wl.cell? ⟨k, j, none⟩ ∧ w'.frozen? ⟨k, j, none⟩ = wl.frozen? ⟨k, j, none⟩ := by
  have hF := good_few g (by omega)
  obtain ⟨L0, own0, hd0, _⟩ := h.next
  obtain ⟨t, ht, hI, _⟩ := devType_inv hd0 g.inv hF c hc o hm
  have ht' : app (m.cl c).text o = some t := ht
  refine ⟨m.set c (typeC (m.cl c) (asOf o c) t), t, ht', by rw [dset_at]; rfl, rfl, good_type g hc ht hI hk hob, fun wa w3 wl ob lb b1 b2 k1 k2 b3 k3 k4 Wx hx => ?_⟩
  have h3 := ((h.below b1).add b2 k1 k2).add b3 k3 k4
  obtain ⟨L, own, hd, hn⟩ := h3.next
  obtain ⟨t2, ht2, _, hC⟩ := devType_inv (hd.below hx) g.inv hF c hc o hm
  rw [ht] at ht2
  cases ht2
  refine hC.mono ?_
  rintro e w' ⟨rfl, own', hd', hf'⟩
  obtain ⟨x1, x2⟩ := hn Wx hx w' own' _ hd' hf' rfl
  have hbl := bel_trans b1 (bel_trans b2 b3)
  exact ⟨rfl, ⟨x1.fewer (fun k e => Or.inl (Or.inl e)) h.pr, (h.kb hbl).trans (fun k e j => x2 k (Or.inl (Or.inl e)) j)⟩, fun k j e => x2 k (e.elim (fun e => Or.inl (Or.inl (by rw [e]; exact h.pr))) (fun e => e.elim (fun e => Or.inl (Or.inr e)) Or.inr)) j⟩
/-- The room's own cells are set. -/
theorem Rm.room (h : Rm w W P rb mb first m typed dels) {W' : World} (hk : KeptX (fun x => x = rb) W W') {typed' : Nat → Nat} {dels' : Nat} (hr : RoomAt W' rb mb m.n first typed' dels') : Rm w W' P rb mb first m typed' dels' := by
  obtain ⟨⟨L, own, e1, e2, e3⟩, ra, pr, ge, bel⟩ := h
  have hon := e2 rb pr
  have hg := (ge rb pr).1
  exact ⟨⟨L, own, e1.keep hk (fun k e x => e (by rw [x]; exact hon)), e2, e3⟩, hr, pr, fun k e => ⟨(ge k e).1, Nat.lt_of_lt_of_le (ge k e).2 hk.size⟩, ⟨hk.os.trans bel.os, hk.tape.trans bel.tape, hk.output.trans bel.output, Nat.le_trans bel.size hk.size, fun k hk1 => (hk.block k (Nat.lt_of_lt_of_le hk1 bel.size) (by omega)).trans (bel.block k hk1)⟩⟩
theorem rm_typed (h : Rm w W P rb mb first m typed dels) {b : Nat} (hb : b < 256) : Rm w (W.setCell ⟨rb, 3 + b, none⟩ (.int .i64 ((typed b : Int) + 1))) P rb mb first m (moreB typed b) dels :=
  h.room ((KeptX.refl (fun x => x = rb) W).setCell (p := ⟨rb, 3 + b, none⟩) (fun _ => rfl) _) (h.ra.setTyped b hb)
theorem rm_dels (h : Rm w W P rb mb first m typed dels) : Rm w (W.setCell ⟨rb, 259, none⟩ (.int .i64 ((dels : Int) + 1))) P rb mb first m typed (dels + 1) :=
  h.room ((KeptX.refl (fun x => x = rb) W).setCell (p := ⟨rb, 259, none⟩) (fun _ => rfl) _) h.ra.setDels
set_option maxRecDepth 8000 in
set_option maxHeartbeats 2000000 in
theorem step_no (h : Rm w W P rb mb first m typed dels) (g : Good first m typed dels N) (hN : (N + 2) * 48 ≤ 140737488355328) (kd who xk xp xb xs : Int) (hw : I64 who) (hk : kd = 0) (hxk : I64 xk) (hxp : I64 xp) (hxb : I64 xb) (hxs : I64 xs) (hi : keepIs xk (m.cl (pickN who m.n)).text.length = false) :
    Calls Try.prog 19 #[.pointer (some ⟨rb, 0, none⟩), .agg #[.int .i64 kd, .int .i64 who, .int .i64 xk, .int .i64 xp, .int .i64 xb, .int .i64 xs]] W fun e w' => e = .returned (.bool true) ∧ Hid (StepOK w W w' P rb mb first m N) := by
  have hn1 := g.inv.n1
  have hn4 := g.inv.n4
  have hc := pickN_lt who (n := m.n) (by omega)
  have HP : Hid (∀ Wx, Calls Try.prog 17 #[.int .i64 who, .int .i64 (m.n : Int)] Wx fun e w' => e = .returned (.int .i64 (pickN who m.n : Int)) ∧ Wx = w') := fun Wx => pick_any who hw m.n (by omega) (by omega) Wx
  generalize pickN who m.n = c at *
  have c0 := h.ra.c0
  have c1 := h.ra.c1
  have lr := h.ra.lt
  have lr1 : rb < W.heap.size + 1 := by omega
  subst hk
  have hn179 := inv_textLen g.inv hc
  have hsz := dstr_size (m.cl c).text
  have HT : Hid (∀ Wx, Below W.heap.size W Wx → Calls Try.prog 20 #[.pointer (some ⟨mb, 0, none⟩), .int .i64 (c : Int)] Wx fun e w' => e = .returned (.tuple #[dstr (m.cl c).text, .int .i64 0]) ∧ Wx = w') := fun Wx hx => rm_text (h.below hx) hc
  have HO : Hid (∀ Wx, Calls Try.prog 14 #[.agg #[.int .i64 xk, .int .i64 xp, .int .i64 xb, .int .i64 xs], .int .i64 ((m.cl c).text.length : Int)] Wx fun e w' => e = .returned (.tuple #[.agg #[.int .i64 (keepOp xk xp xb xs (m.cl c).text.length).k, .int .i64 (keepOp xk xp xb xs (m.cl c).text.length).p, .int .i64 (keepOp xk xp xb xs (m.cl c).text.length).b, .int .i64 (keepOp xk xp xb xs (m.cl c).text.length).s], .bool (keepIs xk (m.cl c).text.length)]) ∧ Hid (Below Wx.heap.size Wx w')) := fun Wx => keepOp_any xk xp xb xs hxk hxp hxb hxs (m.cl c).text.length (by omega) Wx
  have HL : Hid (∀ Wx, Below W.heap.size W Wx → Calls Try.prog 21 #[.pointer (some ⟨mb, 0, none⟩), .int .i64 (c : Int)] Wx fun e w' => ∃ a cc, e = .returned (.tuple #[.agg #[.int .i64 ((m.cl c).up.length : Int), .int .i64 ((m.cl c).dn.length : Int), .slice a (m.cl c).ho.length cc], .int .i64 0]) ∧ Hid (Below Wx.heap.size Wx w')) := fun Wx hx => rm_look (h.below hx) g hc
  rw [hi] at HO
  generalize keepOp xk xp xb xs (m.cl c).text.length = o at *
  generalize hl : (m.cl c).text.length = n at *
  generalize (m.cl c).text = tx at *
  have HR := hidP h
  have HG := hidP g
  clear h g
  go_enter Try.func19, Try.ntmps19
  go_wp2_with fail
  go_region_held3 (fun Wx => Wx.cell? ⟨W.heap.size, 1, none⟩ = some (.int .i64 who) ∧ Wx.cell? ⟨rb, 1, none⟩ = some (.int .i64 (m.n : Int))) (simp [go_sem, *]) ((go_at_call 17; refine (HP.out _).mono ?_; rintro e wp ⟨rfl, rfl⟩))
  go_wp2_with fail
  refine (HT.out _ (by repeat (first | exact Below.refl _ _ | apply Below.drew | refine bel_alloc ?_ _))).mono ?_
  rintro e w1 ⟨rfl, rfl⟩
  go_wp2_with fail
  refine (HO.out _).mono ?_
  rintro e w2 ⟨rfl, hb2⟩
  have HB2 := hidP (bel_trans (by repeat (first | exact Below.refl _ _ | apply Below.drew | refine bel_alloc ?_ _)) hb2 : Below W.heap.size W w2)
  have r2 := (HB2.out.cell (p := ⟨rb, 0, none⟩) lr).trans c0
  have l2 : rb < w2.heap.size := Nat.lt_of_lt_of_le lr HB2.out.size
  have l2' : rb < w2.heap.size + 1 := by omega
  clear hb2 HO
  go_wp2
  go_ret
  exact ⟨rfl, step_same HR.out HG.out (bel_trans HB2.out (by repeat (first | exact Below.refl _ _ | apply Below.drew | refine bel_alloc ?_ _)))⟩
set_option maxRecDepth 8000 in
set_option maxHeartbeats 2000000 in
theorem step_full (h : Rm w W P rb mb first m typed dels) (g : Good first m typed dels N) (hN : (N + 2) * 48 ≤ 140737488355328) (kd who xk xp xb xs : Int) (hw : I64 who) (hk : kd = 0) (hxk : I64 xk) (hxp : I64 xp) (hxb : I64 xb) (hxs : I64 xs) (hi : keepIs xk (m.cl (pickN who m.n)).text.length = true) (h1 : (keepOp xk xp xb xs (m.cl (pickN who m.n)).text.length).k = 1) (h60 : 60 ≤ (m.cl (pickN who m.n)).text.length) :
    Calls Try.prog 19 #[.pointer (some ⟨rb, 0, none⟩), .agg #[.int .i64 kd, .int .i64 who, .int .i64 xk, .int .i64 xp, .int .i64 xb, .int .i64 xs]] W fun e w' => e = .returned (.bool true) ∧ Hid (StepOK w W w' P rb mb first m N) := by
  have hn1 := g.inv.n1
  have hn4 := g.inv.n4
  have hc := pickN_lt who (n := m.n) (by omega)
  have HP : Hid (∀ Wx, Calls Try.prog 17 #[.int .i64 who, .int .i64 (m.n : Int)] Wx fun e w' => e = .returned (.int .i64 (pickN who m.n : Int)) ∧ Wx = w') := fun Wx => pick_any who hw m.n (by omega) (by omega) Wx
  generalize pickN who m.n = c at *
  have c0 := h.ra.c0
  have c1 := h.ra.c1
  have lr := h.ra.lt
  have lr1 : rb < W.heap.size + 1 := by omega
  subst hk
  have hn179 := inv_textLen g.inv hc
  have hsz := dstr_size (m.cl c).text
  have HT : Hid (∀ Wx, Below W.heap.size W Wx → Calls Try.prog 20 #[.pointer (some ⟨mb, 0, none⟩), .int .i64 (c : Int)] Wx fun e w' => e = .returned (.tuple #[dstr (m.cl c).text, .int .i64 0]) ∧ Wx = w') := fun Wx hx => rm_text (h.below hx) hc
  have HO : Hid (∀ Wx, Calls Try.prog 14 #[.agg #[.int .i64 xk, .int .i64 xp, .int .i64 xb, .int .i64 xs], .int .i64 ((m.cl c).text.length : Int)] Wx fun e w' => e = .returned (.tuple #[.agg #[.int .i64 (keepOp xk xp xb xs (m.cl c).text.length).k, .int .i64 (keepOp xk xp xb xs (m.cl c).text.length).p, .int .i64 (keepOp xk xp xb xs (m.cl c).text.length).b, .int .i64 (keepOp xk xp xb xs (m.cl c).text.length).s], .bool (keepIs xk (m.cl c).text.length)]) ∧ Hid (Below Wx.heap.size Wx w')) := fun Wx => keepOp_any xk xp xb xs hxk hxp hxb hxs (m.cl c).text.length (by omega) Wx
  have HL : Hid (∀ Wx, Below W.heap.size W Wx → Calls Try.prog 21 #[.pointer (some ⟨mb, 0, none⟩), .int .i64 (c : Int)] Wx fun e w' => ∃ a cc, e = .returned (.tuple #[.agg #[.int .i64 ((m.cl c).up.length : Int), .int .i64 ((m.cl c).dn.length : Int), .slice a (m.cl c).ho.length cc], .int .i64 0]) ∧ Hid (Below Wx.heap.size Wx w')) := fun Wx hx => rm_look (h.below hx) g hc
  rw [hi] at HO
  have hko := keepOp_ok xk xp xb xs (m.cl c).text.length (by omega) hi
  generalize keepOp xk xp xb xs (m.cl c).text.length = o at *
  have hmt : mayT (m.cl c).text.length (m.cl c).ho.length o = 3 := by
    unfold mayT
    rw [if_neg (by rw [hko.1, hko.2.1]; simp [h1]), if_pos ⟨h1, h60⟩]
  have HY := hidP (@ty_no w W P rb mb first m typed dels h c hc o 3 (by decide) hmt)
  clear hko hmt
  obtain ⟨ok, op, ob, os⟩ := o
  dsimp only at h1
  subst h1
  generalize hl : (m.cl c).text.length = n at *
  generalize (m.cl c).text = tx at *
  have h60i : (60 : Int) ≤ (n : Int) := by omega
  have hho := (g.inv.cl c hc).few
  generalize (m.cl c).up.length = up at *
  generalize (m.cl c).dn.length = dn at *
  generalize (m.cl c).ho.length = ho at *
  have HR := hidP h
  have HG := hidP g
  clear h g
  go_enter Try.func19, Try.ntmps19
  go_wp2_with fail
  go_region_held3 (fun Wx => Wx.cell? ⟨W.heap.size, 1, none⟩ = some (.int .i64 who) ∧ Wx.cell? ⟨rb, 1, none⟩ = some (.int .i64 (m.n : Int))) (simp [go_sem, *]) ((go_at_call 17; refine (HP.out _).mono ?_; rintro e wp ⟨rfl, rfl⟩))
  go_wp2_with fail
  refine (HT.out _ (by repeat (first | exact Below.refl _ _ | apply Below.drew | refine bel_alloc ?_ _))).mono ?_
  rintro e w1 ⟨rfl, rfl⟩
  go_wp2_with fail
  refine (HO.out _).mono ?_
  rintro e w2 ⟨rfl, hb2⟩
  have HB2 := hidP (bel_trans (by repeat (first | exact Below.refl _ _ | apply Below.drew | refine bel_alloc ?_ _)) hb2 : Below W.heap.size W w2)
  have r2 := (HB2.out.cell (p := ⟨rb, 0, none⟩) lr).trans c0
  have l2 : rb < w2.heap.size := Nat.lt_of_lt_of_le lr HB2.out.size
  have l2' : rb < w2.heap.size + 1 := by omega
  clear hb2 HO
  go_wp2_with fail
  refine (HL.out _ (bel_trans HB2.out (by repeat (first | exact Below.refl _ _ | apply Below.drew | refine bel_alloc ?_ _)))).mono ?_
  rintro e w3 ⟨a, cc, rfl, hb3⟩
  have HB3 := hidP (bel_trans (bel_trans HB2.out (by repeat (first | exact Below.refl _ _ | apply Below.drew | refine bel_alloc ?_ _))) hb3 : Below W.heap.size W w3)
  obtain ⟨hc3, hf3⟩ := bcell hb3
  have o0 := hc3 w2.heap.size 0 (by simp)
  have o1 := hc3 w2.heap.size 1 (by simp)
  have o2 := hc3 w2.heap.size 2 (by simp)
  have o3 := hc3 w2.heap.size 3 (by simp)
  simp [go_sem] at o0 o1 o2 o3
  have r3 := (HB3.out.cell (p := ⟨rb, 0, none⟩) lr).trans c0
  have l3 : rb < w3.heap.size := Nat.lt_of_lt_of_le lr HB3.out.size
  have l3' : rb < w3.heap.size + 1 := by omega
  have p3 : w2.heap.size < w3.heap.size := Nat.lt_of_lt_of_le (by simp) hb3.size
  have p3' : w2.heap.size < w3.heap.size + 1 := by omega
  have H23 := hidP (bel_trans (by repeat (first | exact Below.refl _ _ | apply Below.drew | refine bel_alloc ?_ _)) hb3 : Below w2.heap.size w2 w3)
  clear hb3 hc3 hf3 HL
  have HS : Hid ((fun Wx => Wx.cell? ⟨rb, 0, none⟩ = some (.pointer (some ⟨mb, 0, none⟩)) ∧ Wx.cell? ⟨w2.heap.size, 0, none⟩ = some (.int .i64 1) ∧ Wx.cell? ⟨w2.heap.size, 1, none⟩ = some (.int .i64 op) ∧ Wx.cell? ⟨w2.heap.size, 2, none⟩ = some (.int .i64 ob) ∧ Wx.cell? ⟨w2.heap.size, 3, none⟩ = some (.int .i64 os) ∧ Wx.cell? ⟨w3.heap.size, 2, none⟩ = some (.slice a ho cc)) (w3.alloc (.cells #[.int .i64 (up : Int), .int .i64 (dn : Int), .slice a ho cc] 51))) := ⟨by simp [go_sem, *], by simp [go_sem, *], by simp [go_sem, *], by simp [go_sem, *], by simp [go_sem, *], by simp [go_sem, *]⟩
  have HZ : Hid (w3.heap.size < (w3.alloc (.cells #[.int .i64 (up : Int), .int .i64 (dn : Int), .slice a ho cc] 51)).heap.size ∧ Below w3.heap.size w3 (w3.alloc (.cells #[.int .i64 (up : Int), .int .i64 (dn : Int), .slice a ho cc] 51))) := ⟨by simp, bel_alloc (Below.refl _ _) _⟩
  go_wp2_with fail
  generalize w3.alloc _ = wl at *
  obtain ⟨s0, s1, s2, s3, s4, s5⟩ := HS.out
  have HY4 : Hid (∀ Wx, Below wl.heap.size wl Wx → Calls Try.prog 26 #[.pointer (some ⟨mb, 0, none⟩), .int .i64 (c : Int), .agg #[.int .i64 1, .int .i64 op, .int .i64 ob, .int .i64 os]] Wx fun e w' => e = .returned (.int .i64 3) ∧ Hid (Below W.heap.size W w') ∧ w'.cell? ⟨rb, 0, none⟩ = some (.pointer (some ⟨mb, 0, none⟩)) ∧ w'.cell? ⟨w2.heap.size, 0, none⟩ = some (.int .i64 1) ∧ w'.cell? ⟨w2.heap.size, 1, none⟩ = some (.int .i64 op) ∧ w'.cell? ⟨w2.heap.size, 2, none⟩ = some (.int .i64 ob) ∧ w'.cell? ⟨w2.heap.size, 3, none⟩ = some (.int .i64 os) ∧ w'.cell? ⟨w3.heap.size, 2, none⟩ = some (.slice a ho cc)) := fun Wx hx => by
    have hbl := bel_trans HB3.out HZ.out.2
    have q := HZ.out.1
    refine (HY.out wl hbl Wx hx).mono ?_
    rintro e w' ⟨rfl, hb', hcell⟩
    exact ⟨rfl, hb', (hcell _ _ (by omega)).trans s0, (hcell _ _ (by omega)).trans s1, (hcell _ _ (by omega)).trans s2, (hcell _ _ (by omega)).trans s3, (hcell _ _ (by omega)).trans s4, (hcell _ _ (by omega)).trans s5⟩
  go_region_held3 (fun Wx => Wx.cell? ⟨rb, 0, none⟩ = some (.pointer (some ⟨mb, 0, none⟩)) ∧ Wx.cell? ⟨w2.heap.size, 0, none⟩ = some (.int .i64 1) ∧ Wx.cell? ⟨w2.heap.size, 1, none⟩ = some (.int .i64 op) ∧ Wx.cell? ⟨w2.heap.size, 2, none⟩ = some (.int .i64 ob) ∧ Wx.cell? ⟨w2.heap.size, 3, none⟩ = some (.int .i64 os) ∧ Wx.cell? ⟨w3.heap.size, 2, none⟩ = some (.slice a ho cc)) (simp [go_sem, *]) ((go_at_call 26; refine (HY4.out _ (by repeat (first | exact Below.refl _ _ | apply Below.drew | refine bel_alloc ?_ _))).mono ?_; rintro e w4 ⟨rfl, HB4, y0, y1, y2, y3, y4, y5⟩))
  all_goals clear s0 s1 s2 s3 s4 s5 o0 o1 o2 o3 r2 r3 HS HY4 HT HP
  go_wp2
  go_ret
  exact ⟨rfl, step_same HR.out HG.out (bel_trans HB4.out (by repeat (first | exact Below.refl _ _ | apply Below.drew | refine bel_alloc ?_ _)))⟩
set_option maxRecDepth 8000 in
set_option maxHeartbeats 2000000 in
theorem step_busy_i (h : Rm w W P rb mb first m typed dels) (g : Good first m typed dels N) (hN : (N + 2) * 48 ≤ 140737488355328) (kd who xk xp xb xs : Int) (hw : I64 who) (hk : kd = 0) (hxk : I64 xk) (hxp : I64 xp) (hxb : I64 xb) (hxs : I64 xs) (hi : keepIs xk (m.cl (pickN who m.n)).text.length = true) (h1 : (keepOp xk xp xb xs (m.cl (pickN who m.n)).text.length).k = 1) (h60 : (m.cl (pickN who m.n)).text.length < 60) (h20 : 20 ≤ (m.cl (pickN who m.n)).ho.length) :
    Calls Try.prog 19 #[.pointer (some ⟨rb, 0, none⟩), .agg #[.int .i64 kd, .int .i64 who, .int .i64 xk, .int .i64 xp, .int .i64 xb, .int .i64 xs]] W fun e w' => e = .returned (.bool true) ∧ Hid (StepOK w W w' P rb mb first m N) := by
  have hn1 := g.inv.n1
  have hn4 := g.inv.n4
  have hc := pickN_lt who (n := m.n) (by omega)
  have HP : Hid (∀ Wx, Calls Try.prog 17 #[.int .i64 who, .int .i64 (m.n : Int)] Wx fun e w' => e = .returned (.int .i64 (pickN who m.n : Int)) ∧ Wx = w') := fun Wx => pick_any who hw m.n (by omega) (by omega) Wx
  generalize pickN who m.n = c at *
  have c0 := h.ra.c0
  have c1 := h.ra.c1
  have lr := h.ra.lt
  have lr1 : rb < W.heap.size + 1 := by omega
  subst hk
  have hn179 := inv_textLen g.inv hc
  have hsz := dstr_size (m.cl c).text
  have HT : Hid (∀ Wx, Below W.heap.size W Wx → Calls Try.prog 20 #[.pointer (some ⟨mb, 0, none⟩), .int .i64 (c : Int)] Wx fun e w' => e = .returned (.tuple #[dstr (m.cl c).text, .int .i64 0]) ∧ Wx = w') := fun Wx hx => rm_text (h.below hx) hc
  have HO : Hid (∀ Wx, Calls Try.prog 14 #[.agg #[.int .i64 xk, .int .i64 xp, .int .i64 xb, .int .i64 xs], .int .i64 ((m.cl c).text.length : Int)] Wx fun e w' => e = .returned (.tuple #[.agg #[.int .i64 (keepOp xk xp xb xs (m.cl c).text.length).k, .int .i64 (keepOp xk xp xb xs (m.cl c).text.length).p, .int .i64 (keepOp xk xp xb xs (m.cl c).text.length).b, .int .i64 (keepOp xk xp xb xs (m.cl c).text.length).s], .bool (keepIs xk (m.cl c).text.length)]) ∧ Hid (Below Wx.heap.size Wx w')) := fun Wx => keepOp_any xk xp xb xs hxk hxp hxb hxs (m.cl c).text.length (by omega) Wx
  have HL : Hid (∀ Wx, Below W.heap.size W Wx → Calls Try.prog 21 #[.pointer (some ⟨mb, 0, none⟩), .int .i64 (c : Int)] Wx fun e w' => ∃ a cc, e = .returned (.tuple #[.agg #[.int .i64 ((m.cl c).up.length : Int), .int .i64 ((m.cl c).dn.length : Int), .slice a (m.cl c).ho.length cc], .int .i64 0]) ∧ Hid (Below Wx.heap.size Wx w')) := fun Wx hx => rm_look (h.below hx) g hc
  rw [hi] at HO
  have hko := keepOp_ok xk xp xb xs (m.cl c).text.length (by omega) hi
  generalize keepOp xk xp xb xs (m.cl c).text.length = o at *
  have hmt : mayT (m.cl c).text.length (m.cl c).ho.length o = 4 := by
    unfold mayT
    rw [if_neg (by rw [hko.1, hko.2.1]; simp [h1]), if_neg (by omega)]
    rw [if_pos h20]
  have HY := hidP (@ty_no w W P rb mb first m typed dels h c hc o 4 (by decide) hmt)
  clear hko hmt
  obtain ⟨ok, op, ob, os⟩ := o
  dsimp only at h1
  subst h1
  generalize hl : (m.cl c).text.length = n at *
  generalize (m.cl c).text = tx at *
  have h60i : (n : Int) < 60 := by omega
  have hho := (g.inv.cl c hc).few
  generalize (m.cl c).up.length = up at *
  generalize (m.cl c).dn.length = dn at *
  generalize (m.cl c).ho.length = ho at *
  have h20i : (20 : Int) ≤ (ho : Int) := by omega
  have HR := hidP h
  have HG := hidP g
  clear h g
  go_enter Try.func19, Try.ntmps19
  go_wp2_with fail
  go_region_held3 (fun Wx => Wx.cell? ⟨W.heap.size, 1, none⟩ = some (.int .i64 who) ∧ Wx.cell? ⟨rb, 1, none⟩ = some (.int .i64 (m.n : Int))) (simp [go_sem, *]) ((go_at_call 17; refine (HP.out _).mono ?_; rintro e wp ⟨rfl, rfl⟩))
  go_wp2_with fail
  refine (HT.out _ (by repeat (first | exact Below.refl _ _ | apply Below.drew | refine bel_alloc ?_ _))).mono ?_
  rintro e w1 ⟨rfl, rfl⟩
  go_wp2_with fail
  refine (HO.out _).mono ?_
  rintro e w2 ⟨rfl, hb2⟩
  have HB2 := hidP (bel_trans (by repeat (first | exact Below.refl _ _ | apply Below.drew | refine bel_alloc ?_ _)) hb2 : Below W.heap.size W w2)
  have r2 := (HB2.out.cell (p := ⟨rb, 0, none⟩) lr).trans c0
  have l2 : rb < w2.heap.size := Nat.lt_of_lt_of_le lr HB2.out.size
  have l2' : rb < w2.heap.size + 1 := by omega
  clear hb2 HO
  go_wp2_with fail
  refine (HL.out _ (bel_trans HB2.out (by repeat (first | exact Below.refl _ _ | apply Below.drew | refine bel_alloc ?_ _)))).mono ?_
  rintro e w3 ⟨a, cc, rfl, hb3⟩
  have HB3 := hidP (bel_trans (bel_trans HB2.out (by repeat (first | exact Below.refl _ _ | apply Below.drew | refine bel_alloc ?_ _))) hb3 : Below W.heap.size W w3)
  obtain ⟨hc3, hf3⟩ := bcell hb3
  have o0 := hc3 w2.heap.size 0 (by simp)
  have o1 := hc3 w2.heap.size 1 (by simp)
  have o2 := hc3 w2.heap.size 2 (by simp)
  have o3 := hc3 w2.heap.size 3 (by simp)
  simp [go_sem] at o0 o1 o2 o3
  have r3 := (HB3.out.cell (p := ⟨rb, 0, none⟩) lr).trans c0
  have l3 : rb < w3.heap.size := Nat.lt_of_lt_of_le lr HB3.out.size
  have l3' : rb < w3.heap.size + 1 := by omega
  have p3 : w2.heap.size < w3.heap.size := Nat.lt_of_lt_of_le (by simp) hb3.size
  have p3' : w2.heap.size < w3.heap.size + 1 := by omega
  have H23 := hidP (bel_trans (by repeat (first | exact Below.refl _ _ | apply Below.drew | refine bel_alloc ?_ _)) hb3 : Below w2.heap.size w2 w3)
  clear hb3 hc3 hf3 HL
  have HS : Hid ((fun Wx => Wx.cell? ⟨rb, 0, none⟩ = some (.pointer (some ⟨mb, 0, none⟩)) ∧ Wx.cell? ⟨w2.heap.size, 0, none⟩ = some (.int .i64 1) ∧ Wx.cell? ⟨w2.heap.size, 1, none⟩ = some (.int .i64 op) ∧ Wx.cell? ⟨w2.heap.size, 2, none⟩ = some (.int .i64 ob) ∧ Wx.cell? ⟨w2.heap.size, 3, none⟩ = some (.int .i64 os) ∧ Wx.cell? ⟨w3.heap.size, 2, none⟩ = some (.slice a ho cc)) (w3.alloc (.cells #[.int .i64 (up : Int), .int .i64 (dn : Int), .slice a ho cc] 51))) := ⟨by simp [go_sem, *], by simp [go_sem, *], by simp [go_sem, *], by simp [go_sem, *], by simp [go_sem, *], by simp [go_sem, *]⟩
  have HZ : Hid (w3.heap.size < (w3.alloc (.cells #[.int .i64 (up : Int), .int .i64 (dn : Int), .slice a ho cc] 51)).heap.size ∧ Below w3.heap.size w3 (w3.alloc (.cells #[.int .i64 (up : Int), .int .i64 (dn : Int), .slice a ho cc] 51))) := ⟨by simp, bel_alloc (Below.refl _ _) _⟩
  go_wp2_with fail
  generalize w3.alloc _ = wl at *
  obtain ⟨s0, s1, s2, s3, s4, s5⟩ := HS.out
  have HY4 : Hid (∀ Wx, Below wl.heap.size wl Wx → Calls Try.prog 26 #[.pointer (some ⟨mb, 0, none⟩), .int .i64 (c : Int), .agg #[.int .i64 1, .int .i64 op, .int .i64 ob, .int .i64 os]] Wx fun e w' => e = .returned (.int .i64 4) ∧ Hid (Below W.heap.size W w') ∧ w'.cell? ⟨rb, 0, none⟩ = some (.pointer (some ⟨mb, 0, none⟩)) ∧ w'.cell? ⟨w2.heap.size, 0, none⟩ = some (.int .i64 1) ∧ w'.cell? ⟨w2.heap.size, 1, none⟩ = some (.int .i64 op) ∧ w'.cell? ⟨w2.heap.size, 2, none⟩ = some (.int .i64 ob) ∧ w'.cell? ⟨w2.heap.size, 3, none⟩ = some (.int .i64 os) ∧ w'.cell? ⟨w3.heap.size, 2, none⟩ = some (.slice a ho cc)) := fun Wx hx => by
    have hbl := bel_trans HB3.out HZ.out.2
    have q := HZ.out.1
    refine (HY.out wl hbl Wx hx).mono ?_
    rintro e w' ⟨rfl, hb', hcell⟩
    exact ⟨rfl, hb', (hcell _ _ (by omega)).trans s0, (hcell _ _ (by omega)).trans s1, (hcell _ _ (by omega)).trans s2, (hcell _ _ (by omega)).trans s3, (hcell _ _ (by omega)).trans s4, (hcell _ _ (by omega)).trans s5⟩
  go_region_held3 (fun Wx => Wx.cell? ⟨rb, 0, none⟩ = some (.pointer (some ⟨mb, 0, none⟩)) ∧ Wx.cell? ⟨w2.heap.size, 0, none⟩ = some (.int .i64 1) ∧ Wx.cell? ⟨w2.heap.size, 1, none⟩ = some (.int .i64 op) ∧ Wx.cell? ⟨w2.heap.size, 2, none⟩ = some (.int .i64 ob) ∧ Wx.cell? ⟨w2.heap.size, 3, none⟩ = some (.int .i64 os) ∧ Wx.cell? ⟨w3.heap.size, 2, none⟩ = some (.slice a ho cc)) (simp [go_sem, *]) ((go_at_call 26; refine (HY4.out _ (by repeat (first | exact Below.refl _ _ | apply Below.drew | refine bel_alloc ?_ _))).mono ?_; rintro e w4 ⟨rfl, HB4, y0, y1, y2, y3, y4, y5⟩))
  all_goals clear s0 s1 s2 s3 s4 s5 o0 o1 o2 o3 r2 r3 HS HY4 HT HP
  go_wp2
  go_ret
  exact ⟨rfl, step_same HR.out HG.out (bel_trans HB4.out (by repeat (first | exact Below.refl _ _ | apply Below.drew | refine bel_alloc ?_ _)))⟩
set_option maxRecDepth 8000 in
set_option maxHeartbeats 2000000 in
theorem step_busy_d (h : Rm w W P rb mb first m typed dels) (g : Good first m typed dels N) (hN : (N + 2) * 48 ≤ 140737488355328) (kd who xk xp xb xs : Int) (hw : I64 who) (hk : kd = 0) (hxk : I64 xk) (hxp : I64 xp) (hxb : I64 xb) (hxs : I64 xs) (hi : keepIs xk (m.cl (pickN who m.n)).text.length = true) (h1 : (keepOp xk xp xb xs (m.cl (pickN who m.n)).text.length).k = 2)  (h20 : 20 ≤ (m.cl (pickN who m.n)).ho.length) :
    Calls Try.prog 19 #[.pointer (some ⟨rb, 0, none⟩), .agg #[.int .i64 kd, .int .i64 who, .int .i64 xk, .int .i64 xp, .int .i64 xb, .int .i64 xs]] W fun e w' => e = .returned (.bool true) ∧ Hid (StepOK w W w' P rb mb first m N) := by
  have hn1 := g.inv.n1
  have hn4 := g.inv.n4
  have hc := pickN_lt who (n := m.n) (by omega)
  have HP : Hid (∀ Wx, Calls Try.prog 17 #[.int .i64 who, .int .i64 (m.n : Int)] Wx fun e w' => e = .returned (.int .i64 (pickN who m.n : Int)) ∧ Wx = w') := fun Wx => pick_any who hw m.n (by omega) (by omega) Wx
  generalize pickN who m.n = c at *
  have c0 := h.ra.c0
  have c1 := h.ra.c1
  have lr := h.ra.lt
  have lr1 : rb < W.heap.size + 1 := by omega
  subst hk
  have hn179 := inv_textLen g.inv hc
  have hsz := dstr_size (m.cl c).text
  have HT : Hid (∀ Wx, Below W.heap.size W Wx → Calls Try.prog 20 #[.pointer (some ⟨mb, 0, none⟩), .int .i64 (c : Int)] Wx fun e w' => e = .returned (.tuple #[dstr (m.cl c).text, .int .i64 0]) ∧ Wx = w') := fun Wx hx => rm_text (h.below hx) hc
  have HO : Hid (∀ Wx, Calls Try.prog 14 #[.agg #[.int .i64 xk, .int .i64 xp, .int .i64 xb, .int .i64 xs], .int .i64 ((m.cl c).text.length : Int)] Wx fun e w' => e = .returned (.tuple #[.agg #[.int .i64 (keepOp xk xp xb xs (m.cl c).text.length).k, .int .i64 (keepOp xk xp xb xs (m.cl c).text.length).p, .int .i64 (keepOp xk xp xb xs (m.cl c).text.length).b, .int .i64 (keepOp xk xp xb xs (m.cl c).text.length).s], .bool (keepIs xk (m.cl c).text.length)]) ∧ Hid (Below Wx.heap.size Wx w')) := fun Wx => keepOp_any xk xp xb xs hxk hxp hxb hxs (m.cl c).text.length (by omega) Wx
  have HL : Hid (∀ Wx, Below W.heap.size W Wx → Calls Try.prog 21 #[.pointer (some ⟨mb, 0, none⟩), .int .i64 (c : Int)] Wx fun e w' => ∃ a cc, e = .returned (.tuple #[.agg #[.int .i64 ((m.cl c).up.length : Int), .int .i64 ((m.cl c).dn.length : Int), .slice a (m.cl c).ho.length cc], .int .i64 0]) ∧ Hid (Below Wx.heap.size Wx w')) := fun Wx hx => rm_look (h.below hx) g hc
  rw [hi] at HO
  have hko := keepOp_ok xk xp xb xs (m.cl c).text.length (by omega) hi
  generalize keepOp xk xp xb xs (m.cl c).text.length = o at *
  have hmt : mayT (m.cl c).text.length (m.cl c).ho.length o = 4 := by
    unfold mayT
    rw [if_neg (by rw [hko.1, hko.2.1]; simp [h1]), if_neg (by omega)]
    rw [if_pos h20]
  have HY := hidP (@ty_no w W P rb mb first m typed dels h c hc o 4 (by decide) hmt)
  clear hko hmt
  obtain ⟨ok, op, ob, os⟩ := o
  dsimp only at h1
  subst h1
  generalize hl : (m.cl c).text.length = n at *
  generalize (m.cl c).text = tx at *
  have hho := (g.inv.cl c hc).few
  generalize (m.cl c).up.length = up at *
  generalize (m.cl c).dn.length = dn at *
  generalize (m.cl c).ho.length = ho at *
  have h20i : (20 : Int) ≤ (ho : Int) := by omega
  have HR := hidP h
  have HG := hidP g
  clear h g
  go_enter Try.func19, Try.ntmps19
  go_wp2_with fail
  go_region_held3 (fun Wx => Wx.cell? ⟨W.heap.size, 1, none⟩ = some (.int .i64 who) ∧ Wx.cell? ⟨rb, 1, none⟩ = some (.int .i64 (m.n : Int))) (simp [go_sem, *]) ((go_at_call 17; refine (HP.out _).mono ?_; rintro e wp ⟨rfl, rfl⟩))
  go_wp2_with fail
  refine (HT.out _ (by repeat (first | exact Below.refl _ _ | apply Below.drew | refine bel_alloc ?_ _))).mono ?_
  rintro e w1 ⟨rfl, rfl⟩
  go_wp2_with fail
  refine (HO.out _).mono ?_
  rintro e w2 ⟨rfl, hb2⟩
  have HB2 := hidP (bel_trans (by repeat (first | exact Below.refl _ _ | apply Below.drew | refine bel_alloc ?_ _)) hb2 : Below W.heap.size W w2)
  have r2 := (HB2.out.cell (p := ⟨rb, 0, none⟩) lr).trans c0
  have l2 : rb < w2.heap.size := Nat.lt_of_lt_of_le lr HB2.out.size
  have l2' : rb < w2.heap.size + 1 := by omega
  clear hb2 HO
  go_wp2_with fail
  refine (HL.out _ (bel_trans HB2.out (by repeat (first | exact Below.refl _ _ | apply Below.drew | refine bel_alloc ?_ _)))).mono ?_
  rintro e w3 ⟨a, cc, rfl, hb3⟩
  have HB3 := hidP (bel_trans (bel_trans HB2.out (by repeat (first | exact Below.refl _ _ | apply Below.drew | refine bel_alloc ?_ _))) hb3 : Below W.heap.size W w3)
  obtain ⟨hc3, hf3⟩ := bcell hb3
  have o0 := hc3 w2.heap.size 0 (by simp)
  have o1 := hc3 w2.heap.size 1 (by simp)
  have o2 := hc3 w2.heap.size 2 (by simp)
  have o3 := hc3 w2.heap.size 3 (by simp)
  simp [go_sem] at o0 o1 o2 o3
  have r3 := (HB3.out.cell (p := ⟨rb, 0, none⟩) lr).trans c0
  have l3 : rb < w3.heap.size := Nat.lt_of_lt_of_le lr HB3.out.size
  have l3' : rb < w3.heap.size + 1 := by omega
  have p3 : w2.heap.size < w3.heap.size := Nat.lt_of_lt_of_le (by simp) hb3.size
  have p3' : w2.heap.size < w3.heap.size + 1 := by omega
  have H23 := hidP (bel_trans (by repeat (first | exact Below.refl _ _ | apply Below.drew | refine bel_alloc ?_ _)) hb3 : Below w2.heap.size w2 w3)
  clear hb3 hc3 hf3 HL
  have HS : Hid ((fun Wx => Wx.cell? ⟨rb, 0, none⟩ = some (.pointer (some ⟨mb, 0, none⟩)) ∧ Wx.cell? ⟨w2.heap.size, 0, none⟩ = some (.int .i64 2) ∧ Wx.cell? ⟨w2.heap.size, 1, none⟩ = some (.int .i64 op) ∧ Wx.cell? ⟨w2.heap.size, 2, none⟩ = some (.int .i64 ob) ∧ Wx.cell? ⟨w2.heap.size, 3, none⟩ = some (.int .i64 os) ∧ Wx.cell? ⟨w3.heap.size, 2, none⟩ = some (.slice a ho cc)) (w3.alloc (.cells #[.int .i64 (up : Int), .int .i64 (dn : Int), .slice a ho cc] 51))) := ⟨by simp [go_sem, *], by simp [go_sem, *], by simp [go_sem, *], by simp [go_sem, *], by simp [go_sem, *], by simp [go_sem, *]⟩
  have HZ : Hid (w3.heap.size < (w3.alloc (.cells #[.int .i64 (up : Int), .int .i64 (dn : Int), .slice a ho cc] 51)).heap.size ∧ Below w3.heap.size w3 (w3.alloc (.cells #[.int .i64 (up : Int), .int .i64 (dn : Int), .slice a ho cc] 51))) := ⟨by simp, bel_alloc (Below.refl _ _) _⟩
  go_wp2_with fail
  generalize w3.alloc _ = wl at *
  obtain ⟨s0, s1, s2, s3, s4, s5⟩ := HS.out
  have HY4 : Hid (∀ Wx, Below wl.heap.size wl Wx → Calls Try.prog 26 #[.pointer (some ⟨mb, 0, none⟩), .int .i64 (c : Int), .agg #[.int .i64 2, .int .i64 op, .int .i64 ob, .int .i64 os]] Wx fun e w' => e = .returned (.int .i64 4) ∧ Hid (Below W.heap.size W w') ∧ w'.cell? ⟨rb, 0, none⟩ = some (.pointer (some ⟨mb, 0, none⟩)) ∧ w'.cell? ⟨w2.heap.size, 0, none⟩ = some (.int .i64 2) ∧ w'.cell? ⟨w2.heap.size, 1, none⟩ = some (.int .i64 op) ∧ w'.cell? ⟨w2.heap.size, 2, none⟩ = some (.int .i64 ob) ∧ w'.cell? ⟨w2.heap.size, 3, none⟩ = some (.int .i64 os) ∧ w'.cell? ⟨w3.heap.size, 2, none⟩ = some (.slice a ho cc)) := fun Wx hx => by
    have hbl := bel_trans HB3.out HZ.out.2
    have q := HZ.out.1
    refine (HY.out wl hbl Wx hx).mono ?_
    rintro e w' ⟨rfl, hb', hcell⟩
    exact ⟨rfl, hb', (hcell _ _ (by omega)).trans s0, (hcell _ _ (by omega)).trans s1, (hcell _ _ (by omega)).trans s2, (hcell _ _ (by omega)).trans s3, (hcell _ _ (by omega)).trans s4, (hcell _ _ (by omega)).trans s5⟩
  go_region_held3 (fun Wx => Wx.cell? ⟨rb, 0, none⟩ = some (.pointer (some ⟨mb, 0, none⟩)) ∧ Wx.cell? ⟨w2.heap.size, 0, none⟩ = some (.int .i64 2) ∧ Wx.cell? ⟨w2.heap.size, 1, none⟩ = some (.int .i64 op) ∧ Wx.cell? ⟨w2.heap.size, 2, none⟩ = some (.int .i64 ob) ∧ Wx.cell? ⟨w2.heap.size, 3, none⟩ = some (.int .i64 os) ∧ Wx.cell? ⟨w3.heap.size, 2, none⟩ = some (.slice a ho cc)) (simp [go_sem, *]) ((go_at_call 26; refine (HY4.out _ (by repeat (first | exact Below.refl _ _ | apply Below.drew | refine bel_alloc ?_ _))).mono ?_; rintro e w4 ⟨rfl, HB4, y0, y1, y2, y3, y4, y5⟩))
  all_goals clear s0 s1 s2 s3 s4 s5 o0 o1 o2 o3 r2 r3 HS HY4 HT HP
  go_wp2
  go_ret
  exact ⟨rfl, step_same HR.out HG.out (bel_trans HB4.out (by repeat (first | exact Below.refl _ _ | apply Below.drew | refine bel_alloc ?_ _)))⟩
end
end Go.Proofs.Ytabahmcbhapbiaa
namespace Go.Proofs.Ytabahmcbhapbiaa
open Go.RowKit Go.Lib
set_option linter.unusedVariables false
section
variable {w W : World} {P : Nat → Prop} {rb mb : Nat} {first : List UInt8} {m : Moo} {typed : Nat → Nat} {dels N : Nat}
set_option maxRecDepth 8000 in
set_option maxHeartbeats 2000000 in
theorem step_ins (h : Rm w W P rb mb first m typed dels) (g : Good first m typed dels N) (hN : (N + 2) * 48 ≤ 140737488355328) (kd who xk xp xb xs : Int) (hw : I64 who) (hk : kd = 0) (hxk : I64 xk) (hxp : I64 xp) (hxb : I64 xb) (hxs : I64 xs) (hi : keepIs xk (m.cl (pickN who m.n)).text.length = true) (h1 : (keepOp xk xp xb xs (m.cl (pickN who m.n)).text.length).k = 1) (h60 : (m.cl (pickN who m.n)).text.length < 60) (h20 : (m.cl (pickN who m.n)).ho.length < 20) :
    Calls Try.prog 19 #[.pointer (some ⟨rb, 0, none⟩), .agg #[.int .i64 kd, .int .i64 who, .int .i64 xk, .int .i64 xp, .int .i64 xb, .int .i64 xs]] W fun e w' => e = .returned (.bool true) ∧ Hid (StepOK w W w' P rb mb first m N) := by
  have hn1 := g.inv.n1
  have hn4 := g.inv.n4
  have hc := pickN_lt who (n := m.n) (by omega)
  have HP : Hid (∀ Wx, Calls Try.prog 17 #[.int .i64 who, .int .i64 (m.n : Int)] Wx fun e w' => e = .returned (.int .i64 (pickN who m.n : Int)) ∧ Wx = w') := fun Wx => pick_any who hw m.n (by omega) (by omega) Wx
  generalize pickN who m.n = c at *
  have c0 := h.ra.c0
  have c1 := h.ra.c1
  have lr := h.ra.lt
  have lr1 : rb < W.heap.size + 1 := by omega
  subst hk
  have hn179 := inv_textLen g.inv hc
  have hsz := dstr_size (m.cl c).text
  have HT : Hid (∀ Wx, Below W.heap.size W Wx → Calls Try.prog 20 #[.pointer (some ⟨mb, 0, none⟩), .int .i64 (c : Int)] Wx fun e w' => e = .returned (.tuple #[dstr (m.cl c).text, .int .i64 0]) ∧ Wx = w') := fun Wx hx => rm_text (h.below hx) hc
  have HO : Hid (∀ Wx, Calls Try.prog 14 #[.agg #[.int .i64 xk, .int .i64 xp, .int .i64 xb, .int .i64 xs], .int .i64 ((m.cl c).text.length : Int)] Wx fun e w' => e = .returned (.tuple #[.agg #[.int .i64 (keepOp xk xp xb xs (m.cl c).text.length).k, .int .i64 (keepOp xk xp xb xs (m.cl c).text.length).p, .int .i64 (keepOp xk xp xb xs (m.cl c).text.length).b, .int .i64 (keepOp xk xp xb xs (m.cl c).text.length).s], .bool (keepIs xk (m.cl c).text.length)]) ∧ Hid (Below Wx.heap.size Wx w')) := fun Wx => keepOp_any xk xp xb xs hxk hxp hxb hxs (m.cl c).text.length (by omega) Wx
  have HL : Hid (∀ Wx, Below W.heap.size W Wx → Calls Try.prog 21 #[.pointer (some ⟨mb, 0, none⟩), .int .i64 (c : Int)] Wx fun e w' => ∃ a cc, e = .returned (.tuple #[.agg #[.int .i64 ((m.cl c).up.length : Int), .int .i64 ((m.cl c).dn.length : Int), .slice a (m.cl c).ho.length cc], .int .i64 0]) ∧ Hid (Below Wx.heap.size Wx w')) := fun Wx hx => rm_look (h.below hx) g hc
  rw [hi] at HO
  have hko := keepOp_ok xk xp xb xs (m.cl c).text.length (by omega) hi
  generalize keepOp xk xp xb xs (m.cl c).text.length = o at *
  have hmt : mayT (m.cl c).text.length (m.cl c).ho.length o = 0 := by
    unfold mayT
    rw [if_neg (by rw [hko.1, hko.2.1]; simp [h1]), if_neg (by omega)]
    rw [if_neg (by omega)]
  have hbb : o.k = 1 → 0 ≤ o.b ∧ o.b ≤ 255 := fun e => by
    have := hko.1
    rw [rightB_iff] at this
    omega
  obtain ⟨m', t, ht, hx, hmn, hg, hC⟩ := ty_ok h g hN hc o hmt (by omega) hbb
  have HA : Hid (∀ Wx, Calls Try.prog 16 #[dstr (m.cl c).text, .agg #[.int .i64 o.k, .int .i64 o.p, .int .i64 o.b, .int .i64 o.s]] Wx fun e w' => e = .returned (.tuple #[dstr t, .int .i64 0]) ∧ Hid (Below Wx.heap.size Wx w')) := fun Wx => apply_app hko.1 ht (by omega) Wx
  have HC := hidP hC
  clear hko hmt hC ht
  have htb : sumC 256 typed + dels ≤ 3000000000100 := by have := g.tb; omega
  obtain ⟨ok, op, ob, os⟩ := o
  dsimp only at h1 hg hbb
  subst h1
  obtain ⟨bn, rfl⟩ : ∃ bn : Nat, ob = (bn : Int) := ⟨ob.toNat, by have := hbb rfl; omega⟩
  have hbn : bn < 256 := by have := hbb rfl; omega
  have hbni : (bn : Int) < 256 := by omega
  have hgg : Good first m' (moreB typed bn) dels (N + 1) := by simpa using hg
  have htd : typed bn ≤ 3000000000100 := by have := sumC_le (f := typed) hbn; omega
  have htdi : (typed bn : Int) ≤ 3000000000100 := by omega
  have HGG := hidP hgg
  have HX := hidP hx
  have HMN := hidP hmn
  clear hg hgg hx hmn hbb htb
  generalize hl : (m.cl c).text.length = n at *
  generalize (m.cl c).text = tx at *
  have h60i : (n : Int) < 60 := by omega
  have hho := (g.inv.cl c hc).few
  generalize (m.cl c).up.length = up at *
  generalize (m.cl c).dn.length = dn at *
  generalize (m.cl c).ho.length = ho at *
  have h20i : (ho : Int) < 20 := by omega
  have HR := hidP h
  have HG := hidP g
  clear h g
  go_enter Try.func19, Try.ntmps19
  go_wp2_with fail
  go_region_held3 (fun Wx => Wx.cell? ⟨W.heap.size, 1, none⟩ = some (.int .i64 who) ∧ Wx.cell? ⟨rb, 1, none⟩ = some (.int .i64 (m.n : Int))) (simp [go_sem, *]) ((go_at_call 17; refine (HP.out _).mono ?_; rintro e wp ⟨rfl, rfl⟩))
  go_wp2_with fail
  refine (HT.out _ (by repeat (first | exact Below.refl _ _ | apply Below.drew | refine bel_alloc ?_ _))).mono ?_
  rintro e w1 ⟨rfl, rfl⟩
  go_wp2_with fail
  refine (HO.out _).mono ?_
  rintro e w2 ⟨rfl, hb2⟩
  have HB2 := hidP (bel_trans (by repeat (first | exact Below.refl _ _ | apply Below.drew | refine bel_alloc ?_ _)) hb2 : Below W.heap.size W w2)
  have r2 := (HB2.out.cell (p := ⟨rb, 0, none⟩) lr).trans c0
  have l2 : rb < w2.heap.size := Nat.lt_of_lt_of_le lr HB2.out.size
  have l2' : rb < w2.heap.size + 1 := by omega
  clear hb2 HO
  go_wp2_with fail
  refine (HL.out _ (bel_trans HB2.out (by repeat (first | exact Below.refl _ _ | apply Below.drew | refine bel_alloc ?_ _)))).mono ?_
  rintro e w3 ⟨a, cc, rfl, hb3⟩
  have HB3 := hidP (bel_trans (bel_trans HB2.out (by repeat (first | exact Below.refl _ _ | apply Below.drew | refine bel_alloc ?_ _))) hb3 : Below W.heap.size W w3)
  obtain ⟨hc3, hf3⟩ := bcell hb3
  have o0 := hc3 w2.heap.size 0 (by simp)
  have o1 := hc3 w2.heap.size 1 (by simp)
  have o2 := hc3 w2.heap.size 2 (by simp)
  have o3 := hc3 w2.heap.size 3 (by simp)
  simp [go_sem] at o0 o1 o2 o3
  have r3 := (HB3.out.cell (p := ⟨rb, 0, none⟩) lr).trans c0
  have l3 : rb < w3.heap.size := Nat.lt_of_lt_of_le lr HB3.out.size
  have l3' : rb < w3.heap.size + 1 := by omega
  have p3 : w2.heap.size < w3.heap.size := Nat.lt_of_lt_of_le (by simp) hb3.size
  have p3' : w2.heap.size < w3.heap.size + 1 := by omega
  have H23 := hidP (bel_trans (by repeat (first | exact Below.refl _ _ | apply Below.drew | refine bel_alloc ?_ _)) hb3 : Below w2.heap.size w2 w3)
  clear hb3 hc3 hf3 HL
  have HS : Hid ((fun Wx => Wx.cell? ⟨rb, 0, none⟩ = some (.pointer (some ⟨mb, 0, none⟩)) ∧ Wx.cell? ⟨w2.heap.size, 0, none⟩ = some (.int .i64 1) ∧ Wx.cell? ⟨w2.heap.size, 1, none⟩ = some (.int .i64 op) ∧ Wx.cell? ⟨w2.heap.size, 2, none⟩ = some (.int .i64 (bn : Int)) ∧ Wx.cell? ⟨w2.heap.size, 3, none⟩ = some (.int .i64 os) ∧ Wx.cell? ⟨w3.heap.size, 2, none⟩ = some (.slice a ho cc)) (w3.alloc (.cells #[.int .i64 (up : Int), .int .i64 (dn : Int), .slice a ho cc] 51))) := ⟨by simp [go_sem, *], by simp [go_sem, *], by simp [go_sem, *], by simp [go_sem, *], by simp [go_sem, *], by simp [go_sem, *]⟩
  have HZ : Hid (w3.heap.size < (w3.alloc (.cells #[.int .i64 (up : Int), .int .i64 (dn : Int), .slice a ho cc] 51)).heap.size ∧ Below w3.heap.size w3 (w3.alloc (.cells #[.int .i64 (up : Int), .int .i64 (dn : Int), .slice a ho cc] 51))) := ⟨by simp, bel_alloc (Below.refl _ _) _⟩
  go_wp2_with fail
  generalize w3.alloc _ = wl at *
  obtain ⟨s0, s1, s2, s3, s4, s5⟩ := HS.out
  have HY4 : Hid (∀ Wx, Below wl.heap.size wl Wx → Calls Try.prog 26 #[.pointer (some ⟨mb, 0, none⟩), .int .i64 (c : Int), .agg #[.int .i64 1, .int .i64 op, .int .i64 (bn : Int), .int .i64 os]] Wx fun e w' => e = .returned (.int .i64 0) ∧ Hid (Rm w w' P rb mb first m' typed dels ∧ Kp P W w') ∧ w'.cell? ⟨rb, 0, none⟩ = some (.pointer (some ⟨mb, 0, none⟩)) ∧ w'.cell? ⟨w2.heap.size, 0, none⟩ = some (.int .i64 1) ∧ w'.cell? ⟨w2.heap.size, 1, none⟩ = some (.int .i64 op) ∧ w'.cell? ⟨w2.heap.size, 2, none⟩ = some (.int .i64 (bn : Int)) ∧ w'.cell? ⟨w2.heap.size, 3, none⟩ = some (.int .i64 os) ∧ w'.cell? ⟨w3.heap.size, 2, none⟩ = some (.slice a ho cc)) := fun Wx hx => by
    refine (HC.out w2 w3 wl w2.heap.size w3.heap.size HB2.out H23.out (Nat.le_refl _) p3 HZ.out.2 (Nat.le_refl _) HZ.out.1 Wx hx).mono ?_
    rintro e w' ⟨rfl, hr, hcell⟩
    exact ⟨rfl, hr, (hcell rb _ (Or.inl rfl)).1.trans s0, (hcell w2.heap.size _ (Or.inr (Or.inl rfl))).1.trans s1, (hcell w2.heap.size _ (Or.inr (Or.inl rfl))).1.trans s2, (hcell w2.heap.size _ (Or.inr (Or.inl rfl))).1.trans s3, (hcell w2.heap.size _ (Or.inr (Or.inl rfl))).1.trans s4, (hcell w3.heap.size _ (Or.inr (Or.inr rfl))).1.trans s5⟩
  go_region_held3 (fun Wx => Wx.cell? ⟨rb, 0, none⟩ = some (.pointer (some ⟨mb, 0, none⟩)) ∧ Wx.cell? ⟨w2.heap.size, 0, none⟩ = some (.int .i64 1) ∧ Wx.cell? ⟨w2.heap.size, 1, none⟩ = some (.int .i64 op) ∧ Wx.cell? ⟨w2.heap.size, 2, none⟩ = some (.int .i64 (bn : Int)) ∧ Wx.cell? ⟨w2.heap.size, 3, none⟩ = some (.int .i64 os) ∧ Wx.cell? ⟨w3.heap.size, 2, none⟩ = some (.slice a ho cc)) (simp [go_sem, *]) ((go_at_call 26; refine (HY4.out _ (by repeat (first | exact Below.refl _ _ | apply Below.drew | refine bel_alloc ?_ _))).mono ?_; rintro e w4 ⟨rfl, HB4, y0, y1, y2, y3, y4, y5⟩))
  all_goals clear s0 s1 s2 s3 s4 s5 o0 o1 o2 o3 r2 r3 HS HY4 HT HP
  have y6 := HB4.out.1.ra.ct bn hbn
  have y7 := HB4.out.1.ra.fr
  have HR5 := hidP (rm_typed HB4.out.1 hbn)
  have z0 : (w4.setCell ⟨rb, 3 + bn, none⟩ (.int .i64 ((typed bn : Int) + 1))).cell? ⟨rb, 0, none⟩ = some (.pointer (some ⟨mb, 0, none⟩)) := HR5.out.ra.c0
  have z1 : (w4.setCell ⟨rb, 3 + bn, none⟩ (.int .i64 ((typed bn : Int) + 1))).cell? ⟨w2.heap.size, 0, none⟩ = some (.int .i64 1) := (World.cell?_setCell_other _ _ _ _ (by simp only [ne_eq, Addr.mk.injEq]; omega)).trans y1
  have z2 : (w4.setCell ⟨rb, 3 + bn, none⟩ (.int .i64 ((typed bn : Int) + 1))).cell? ⟨w2.heap.size, 1, none⟩ = some (.int .i64 op) := (World.cell?_setCell_other _ _ _ _ (by simp only [ne_eq, Addr.mk.injEq]; omega)).trans y2
  have z3 : (w4.setCell ⟨rb, 3 + bn, none⟩ (.int .i64 ((typed bn : Int) + 1))).cell? ⟨w2.heap.size, 2, none⟩ = some (.int .i64 (bn : Int)) := (World.cell?_setCell_other _ _ _ _ (by simp only [ne_eq, Addr.mk.injEq]; omega)).trans y3
  have z4 : (w4.setCell ⟨rb, 3 + bn, none⟩ (.int .i64 ((typed bn : Int) + 1))).cell? ⟨w2.heap.size, 3, none⟩ = some (.int .i64 os) := (World.cell?_setCell_other _ _ _ _ (by simp only [ne_eq, Addr.mk.injEq]; omega)).trans y4
  have HK5 : Hid (Kp (fun k => P k ∧ k ≠ rb) W (w4.setCell ⟨rb, 3 + bn, none⟩ (.int .i64 ((typed bn : Int) + 1)))) := fun k e j => by
    have q := HB4.out.2 k e.1 j
    exact ⟨(World.cell?_setCell_other _ _ _ _ (by simp only [ne_eq, Addr.mk.injEq]; exact fun x => e.2 x.1.symm)).trans q.1, by rw [World.frozen?_setCell]; exact q.2⟩
  have HZ := hidP (And.intro z0 (And.intro z1 (And.intro z2 (And.intro z3 z4))))
  clear z0 z1 z2 z3 z4
  go_wp2_with fail
  go_region
  all_goals clear y0 y1 y2 y3 y4 y5 y6 y7 HB4
  generalize (w4.setCell ⟨rb, 3 + bn, none⟩ (.int .i64 ((typed bn : Int) + 1))) = w5 at *
  obtain ⟨z0, z1, z2, z3, z4⟩ := HZ.out
  have HT5 : Hid (∀ Wx, Below w5.heap.size w5 Wx → Calls Try.prog 20 #[.pointer (some ⟨mb, 0, none⟩), .int .i64 (c : Int)] Wx fun e w' => e = .returned (.tuple #[dstr t, .int .i64 0]) ∧ Wx = w') := fun Wx hx => by
    have := rm_text (HR5.out.below hx) (c := c) (by rw [HMN.out]; exact hc)
    rw [HX.out] at this
    exact this
  go_wp2_with fail
  refine (HT5.out _ (by repeat (first | exact Below.refl _ _ | apply Below.drew | refine bel_alloc ?_ _))).mono ?_
  rintro e w6 ⟨rfl, rfl⟩
  go_wp2_with fail
  refine (HA.out _).mono ?_
  rintro e w7 ⟨rfl, hb7⟩
  have HF : Hid (StepOK w W w7 P rb mb first m N) := by
    have hb : Below w5.heap.size w5 w7 := bel_trans (by repeat (first | exact Below.refl _ _ | apply Below.drew | refine bel_alloc ?_ _)) hb7
    exact ⟨m', moreB typed bn, dels, HR5.out.below hb, HGG.out, HMN.out, HK5.out.trans ((HR5.out.kb hb).fewer (fun k e => e.1))⟩
  clear hb7 z0 z1 z2 z3 z4 HZ
  go_wp2
  go_ret
  exact ⟨rfl, HF.out⟩
set_option maxRecDepth 8000 in
set_option maxHeartbeats 2000000 in
theorem step_del (h : Rm w W P rb mb first m typed dels) (g : Good first m typed dels N) (hN : (N + 2) * 48 ≤ 140737488355328) (kd who xk xp xb xs : Int) (hw : I64 who) (hk : kd = 0) (hxk : I64 xk) (hxp : I64 xp) (hxb : I64 xb) (hxs : I64 xs) (hi : keepIs xk (m.cl (pickN who m.n)).text.length = true) (h1 : (keepOp xk xp xb xs (m.cl (pickN who m.n)).text.length).k = 2)  (h20 : (m.cl (pickN who m.n)).ho.length < 20) :
    Calls Try.prog 19 #[.pointer (some ⟨rb, 0, none⟩), .agg #[.int .i64 kd, .int .i64 who, .int .i64 xk, .int .i64 xp, .int .i64 xb, .int .i64 xs]] W fun e w' => e = .returned (.bool true) ∧ Hid (StepOK w W w' P rb mb first m N) := by
  have hn1 := g.inv.n1
  have hn4 := g.inv.n4
  have hc := pickN_lt who (n := m.n) (by omega)
  have HP : Hid (∀ Wx, Calls Try.prog 17 #[.int .i64 who, .int .i64 (m.n : Int)] Wx fun e w' => e = .returned (.int .i64 (pickN who m.n : Int)) ∧ Wx = w') := fun Wx => pick_any who hw m.n (by omega) (by omega) Wx
  generalize pickN who m.n = c at *
  have c0 := h.ra.c0
  have c1 := h.ra.c1
  have lr := h.ra.lt
  have lr1 : rb < W.heap.size + 1 := by omega
  subst hk
  have hn179 := inv_textLen g.inv hc
  have hsz := dstr_size (m.cl c).text
  have HT : Hid (∀ Wx, Below W.heap.size W Wx → Calls Try.prog 20 #[.pointer (some ⟨mb, 0, none⟩), .int .i64 (c : Int)] Wx fun e w' => e = .returned (.tuple #[dstr (m.cl c).text, .int .i64 0]) ∧ Wx = w') := fun Wx hx => rm_text (h.below hx) hc
  have HO : Hid (∀ Wx, Calls Try.prog 14 #[.agg #[.int .i64 xk, .int .i64 xp, .int .i64 xb, .int .i64 xs], .int .i64 ((m.cl c).text.length : Int)] Wx fun e w' => e = .returned (.tuple #[.agg #[.int .i64 (keepOp xk xp xb xs (m.cl c).text.length).k, .int .i64 (keepOp xk xp xb xs (m.cl c).text.length).p, .int .i64 (keepOp xk xp xb xs (m.cl c).text.length).b, .int .i64 (keepOp xk xp xb xs (m.cl c).text.length).s], .bool (keepIs xk (m.cl c).text.length)]) ∧ Hid (Below Wx.heap.size Wx w')) := fun Wx => keepOp_any xk xp xb xs hxk hxp hxb hxs (m.cl c).text.length (by omega) Wx
  have HL : Hid (∀ Wx, Below W.heap.size W Wx → Calls Try.prog 21 #[.pointer (some ⟨mb, 0, none⟩), .int .i64 (c : Int)] Wx fun e w' => ∃ a cc, e = .returned (.tuple #[.agg #[.int .i64 ((m.cl c).up.length : Int), .int .i64 ((m.cl c).dn.length : Int), .slice a (m.cl c).ho.length cc], .int .i64 0]) ∧ Hid (Below Wx.heap.size Wx w')) := fun Wx hx => rm_look (h.below hx) g hc
  rw [hi] at HO
  have hko := keepOp_ok xk xp xb xs (m.cl c).text.length (by omega) hi
  generalize keepOp xk xp xb xs (m.cl c).text.length = o at *
  have hmt : mayT (m.cl c).text.length (m.cl c).ho.length o = 0 := by
    unfold mayT
    rw [if_neg (by rw [hko.1, hko.2.1]; simp [h1]), if_neg (by omega)]
    rw [if_neg (by omega)]
  have hbb : o.k = 1 → 0 ≤ o.b ∧ o.b ≤ 255 := fun e => by
    have := hko.1
    rw [rightB_iff] at this
    omega
  obtain ⟨m', t, ht, hx, hmn, hg, hC⟩ := ty_ok h g hN hc o hmt (by omega) hbb
  have HA : Hid (∀ Wx, Calls Try.prog 16 #[dstr (m.cl c).text, .agg #[.int .i64 o.k, .int .i64 o.p, .int .i64 o.b, .int .i64 o.s]] Wx fun e w' => e = .returned (.tuple #[dstr t, .int .i64 0]) ∧ Hid (Below Wx.heap.size Wx w')) := fun Wx => apply_app hko.1 ht (by omega) Wx
  have HC := hidP hC
  clear hko hmt hC ht
  have htb : sumC 256 typed + dels ≤ 3000000000100 := by have := g.tb; omega
  obtain ⟨ok, op, ob, os⟩ := o
  dsimp only at h1 hg hbb
  subst h1
  have hgg : Good first m' typed (dels + 1) (N + 1) := by simpa using hg
  have htd : dels ≤ 3000000000100 := by omega
  have htdi : (dels : Int) ≤ 3000000000100 := by omega
  have HGG := hidP hgg
  have HX := hidP hx
  have HMN := hidP hmn
  clear hg hgg hx hmn hbb htb
  generalize hl : (m.cl c).text.length = n at *
  generalize (m.cl c).text = tx at *
  have hho := (g.inv.cl c hc).few
  generalize (m.cl c).up.length = up at *
  generalize (m.cl c).dn.length = dn at *
  generalize (m.cl c).ho.length = ho at *
  have h20i : (ho : Int) < 20 := by omega
  have HR := hidP h
  have HG := hidP g
  clear h g
  go_enter Try.func19, Try.ntmps19
  go_wp2_with fail
  go_region_held3 (fun Wx => Wx.cell? ⟨W.heap.size, 1, none⟩ = some (.int .i64 who) ∧ Wx.cell? ⟨rb, 1, none⟩ = some (.int .i64 (m.n : Int))) (simp [go_sem, *]) ((go_at_call 17; refine (HP.out _).mono ?_; rintro e wp ⟨rfl, rfl⟩))
  go_wp2_with fail
  refine (HT.out _ (by repeat (first | exact Below.refl _ _ | apply Below.drew | refine bel_alloc ?_ _))).mono ?_
  rintro e w1 ⟨rfl, rfl⟩
  go_wp2_with fail
  refine (HO.out _).mono ?_
  rintro e w2 ⟨rfl, hb2⟩
  have HB2 := hidP (bel_trans (by repeat (first | exact Below.refl _ _ | apply Below.drew | refine bel_alloc ?_ _)) hb2 : Below W.heap.size W w2)
  have r2 := (HB2.out.cell (p := ⟨rb, 0, none⟩) lr).trans c0
  have l2 : rb < w2.heap.size := Nat.lt_of_lt_of_le lr HB2.out.size
  have l2' : rb < w2.heap.size + 1 := by omega
  clear hb2 HO
  go_wp2_with fail
  refine (HL.out _ (bel_trans HB2.out (by repeat (first | exact Below.refl _ _ | apply Below.drew | refine bel_alloc ?_ _)))).mono ?_
  rintro e w3 ⟨a, cc, rfl, hb3⟩
  have HB3 := hidP (bel_trans (bel_trans HB2.out (by repeat (first | exact Below.refl _ _ | apply Below.drew | refine bel_alloc ?_ _))) hb3 : Below W.heap.size W w3)
  obtain ⟨hc3, hf3⟩ := bcell hb3
  have o0 := hc3 w2.heap.size 0 (by simp)
  have o1 := hc3 w2.heap.size 1 (by simp)
  have o2 := hc3 w2.heap.size 2 (by simp)
  have o3 := hc3 w2.heap.size 3 (by simp)
  simp [go_sem] at o0 o1 o2 o3
  have r3 := (HB3.out.cell (p := ⟨rb, 0, none⟩) lr).trans c0
  have l3 : rb < w3.heap.size := Nat.lt_of_lt_of_le lr HB3.out.size
  have l3' : rb < w3.heap.size + 1 := by omega
  have p3 : w2.heap.size < w3.heap.size := Nat.lt_of_lt_of_le (by simp) hb3.size
  have p3' : w2.heap.size < w3.heap.size + 1 := by omega
  have H23 := hidP (bel_trans (by repeat (first | exact Below.refl _ _ | apply Below.drew | refine bel_alloc ?_ _)) hb3 : Below w2.heap.size w2 w3)
  clear hb3 hc3 hf3 HL
  have HS : Hid ((fun Wx => Wx.cell? ⟨rb, 0, none⟩ = some (.pointer (some ⟨mb, 0, none⟩)) ∧ Wx.cell? ⟨w2.heap.size, 0, none⟩ = some (.int .i64 2) ∧ Wx.cell? ⟨w2.heap.size, 1, none⟩ = some (.int .i64 op) ∧ Wx.cell? ⟨w2.heap.size, 2, none⟩ = some (.int .i64 ob) ∧ Wx.cell? ⟨w2.heap.size, 3, none⟩ = some (.int .i64 os) ∧ Wx.cell? ⟨w3.heap.size, 2, none⟩ = some (.slice a ho cc)) (w3.alloc (.cells #[.int .i64 (up : Int), .int .i64 (dn : Int), .slice a ho cc] 51))) := ⟨by simp [go_sem, *], by simp [go_sem, *], by simp [go_sem, *], by simp [go_sem, *], by simp [go_sem, *], by simp [go_sem, *]⟩
  have HZ : Hid (w3.heap.size < (w3.alloc (.cells #[.int .i64 (up : Int), .int .i64 (dn : Int), .slice a ho cc] 51)).heap.size ∧ Below w3.heap.size w3 (w3.alloc (.cells #[.int .i64 (up : Int), .int .i64 (dn : Int), .slice a ho cc] 51))) := ⟨by simp, bel_alloc (Below.refl _ _) _⟩
  go_wp2_with fail
  generalize w3.alloc _ = wl at *
  obtain ⟨s0, s1, s2, s3, s4, s5⟩ := HS.out
  have HY4 : Hid (∀ Wx, Below wl.heap.size wl Wx → Calls Try.prog 26 #[.pointer (some ⟨mb, 0, none⟩), .int .i64 (c : Int), .agg #[.int .i64 2, .int .i64 op, .int .i64 ob, .int .i64 os]] Wx fun e w' => e = .returned (.int .i64 0) ∧ Hid (Rm w w' P rb mb first m' typed dels ∧ Kp P W w') ∧ w'.cell? ⟨rb, 0, none⟩ = some (.pointer (some ⟨mb, 0, none⟩)) ∧ w'.cell? ⟨w2.heap.size, 0, none⟩ = some (.int .i64 2) ∧ w'.cell? ⟨w2.heap.size, 1, none⟩ = some (.int .i64 op) ∧ w'.cell? ⟨w2.heap.size, 2, none⟩ = some (.int .i64 ob) ∧ w'.cell? ⟨w2.heap.size, 3, none⟩ = some (.int .i64 os) ∧ w'.cell? ⟨w3.heap.size, 2, none⟩ = some (.slice a ho cc)) := fun Wx hx => by
    refine (HC.out w2 w3 wl w2.heap.size w3.heap.size HB2.out H23.out (Nat.le_refl _) p3 HZ.out.2 (Nat.le_refl _) HZ.out.1 Wx hx).mono ?_
    rintro e w' ⟨rfl, hr, hcell⟩
    exact ⟨rfl, hr, (hcell rb _ (Or.inl rfl)).1.trans s0, (hcell w2.heap.size _ (Or.inr (Or.inl rfl))).1.trans s1, (hcell w2.heap.size _ (Or.inr (Or.inl rfl))).1.trans s2, (hcell w2.heap.size _ (Or.inr (Or.inl rfl))).1.trans s3, (hcell w2.heap.size _ (Or.inr (Or.inl rfl))).1.trans s4, (hcell w3.heap.size _ (Or.inr (Or.inr rfl))).1.trans s5⟩
  go_region_held3 (fun Wx => Wx.cell? ⟨rb, 0, none⟩ = some (.pointer (some ⟨mb, 0, none⟩)) ∧ Wx.cell? ⟨w2.heap.size, 0, none⟩ = some (.int .i64 2) ∧ Wx.cell? ⟨w2.heap.size, 1, none⟩ = some (.int .i64 op) ∧ Wx.cell? ⟨w2.heap.size, 2, none⟩ = some (.int .i64 ob) ∧ Wx.cell? ⟨w2.heap.size, 3, none⟩ = some (.int .i64 os) ∧ Wx.cell? ⟨w3.heap.size, 2, none⟩ = some (.slice a ho cc)) (simp [go_sem, *]) ((go_at_call 26; refine (HY4.out _ (by repeat (first | exact Below.refl _ _ | apply Below.drew | refine bel_alloc ?_ _))).mono ?_; rintro e w4 ⟨rfl, HB4, y0, y1, y2, y3, y4, y5⟩))
  all_goals clear s0 s1 s2 s3 s4 s5 o0 o1 o2 o3 r2 r3 HS HY4 HT HP
  have y6 := HB4.out.1.ra.cd
  have y7 := HB4.out.1.ra.fr
  have HR5 := hidP (rm_dels HB4.out.1)
  have z0 : (w4.setCell ⟨rb, 259, none⟩ (.int .i64 ((dels : Int) + 1))).cell? ⟨rb, 0, none⟩ = some (.pointer (some ⟨mb, 0, none⟩)) := HR5.out.ra.c0
  have z1 : (w4.setCell ⟨rb, 259, none⟩ (.int .i64 ((dels : Int) + 1))).cell? ⟨w2.heap.size, 0, none⟩ = some (.int .i64 2) := (World.cell?_setCell_other _ _ _ _ (by simp only [ne_eq, Addr.mk.injEq]; omega)).trans y1
  have z2 : (w4.setCell ⟨rb, 259, none⟩ (.int .i64 ((dels : Int) + 1))).cell? ⟨w2.heap.size, 1, none⟩ = some (.int .i64 op) := (World.cell?_setCell_other _ _ _ _ (by simp only [ne_eq, Addr.mk.injEq]; omega)).trans y2
  have z3 : (w4.setCell ⟨rb, 259, none⟩ (.int .i64 ((dels : Int) + 1))).cell? ⟨w2.heap.size, 2, none⟩ = some (.int .i64 ob) := (World.cell?_setCell_other _ _ _ _ (by simp only [ne_eq, Addr.mk.injEq]; omega)).trans y3
  have z4 : (w4.setCell ⟨rb, 259, none⟩ (.int .i64 ((dels : Int) + 1))).cell? ⟨w2.heap.size, 3, none⟩ = some (.int .i64 os) := (World.cell?_setCell_other _ _ _ _ (by simp only [ne_eq, Addr.mk.injEq]; omega)).trans y4
  have HK5 : Hid (Kp (fun k => P k ∧ k ≠ rb) W (w4.setCell ⟨rb, 259, none⟩ (.int .i64 ((dels : Int) + 1)))) := fun k e j => by
    have q := HB4.out.2 k e.1 j
    exact ⟨(World.cell?_setCell_other _ _ _ _ (by simp only [ne_eq, Addr.mk.injEq]; exact fun x => e.2 x.1.symm)).trans q.1, by rw [World.frozen?_setCell]; exact q.2⟩
  have HZ := hidP (And.intro z0 (And.intro z1 (And.intro z2 (And.intro z3 z4))))
  clear z0 z1 z2 z3 z4
  go_wp2_with fail

  all_goals clear y0 y1 y2 y3 y4 y5 y6 y7 HB4
  generalize (w4.setCell ⟨rb, 259, none⟩ (.int .i64 ((dels : Int) + 1))) = w5 at *
  obtain ⟨z0, z1, z2, z3, z4⟩ := HZ.out
  have HT5 : Hid (∀ Wx, Below w5.heap.size w5 Wx → Calls Try.prog 20 #[.pointer (some ⟨mb, 0, none⟩), .int .i64 (c : Int)] Wx fun e w' => e = .returned (.tuple #[dstr t, .int .i64 0]) ∧ Wx = w') := fun Wx hx => by
    have := rm_text (HR5.out.below hx) (c := c) (by rw [HMN.out]; exact hc)
    rw [HX.out] at this
    exact this

  refine (HT5.out _ (by repeat (first | exact Below.refl _ _ | apply Below.drew | refine bel_alloc ?_ _))).mono ?_
  rintro e w6 ⟨rfl, rfl⟩
  go_wp2_with fail
  refine (HA.out _).mono ?_
  rintro e w7 ⟨rfl, hb7⟩
  have HF : Hid (StepOK w W w7 P rb mb first m N) := by
    have hb : Below w5.heap.size w5 w7 := bel_trans (by repeat (first | exact Below.refl _ _ | apply Below.drew | refine bel_alloc ?_ _)) hb7
    exact ⟨m', typed, dels + 1, HR5.out.below hb, HGG.out, HMN.out, HK5.out.trans ((HR5.out.kb hb).fewer (fun k e => e.1))⟩
  clear hb7 z0 z1 z2 z3 z4 HZ
  go_wp2
  go_ret
  exact ⟨rfl, HF.out⟩
end
end Go.Proofs.Ytabahmcbhapbiaa
namespace Go.Proofs.Ytabahmcbhapbiaa
open Go.RowKit Go.Lib
set_option linter.unusedVariables false
section
variable {w W : World} {P : Nat → Prop} {rb mb : Nat} {first : List UInt8} {m : Moo} {typed : Nat → Nat} {dels N : Nat}
/-- A step of a room, whatever it is. -/
theorem kstep_any (h : Rm w W P rb mb first m typed dels) (g : Good first m typed dels N) (hN : (N + 2) * 48 ≤ 140737488355328) (kd who xk xp xb xs : Int) (hw : I64 who) (hxk : I64 xk) (hxp : I64 xp) (hxb : I64 xb) (hxs : I64 xs) :
    Calls Try.prog 19 #[.pointer (some ⟨rb, 0, none⟩), .agg #[.int .i64 kd, .int .i64 who, .int .i64 xk, .int .i64 xp, .int .i64 xb, .int .i64 xs]] W fun e w' => e = .returned (.bool true) ∧ Hid (StepOK w W w' P rb mb first m N) := by
  by_cases e0 : kd = 0
  · have hc := pickN_lt who (n := m.n) (by have := g.inv.n1; omega)
    have hl := inv_textLen g.inv hc
    cases hi : keepIs xk (m.cl (pickN who m.n)).text.length with
    | false => exact step_no h g hN kd who xk xp xb xs hw e0 hxk hxp hxb hxs hi
    | true =>
      obtain ⟨hr, _, _, _, hk0⟩ := keepOp_ok xk xp xb xs (m.cl (pickN who m.n)).text.length (by omega) hi
      rw [rightB_iff] at hr
      by_cases e1 : (keepOp xk xp xb xs (m.cl (pickN who m.n)).text.length).k = 1
      · by_cases h60 : 60 ≤ (m.cl (pickN who m.n)).text.length
        · exact step_full h g hN kd who xk xp xb xs hw e0 hxk hxp hxb hxs hi e1 h60
        · by_cases h20 : 20 ≤ (m.cl (pickN who m.n)).ho.length
          · exact step_busy_i h g hN kd who xk xp xb xs hw e0 hxk hxp hxb hxs hi e1 (by omega) h20
          · exact step_ins h g hN kd who xk xp xb xs hw e0 hxk hxp hxb hxs hi e1 (by omega) (by omega)
      · have e2 : (keepOp xk xp xb xs (m.cl (pickN who m.n)).text.length).k = 2 := by omega
        by_cases h20 : 20 ≤ (m.cl (pickN who m.n)).ho.length
        · exact step_busy_d h g hN kd who xk xp xb xs hw e0 hxk hxp hxb hxs hi e2 h20
        · exact step_del h g hN kd who xk xp xb xs hw e0 hxk hxp hxb hxs hi e2 (by omega)
  · by_cases e1 : kd = 1
    · by_cases hq : (m.cl (pickN who m.n)).up = []
      · exact step_up_none h g hN kd who xk xp xb xs hw e1 hq
      · exact step_up_some h g hN kd who xk xp xb xs hw e1 hq
    · by_cases e2 : kd = 2
      · by_cases hq : (m.cl (pickN who m.n)).dn = []
        · exact step_down_none h g hN kd who xk xp xb xs hw e2 hq
        · exact step_down_some h g hN kd who xk xp xb xs hw e2 hq
      · exact step_calm h g hN kd who xk xp xb xs hw (by simpa using e0) (by simpa using e1) (by simpa using e2)
end
/-- A room is opened. -/
theorem opened_any (cl : Int) (hcl : I64 cl) (u : List UInt8) (hu : u.length ≤ 200000000000000) (w : World) :
    Calls Try.prog 18 #[.int .i64 cl, dstr u] w fun e w' => ∃ rb mb f m ty, e = .returned (.pointer (some ⟨rb, 0, none⟩)) ∧ Hid (Rm w w' (fun x => x = rb) rb mb f m ty 0 ∧ Good f m ty 0 0) := by
  have l4 := pickN_lt cl (n := 4) (by omega)
  by_cases h : u.length ≤ 60
  · refine (opened_short cl hcl u h w).mono ?_
    rintro e w' ⟨rb, mb, rfl, hr⟩
    exact ⟨rb, mb, u, _, _, rfl, hr, good_new (by omega) (by omega) h⟩
  · refine (opened_long cl hcl (u.take 60) u (by omega) rfl (by simp; omega) w).mono ?_
    rintro e w' ⟨rb, mb, rfl, hr⟩
    exact ⟨rb, mb, u.take 60, _, _, rfl, hr, good_new (by omega) (by omega) (by simp; omega)⟩
/-- A step of a script. -/
structure SRec where
  kd : Int
  who : Int
  xk : Int
  xp : Int
  xb : Int
  xs : Int
def SRec.ok (r : SRec) : Prop := I64 r.who ∧ I64 r.xk ∧ I64 r.xp ∧ I64 r.xb ∧ I64 r.xs
/-- A script in memory. -/
def ScriptAt (w : World) (sa : Option Addr) (n : Nat) (f : Nat → SRec) : Prop :=
  (n + 2) * 48 ≤ 140737488355328 ∧ ∀ i, i < n → (f i).ok ∧ ∃ a, sa = some a ∧ w.cell? (a.add (i * 6)) = some (.int .i64 (f i).kd) ∧ w.cell? (a.add (i * 6 + 1)) = some (.int .i64 (f i).who) ∧ w.cell? (a.add (i * 6 + 2)) = some (.int .i64 (f i).xk) ∧ w.cell? (a.add (i * 6 + 3)) = some (.int .i64 (f i).xp) ∧ w.cell? (a.add (i * 6 + 4)) = some (.int .i64 (f i).xb) ∧ w.cell? (a.add (i * 6 + 5)) = some (.int .i64 (f i).xs)
theorem ScriptAt.below {w W : World} {sa : Option Addr} {n : Nat} {f : Nat → SRec} (h : ScriptAt w sa n f) (hb : Below w.heap.size w W) : ScriptAt W sa n f := by
  refine ⟨h.1, fun i hi => ?_⟩
  obtain ⟨h1, a, h2, c0, c1, c2, c3, c4, c5⟩ := h.2 i hi
  refine ⟨h1, a, h2, ?_, ?_, ?_, ?_, ?_, ?_⟩
  all_goals (rw [hb.cell (block_lt_of_cell (by assumption))]; assumption)
theorem kcRec : Try.prog.cellsOf 43 = 6 := by kernel_rfl
theorem kbRec : Try.prog.bytesOf 43 = 48 := by kernel_rfl
theorem klist6 {α : Type} : ∀ {l : List α}, l.length = 6 → ∃ a b c d e f, l = [a, b, c, d, e, f]
  | [a, b, c, d, e, f], _ => ⟨a, b, c, d, e, f, rfl⟩
section
open Go.ChangeShapes Go.WideShapes Go.ChangeAt
variable {H : Type} {enc : TypeId × Value → H} {w : World} {base : Nat} {spare : Nat → Bool} {held : Bool}
theorem kopen_rec {fuel : Nat} {cs : List Value} {x : DataW H × List MemPlace} (h : DataW.trod enc Try.prog w base spare held fuel 43 cs = some x) :
    ∃ r : SRec, cs = [.int .i64 r.kd, .int .i64 r.who, .int .i64 r.xk, .int .i64 r.xp, .int .i64 r.xb, .int .i64 r.xs] ∧ r.ok := by
  obtain ⟨xs, n, rfl, rfl, hl, hxl, hf⟩ := DataW.trod_struct Try.underlying43 h
  rw [kcRec] at hl
  have hx : xs.length = 3 := hxl
  obtain ⟨y0, e0⟩ : ∃ y, xs[0]? = some y := ⟨_, List.getElem?_eq_getElem (by omega)⟩
  obtain ⟨y1, e1⟩ : ∃ y, xs[1]? = some y := ⟨_, List.getElem?_eq_getElem (by omega)⟩
  obtain ⟨y2, e2⟩ : ∃ y, xs[2]? = some y := ⟨_, List.getElem?_eq_getElem (by omega)⟩
  have g0 : DataW.trod enc Try.prog w base spare held n 3 ((cs.drop 0).take (Try.prog.cellsOf 3)) = xs[0]? := hf 0 _ rfl
  have g1 : DataW.trod enc Try.prog w base spare held n 3 ((cs.drop 1).take (Try.prog.cellsOf 3)) = xs[1]? := hf 1 _ rfl
  have g2 : DataW.trod enc Try.prog w base spare held n 26 ((cs.drop 2).take (Try.prog.cellsOf 26)) = xs[2]? := hf 2 _ rfl
  rw [kcInt] at g0 g1
  rw [kcOp4] at g2
  obtain ⟨kd, h0, q0, _⟩ := DataW.trod_int Try.underlying3 (g0.trans e0)
  obtain ⟨who, h1, q1, z1⟩ := DataW.trod_int Try.underlying3 (g1.trans e1)
  obtain ⟨xk, xp, xb, xs', h2, i1, i2, i3, i4⟩ := kopen_op4 (g2.trans e2)
  refine ⟨⟨kd, who, xk, xp, xb, xs'⟩, ?_, i64_wf z1, i1, i2, i3, i4⟩
  obtain ⟨c0, c1, c2, c3, c4, c5, rfl⟩ := klist6 hl
  simp at h0 h1 h2
  obtain ⟨h2a, h2b, h2c, h2d⟩ := h2
  simp only [h0, h1, h2a, h2b, h2c, h2d]
/-- What a script is that can be read. -/
theorem kopen_script {fuel : Nat} {sa : Option Addr} {n c : Nat} {d : DataW H} {ps : List MemPlace} (h : DataW.trod enc Try.prog w base spare held fuel 38 [.slice sa n c] = some (d, ps))
    (hw : ∀ m ∈ d.weights Try.prog 38, m ≤ reachBytes) : ∃ f, ScriptAt w sa n f := by
  have hrb := kreach
  rcases Deep.open_slice Try.underlying38 h with ⟨hcs, hx⟩ | ⟨a, len, cap, m, nn, D, Pl, hcs, _, hlc, _, hm, hx, hel⟩
  · simp at hcs
    obtain ⟨rfl, rfl, rfl⟩ := hcs
    exact ⟨fun _ => ⟨0, 0, 0, 0, 0, 0⟩, by omega, fun i hi => by omega⟩
  · simp at hcs
    obtain ⟨rfl, rfl, rfl⟩ := hcs
    have hd := congrArg Prod.fst hx
    simp only at hd
    rw [hd] at hw
    clear hx hd h
    have hnm : n ≤ m := by rw [hm]; split <;> omega
    have hbig : (n + (m - n)) * 48 ≤ reachBytes := by
      refine hw _ ?_
      simp only [DataW.weights, Try.underlying38, kbRec, List.length_map, List.length_range]
      exact List.mem_cons_self
    have hI : Inhabited SRec := ⟨⟨0, 0, 0, 0, 0, 0⟩⟩
    obtain ⟨f, hf⟩ := Deep.choose_lt (α := SRec) (n := n) (p := fun i r => (∀ k, k < 6 → w.cell? (a.add (i * 6 + k)) = [.int .i64 r.kd, .int .i64 r.who, .int .i64 r.xk, .int .i64 r.xp, .int .i64 r.xb, .int .i64 r.xs][k]?) ∧ r.ok) (fun i hi => by
      obtain ⟨cs', h1, h2⟩ := hel i (by omega)
      obtain ⟨r, hr, hrw⟩ := kopen_rec h2
      rw [kcRec] at h1
      obtain ⟨_, _, hcell⟩ := World.cells?_some h1
      refine ⟨r, fun k hk => ?_, hrw⟩
      have := hcell k hk
      rw [Deep.add_add] at this
      rw [this, hr])
    exact ⟨f, by omega, fun i hi => ⟨(hf i hi).2, a, rfl, (hf i hi).1 0 (by omega), (hf i hi).1 1 (by omega), (hf i hi).1 2 (by omega), (hf i hi).1 3 (by omega), (hf i hi).1 4 (by omega), (hf i hi).1 5 (by omega)⟩⟩
end
end Go.Proofs.Ytabahmcbhapbiaa
namespace Go.Proofs.Ytabahmcbhapbiaa
set_option linter.unusedVariables false
/-- Nothing is on its way to a client: all that the server sent has come. -/
theorem all_came {first : List UInt8} {m : Moo} (hI : Inv first m) {c : Nat} (hc : c < m.n) (hd : (m.cl c).dn = []) : (m.cl c).hc = m.hist.length := by
  have h := hI.cl c hc
  obtain ⟨_, _, h3, h4, _⟩ := link_len h.link
  have h5 := h.tkto
  rw [hd] at h4
  simp [prs] at h4
  omega
/-- What one types to whom all has come, and of whom nothing is on its way, is not turned. -/
theorem alone_up {first : List UInt8} {m : Moo} (hI : Inv first m) {c : Nat} (hc : c < m.n) (hd : (m.cl c).dn = []) (o : Op4) (s : Nat) (t : List UInt8) : upO (typeC (m.cl c) o t) ⟨o, s, (m.cl c).hc⟩ = o := by
  have h := hI.cl c hc
  have h1 := all_came hI hc hd
  have h2 := h.tkto
  have e : (m.cl c).tq.drop ((m.cl c).hc - (m.cl c).tk) = [] := List.drop_eq_nil_of_le (by omega)
  show (cross o ((m.cl c).tq.drop ((m.cl c).hc - (m.cl c).tk))).1 = o
  rw [e]
  rfl
end Go.Proofs.Ytabahmcbhapbiaa
namespace Go.Proofs.Ytabahmcbhapbiaa
open Go.RowKit Go.Lib
set_option linter.unusedVariables false
/-- What is no cells lies as it lay. -/
def Nc (W W' : World) : Prop := ∀ (k : Nat) (o : Obj), W.heap[k]? = some o → (∀ c t f, o ≠ .cells c t f) → W'.heap[k]? = some o
theorem Nc.trans {A B C : World} (h : Nc A B) (k : Nc B C) : Nc A C := fun i o e ho => k i o (h i o e ho) ho
theorem nc_below {A B : World} (h : Below A.heap.size A B) : Nc A B := (KeptX.of_below (F := fun _ => False) h).nc
theorem Nc.refl (A : World) : Nc A A := fun _ _ h _ => h
theorem nc_setCell (A : World) (p : Addr) (v : Value) : Nc A (A.setCell p v) := fun _ _ h ho => heap_setCell_nc A p v h ho
/-- Blocks that are none of the moot's are turned. -/
theorem Rm.out {w W W' : World} {P F : Nat → Prop} {rb mb : Nat} {first : List UInt8} {m : Moo} {typed : Nat → Nat} {dels : Nat} (h : Rm w W P rb mb first m typed dels) (hk : KeptX F W W') (hF : ∀ k, F k → P k ∧ k ≠ rb) : Rm w W' P rb mb first m typed dels := by
  obtain ⟨⟨L, own, e1, e2, e3⟩, ra, pr, ge, bel⟩ := h
  refine ⟨⟨L, own, e1.keep hk (fun k e f => e (e2 k (hF k f).1)), e2, e3⟩, ra.keep hk (fun f => (hF rb f).2 rfl), pr, fun k e => ⟨(ge k e).1, Nat.lt_of_lt_of_le (ge k e).2 hk.size⟩, ⟨hk.os.trans bel.os, hk.tape.trans bel.tape, hk.output.trans bel.output, Nat.le_trans bel.size hk.size, fun k hl => (hk.block k (Nat.lt_of_lt_of_le hl bel.size) (fun f => by have := (ge k (hF k f).1).1; omega)).trans (bel.block k hl)⟩⟩
/-- The marks that ranges over a function leave. -/
def marks (Ds : List Nat) : List Deferred := Ds.map fun D => { target := .collected D, args := #[] }
structure MarksAt (b : Nat) (Ds : List Nat) (W : World) : Prop where
  nd : Ds.Nodup
  ge : ∀ D, D ∈ Ds → b ≤ D
  is : ∀ D, D ∈ Ds → W.heap[D]? = some (.deferred (some []))
theorem MarksAt.nc {b : Nat} {Ds : List Nat} {W W' : World} (h : MarksAt b Ds W) (hn : Nc W W') : MarksAt b Ds W' := ⟨h.nd, h.ge, fun D e => hn D _ (h.is D e) (fun _ _ _ x => by cases x)⟩
theorem MarksAt.lt {b : Nat} {Ds : List Nat} {W : World} (h : MarksAt b Ds W) {D : Nat} (e : D ∈ Ds) : D < W.heap.size := (Array.getElem?_eq_some_iff.1 (h.is D e)).1
theorem MarksAt.cons {b : Nat} {Ds : List Nat} {W : World} (h : MarksAt b Ds W) {D : Nat} (hb : b ≤ D) (hn : D ∉ Ds) (hD : W.heap[D]? = some (.deferred (some []))) : MarksAt b (D :: Ds) W :=
  ⟨List.nodup_cons.2 ⟨hn, h.nd⟩, fun x e => by rcases List.mem_cons.1 e with rfl | e; exact hb; exact h.ge x e, fun x e => by rcases List.mem_cons.1 e with rfl | e; exact hD; exact h.is x e⟩
/-- All has come, both ways: nothing is open. -/
theorem al_ho {first : List UInt8} {m : Moo} (hI : Inv first m) {c : Nat} (hc : c < m.n) (hu : (m.cl c).up = []) (hd : (m.cl c).dn = []) : (m.cl c).ho = [] := by
  have h := hI.cl c hc
  obtain ⟨_, h2, _, _, _⟩ := link_len h.link
  have h3 := all_came hI hc hd
  obtain ⟨_, _, h4, _⟩ := h.hok
  rw [h3, List.drop_length] at h4
  rw [hu] at h2
  simp [prs, ownN] at h2 h4
  exact List.length_eq_zero_iff.1 (by omega)
/-- Nothing is on its way. -/
structure Aln (first : List UInt8) (m : Moo) (hs : List Op4) (t : List UInt8) (n : Nat) : Prop where
  inv : Inv first m
  nn : m.n = n
  hist : m.hist = hs
  srv : m.srv = t
  up : ∀ i, i < n → (m.cl i).up = []
  dn : ∀ i, i < n → (m.cl i).dn = []
theorem Aln.text {first : List UInt8} {m : Moo} {hs : List Op4} {t : List UInt8} {n : Nat} (h : Aln first m hs t n) {i : Nat} (hi : i < n) : (m.cl i).text = t := by
  rw [← h.srv]
  exact inv_calm h.inv (by rw [h.nn]; exact hi) (h.up i hi) (h.dn i hi)
/-- One op is on its way up, from c. -/
structure AlnU (first : List UInt8) (m : Moo) (hs : List Op4) (t : List UInt8) (n c : Nat) (o : Op4) : Prop where
  inv : Inv first m
  nn : m.n = n
  hist : m.hist = hs
  ap : app m.srv o = some t
  up : ∃ μ, (m.cl c).up = [μ] ∧ upO (m.cl c) μ = o
  uo : ∀ i, i < n → i ≠ c → (m.cl i).up = []
  dn : ∀ i, i < n → (m.cl i).dn = []
/-- The first k have heard of it. -/
structure AlnD (first : List UInt8) (m : Moo) (hs : List Op4) (t : List UInt8) (n k : Nat) : Prop where
  inv : Inv first m
  nn : m.n = n
  hist : m.hist = hs
  srv : m.srv = t
  up : ∀ i, i < n → (m.cl i).up = []
  d0 : ∀ i, i < k → i < n → (m.cl i).dn = []
  d1 : ∀ i, k ≤ i → i < n → ∃ μ, (m.cl i).dn = [μ]
theorem AlnD.done {first : List UInt8} {m : Moo} {hs : List Op4} {t : List UInt8} {n : Nat} (h : AlnD first m hs t n n) : Aln first m hs t n := ⟨h.inv, h.nn, h.hist, h.srv, h.up, fun i hi => h.d0 i hi hi⟩
theorem AlnD.text {first : List UInt8} {m : Moo} {hs : List Op4} {t : List UInt8} {n k : Nat} (h : AlnD first m hs t n (k + 1)) (hk : k < n) : (m.cl k).text = t := by
  rw [← h.srv]
  exact inv_calm h.inv (by rw [h.nn]; exact hk) (h.up k hk) (h.d0 k (by omega) hk)
/-- A room is opened: its moot is new. -/
theorem opened_new (cl : Int) (hcl : I64 cl) (u : List UInt8) (hu : u.length ≤ 200000000000000) (w : World) :
    Calls Try.prog 18 #[.int .i64 cl, dstr u] w fun e w' => ∃ rb mb f nn ty, e = .returned (.pointer (some ⟨rb, 0, none⟩)) ∧ Hid (Rm w w' (fun x => x = rb) rb mb f (newM nn f) ty 0 ∧ 1 ≤ nn ∧ nn ≤ 4 ∧ f.length ≤ 60) := by
  have l4 := pickN_lt cl (n := 4) (by omega)
  by_cases h : u.length ≤ 60
  · refine (opened_short cl hcl u h w).mono ?_
    rintro e w' ⟨rb, mb, rfl, hr⟩
    exact ⟨rb, mb, u, _, _, rfl, hr, by omega, by omega, h⟩
  · refine (opened_long cl hcl (u.take 60) u (by omega) rfl (by simp; omega) w).mono ?_
    rintro e w' ⟨rb, mb, rfl, hr⟩
    exact ⟨rb, mb, u.take 60, _, _, rfl, hr, by omega, by omega, by simp; omega⟩
theorem aln_new {f : List UInt8} {nn : Nat} (n1 : 1 ≤ nn) (n4 : nn ≤ 4) (hf : f.length ≤ 60) : Aln f (newM nn f) [] f nn := ⟨inv_new n1 n4 hf, rfl, rfl, rfl, fun _ _ => rfl, fun _ _ => rfl⟩
section
variable {w W : World} {P : Nat → Prop} {rb mb : Nat} {first : List UInt8} {m : Moo} {typed : Nat → Nat} {dels : Nat} {hs : List Op4} {t : List UInt8} {n : Nat}
theorem al_type (h : Rm w W P rb mb first m typed dels) (a : Aln first m hs t n) (hq : hs.length ≤ 4398046511000) {c : Nat} (hc : c < n) (o : Op4) (hos : o.s = c) (hm : mayT t.length 0 o = 0) :
    ∃ m1 u, app t o = some u ∧ AlnU first m1 hs u n c o ∧ ∀ Wx, Below W.heap.size W Wx → Calls Try.prog 26 #[.pointer (some ⟨mb, 0, none⟩), .int .i64 (c : Int), .agg #[.int .i64 o.k, .int .i64 o.p, .int .i64 o.b, .int .i64 o.s]] Wx fun e w' => e = .returned (.int .i64 0) ∧ Hid (Rm w w' P rb mb first m1 typed dels ∧ Kp P W w' ∧ Nc W w') := by
  have hc' : c < m.n := by rw [a.nn]; exact hc
  have ho := al_ho a.inv hc' (a.up c hc) (a.dn c hc)
  have htx := a.text hc
  have eo : asOf o c = o := by
    obtain ⟨k, p, b, s⟩ := o
    show (⟨k, p, b, (c : Int)⟩ : Op4) = ⟨k, p, b, s⟩
    rw [show s = (c : Int) from hos]
  have hF : Few2 m := ⟨by rw [a.hist]; exact hq, fun i hi => by rw [a.dn i (by rw [← a.nn]; exact hi)]; decide⟩
  have hm' : mayT (m.cl c).text.length (m.cl c).ho.length o = 0 := by rw [htx, ho]; exact hm
  obtain ⟨L0, own0, hd0, _⟩ := h.next
  obtain ⟨u, hu, hI, _⟩ := devType_inv2 hd0 a.inv hF c hc' o hm'
  rw [eo] at hu hI
  refine ⟨m.set c (typeC (m.cl c) o u), u, by rw [← htx]; exact hu, ⟨hI, a.nn, a.hist, ?_, ⟨⟨o, (m.cl c).hs, (m.cl c).hc⟩, ?_, ?_⟩, fun i hi hn => ?_, fun i hi => ?_⟩, fun Wx hx => ?_⟩
  · show app m.srv o = some u
    rw [a.srv, ← htx]; exact hu
  · rw [dset_at]
    show (m.cl c).up ++ [_] = _
    rw [a.up c hc]; rfl
  · rw [dset_at]
    exact alone_up a.inv hc' (a.dn c hc) o _ u
  · rw [dset_far _ _ hn]; exact a.up i hi
  · by_cases e : i = c
    · subst e; rw [dset_at]; exact a.dn i hi
    · rw [dset_far _ _ e]; exact a.dn i hi
  · obtain ⟨L, own, hd, hn⟩ := h.next
    obtain ⟨u2, hu2, _, hC⟩ := devType_inv2 (hd.below hx) a.inv hF c hc' o hm'
    rw [eo, hu] at hu2
    cases hu2
    refine hC.mono ?_
    rintro e w' ⟨rfl, own', hd', hf'⟩
    rw [eo] at hd'
    exact ⟨rfl, (hn Wx hx w' own' _ hd' hf' rfl).1, (hn Wx hx w' own' _ hd' hf' rfl).2, (nc_below hx).trans hf'.kx.nc⟩
theorem al_up {c : Nat} {o : Op4} (h : Rm w W P rb mb first m typed dels) (a : AlnU first m hs t n c o) (hq : hs.length ≤ 4398046511000) (hc : c < n) :
    ∃ m2, AlnD first m2 (hs ++ [o]) t n 0 ∧ ∀ Wx, Below W.heap.size W Wx → Calls Try.prog 25 #[.pointer (some ⟨mb, 0, none⟩), .int .i64 (c : Int)] Wx fun e w' => e = .returned (.int .i64 0) ∧ Hid (Rm w w' P rb mb first m2 typed dels ∧ Kp P W w' ∧ Nc W w') := by
  have hc' : c < m.n := by rw [a.nn]; exact hc
  obtain ⟨μ, hu, ho⟩ := a.up
  have hF : Few2 m := ⟨by rw [a.hist]; exact hq, fun i hi => by rw [a.dn i (by rw [← a.nn]; exact hi)]; decide⟩
  obtain ⟨L0, own0, hd0, _⟩ := h.next
  obtain ⟨u, hu2, hI, _⟩ := devUp_inv2 hd0 a.inv hF c hc' μ [] hu
  have e1 := a.ap
  rw [ho, e1] at hu2
  cases hu2
  refine ⟨upM m c μ [] t, ⟨hI, a.nn, by show m.hist ++ [_] = _; rw [ho, a.hist], rfl, fun i hi => ?_, fun i hi => by omega, fun i _ hi => ?_⟩, fun Wx hx => ?_⟩
  · by_cases e : i = c
    · subst e; simp [upM, sendS, takeS]
    · simp [upM, e, sendS, a.uo i hi e]
  · by_cases e : i = c
    · subst e
      simp [upM, sendS, takeS, a.dn i hi]
    · simp [upM, e, sendS, a.dn i hi]
  · obtain ⟨L, own, hd, hn⟩ := h.next
    obtain ⟨u3, hu3, _, hC⟩ := devUp_inv2 (hd.below hx) a.inv hF c hc' μ [] hu
    rw [ho, e1] at hu3
    cases hu3
    refine hC.mono ?_
    rintro e w' ⟨rfl, own', hd', hf'⟩
    exact ⟨rfl, (hn Wx hx w' own' _ hd' hf' rfl).1, (hn Wx hx w' own' _ hd' hf' rfl).2, (nc_below hx).trans hf'.kx.nc⟩
theorem al_down {k : Nat} (h : Rm w W P rb mb first m typed dels) (a : AlnD first m hs t n k) (hq : hs.length ≤ 4398046511000) (hk : k < n) :
    ∃ m2, AlnD first m2 hs t n (k + 1) ∧ ∀ Wx, Below W.heap.size W Wx → Calls Try.prog 27 #[.pointer (some ⟨mb, 0, none⟩), .int .i64 (k : Int)] Wx fun e w' => e = .returned (.int .i64 0) ∧ Hid (Rm w w' P rb mb first m2 typed dels ∧ Kp P W w' ∧ Nc W w') := by
  have hk' : k < m.n := by rw [a.nn]; exact hk
  obtain ⟨μ, hd⟩ := a.d1 k (Nat.le_refl _) hk
  have hF : Few2 m := ⟨by rw [a.hist]; exact hq, fun i hi => by
    have hi' : i < n := by rw [← a.nn]; exact hi
    by_cases e : i < k
    · rw [a.d0 i e hi']; decide
    · obtain ⟨ν, hν⟩ := a.d1 i (by omega) hi'
      rw [hν]; simp⟩
  obtain ⟨L0, own0, hd0, _⟩ := h.next
  obtain ⟨u, hu2, hI, _⟩ := devDown_inv2 hd0 a.inv hF k hk' μ [] hd
  refine ⟨m.set k (takeC (m.cl k) μ [] u), ⟨hI, a.nn, a.hist, a.srv, fun i hi => ?_, fun i hi hin => ?_, fun i hi hin => ?_⟩, fun Wx hx => ?_⟩
  · by_cases e : i = k
    · subst e; rw [dset_at]; exact a.up i hi
    · rw [dset_far _ _ e]; exact a.up i hi
  · by_cases e : i = k
    · subst e; rw [dset_at]; rfl
    · rw [dset_far _ _ e]; exact a.d0 i (by omega) hin
  · rw [dset_far _ _ (by omega)]; exact a.d1 i (by omega) hin
  · obtain ⟨L, own, hdm, hn⟩ := h.next
    obtain ⟨u3, hu3, _, hC⟩ := devDown_inv2 (hdm.below hx) a.inv hF k hk' μ [] hd
    rw [hu2] at hu3
    cases hu3
    refine hC.mono ?_
    rintro e w' ⟨rfl, own', hd', hf'⟩
    exact ⟨rfl, (hn Wx hx w' own' _ hd' hf' rfl).1, (hn Wx hx w' own' _ hd' hf' rfl).2, (nc_below hx).trans hf'.kx.nc⟩
/-- A room, an op in a block of its own, and marks. -/
structure AlW (w W : World) (rb mb ob : Nat) (first : List UInt8) (m : Moo) (typed : Nat → Nat) (o : Op4) (Ds : List Nat) : Prop where
  rm : Rm w W (fun x => x = rb ∨ x = ob) rb mb first m typed 0
  op : Op4At W ob 0 o
  ms : MarksAt w.heap.size Ds W
variable {ob : Nat} {o : Op4} {Ds : List Nat}
theorem AlW.facts (h : AlW w W rb mb ob first m typed o Ds) : W.cell? ⟨rb, 0, none⟩ = some (.pointer (some ⟨mb, 0, none⟩)) ∧ rb < W.heap.size ∧ W.cell? ⟨ob, 0, none⟩ = some (.int .i64 o.k) ∧ W.cell? ⟨ob, 1, none⟩ = some (.int .i64 o.p) ∧ W.cell? ⟨ob, 2, none⟩ = some (.int .i64 o.b) ∧ W.cell? ⟨ob, 3, none⟩ = some (.int .i64 o.s) := by
  obtain ⟨x0, x1, x2, x3⟩ := h.op
  exact ⟨h.rm.ra.c0, h.rm.ra.lt, x0, x1, x2, x3⟩
theorem AlW.next {m' : Moo} {w' : World} (h : AlW w W rb mb ob first m typed o Ds) (hn : Rm w w' (fun x => x = rb ∨ x = ob) rb mb first m' typed 0 ∧ Kp (fun x => x = rb ∨ x = ob) W w' ∧ Nc W w') : AlW w w' rb mb ob first m' typed o Ds := by
  obtain ⟨h1, h2, h3⟩ := hn
  obtain ⟨x0, x1, x2, x3⟩ := h.op
  exact ⟨h1, ⟨(h2 ob (Or.inr rfl) _).1.trans x0, (h2 ob (Or.inr rfl) _).1.trans x1, (h2 ob (Or.inr rfl) _).1.trans x2, (h2 ob (Or.inr rfl) _).1.trans x3⟩, h.ms.nc h3⟩
theorem AlW.below {w' : World} (h : AlW w W rb mb ob first m typed o Ds) (hb : Below W.heap.size W w') : AlW w w' rb mb ob first m typed o Ds := h.next ⟨h.rm.below hb, h.rm.kb hb, nc_below hb⟩
theorem alw_type (h : AlW w W rb mb ob first m typed o Ds) (a : Aln first m hs t n) (hq : hs.length ≤ 4398046511000) {c : Nat} (hc : c < n) (hos : o.s = c) (hm : mayT t.length 0 o = 0) :
    ∃ m1 u, app t o = some u ∧ AlnU first m1 hs u n c o ∧ ∀ Wx, Below W.heap.size W Wx → Calls Try.prog 26 #[.pointer (some ⟨mb, 0, none⟩), .int .i64 (c : Int), .agg #[.int .i64 o.k, .int .i64 o.p, .int .i64 o.b, .int .i64 o.s]] Wx fun e w' => e = .returned (.int .i64 0) ∧ Hid (AlW w w' rb mb ob first m1 typed o Ds) := by
  obtain ⟨m1, u, h1, h2, h3⟩ := al_type h.rm a hq hc o hos hm
  refine ⟨m1, u, h1, h2, fun Wx hx => (h3 Wx hx).mono ?_⟩
  rintro e w' ⟨rfl, hr⟩
  exact ⟨rfl, h.next hr⟩
theorem alw_up {c : Nat} (h : AlW w W rb mb ob first m typed o Ds) (a : AlnU first m hs t n c o) (hq : hs.length ≤ 4398046511000) (hc : c < n) :
    ∃ m2, AlnD first m2 (hs ++ [o]) t n 0 ∧ ∀ Wx, Below W.heap.size W Wx → Calls Try.prog 25 #[.pointer (some ⟨mb, 0, none⟩), .int .i64 (c : Int)] Wx fun e w' => e = .returned (.int .i64 0) ∧ Hid (AlW w w' rb mb ob first m2 typed o Ds) := by
  obtain ⟨m1, h2, h3⟩ := al_up h.rm a hq hc
  refine ⟨m1, h2, fun Wx hx => (h3 Wx hx).mono ?_⟩
  rintro e w' ⟨rfl, hr⟩
  exact ⟨rfl, h.next hr⟩
theorem alw_down {k : Nat} (h : AlW w W rb mb ob first m typed o Ds) (a : AlnD first m hs t n k) (hq : hs.length ≤ 4398046511000) (hk : k < n) :
    ∃ m2, AlnD first m2 hs t n (k + 1) ∧ ∀ Wx, Below W.heap.size W Wx → Calls Try.prog 27 #[.pointer (some ⟨mb, 0, none⟩), .int .i64 (k : Int)] Wx fun e w' => e = .returned (.int .i64 0) ∧ Hid (AlW w w' rb mb ob first m2 typed o Ds) := by
  obtain ⟨m1, h2, h3⟩ := al_down h.rm a hq hk
  refine ⟨m1, h2, fun Wx hx => (h3 Wx hx).mono ?_⟩
  rintro e w' ⟨rfl, hr⟩
  exact ⟨rfl, h.next hr⟩
end
end Go.Proofs.Ytabahmcbhapbiaa
