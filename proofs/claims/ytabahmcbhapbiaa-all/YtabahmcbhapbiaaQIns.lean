import Derived.Test.YtabahmcbhapbiaaRows
import Derived.Test.YtabahmcbhapbiaaQBase
import Derived.Shelf.Spec.SlicesInsertGrow
import Derived.Deep.RegionLaw
import Derived.Shelf.SlGeneric
import Derived.Shelf.SlicesE.Delete
import Derived.Ground.SlgnProg
import Derived.Lib.OwnBridge
namespace Go.Proofs.Ytabahmcbhapbiaa
open Go.RowKit Go.Lib
set_option linter.unusedVariables false

/-- The cell of a byte. -/
def byt (c : UInt8) : Value := .int .u8 (c.toNat : Int)
theorem byt_one (l : List UInt8) : ∀ v ∈ l.map byt, v.oneCell' = true := by
  intro v hv
  obtain ⟨c, _, rfl⟩ := List.mem_map.1 hv
  rfl
/-- From place 0 on block b holds the bytes l. -/
def rowAt (w : World) (b : Nat) (l : List UInt8) : Prop := ∀ j v, (l.map byt)[j]? = some v → w.cell? ⟨b, j, none⟩ = some v
theorem rowAt.at {w : World} {b : Nat} {l : List UInt8} (h : rowAt w b l) (j : Nat) (hj : j < l.length) : w.cell? ⟨b, j, none⟩ = some (.int .u8 (l[j].toNat : Int)) :=
  h j _ (by simp [hj, byt])
theorem info5 : (Try.prog.info? 5).map (fun i => (i.zero, i.size, i.bytes)) = some (some (.int .u8 0), 1, 1) := by kernel_rfl
theorem info5s : (Try.prog.info? 5).map (·.size) = some 1 := by kernel_rfl

set_option maxHeartbeats 1000000 in
set_option maxRecDepth 100000 in
/-- At the end, with room. -/
theorem ins_end_room (b c vb : Nat) (l : List UInt8) (x : UInt8) (w : World) (hroom : l.length + 1 ≤ c) (hc63 : c ≤ 9223372036854775807)
    (hsp : (w.cell? ⟨b, l.length, none⟩).isSome = true) (hfz : w.frozen? ⟨b, l.length, none⟩ = false) (hv : w.cell? ⟨vb, 0, none⟩ = some (byt x)) :
    Calls Try.prog 65 #[.slice (some ⟨b, 0, none⟩) l.length c, .int .i64 (l.length : Int), .slice (some ⟨vb, 0, none⟩) 1 1] w fun e w' =>
      e = .returned (.slice (some ⟨b, 0, none⟩) (l.length + 1) c) ∧ w' = w.setCells b l.length [byt x] := by
  have hsrc : Src Try.prog 1 119 (.slice (some ⟨vb, 0, none⟩) 1 1) 1 [byt x] w := Src.ofSlice w Try.underlying119 ⟨vb, 0, none⟩ 1 1 [byt x] rfl
    (fun j u hj => by
      rcases j with _ | j
      · simp at hj; subst hj; exact hv
      · simp at hj) (fun u hu => by simp at hu; subst hu; rfl)
  generalize l.length = n at *
  go_enter Try.func65, Try.ntmps65
  go_wp2_with (at_builtin; refine wpList_append_room1 _ rfl _ _ 119 119 rfl 5 _ _ Try.underlying119 info5 b 0 n c rfl _ rfl 1 [byt x] hsrc hroom (by simpa using hsp) (by simpa using hfz) ?_)
  all_goals go_ret
  all_goals exact ⟨rfl, by simp⟩

set_option maxHeartbeats 1000000 in
set_option maxRecDepth 100000 in
/-- At the end, without room: a new row. -/
theorem ins_end_grow (b c vb : Nat) (l : List UInt8) (x : UInt8) (w : World) (hcap : l.length ≤ c) (hroom : c < l.length + 1) (hbig : l.length + 1 ≤ 140737488355328)
    (hrow : rowAt w b l) (hv : w.cell? ⟨vb, 0, none⟩ = some (byt x)) :
    Calls Try.prog 65 #[.slice (some ⟨b, 0, none⟩) l.length c, .int .i64 (l.length : Int), .slice (some ⟨vb, 0, none⟩) 1 1] w fun e w' =>
      ∃ (cap : Nat) (cs : Array Value), e = .returned (.slice (some ⟨w.heap.size, 0, none⟩) (l.length + 1) cap) ∧ w' = w.drew.alloc (.cells ((l.map byt ++ [byt x]).toArray ++ cs) 5) := by
  obtain ⟨i0, hi0, hz0, hzs, hzb⟩ := info_parts info5
  have hsrc : Src Try.prog i0.size 119 (.slice (some ⟨vb, 0, none⟩) 1 1) 1 [byt x] w := by
    rw [hzs]
    exact Src.ofSlice w Try.underlying119 ⟨vb, 0, none⟩ 1 1 [byt x] rfl (fun j u hj => by
      rcases j with _ | j
      · simp at hj; subst hj; exact hv
      · simp at hj) (fun u hu => by simp at hu; subst hu; rfl)
  have hold : (Builtin.firstCells i0.size l.length (.slice (some ⟨b, 0, none⟩) l.length c)).run Try.prog w.drew = .ok (l.map byt).toArray w.drew := by
    rw [hzs]
    exact run_firstCells_some w.drew 1 l.length ⟨b, 0, none⟩ l.length c (l.map byt) (by simp) (fun j v hj => by
      rw [Addr.add_lit, Nat.zero_add]; exact hrow j v hj)
  have hrun : ∀ ty, (Builtin.append_ #[119, 119] ty #[.slice (some ⟨b, 0, none⟩) l.length c, .slice (some ⟨vb, 0, none⟩) 1 1]).run Try.prog w = _ := fun ty =>
    run_append_grow_src w 119 119 ty 5 i0 _ Try.underlying119 hi0 hz0 (some ⟨b, 0, none⟩) l.length c (l.map byt) hold _ 1 [byt x] hsrc hroom (by omega) (by rw [hzb]; exact growslice_fits hroom (by omega))
  clear hold hsrc hrow hv hi0 hz0 hzs hzb
  generalize hcs : Builtin.zeroCells (Value.int .u8 0).cells (grownCap w (l.length + 1) c 5 - (l.length + 1)) = cs at hrun
  clear hcs
  generalize grownCap w (l.length + 1) c 5 = G at hrun
  generalize hL : l.map byt ++ [byt x] = L at *
  clear hL
  generalize l.length = n at *
  go_enter Try.func65, Try.ntmps65
  go_wp2_with (at_builtin; refine Lib.wpList_append_run _ rfl _ _ _ _ rfl _ _ rfl rfl _ _ (hrun _) ?_)
  all_goals go_ret
  all_goals exact ⟨G, cs, rfl, rfl⟩
end Go.Proofs.Ytabahmcbhapbiaa

namespace Go.Proofs.Ytabahmcbhapbiaa
open Go.RowKit Go.Lib
set_option linter.unusedVariables false

set_option maxHeartbeats 2000000 in
set_option maxRecDepth 100000 in
/-- Ahead of the end, with room: in place. -/
theorem ins_mid_room (b c vb i : Nat) (l : List UInt8) (x : UInt8) (w : World) (hi : i < l.length) (hroom : l.length + 1 ≤ c) (hc63 : c ≤ 9223372036854775807) (hvb : vb ≠ b)
    (hrow : rowAt w b l) (hsp : ∀ j, j < l.length + 1 → (w.cell? ⟨b, j, none⟩).isSome = true) (hfz : ∀ j, j < l.length + 1 → w.frozen? ⟨b, j, none⟩ = false) (hv : w.cell? ⟨vb, 0, none⟩ = some (byt x))
    (tA tB : TypeId) (kB : Nat) (hsa : w.shape? vb = some (tA, 1)) (hsb : w.shape? b = some (tB, kB)) (hkB : kB ≠ 0) (hfa : w.frozen? ⟨vb, 0, none⟩ = false) (hfe : w.frozen? ⟨vb, 1, none⟩ = false) :
    Calls Try.prog 65 #[.slice (some ⟨b, 0, none⟩) l.length c, .int .i64 (i : Int), .slice (some ⟨vb, 0, none⟩) 1 1] w fun e w' =>
      e = .returned (.slice (some ⟨b, 0, none⟩) (l.length + 1) c) ∧ w' = (w.drew.setCells b (i + 1) ((l.map byt).drop i)).setCells b i [byt x] := by
  have hov : ∀ lb cb, (callFunc 91 #[.slice (some ⟨vb, 0, none⟩) 1 1, .slice (some ⟨b, i + 1, none⟩) lb cb]).run Try.prog w = .ok (.value (.bool false)) w := fun lb cb => by
    rw [run_callFunc_extern Try.func91 (by kernel_rfl) (by kernel_rfl) (by kernel_rfl) (e := Extern.SlicesOverlaps.overlaps #[119, 119] #[4]) (by kernel_rfl),
      Lib.run_overlaps_apart w 119 4 5 Try.underlying119 1 Try.sizeOf5 ⟨vb, 0, none⟩ ⟨b, i + 1, none⟩ 1 1 lb cb hvb tA tB 1 kB hsa hsb hkB hfa hfe]
    rfl
  have hdl : ((l.map byt).drop i).length = l.length - i := by simp
  have hcp1 : ∀ ty dc sc, (Builtin.copy_ #[119, 119] ty #[.slice (some ⟨b, i + 1, none⟩) (l.length - i) dc, .slice (some ⟨b, i, none⟩) (l.length + 1 - i) sc]).run Try.prog w.drew = .ok (goInt ((l.map byt).drop i).length) (w.drew.setCells b (i + 1) ((l.map byt).drop i)) := fun ty dc sc =>
    run_copy_cells w.drew _ _ ty 5 b (i + 1) (l.length - i) dc ⟨b, i, none⟩ (l.length + 1 - i) sc ((l.map byt).drop i) Try.underlying119 info5s (by rw [hdl]; simp only [Nat.min_def]; split <;> omega)
      (fun j v hj => by rw [Addr.add_lit]; exact hrow (i + j) v (by rwa [List.getElem?_drop] at hj))
      (fun j hj => hsp _ (by omega)) (fun j hj => hfz _ (by omega)) (fun v hv => byt_one l v (List.mem_of_mem_drop hv))
  obtain ⟨W1, hW1⟩ : ∃ W1, W1 = w.drew.setCells b (i + 1) ((l.map byt).drop i) := ⟨_, rfl⟩
  have hsp1 : ∀ k, k < l.length + 1 → (W1.cell? ⟨b, k, none⟩).isSome = true := fun k hk => by
    rw [hW1]
    exact isSome_setCells b ((l.map byt).drop i) (i + 1) w.drew (fun t ht => hsp _ (by omega)) k (hsp k hk)
  have hcp2 : ∀ (W : World), (∀ a, W.cell? a = W1.cell? a) → (∀ a, W.frozen? a = W1.frozen? a) → ∀ ty dc, (Builtin.copy_ #[119, 119] ty #[.slice (some ⟨b, i, none⟩) (l.length + 1 - i) dc, .slice (some ⟨vb, 0, none⟩) 1 1]).run Try.prog W = .ok (goInt [byt x].length) (W.setCells b i [byt x]) := fun W hWc hWf ty dc =>
    run_copy_cells W _ _ ty 5 b i (l.length + 1 - i) dc ⟨vb, 0, none⟩ 1 1 [byt x] Try.underlying119 info5s (by simp only [Nat.min_def, List.length_singleton]; split <;> omega)
      (fun j v hj => by
        rcases j with _ | j
        · simp at hj; subst hj
          rw [Addr.add_lit, hWc, hW1, World.cell?_setCells_out b _ _ _ _ (fun h _ => absurd h hvb)]
          exact hv
        · simp at hj)
      (fun j hj => by
        rw [hWc]
        exact hsp1 _ (by simp at hj; omega))
      (fun j hj => by rw [hWf, hW1, World.frozen?_setCells]; exact hfz _ (by simp at hj; omega)) (fun v hv => by simp at hv; subst hv; rfl)
  rw [← hW1] at hcp1 ⊢
  have hz2 : ¬ ((i : Int) = (l.length : Int)) := by omega
  have hnc : ¬ ((c : Int) < (l.length : Int) + 1) := by omega
  have hw1 : IntKind.i64.wrap ((i : Int) + 1) = (i : Int) + 1 := by rw [IntKind.wrap_i64]; omega
  have hb1 : (0 : Int) ≤ (i : Int) + 1 := by omega
  have hb6 : (i : Int) ≤ (l.length : Int) + 1 := by omega
  have htn : ((i : Int) + 1).toNat = i + 1 := by omega
  have hb2 : ¬ (c = i + 1) := by omega
  have hb4 : ¬ (c = i) := by omega
  have hb5 : (i : Int) ≤ (l.length : Int) := by omega
  generalize l.length = n at *
  clear hrow hsp hfz hv hsa hsb hkB hfa hfe hvb hdl hsp1
  go_enter Try.func65, Try.ntmps65
  go_wp2_with (simp only [hov])
  go_region_law (refine step_copy_runI rfl _ _ 119 119 rfl _ _ (by simp [Act.eval, Act.put]) (by simp [Act.eval, Act.put]) (hcp1 _ _ _) ?_)
  go_wp2_with (at_builtin; refine wpList_copy_runI _ rfl _ _ 119 119 rfl _ _ rfl rfl (hcp2 _ (fun _ => rfl) (fun _ => rfl) _ _) ?_)
  go_ret
  first | exact ⟨rfl, rfl⟩ | exact ⟨rfl, by rw [hW1]⟩
end Go.Proofs.Ytabahmcbhapbiaa

namespace Go.Proofs.Ytabahmcbhapbiaa
open Go.RowKit Go.Lib
set_option linter.unusedVariables false

set_option maxHeartbeats 2000000 in
set_option maxRecDepth 100000 in
/-- Ahead of the end, without room: a new row. -/
theorem ins_mid_grow (b c vb i : Nat) (l : List UInt8) (x : UInt8) (w : World) (hi : i < l.length) (hcap : l.length ≤ c) (hroom : c < l.length + 1) (hbig : l.length + 1 ≤ 140737488355328)
    (hrow : rowAt w b l) (hv : w.cell? ⟨vb, 0, none⟩ = some (byt x)) :
    Calls Try.prog 65 #[.slice (some ⟨b, 0, none⟩) l.length c, .int .i64 (i : Int), .slice (some ⟨vb, 0, none⟩) 1 1] w fun e w' =>
      ∃ (cap : Nat) (R : Array Value), l.length + 1 ≤ R.size ∧ (∀ j, j < i → R[j]? = (l.map byt)[j]?) ∧ e = .returned (.slice (some ⟨w.heap.size, 0, none⟩) (l.length + 1) cap) ∧
        w' = (((w.alloc (.cells R 5)).drew.setCells w.heap.size i [byt x]).drew).setCells w.heap.size (i + 1) ((l.map byt).drop i) := by
  obtain ⟨i0, hi0, hz0, hzs, hzb⟩ := info_parts info5
  have hbw : b < w.heap.size := block_lt_of_cell (hrow 0 _ (List.getElem?_eq_getElem (by simp; omega)))
  have hvw : vb < w.heap.size := block_lt_of_cell hv
  have hik : i + (l.length + 1 - i) = l.length + 1 := by omega
  have hkk : (l.length : Int) + 1 - (i : Int) = ((l.length + 1 - i : Nat) : Int) := by omega
  have hold : (Builtin.firstCells i0.size i (.slice (some ⟨b, 0, none⟩) i c)).run Try.prog w.drew = .ok ((l.map byt).take i).toArray w.drew := by
    rw [hzs]
    exact run_firstCells_some w.drew 1 i ⟨b, 0, none⟩ i c ((l.map byt).take i) (by simp; omega) (fun j v hj => by
      rw [Addr.add_lit, Nat.zero_add]
      rw [List.getElem?_take] at hj
      split at hj
      · exact hrow j v hj
      · cases hj)
  have hrz : ∀ ty, (Builtin.append_ #[119, 3] ty #[.slice (some ⟨b, 0, none⟩) i c, .int .i64 ((l.length : Int) + 1 - (i : Int))]).run Try.prog w =
      .ok (.slice (some ⟨w.heap.size, 0, none⟩) (l.length + 1) (grownCap w (l.length + 1) c 5)) (w.drew.alloc (.cells (((l.map byt).take i).toArray ++ Builtin.zeroCells (Value.int .u8 0).cells (l.length + 1 - i) ++ Builtin.zeroCells (Value.int .u8 0).cells (grownCap w (l.length + 1) c 5 - (l.length + 1))) 5)) := fun ty => by
    have h := Lib.run_append_grow_zeros w 119 3 ty 5 i0 _ .i64 .i64 Try.underlying119 Try.underlying3 hi0 hz0 (some ⟨b, 0, none⟩) i c ((l.map byt).take i) hold (l.length + 1 - i) (by omega) (by omega) (by omega) (by omega) (by rw [hzb]; omega) (by rw [hzb, hik]; exact growslice_fits hroom (by omega))
    rw [hik] at h
    rw [hkk]
    exact h
  have hGn : l.length + 1 ≤ grownCap w (l.length + 1) c 5 := grownCap_ge w _ _ _
  have hG63 : grownCap w (l.length + 1) c 5 ≤ 9223372036854775807 := by
    have := grownCap_le_maxLen w (l.length + 1) c 5 (by unfold maxLen; omega)
    unfold maxLen at this
    omega
  generalize grownCap w (l.length + 1) c 5 = G at *
  obtain ⟨R, hR⟩ : ∃ R : Array Value, R = ((l.map byt).take i).toArray ++ Builtin.zeroCells (Value.int .u8 0).cells (l.length + 1 - i) ++ Builtin.zeroCells (Value.int .u8 0).cells (G - (l.length + 1)) := ⟨_, rfl⟩
  rw [← hR] at hrz
  have hRl : l.length + 1 ≤ R.size := by
    rw [hR]
    simp [Builtin.zeroCells, Value.cells]
    omega
  have hRj : ∀ j, j < i → R[j]? = (l.map byt)[j]? := fun j hj => by
    rw [hR, Array.append_assoc, Array.getElem?_append_left (by simp; omega)]
    simp [hj]
  have hN : ∀ j, j < l.length + 1 → ((w.alloc (.cells R 5)).cell? ⟨w.heap.size, j, none⟩).isSome = true := fun j hj => by
    rw [World.cell?_alloc_at (w := w) R _ w.heap.size j rfl, Array.getElem?_eq_getElem (by omega)]; rfl
  have hNf : ∀ j, (w.alloc (.cells R 5)).frozen? ⟨w.heap.size, j, none⟩ = false := fun j => World.frozen?_alloc_at (w := w) R _ w.heap.size j rfl
  have hOb : ∀ j v, w.cell? ⟨b, j, none⟩ = some v → (w.alloc (.cells R 5)).cell? ⟨b, j, none⟩ = some v := fun j v h => by rw [World.cell?_alloc_past (w := w) _ b j hbw]; exact h
  have hOv : (w.alloc (.cells R 5)).cell? ⟨vb, 0, none⟩ = some (byt x) := by rw [World.cell?_alloc_past (w := w) _ vb 0 hvw]; exact hv
  obtain ⟨W1, hW1⟩ : ∃ W1, W1 = w.alloc (.cells R 5) := ⟨_, rfl⟩
  rw [← hW1] at hN hNf hOb hOv
  have hcpA : ∀ (W : World), (∀ a, W.cell? a = W1.cell? a) → (∀ a, W.frozen? a = W1.frozen? a) → ∀ ty dc, (Builtin.copy_ #[119, 119] ty #[.slice (some ⟨w.heap.size, i, none⟩) (l.length + 1 - i) dc, .slice (some ⟨vb, 0, none⟩) 1 1]).run Try.prog W = .ok (goInt [byt x].length) (W.setCells w.heap.size i [byt x]) := fun W hWc hWf ty dc =>
    run_copy_cells W _ _ ty 5 w.heap.size i (l.length + 1 - i) dc ⟨vb, 0, none⟩ 1 1 [byt x] Try.underlying119 info5s (by simp only [Nat.min_def, List.length_singleton]; split <;> omega)
      (fun j v hj => by
        rcases j with _ | j
        · simp at hj; subst hj
          rw [Addr.add_lit, hWc]; exact hOv
        · simp at hj)
      (fun j hj => by rw [hWc]; exact hN _ (by simp at hj; omega)) (fun j hj => by rw [hWf]; exact hNf _) (fun v hv => by simp at hv; subst hv; rfl)
  have hbN : b ≠ w.heap.size := by omega
  have hdl : ((l.map byt).drop i).length = l.length - i := by simp
  have hN2 : ∀ k, k < l.length + 1 → ((W1.setCells w.heap.size i [byt x]).cell? ⟨w.heap.size, k, none⟩).isSome = true := fun k hk =>
    isSome_setCells w.heap.size [byt x] i W1 (fun t ht => hN _ (by simp at ht; omega)) k (hN k hk)
  have hcpB : ∀ (W : World), (∀ a, W.cell? a = (W1.setCells w.heap.size i [byt x]).cell? a) → (∀ a, W.frozen? a = (W1.setCells w.heap.size i [byt x]).frozen? a) → ∀ ty dc sc, (Builtin.copy_ #[119, 119] ty #[.slice (some ⟨w.heap.size, i + 1, none⟩) (l.length - i) dc, .slice (some ⟨b, i, none⟩) (l.length - i) sc]).run Try.prog W = .ok (goInt ((l.map byt).drop i).length) (W.setCells w.heap.size (i + 1) ((l.map byt).drop i)) := fun W hWc hWf ty dc sc =>
    run_copy_cells W _ _ ty 5 w.heap.size (i + 1) (l.length - i) dc ⟨b, i, none⟩ (l.length - i) sc ((l.map byt).drop i) Try.underlying119 info5s (by rw [hdl]; simp only [Nat.min_def]; split <;> omega)
      (fun j v hj => by
        rw [Addr.add_lit, hWc, World.cell?_setCells_out _ _ _ _ _ (fun h _ => absurd h hbN)]
        exact hOb _ v (hrow (i + j) v (by rwa [List.getElem?_drop] at hj)))
      (fun j hj => by rw [hWc]; exact hN2 _ (by omega))
      (fun j hj => by rw [hWf, World.frozen?_setCells]; exact hNf _) (fun v hv => byt_one l v (List.mem_of_mem_drop hv))
  subst hW1
  have hE1 : ∀ a, ((w.alloc (.cells R 5)).drew).cell? a = (w.alloc (.cells R 5)).cell? a := fun a => rfl
  have hE2 : ∀ a, ((w.alloc (.cells R 5)).drew).frozen? a = (w.alloc (.cells R 5)).frozen? a := fun a => rfl
  have hF1 : ∀ a, (((w.alloc (.cells R 5)).drew.setCells w.heap.size i [byt x]).drew).cell? a = ((w.alloc (.cells R 5)).setCells w.heap.size i [byt x]).cell? a := fun a => rfl
  have hF2 : ∀ a, (((w.alloc (.cells R 5)).drew.setCells w.heap.size i [byt x]).drew).frozen? a = ((w.alloc (.cells R 5)).setCells w.heap.size i [byt x]).frozen? a := fun a => rfl
  have hz2 : ¬ ((i : Int) = (l.length : Int)) := by omega
  have hnc : (c : Int) < (l.length : Int) + 1 := by omega
  have hw1 : IntKind.i64.wrap ((i : Int) + 1) = (i : Int) + 1 := by rw [IntKind.wrap_i64]; omega
  have hb1 : (0 : Int) ≤ (i : Int) + 1 := by omega
  have htn : ((i : Int) + 1).toNat = i + 1 := by omega
  have hb2 : ¬ (c = i) := by omega
  have hb4 : ¬ (G = i) := by omega
  have hb6 : ¬ (G = i + 1) := by omega
  have hb5 : (i : Int) ≤ (l.length : Int) := by omega
  have HR1 : Hid (l.length + 1 ≤ R.size) := hRl
  have HR2 : Hid (∀ j, j < i → R[j]? = (l.map byt)[j]?) := hRj
  clear hR hRl hRj hold hkk hik hN hNf hOb hOv hN2 hdl hrow hv hi0 hz0 hzs hzb
  generalize hn : l.length = n at *
  go_enter Try.func65, Try.ntmps65
  go_wp2_with (first | (at_builtin; refine Lib.wpList_append_run _ rfl _ _ _ _ rfl _ _ rfl rfl _ _ (hrz _) ?_) | (at_builtin; refine wpList_copy_runI _ rfl _ _ 119 119 rfl _ _ rfl rfl (hcpA _ hE1 hE2 _ _) ?_))
  go_region_law (refine step_copy_runI rfl _ _ 119 119 rfl (.slice (some ⟨w.heap.size, i + 1, none⟩) (n - i) (G - (i + 1))) (.slice (some ⟨b, i, none⟩) (n - i) (c - i)) (by simp [Act.eval, Act.put]) (by simp [Act.eval, Act.put]) (hcpB _ hF1 hF2 3 (G - (i + 1)) (c - i)) ?_)
  go_wp2
  go_ret
  exact ⟨G, R, HR1.out, HR2.out, rfl, rfl⟩
end Go.Proofs.Ytabahmcbhapbiaa

namespace Go.Proofs.Ytabahmcbhapbiaa
open Go.RowKit Go.Lib
set_option linter.unusedVariables false

theorem bel_setCells {B b : Nat} {a : World} (hb : B ≤ b) : ∀ (vs : List Value) (o : Nat) (w : World), Below B a w → Below B a (w.setCells b o vs)
  | [], _, _, h => h
  | v :: r, o, w, h => bel_setCells hb r (o + 1) _ (h.setCell hb v)

/-- Where the bytes of l lie, with x ahead of place i. -/
theorem rowAt_ins {w : World} {b i : Nat} {l : List UInt8} {x : UInt8} (hi : i ≤ l.length) (h1 : ∀ j, j < i → ∀ v, (l.map byt)[j]? = some v → w.cell? ⟨b, j, none⟩ = some v)
    (h2 : w.cell? ⟨b, i, none⟩ = some (byt x)) (h3 : ∀ j, i ≤ j → ∀ v, (l.map byt)[j]? = some v → w.cell? ⟨b, j + 1, none⟩ = some v) : rowAt w b (l.take i ++ x :: l.drop i) := by
  intro j v hj
  have hlen : (l.take i).length = i := by simp; omega
  rw [List.getElem?_map] at hj
  by_cases hji : j < i
  · refine h1 j hji v ?_
    rw [List.getElem?_append_left (by omega), List.getElem?_take, if_pos hji] at hj
    rw [List.getElem?_map]; exact hj
  by_cases hje : j = i
  · subst hje
    rw [List.getElem?_append_right (by omega), hlen] at hj
    simp at hj
    rw [← hj]; exact h2
  · obtain ⟨k, rfl⟩ : ∃ k, j = k + 1 := ⟨j - 1, by omega⟩
    rw [List.getElem?_append_right (by omega), hlen, show k + 1 - i = (k - i) + 1 by omega, List.getElem?_cons_succ, List.getElem?_drop, show i + (k - i) = k by omega] at hj
    exact h3 k (by omega) v (by rw [List.getElem?_map]; exact hj)

set_option maxHeartbeats 1000000 in
theorem insert_any (b c vb i B : Nat) (l : List UInt8) (x : UInt8) (w : World) (hB : B ≤ b) (hBw : B ≤ w.heap.size) (hi : i ≤ l.length) (hcap : l.length ≤ c) (hc63 : c ≤ 9223372036854775807) (hbig : l.length + 1 ≤ 140737488355328) (hvb : vb ≠ b)
    (hrow : rowAt w b l) (hsp : ∀ j, j < c → (w.cell? ⟨b, j, none⟩).isSome = true) (hfz : ∀ j, j < c → w.frozen? ⟨b, j, none⟩ = false) (hv : w.cell? ⟨vb, 0, none⟩ = some (byt x))
    (tA tB : TypeId) (hsa : w.shape? vb = some (tA, 1)) (hsb : w.shape? b = some (tB, c)) (hfa : w.frozen? ⟨vb, 0, none⟩ = false) (hfe : w.frozen? ⟨vb, 1, none⟩ = false) :
    Calls Try.prog 65 #[.slice (some ⟨b, 0, none⟩) l.length c, .int .i64 (i : Int), .slice (some ⟨vb, 0, none⟩) 1 1] w fun e w' =>
      ∃ nb cap : Nat, e = .returned (.slice (some ⟨nb, 0, none⟩) (l.length + 1) cap) ∧ rowAt w' nb (l.take i ++ x :: l.drop i) ∧ Below B w w' := by
  by_cases hroom : l.length + 1 ≤ c
  · by_cases hie : i = l.length
    · subst hie
      refine (ins_end_room b c vb l x w hroom hc63 (hsp _ (by omega)) (hfz _ (by omega)) hv).mono ?_
      rintro e w' ⟨rfl, rfl⟩
      refine ⟨b, c, rfl, rowAt_ins (Nat.le_refl _) (fun j hj v hv' => ?_) ?_ (fun j hj v hv' => ?_), bel_setCells hB _ _ _ (Below.refl _ _)⟩
      · rw [World.cell?_setCells_out b _ _ _ _ (fun _ _ => Or.inl hj)]; exact hrow j v hv'
      · have := World.cell?_setCells_in b [byt x] l.length w (fun j hj => hsp _ (by simp at hj; omega)) 0 (by simp)
        simpa using this
      · rw [List.getElem?_eq_none (by simpa using hj)] at hv'; cases hv'
    · refine (ins_mid_room b c vb i l x w (by omega) hroom hc63 hvb hrow (fun j hj => hsp _ (by omega)) (fun j hj => hfz _ (by omega)) hv tA tB c hsa hsb (by omega) hfa hfe).mono ?_
      rintro e w' ⟨rfl, rfl⟩
      have hS : ∀ k, k < l.length + 1 → ((w.drew.setCells b (i + 1) ((l.map byt).drop i)).cell? ⟨b, k, none⟩).isSome = true := fun k hk =>
        isSome_setCells b ((l.map byt).drop i) (i + 1) w.drew (fun t ht => hsp _ (by simp at ht; omega)) k (hsp k (by omega))
      refine ⟨b, c, rfl, rowAt_ins hi (fun j hj v hv' => ?_) ?_ (fun j hj v hv' => ?_), bel_setCells hB _ _ _ (bel_setCells hB _ _ _ (Below.refl _ _).drew)⟩
      · rw [World.cell?_setCells_out b _ _ _ _ (fun _ _ => Or.inl hj), World.cell?_setCells_out b _ _ _ _ (fun _ _ => Or.inl (by show j < i + 1; omega))]; exact hrow j v hv'
      · have := World.cell?_setCells_in b [byt x] i (w.drew.setCells b (i + 1) ((l.map byt).drop i)) (fun j hj => hS _ (by simp at hj; omega)) 0 (by simp)
        simpa using this
      · rw [World.cell?_setCells_out b [byt x] i _ ⟨b, j + 1, none⟩ (fun _ _ => Or.inr (by show i + 1 ≤ j + 1; omega))]
        have hjl : j < l.length := by
          have := (List.getElem?_eq_some_iff.1 hv').1
          simpa using this
        have := World.cell?_setCells_in b ((l.map byt).drop i) (i + 1) w.drew (fun t ht => hsp _ (by simp at ht; omega)) (j - i) (by simp; omega)
        rw [show i + 1 + (j - i) = j + 1 by omega] at this
        rw [this]
        rw [List.getElem_drop]
        simp only [show i + (j - i) = j by omega]
        exact (List.getElem?_eq_getElem (by simpa using hjl)).symm.trans hv'
  · by_cases hie : i = l.length
    · subst hie
      refine (ins_end_grow b c vb l x w hcap (by omega) hbig hrow hv).mono ?_
      rintro e w' ⟨cap, cs, rfl, rfl⟩
      refine ⟨w.heap.size, cap, rfl, ?_, ((Below.refl B w).drew.alloc hBw _)⟩
      have e1 : l.take l.length ++ x :: l.drop l.length = l ++ [x] := by simp
      rw [e1]
      intro j v hj
      rw [World.cell?_alloc_at (w := w.drew) _ _ w.heap.size j rfl]
      have hjl : j < (l.map byt ++ [byt x]).length := by
        have := (List.getElem?_eq_some_iff.1 hj).1
        simpa using this
      rw [Array.getElem?_append_left (by simpa using hjl)]
      simpa using hj
    · refine (ins_mid_grow b c vb i l x w (by omega) hcap (by omega) hbig hrow hv).mono ?_
      rintro e w' ⟨cap, R, hR1, hR2, rfl, rfl⟩
      have hN : ∀ j, j < l.length + 1 → ((w.alloc (.cells R 5)).cell? ⟨w.heap.size, j, none⟩).isSome = true := fun j hj => by
        rw [World.cell?_alloc_at (w := w) R _ w.heap.size j rfl, Array.getElem?_eq_getElem (by omega)]; rfl
      refine ⟨w.heap.size, cap, rfl, rowAt_ins hi (fun j hj v hv' => ?_) ?_ (fun j hj v hv' => ?_), bel_setCells hBw _ _ _ (bel_setCells hBw _ _ _ ((Below.refl B w).alloc hBw _).drew).drew⟩
      · rw [World.cell?_setCells_out w.heap.size _ _ _ _ (fun _ _ => Or.inl (by show j < i + 1; omega))]
        show ((w.alloc (.cells R 5)).drew.setCells w.heap.size i [byt x]).cell? ⟨w.heap.size, j, none⟩ = some v
        rw [World.cell?_setCells_out w.heap.size _ _ _ _ (fun _ _ => Or.inl hj)]
        show (w.alloc (.cells R 5)).cell? ⟨w.heap.size, j, none⟩ = some v
        rw [World.cell?_alloc_at (w := w) R _ w.heap.size j rfl, hR2 j hj]; exact hv'
      · rw [World.cell?_setCells_out w.heap.size _ _ _ _ (fun _ _ => Or.inl (by show i < i + 1; omega))]
        have := World.cell?_setCells_in w.heap.size [byt x] i (w.alloc (.cells R 5)).drew (fun j hj => hN _ (by simp at hj; omega)) 0 (by simp)
        simpa using this
      · have hjl : j < l.length := by
          have := (List.getElem?_eq_some_iff.1 hv').1
          simpa using this
        have := World.cell?_setCells_in w.heap.size ((l.map byt).drop i) (i + 1) ((w.alloc (.cells R 5)).drew.setCells w.heap.size i [byt x]).drew (fun t ht => isSome_setCells w.heap.size [byt x] i (w.alloc (.cells R 5)).drew (fun t ht => hN _ (by simp at ht; omega)) _ (hN _ (by simp at ht; omega))) (j - i) (by simp; omega)
        rw [show i + 1 + (j - i) = j + 1 by omega] at this
        rw [this]
        rw [List.getElem_drop]
        simp only [show i + (j - i) = j by omega]
        exact (List.getElem?_eq_getElem (by simpa using hjl)).symm.trans hv'
end Go.Proofs.Ytabahmcbhapbiaa

namespace Go.Proofs.Ytabahmcbhapbiaa
open Go.RowKit Go.Lib Go.Shelf Go.Sort
set_option linter.unusedVariables false

/-- slices.Delete, as the shelf's contract numbers it. -/
def delRen : Ren := ⟨fun | 45 => 66 | n => n, fun | 22 => 119 | 23 => 5 | 3 => 3 | 4 => 4 | 0 => 0 | n => n, fun | n => n⟩
theorem delLays : Go.Proofs.SlLaysE.n45 Try.prog delRen := {
  mixed := by kernel_rfl
  f45 := ⟨Try.f66.name, by decide, Try.func66.trans (congrArg some (by kernel_rfl))⟩
  t0 := Try.underlying0
  a0 := Try.isAgg0
  z0 := Try.sizeOf0
  v0 := Try.zeroValue0
  t3 := Try.underlying3
  a3 := Try.isAgg3
  z3 := Try.sizeOf3
  v3 := Try.zeroValue3
  t4 := Try.underlying4
  a4 := Try.isAgg4
  z4 := Try.sizeOf4
  v4 := Try.zeroValue4
  t22 := Try.underlying119
  a22 := Try.isAgg119
  z22 := Try.sizeOf119
  v22 := Try.zeroValue119
  a23 := Try.isAgg5
  z23 := Try.sizeOf5 }

theorem delete_any (b c i : Nat) (l : Array UInt8) (w : World) (hi : i < l.size) (hcap : l.size ≤ c) (hc63 : c ≤ 9223372036854775807)
    (hrow : rowAt w b l.toList) (hfz : ∀ j, j < c → w.frozen? ⟨b, j, none⟩ = false) :
    Calls Try.prog 66 #[.slice (some ⟨b, 0, none⟩) l.size c, .int .i64 (i : Int), .int .i64 ((i : Int) + 1)] w fun e w' =>
      e = .returned (.slice (some ⟨b, 0, none⟩) (l.size - 1) c) ∧ rowAt w' b (l.toList.take i ++ l.toList.drop (i + 1)) ∧ Below b w w' := by
  have hH : Holds byt w b 0 l := fun j hj => ⟨by
    rw [Nat.zero_add]
    refine hrow j _ ?_
    rw [List.getElem?_map, Array.getElem?_toList, Array.getElem?_eq_getElem hj, getElem!_pos l j hj]
    rfl, by rw [Nat.zero_add]; exact hfz j (by omega)⟩
  obtain ⟨i0, hi0, hz0, hzs, hzb⟩ := info_parts info5
  have h := AnyE.slices_Delete delLays byt (fun _ => rfl) 0 (fun w => Try.zeroValue5 w) i0 hi0 hzs b 0 c i (i + 1) l w hH hcap hc63 (Nat.le_succ i) hi
  change Calls Try.prog 66 _ _ _ at h
  rw [show ((i + 1 : Nat) : Int) = (i : Int) + 1 by omega, show i + 1 - i = 1 by omega] at h
  refine h.mono ?_
  rintro e w' ⟨rfl, q, rfl⟩
  have hsz : (l.toList.take i ++ l.toList.drop (i + 1) ++ List.replicate 1 (0 : UInt8)).toArray.size = l.size := by simp; omega
  have hN := holds_putRow byt (Sort.ahead w q) b 0 l _ (holds_ahead byt w q b 0 l hH) hsz
  refine ⟨rfl, fun j v hj => ?_, below_putRow (Below.refl _ _) (Nat.le_refl _)⟩
  have hjl : j < (l.toList.take i ++ l.toList.drop (i + 1)).length := by
    have := (List.getElem?_eq_some_iff.1 hj).1
    simpa using this
  have hj2 := (hN j (by rw [hsz]; simp at hjl; omega)).1
  rw [Nat.zero_add] at hj2
  rw [hj2, getElem!_pos _ j (by rw [hsz]; simp at hjl; omega)]
  rw [List.getElem?_map, List.getElem?_eq_getElem hjl] at hj
  simp only [Option.map_some, Option.some.injEq] at hj
  rw [← hj]
  rw [List.getElem_toArray, List.getElem_append_left hjl]
end Go.Proofs.Ytabahmcbhapbiaa
