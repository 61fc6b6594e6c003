import Derived.Test.YtabahmcbhapbiaaInsert
namespace Go.Proofs.Ytabahmcbhapbiaa
open Go.RowKit Go.Lib
set_option linter.unusedVariables false

set_option maxHeartbeats 2000000 in
set_option maxRecDepth 100000 in
/-- Ahead of the end, without room: a new row. -/
theorem ins_mid_grow (b c vb i : Nat) (l : List UInt8) (x : UInt8) (w : World) (hi : i < l.length) (hcap : l.length ≤ c) (hroom : c < l.length + 1) (hbig : l.length + 1 ≤ 140737488355328)
    (hrow : rowAt w b l) (hv : w.cell? ⟨vb, 0, none⟩ = some (byt x)) :
    Calls Try.prog 65 #[.slice (some ⟨b, 0, none⟩) l.length c, .int .i64 (i : Int), .slice (some ⟨vb, 0, none⟩) 1 1] w fun e w' =>
      ∃ (cap : Nat) (R : Array Value), l.length + 1 ≤ R.size ∧ (∀ j, j < i → R[j]? = (l.map byt)[j]?) ∧ e = .returned (.slice (some ⟨w.heap.size, 0, none⟩) (l.length + 1) cap) ∧
        w' = (((w.alloc (.cells R 5)).drew.setCells w.heap.size i [byt x]).drew).setCells w.heap.size (i + 1) ((l.map byt).drop i) := by
  obtain ⟨i0, hi0, hz0, hzs, hzb⟩ := info_parts info5
  have hbw : b < w.heap.size := block_lt_of_cell (hrow 0 _ (List.getElem?_eq_getElem (by simp; omega)))
  have hvw : vb < w.heap.size := block_lt_of_cell hv
  have hik : i + (l.length + 1 - i) = l.length + 1 := by omega
  have hkk : (l.length : Int) + 1 - (i : Int) = ((l.length + 1 - i : Nat) : Int) := by omega
  have hold : (Builtin.firstCells i0.size i (.slice (some ⟨b, 0, none⟩) i c)).run Try.prog w.drew = .ok ((l.map byt).take i).toArray w.drew := by
    rw [hzs]
    exact run_firstCells_some w.drew 1 i ⟨b, 0, none⟩ i c ((l.map byt).take i) (by simp; omega) (fun j v hj => by
      rw [Addr.add_lit, Nat.zero_add]
      rw [List.getElem?_take] at hj
      split at hj
      · exact hrow j v hj
      · cases hj)
  have hrz : ∀ ty, (Builtin.append_ #[119, 3] ty #[.slice (some ⟨b, 0, none⟩) i c, .int .i64 ((l.length : Int) + 1 - (i : Int))]).run Try.prog w =
      .ok (.slice (some ⟨w.heap.size, 0, none⟩) (l.length + 1) (grownCap w (l.length + 1) c 5)) (w.drew.alloc (.cells (((l.map byt).take i).toArray ++ Builtin.zeroCells (Value.int .u8 0).cells (l.length + 1 - i) ++ Builtin.zeroCells (Value.int .u8 0).cells (grownCap w (l.length + 1) c 5 - (l.length + 1))) 5)) := fun ty => by
    have h := Lib.run_append_grow_zeros w 119 3 ty 5 i0 _ .i64 .i64 Try.underlying119 Try.underlying3 hi0 hz0 (some ⟨b, 0, none⟩) i c ((l.map byt).take i) hold (l.length + 1 - i) (by omega) (by omega) (by omega) (by omega) (by rw [hzb]; omega) (by rw [hzb, hik]; exact growslice_fits hroom (by omega))
    rw [hik] at h
    rw [hkk]
    exact h
  have hGn : l.length + 1 ≤ grownCap w (l.length + 1) c 5 := grownCap_ge w _ _ _
  have hG63 : grownCap w (l.length + 1) c 5 ≤ 9223372036854775807 := by
    have := grownCap_le_maxLen w (l.length + 1) c 5 (by unfold maxLen; omega)
    unfold maxLen at this
    omega
  generalize grownCap w (l.length + 1) c 5 = G at *
  obtain ⟨R, hR⟩ : ∃ R : Array Value, R = ((l.map byt).take i).toArray ++ Builtin.zeroCells (Value.int .u8 0).cells (l.length + 1 - i) ++ Builtin.zeroCells (Value.int .u8 0).cells (G - (l.length + 1)) := ⟨_, rfl⟩
  rw [← hR] at hrz
  have hRl : l.length + 1 ≤ R.size := by
    rw [hR]
    simp [Builtin.zeroCells, Value.cells]
    omega
  have hRj : ∀ j, j < i → R[j]? = (l.map byt)[j]? := fun j hj => by
    rw [hR, Array.append_assoc, Array.getElem?_append_left (by simp; omega)]
    simp [hj]
  have hN : ∀ j, j < l.length + 1 → ((w.alloc (.cells R 5)).cell? ⟨w.heap.size, j, none⟩).isSome = true := fun j hj => by
    rw [World.cell?_alloc_at (w := w) R _ w.heap.size j rfl, Array.getElem?_eq_getElem (by omega)]; rfl
  have hNf : ∀ j, (w.alloc (.cells R 5)).frozen? ⟨w.heap.size, j, none⟩ = false := fun j => World.frozen?_alloc_at (w := w) R _ w.heap.size j rfl
  have hOb : ∀ j v, w.cell? ⟨b, j, none⟩ = some v → (w.alloc (.cells R 5)).cell? ⟨b, j, none⟩ = some v := fun j v h => by rw [World.cell?_alloc_past (w := w) _ b j hbw]; exact h
  have hOv : (w.alloc (.cells R 5)).cell? ⟨vb, 0, none⟩ = some (byt x) := by rw [World.cell?_alloc_past (w := w) _ vb 0 hvw]; exact hv
  obtain ⟨W1, hW1⟩ : ∃ W1, W1 = w.alloc (.cells R 5) := ⟨_, rfl⟩
  rw [← hW1] at hN hNf hOb hOv
  have hcpA : ∀ (W : World), (∀ a, W.cell? a = W1.cell? a) → (∀ a, W.frozen? a = W1.frozen? a) → ∀ ty dc, (Builtin.copy_ #[119, 119] ty #[.slice (some ⟨w.heap.size, i, none⟩) (l.length + 1 - i) dc, .slice (some ⟨vb, 0, none⟩) 1 1]).run Try.prog W = .ok (goInt [byt x].length) (W.setCells w.heap.size i [byt x]) := fun W hWc hWf ty dc =>
    run_copy_cells W _ _ ty 5 w.heap.size i (l.length + 1 - i) dc ⟨vb, 0, none⟩ 1 1 [byt x] Try.underlying119 info5s (by simp only [Nat.min_def, List.length_singleton]; split <;> omega)
      (fun j v hj => by
        rcases j with _ | j
        · simp at hj; subst hj
          rw [Addr.add_lit, hWc]; exact hOv
        · simp at hj)
      (fun j hj => by rw [hWc]; exact hN _ (by simp at hj; omega)) (fun j hj => by rw [hWf]; exact hNf _) (fun v hv => by simp at hv; subst hv; rfl)
  have hbN : b ≠ w.heap.size := by omega
  have hdl : ((l.map byt).drop i).length = l.length - i := by simp
  have hN2 : ∀ k, k < l.length + 1 → ((W1.setCells w.heap.size i [byt x]).cell? ⟨w.heap.size, k, none⟩).isSome = true := fun k hk =>
    isSome_setCells w.heap.size [byt x] i W1 (fun t ht => hN _ (by simp at ht; omega)) k (hN k hk)
  have hcpB : ∀ (W : World), (∀ a, W.cell? a = (W1.setCells w.heap.size i [byt x]).cell? a) → (∀ a, W.frozen? a = (W1.setCells w.heap.size i [byt x]).frozen? a) → ∀ ty dc sc, (Builtin.copy_ #[119, 119] ty #[.slice (some ⟨w.heap.size, i + 1, none⟩) (l.length - i) dc, .slice (some ⟨b, i, none⟩) (l.length - i) sc]).run Try.prog W = .ok (goInt ((l.map byt).drop i).length) (W.setCells w.heap.size (i + 1) ((l.map byt).drop i)) := fun W hWc hWf ty dc sc =>
    run_copy_cells W _ _ ty 5 w.heap.size (i + 1) (l.length - i) dc ⟨b, i, none⟩ (l.length - i) sc ((l.map byt).drop i) Try.underlying119 info5s (by rw [hdl]; simp only [Nat.min_def]; split <;> omega)
      (fun j v hj => by
        rw [Addr.add_lit, hWc, World.cell?_setCells_out _ _ _ _ _ (fun h _ => absurd h hbN)]
        exact hOb _ v (hrow (i + j) v (by rwa [List.getElem?_drop] at hj)))
      (fun j hj => by rw [hWc]; exact hN2 _ (by omega))
      (fun j hj => by rw [hWf, World.frozen?_setCells]; exact hNf _) (fun v hv => byt_one l v (List.mem_of_mem_drop hv))
  subst hW1
  have hE1 : ∀ a, ((w.alloc (.cells R 5)).drew).cell? a = (w.alloc (.cells R 5)).cell? a := fun a => rfl
  have hE2 : ∀ a, ((w.alloc (.cells R 5)).drew).frozen? a = (w.alloc (.cells R 5)).frozen? a := fun a => rfl
  have hF1 : ∀ a, (((w.alloc (.cells R 5)).drew.setCells w.heap.size i [byt x]).drew).cell? a = ((w.alloc (.cells R 5)).setCells w.heap.size i [byt x]).cell? a := fun a => rfl
  have hF2 : ∀ a, (((w.alloc (.cells R 5)).drew.setCells w.heap.size i [byt x]).drew).frozen? a = ((w.alloc (.cells R 5)).setCells w.heap.size i [byt x]).frozen? a := fun a => rfl
  have hz2 : ¬ ((i : Int) = (l.length : Int)) := by omega
  have hnc : (c : Int) < (l.length : Int) + 1 := by omega
  have hw1 : IntKind.i64.wrap ((i : Int) + 1) = (i : Int) + 1 := by rw [IntKind.wrap_i64]; omega
  have hb1 : (0 : Int) ≤ (i : Int) + 1 := by omega
  have htn : ((i : Int) + 1).toNat = i + 1 := by omega
  have hb2 : ¬ (c = i) := by omega
  have hb4 : ¬ (G = i) := by omega
  have hb6 : ¬ (G = i + 1) := by omega
  have hb5 : (i : Int) ≤ (l.length : Int) := by omega
  have HR1 : Hid (l.length + 1 ≤ R.size) := hRl
  have HR2 : Hid (∀ j, j < i → R[j]? = (l.map byt)[j]?) := hRj
  clear hR hRl hRj hold hkk hik hN hNf hOb hOv hN2 hdl hrow hv hi0 hz0 hzs hzb
  generalize hn : l.length = n at *
  go_enter Try.func65, Try.ntmps65
  go_wp2_with (first | (at_builtin; refine Lib.wpList_append_run _ rfl _ _ _ _ rfl _ _ rfl rfl _ _ (hrz _) ?_) | (at_builtin; refine wpList_copy_runI _ rfl _ _ 119 119 rfl _ _ rfl rfl (hcpA _ hE1 hE2 _ _) ?_))
  go_region_law (refine step_copy_runI rfl _ _ 119 119 rfl (.slice (some ⟨w.heap.size, i + 1, none⟩) (n - i) (G - (i + 1))) (.slice (some ⟨b, i, none⟩) (n - i) (c - i)) (by simp [Act.eval, Act.put]) (by simp [Act.eval, Act.put]) (hcpB _ hF1 hF2 3 (G - (i + 1)) (c - i)) ?_)
  go_wp2
  go_ret
  exact ⟨G, R, HR1.out, HR2.out, rfl, rfl⟩
end Go.Proofs.Ytabahmcbhapbiaa
