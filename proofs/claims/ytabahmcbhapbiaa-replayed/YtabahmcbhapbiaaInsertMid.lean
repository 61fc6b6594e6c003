import Derived.Test.YtabahmcbhapbiaaInsert
namespace Go.Proofs.Ytabahmcbhapbiaa
open Go.RowKit Go.Lib
set_option linter.unusedVariables false

set_option maxHeartbeats 2000000 in
set_option maxRecDepth 100000 in
/-- Ahead of the end, with room: in place. -/
theorem ins_mid_room (b c vb i : Nat) (l : List UInt8) (x : UInt8) (w : World) (hi : i < l.length) (hroom : l.length + 1 ≤ c) (hc63 : c ≤ 9223372036854775807) (hvb : vb ≠ b)
    (hrow : rowAt w b l) (hsp : ∀ j, j < l.length + 1 → (w.cell? ⟨b, j, none⟩).isSome = true) (hfz : ∀ j, j < l.length + 1 → w.frozen? ⟨b, j, none⟩ = false) (hv : w.cell? ⟨vb, 0, none⟩ = some (byt x))
    (tA tB : TypeId) (kB : Nat) (hsa : w.shape? vb = some (tA, 1)) (hsb : w.shape? b = some (tB, kB)) (hkB : kB ≠ 0) (hfa : w.frozen? ⟨vb, 0, none⟩ = false) (hfe : w.frozen? ⟨vb, 1, none⟩ = false) :
    Calls Try.prog 65 #[.slice (some ⟨b, 0, none⟩) l.length c, .int .i64 (i : Int), .slice (some ⟨vb, 0, none⟩) 1 1] w fun e w' =>
      e = .returned (.slice (some ⟨b, 0, none⟩) (l.length + 1) c) ∧ w' = (w.drew.setCells b (i + 1) ((l.map byt).drop i)).setCells b i [byt x] := by
  have hov : ∀ lb cb, (callFunc 91 #[.slice (some ⟨vb, 0, none⟩) 1 1, .slice (some ⟨b, i + 1, none⟩) lb cb]).run Try.prog w = .ok (.value (.bool false)) w := fun lb cb => by
    rw [run_callFunc_extern Try.func91 (by kernel_rfl) (by kernel_rfl) (by kernel_rfl) (e := Extern.SlicesOverlaps.overlaps #[119, 119] #[4]) (by kernel_rfl),
      Lib.run_overlaps_apart w 119 4 5 Try.underlying119 1 Try.sizeOf5 ⟨vb, 0, none⟩ ⟨b, i + 1, none⟩ 1 1 lb cb hvb tA tB 1 kB hsa hsb hkB hfa hfe]
    rfl
  have hdl : ((l.map byt).drop i).length = l.length - i := by simp
  have hcp1 : ∀ ty dc sc, (Builtin.copy_ #[119, 119] ty #[.slice (some ⟨b, i + 1, none⟩) (l.length - i) dc, .slice (some ⟨b, i, none⟩) (l.length + 1 - i) sc]).run Try.prog w.drew = .ok (goInt ((l.map byt).drop i).length) (w.drew.setCells b (i + 1) ((l.map byt).drop i)) := fun ty dc sc =>
    run_copy_cells w.drew _ _ ty 5 b (i + 1) (l.length - i) dc ⟨b, i, none⟩ (l.length + 1 - i) sc ((l.map byt).drop i) Try.underlying119 info5s (by rw [hdl]; simp only [Nat.min_def]; split <;> omega)
      (fun j v hj => by rw [Addr.add_lit]; exact hrow (i + j) v (by rwa [List.getElem?_drop] at hj))
      (fun j hj => hsp _ (by omega)) (fun j hj => hfz _ (by omega)) (fun v hv => byt_one l v (List.mem_of_mem_drop hv))
  obtain ⟨W1, hW1⟩ : ∃ W1, W1 = w.drew.setCells b (i + 1) ((l.map byt).drop i) := ⟨_, rfl⟩
  have hsp1 : ∀ k, k < l.length + 1 → (W1.cell? ⟨b, k, none⟩).isSome = true := fun k hk => by
    rw [hW1]
    exact isSome_setCells b ((l.map byt).drop i) (i + 1) w.drew (fun t ht => hsp _ (by omega)) k (hsp k hk)
  have hcp2 : ∀ (W : World), (∀ a, W.cell? a = W1.cell? a) → (∀ a, W.frozen? a = W1.frozen? a) → ∀ ty dc, (Builtin.copy_ #[119, 119] ty #[.slice (some ⟨b, i, none⟩) (l.length + 1 - i) dc, .slice (some ⟨vb, 0, none⟩) 1 1]).run Try.prog W = .ok (goInt [byt x].length) (W.setCells b i [byt x]) := fun W hWc hWf ty dc =>
    run_copy_cells W _ _ ty 5 b i (l.length + 1 - i) dc ⟨vb, 0, none⟩ 1 1 [byt x] Try.underlying119 info5s (by simp only [Nat.min_def, List.length_singleton]; split <;> omega)
      (fun j v hj => by
        rcases j with _ | j
        · simp at hj; subst hj
          rw [Addr.add_lit, hWc, hW1, World.cell?_setCells_out b _ _ _ _ (fun h _ => absurd h hvb)]
          exact hv
        · simp at hj)
      (fun j hj => by
        rw [hWc]
        exact hsp1 _ (by simp at hj; omega))
      (fun j hj => by rw [hWf, hW1, World.frozen?_setCells]; exact hfz _ (by simp at hj; omega)) (fun v hv => by simp at hv; subst hv; rfl)
  rw [← hW1] at hcp1 ⊢
  have hz2 : ¬ ((i : Int) = (l.length : Int)) := by omega
  have hnc : ¬ ((c : Int) < (l.length : Int) + 1) := by omega
  have hw1 : IntKind.i64.wrap ((i : Int) + 1) = (i : Int) + 1 := by rw [IntKind.wrap_i64]; omega
  have hb1 : (0 : Int) ≤ (i : Int) + 1 := by omega
  have hb6 : (i : Int) ≤ (l.length : Int) + 1 := by omega
  have htn : ((i : Int) + 1).toNat = i + 1 := by omega
  have hb2 : ¬ (c = i + 1) := by omega
  have hb4 : ¬ (c = i) := by omega
  have hb5 : (i : Int) ≤ (l.length : Int) := by omega
  generalize l.length = n at *
  clear hrow hsp hfz hv hsa hsb hkB hfa hfe hvb hdl hsp1
  go_enter Try.func65, Try.ntmps65
  go_wp2_with (simp only [hov])
  go_region_law (refine step_copy_runI rfl _ _ 119 119 rfl _ _ (by simp [Act.eval, Act.put]) (by simp [Act.eval, Act.put]) (hcp1 _ _ _) ?_)
  go_wp2_with (at_builtin; refine wpList_copy_runI _ rfl _ _ 119 119 rfl _ _ rfl rfl (hcp2 _ (fun _ => rfl) (fun _ => rfl) _ _) ?_)
  go_ret
  first | exact ⟨rfl, rfl⟩ | exact ⟨rfl, by rw [hW1]⟩
end Go.Proofs.Ytabahmcbhapbiaa
