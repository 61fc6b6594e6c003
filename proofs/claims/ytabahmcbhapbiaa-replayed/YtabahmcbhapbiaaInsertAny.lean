import Derived.Test.YtabahmcbhapbiaaInsertMid
import Derived.Test.YtabahmcbhapbiaaInsertGrow
namespace Go.Proofs.Ytabahmcbhapbiaa
open Go.RowKit Go.Lib
set_option linter.unusedVariables false

theorem bel_setCells {B b : Nat} {a : World} (hb : B ≤ b) : ∀ (vs : List Value) (o : Nat) (w : World), Below B a w → Below B a (w.setCells b o vs)
  | [], _, _, h => h
  | v :: r, o, w, h => bel_setCells hb r (o + 1) _ (h.setCell hb v)

/-- Where the bytes of l lie, with x ahead of place i. -/
theorem rowAt_ins {w : World} {b i : Nat} {l : List UInt8} {x : UInt8} (hi : i ≤ l.length) (h1 : ∀ j, j < i → ∀ v, (l.map byt)[j]? = some v → w.cell? ⟨b, j, none⟩ = some v)
    (h2 : w.cell? ⟨b, i, none⟩ = some (byt x)) (h3 : ∀ j, i ≤ j → ∀ v, (l.map byt)[j]? = some v → w.cell? ⟨b, j + 1, none⟩ = some v) : rowAt w b (l.take i ++ x :: l.drop i) := by
  intro j v hj
  have hlen : (l.take i).length = i := by simp; omega
  rw [List.getElem?_map] at hj
  by_cases hji : j < i
  · refine h1 j hji v ?_
    rw [List.getElem?_append_left (by omega), List.getElem?_take, if_pos hji] at hj
    rw [List.getElem?_map]; exact hj
  by_cases hje : j = i
  · subst hje
    rw [List.getElem?_append_right (by omega), hlen] at hj
    simp at hj
    rw [← hj]; exact h2
  · obtain ⟨k, rfl⟩ : ∃ k, j = k + 1 := ⟨j - 1, by omega⟩
    rw [List.getElem?_append_right (by omega), hlen, show k + 1 - i = (k - i) + 1 by omega, List.getElem?_cons_succ, List.getElem?_drop, show i + (k - i) = k by omega] at hj
    exact h3 k (by omega) v (by rw [List.getElem?_map]; exact hj)

set_option maxHeartbeats 1000000 in
theorem insert_any (b c vb i B : Nat) (l : List UInt8) (x : UInt8) (w : World) (hB : B ≤ b) (hBw : B ≤ w.heap.size) (hi : i ≤ l.length) (hcap : l.length ≤ c) (hc63 : c ≤ 9223372036854775807) (hbig : l.length + 1 ≤ 140737488355328) (hvb : vb ≠ b)
    (hrow : rowAt w b l) (hsp : ∀ j, j < c → (w.cell? ⟨b, j, none⟩).isSome = true) (hfz : ∀ j, j < c → w.frozen? ⟨b, j, none⟩ = false) (hv : w.cell? ⟨vb, 0, none⟩ = some (byt x))
    (tA tB : TypeId) (hsa : w.shape? vb = some (tA, 1)) (hsb : w.shape? b = some (tB, c)) (hfa : w.frozen? ⟨vb, 0, none⟩ = false) (hfe : w.frozen? ⟨vb, 1, none⟩ = false) :
    Calls Try.prog 65 #[.slice (some ⟨b, 0, none⟩) l.length c, .int .i64 (i : Int), .slice (some ⟨vb, 0, none⟩) 1 1] w fun e w' =>
      ∃ nb cap : Nat, e = .returned (.slice (some ⟨nb, 0, none⟩) (l.length + 1) cap) ∧ rowAt w' nb (l.take i ++ x :: l.drop i) ∧ Below B w w' := by
  by_cases hroom : l.length + 1 ≤ c
  · by_cases hie : i = l.length
    · subst hie
      refine (ins_end_room b c vb l x w hroom hc63 (hsp _ (by omega)) (hfz _ (by omega)) hv).mono ?_
      rintro e w' ⟨rfl, rfl⟩
      refine ⟨b, c, rfl, rowAt_ins (Nat.le_refl _) (fun j hj v hv' => ?_) ?_ (fun j hj v hv' => ?_), bel_setCells hB _ _ _ (Below.refl _ _)⟩
      · rw [World.cell?_setCells_out b _ _ _ _ (fun _ _ => Or.inl hj)]; exact hrow j v hv'
      · have := World.cell?_setCells_in b [byt x] l.length w (fun j hj => hsp _ (by simp at hj; omega)) 0 (by simp)
        simpa using this
      · rw [List.getElem?_eq_none (by simpa using hj)] at hv'; cases hv'
    · refine (ins_mid_room b c vb i l x w (by omega) hroom hc63 hvb hrow (fun j hj => hsp _ (by omega)) (fun j hj => hfz _ (by omega)) hv tA tB c hsa hsb (by omega) hfa hfe).mono ?_
      rintro e w' ⟨rfl, rfl⟩
      have hS : ∀ k, k < l.length + 1 → ((w.drew.setCells b (i + 1) ((l.map byt).drop i)).cell? ⟨b, k, none⟩).isSome = true := fun k hk =>
        isSome_setCells b ((l.map byt).drop i) (i + 1) w.drew (fun t ht => hsp _ (by simp at ht; omega)) k (hsp k (by omega))
      refine ⟨b, c, rfl, rowAt_ins hi (fun j hj v hv' => ?_) ?_ (fun j hj v hv' => ?_), bel_setCells hB _ _ _ (bel_setCells hB _ _ _ (Below.refl _ _).drew)⟩
      · rw [World.cell?_setCells_out b _ _ _ _ (fun _ _ => Or.inl hj), World.cell?_setCells_out b _ _ _ _ (fun _ _ => Or.inl (by show j < i + 1; omega))]; exact hrow j v hv'
      · have := World.cell?_setCells_in b [byt x] i (w.drew.setCells b (i + 1) ((l.map byt).drop i)) (fun j hj => hS _ (by simp at hj; omega)) 0 (by simp)
        simpa using this
      · rw [World.cell?_setCells_out b [byt x] i _ ⟨b, j + 1, none⟩ (fun _ _ => Or.inr (by show i + 1 ≤ j + 1; omega))]
        have hjl : j < l.length := by
          have := (List.getElem?_eq_some_iff.1 hv').1
          simpa using this
        have := World.cell?_setCells_in b ((l.map byt).drop i) (i + 1) w.drew (fun t ht => hsp _ (by simp at ht; omega)) (j - i) (by simp; omega)
        rw [show i + 1 + (j - i) = j + 1 by omega] at this
        rw [this]
        rw [List.getElem_drop]
        simp only [show i + (j - i) = j by omega]
        exact (List.getElem?_eq_getElem (by simpa using hjl)).symm.trans hv'
  · by_cases hie : i = l.length
    · subst hie
      refine (ins_end_grow b c vb l x w hcap (by omega) hbig hrow hv).mono ?_
      rintro e w' ⟨cap, cs, rfl, rfl⟩
      refine ⟨w.heap.size, cap, rfl, ?_, ((Below.refl B w).drew.alloc hBw _)⟩
      have e1 : l.take l.length ++ x :: l.drop l.length = l ++ [x] := by simp
      rw [e1]
      intro j v hj
      rw [World.cell?_alloc_at (w := w.drew) _ _ w.heap.size j rfl]
      have hjl : j < (l.map byt ++ [byt x]).length := by
        have := (List.getElem?_eq_some_iff.1 hj).1
        simpa using this
      rw [Array.getElem?_append_left (by simpa using hjl)]
      simpa using hj
    · refine (ins_mid_grow b c vb i l x w (by omega) hcap (by omega) hbig hrow hv).mono ?_
      rintro e w' ⟨cap, R, hR1, hR2, rfl, rfl⟩
      have hN : ∀ j, j < l.length + 1 → ((w.alloc (.cells R 5)).cell? ⟨w.heap.size, j, none⟩).isSome = true := fun j hj => by
        rw [World.cell?_alloc_at (w := w) R _ w.heap.size j rfl, Array.getElem?_eq_getElem (by omega)]; rfl
      refine ⟨w.heap.size, cap, rfl, rowAt_ins hi (fun j hj v hv' => ?_) ?_ (fun j hj v hv' => ?_), bel_setCells hBw _ _ _ (bel_setCells hBw _ _ _ ((Below.refl B w).alloc hBw _).drew).drew⟩
      · rw [World.cell?_setCells_out w.heap.size _ _ _ _ (fun _ _ => Or.inl (by show j < i + 1; omega))]
        show ((w.alloc (.cells R 5)).drew.setCells w.heap.size i [byt x]).cell? ⟨w.heap.size, j, none⟩ = some v
        rw [World.cell?_setCells_out w.heap.size _ _ _ _ (fun _ _ => Or.inl hj)]
        show (w.alloc (.cells R 5)).cell? ⟨w.heap.size, j, none⟩ = some v
        rw [World.cell?_alloc_at (w := w) R _ w.heap.size j rfl, hR2 j hj]; exact hv'
      · rw [World.cell?_setCells_out w.heap.size _ _ _ _ (fun _ _ => Or.inl (by show i < i + 1; omega))]
        have := World.cell?_setCells_in w.heap.size [byt x] i (w.alloc (.cells R 5)).drew (fun j hj => hN _ (by simp at hj; omega)) 0 (by simp)
        simpa using this
      · have hjl : j < l.length := by
          have := (List.getElem?_eq_some_iff.1 hv').1
          simpa using this
        have := World.cell?_setCells_in w.heap.size ((l.map byt).drop i) (i + 1) ((w.alloc (.cells R 5)).drew.setCells w.heap.size i [byt x]).drew (fun t ht => isSome_setCells w.heap.size [byt x] i (w.alloc (.cells R 5)).drew (fun t ht => hN _ (by simp at ht; omega)) _ (hN _ (by simp at ht; omega))) (j - i) (by simp; omega)
        rw [show i + 1 + (j - i) = j + 1 by omega] at this
        rw [this]
        rw [List.getElem_drop]
        simp only [show i + (j - i) = j by omega]
        exact (List.getElem?_eq_getElem (by simpa using hjl)).symm.trans hv'
end Go.Proofs.Ytabahmcbhapbiaa
