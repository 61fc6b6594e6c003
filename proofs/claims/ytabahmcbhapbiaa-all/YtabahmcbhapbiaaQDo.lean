import Derived.Test.YtabahmcbhapbiaaQIns
import Derived.Lib.ConvBytes
import Derived.Lib.SmallJoins
namespace Go.Proofs.Ytabahmcbhapbiaa
open Go.RowKit Go.Lib
set_option linter.unusedVariables false

/-- '[]byte(t)': a new row. -/
theorem conv_any (W : World) (t : ByteArray) (ht : t.size ≤ 140737488355328) : ∃ (G : Nat) (W1 : World),
    (convert 9 119 (.string t)).run Try.prog W = .ok (.slice (some ⟨W.heap.size, 0, none⟩) t.size G) W1 ∧ t.size ≤ G ∧ G ≤ 9223372036854775807 ∧ Below W.heap.size W W1 ∧ W1.heap.size = W.heap.size + 1 ∧
    rowAt W1 W.heap.size t.data.toList ∧ (∀ j, j < G → (W1.cell? ⟨W.heap.size, j, none⟩).isSome = true) ∧ (∀ j, j < G → W1.frozen? ⟨W.heap.size, j, none⟩ = false) ∧ W1.shape? W.heap.size = some (5, G) := by
  have hG : t.size ≤ grownCap W t.size 0 5 := grownCap_ge _ _ _ _
  have hG2 : grownCap W t.size 0 5 ≤ 9223372036854775807 := by
    have := grownCap_le_maxLen W t.size 0 5 (by unfold maxLen; omega)
    unfold maxLen at this
    omega
  have hsz : (Lib.bytesCells W 5 t).size = grownCap W t.size 0 5 := by
    unfold Lib.bytesCells
    rw [Array.size_append, Array.size_map, Array.size_replicate]
    show t.size + _ = _
    omega
  have hnew := Lib.bytesWorld_at_new W 5 t
  rw [hsz] at hnew
  refine ⟨_, _, Lib.run_convert_string_bytes (P := Try.prog) W 9 119 5 t Try.underlying9 Try.underlying119 Try.underlying5, hG, hG2, ?_, Lib.bytesWorld_size _ _ _, ?_, ?_, ?_, ?_⟩
  · exact Go.Joins.below_bytesWorld _ _ _ _ (Nat.le_refl _)
  · intro j v hj
    have hj' : j < t.size := by
      have := (List.getElem?_eq_some_iff.1 hj).1
      simpa using this
    rw [Lib.bytesWorld_cell W 5 t j hj']
    rw [List.getElem?_map] at hj
    simp [List.getD, byt] at hj ⊢
    obtain ⟨a, ha, rfl⟩ := hj
    simp [ha]
  · intro j hj
    simp only [World.cell?, hnew]
    simp [hsz, hj]
  · intro j hj
    simp only [World.frozen?, hnew]
    simp; omega
  · simp only [World.shape?, hnew]
    simp [hsz]

theorem back_any (W : World) (b cap : Nat) (l : List UInt8) (h : rowAt W b l) :
    (convert 119 9 (.slice (some ⟨b, 0, none⟩) l.length cap)).run Try.prog W = .ok (.string ⟨l.toArray⟩) W :=
  run_convert_bytes_back (P := Try.prog) W 119 9 5 ⟨b, 0, none⟩ cap l Try.underlying119 Try.underlying5 Try.underlying9 (fun j hj => by rw [Addr.add_lit, Nat.zero_add]; exact h.at j hj)

set_option maxHeartbeats 1000000 in
theorem opDo_nothing (t : ByteArray) (k a b s : Int) (w : World) (ht : t.size ≤ 140737488355328) (h1 : (k == 1) = false) (h2 : (k == 2) = false) :
    Calls Try.prog 34 #[.string t, .agg #[.int .i64 k, .int .i64 a, .int .i64 b, .int .i64 s]] w fun e w' => e = .returned (.string t) ∧ Below w.heap.size w w' := by
  obtain ⟨G, W1, hcv, hG, hG2, hb, hz, hrow, hsp, hfz, hsh⟩ := conv_any (w.alloc (.cells #[.int .i64 k, .int .i64 a, .int .i64 b, .int .i64 s] 26)) t ht
  have hbk := back_any W1 _ G _ hrow
  obtain ⟨hc, hf⟩ := bcell hb
  have hlen : t.data.toList.length = t.size := by simp
  have hzz : (w.alloc (.cells #[.int .i64 k, .int .i64 a, .int .i64 b, .int .i64 s] 26)).heap.size = w.heap.size + 1 := by simp
  have ht' : (⟨t.data.toList.toArray⟩ : ByteArray) = t := by simp
  rw [hlen, hzz, ht'] at hbk
  rw [hzz] at hcv
  have hc0 : W1.cell? ⟨w.heap.size, 0, none⟩ = some (.int .i64 k) := by rw [hc _ _ (by omega)]; simp [go_sem]
  have HB : Hid (Below (w.alloc (.cells #[.int .i64 k, .int .i64 a, .int .i64 b, .int .i64 s] 26)).heap.size (w.alloc (.cells #[.int .i64 k, .int .i64 a, .int .i64 b, .int .i64 s] 26)) W1) := hb
  clear hrow hsp hfz hsh hc hf hlen hzz ht' hb
  go_enter Try.func34, Try.ntmps34
  go_wp2
  go_ret
  exact ⟨rfl, bel_trans (bel_alloc (Below.refl _ _) _) HB.out⟩

/-- What an op makes of a text. -/
def doneS (t : ByteArray) (k a b : Int) : ByteArray :=
  if k = 1 then ⟨(t.data.toList.take a.toNat ++ UInt8.ofNat b.toNat :: t.data.toList.drop a.toNat).toArray⟩
  else if k = 2 then ⟨(t.data.toList.take a.toNat ++ t.data.toList.drop (a.toNat + 1)).toArray⟩
  else t

set_option maxHeartbeats 1000000 in
theorem opDo_insert (t : ByteArray) (i : Nat) (b s : Int) (w : World) (ht : t.size + 1 ≤ 140737488355328) (hi : i ≤ t.size) (b0 : 0 ≤ b) (b1 : b ≤ 255) (R : ByteArray) (HR : Hid (R = ⟨(t.data.toList.take i ++ UInt8.ofNat b.toNat :: t.data.toList.drop i).toArray⟩)) :
    Calls Try.prog 34 #[.string t, .agg #[.int .i64 1, .int .i64 (i : Int), .int .i64 b, .int .i64 s]] w fun e w' => e = .returned (.string R) ∧ Below w.heap.size w w' := by
  obtain ⟨G, W1, hcv, hG, hG2, hb, hz, hrow, hsp, hfz, hsh⟩ := conv_any (w.alloc (.cells #[.int .i64 1, .int .i64 (i : Int), .int .i64 b, .int .i64 s] 26)) t (by omega)
  obtain ⟨hc, hf⟩ := bcell hb
  have hlen : t.data.toList.length = t.size := by simp
  have hzz : (w.alloc (.cells #[.int .i64 1, .int .i64 (i : Int), .int .i64 b, .int .i64 s] 26)).heap.size = w.heap.size + 1 := by simp
  have hc0 : W1.cell? ⟨w.heap.size, 0, none⟩ = some (.int .i64 1) := by rw [hc _ _ (by omega)]; simp [go_sem]
  have hc1 : W1.cell? ⟨w.heap.size, 1, none⟩ = some (.int .i64 (i : Int)) := by rw [hc _ _ (by omega)]; simp [go_sem]
  have hc2 : W1.cell? ⟨w.heap.size, 2, none⟩ = some (.int .i64 b) := by rw [hc _ _ (by omega)]; simp [go_sem]
  rw [hzz] at hcv hrow hsp hfz hsh hz
  have HB : Hid (Below w.heap.size w W1) := bel_trans (bel_alloc (Below.refl _ _) _) hb
  have hbx : byt (UInt8.ofNat b.toNat) = .int .u8 b := by
    have e : (UInt8.ofNat b.toNat).toNat = b.toNat := by simp; omega
    unfold byt
    rw [e, Int.toNat_of_nonneg b0]
  have hl' : (t.data.toList.take i ++ UInt8.ofNat b.toNat :: t.data.toList.drop i).length = t.size + 1 := by
    rw [List.length_append, List.length_cons, List.length_take, List.length_drop, hlen]; omega
  have HI : Hid (Calls Try.prog 65 #[.slice (some ⟨w.heap.size + 1, 0, none⟩) t.size G, .int .i64 (i : Int), .slice (some ⟨w.heap.size + 1 + 1, 0, none⟩) 1 1] (W1.alloc (.cells #[.int .u8 b] 5)) fun e w' =>
      ∃ nb cap : Nat, e = .returned (.slice (some ⟨nb, 0, none⟩) (t.size + 1) cap) ∧ rowAt w' nb (t.data.toList.take i ++ UInt8.ofNat b.toNat :: t.data.toList.drop i) ∧ Below (w.heap.size + 1) (W1.alloc (.cells #[.int .u8 b] 5)) w') := by
    have hnew : (W1.alloc (.cells #[.int .u8 b] 5)).heap[w.heap.size + 1 + 1]? = some (.cells #[.int .u8 b] 5) := by
      rw [← hz]; show (W1.heap.push _)[W1.heap.size]? = _; simp
    have hold : (W1.alloc (.cells #[.int .u8 b] 5)).heap[w.heap.size + 1]? = W1.heap[w.heap.size + 1]? := Below.heap_alloc _ _ _ (by omega)
    have hce : ∀ j, (W1.alloc (.cells #[.int .u8 b] 5)).cell? ⟨w.heap.size + 1, j, none⟩ = W1.cell? ⟨w.heap.size + 1, j, none⟩ := fun j => World.cell?_of_block (w := W1) hold
    have hfe : ∀ j, (W1.alloc (.cells #[.int .u8 b] 5)).frozen? ⟨w.heap.size + 1, j, none⟩ = W1.frozen? ⟨w.heap.size + 1, j, none⟩ := fun j => World.frozen?_of_block (w := W1) hold
    have hse : (W1.alloc (.cells #[.int .u8 b] 5)).shape? (w.heap.size + 1) = W1.shape? (w.heap.size + 1) := by simp only [World.shape?, hold]
    have h := insert_any (w.heap.size + 1) G (w.heap.size + 1 + 1) i (w.heap.size + 1) t.data.toList (UInt8.ofNat b.toNat) (W1.alloc (.cells #[.int .u8 b] 5)) (Nat.le_refl _) (by simp; omega) (by omega) (by omega) hG2 (by omega) (by omega)
      (fun j v hj => by rw [hce]; exact hrow j v hj) (fun j hj => by rw [hce]; exact hsp j hj) (fun j hj => by rw [hfe]; exact hfz j hj)
      (by rw [hbx]; simp only [World.cell?, hnew]; simp) 5 5 (by simp only [World.shape?, hnew]; simp) (by rw [hse]; exact hsh)
      (by simp only [World.frozen?, hnew]; simp) (by simp only [World.frozen?, hnew]; simp)
    rw [hlen] at h
    exact h
  have hblk : Below (w.heap.size + 1) w (W1.alloc (.cells #[.int .u8 b] 5)) → True := fun _ => trivial
  clear hrow hsp hfz hsh hc hf hlen hzz hb hbx hblk
  go_enter Try.func34, Try.ntmps34
  go_wp2_with fail
  refine HI.out.mono ?_
  rintro e w2 ⟨nb, cap, rfl, hrow2, hb2⟩
  have hbk := back_any w2 nb cap _ hrow2
  rw [hl', ← HR.out] at hbk
  have HE : Hid (Below w.heap.size w w2) := (bel_alloc HB.out _).trans (hb2.mono (Nat.le_succ _))
  clear hrow2 hb2 hl'
  go_wp2
  go_ret
  exact ⟨rfl, HE.out⟩

set_option maxHeartbeats 1000000 in
theorem opDo_delete (t : ByteArray) (i : Nat) (b s : Int) (w : World) (ht : t.size ≤ 140737488355328) (hi : i < t.size) (R : ByteArray) (HR : Hid (R = ⟨(t.data.toList.take i ++ t.data.toList.drop (i + 1)).toArray⟩)) :
    Calls Try.prog 34 #[.string t, .agg #[.int .i64 2, .int .i64 (i : Int), .int .i64 b, .int .i64 s]] w fun e w' => e = .returned (.string R) ∧ Below w.heap.size w w' := by
  obtain ⟨G, W1, hcv, hG, hG2, hb, hz, hrow, hsp, hfz, hsh⟩ := conv_any (w.alloc (.cells #[.int .i64 2, .int .i64 (i : Int), .int .i64 b, .int .i64 s] 26)) t (by omega)
  obtain ⟨hc, hf⟩ := bcell hb
  have hlen : t.data.toList.length = t.size := by simp
  have hzz : (w.alloc (.cells #[.int .i64 2, .int .i64 (i : Int), .int .i64 b, .int .i64 s] 26)).heap.size = w.heap.size + 1 := by simp
  have hc0 : W1.cell? ⟨w.heap.size, 0, none⟩ = some (.int .i64 2) := by rw [hc _ _ (by omega)]; simp [go_sem]
  have hc1 : W1.cell? ⟨w.heap.size, 1, none⟩ = some (.int .i64 (i : Int)) := by rw [hc _ _ (by omega)]; simp [go_sem]
  rw [hzz] at hcv hrow hsp hfz hsh hz
  have HB : Hid (Below w.heap.size w W1) := bel_trans (bel_alloc (Below.refl _ _) _) hb
  have hl' : (t.data.toList.take i ++ t.data.toList.drop (i + 1)).length = t.size - 1 := by
    rw [List.length_append, List.length_take, List.length_drop, hlen]; omega
  have HD : Hid (Calls Try.prog 66 #[.slice (some ⟨w.heap.size + 1, 0, none⟩) t.size G, .int .i64 (i : Int), .int .i64 ((i : Int) + 1)] W1 fun e w' =>
      e = .returned (.slice (some ⟨w.heap.size + 1, 0, none⟩) (t.size - 1) G) ∧ rowAt w' (w.heap.size + 1) (t.data.toList.take i ++ t.data.toList.drop (i + 1)) ∧ Below (w.heap.size + 1) W1 w') := by
    have h := delete_any (w.heap.size + 1) G i t.data W1 hi hG hG2 hrow hfz
    exact h
  clear hrow hsp hfz hsh hc hf hlen hzz hb
  go_enter Try.func34, Try.ntmps34
  go_wp2_with fail
  refine HD.out.mono ?_
  rintro e w2 ⟨rfl, hrow2, hb2⟩
  have hbk := back_any w2 _ G _ hrow2
  rw [hl', ← HR.out] at hbk
  have HE : Hid (Below w.heap.size w w2) := HB.out.trans (hb2.mono (Nat.le_succ _))
  clear hrow2 hb2 hl'
  go_wp2
  go_ret
  exact ⟨rfl, HE.out⟩
end Go.Proofs.Ytabahmcbhapbiaa
