import Derived.Test.YtabahmcbhapbiaaRows
import Derived.Test.YtabahmcbhapbiaaQBase
import Derived.BigRegion
import Derived.Laws.IdiomStrings
namespace Go.Proofs.Ytabahmcbhapbiaa
open Go.RowKit
set_option linter.unusedVariables false

theorem ext_list {a b : ByteArray} (h : a.data.toList = b.data.toList) : a = b := ByteArray.ext (Array.toList_inj.1 h)
theorem toList_extract (t : ByteArray) (i j : Nat) : (t.extract i j).data.toList = (t.data.toList.drop i).take (j - i) := by
  rw [ByteArray.data_extract, Array.toList_extract, List.extract_eq_take_drop]
theorem toList_cat (a b : ByteArray) : (a ++ b).data.toList = a.data.toList ++ b.data.toList := by
  rw [ByteArray.data_append, Array.toList_append]
theorem cat_del (t : ByteArray) (i : Nat) : t.extract 0 i ++ t.extract (i + 1) t.size = ⟨(t.data.toList.take i ++ t.data.toList.drop (i + 1)).toArray⟩ := by
  apply ext_list
  rw [toList_cat, toList_extract, toList_extract, List.drop_zero, Nat.sub_zero, List.take_of_length_le (l := List.drop (i + 1) t.data.toList) (by simp)]
theorem cat_ins (t : ByteArray) (i : Nat) (x : UInt8) : t.extract 0 i ++ ⟨#[x]⟩ ++ t.extract i t.size = ⟨(t.data.toList.take i ++ x :: t.data.toList.drop i).toArray⟩ := by
  apply ext_list
  rw [toList_cat, toList_cat, toList_extract, toList_extract, List.drop_zero, Nat.sub_zero, List.take_of_length_le (l := List.drop i t.data.toList) (by simp)]
  simp

set_option maxHeartbeats 1000000 in
theorem refDone_nothing (t : ByteArray) (k a b s : Int) (w : World) (h1 : (k == 1) = false) (h2 : (k == 2) = false) :
    Calls Try.prog 80 #[.string t, .agg #[.int .i64 k, .int .i64 a, .int .i64 b, .int .i64 s]] w fun e w' => e = .returned (.string t) ∧ Below w.heap.size w w' := by
  go_enter Try.func80, Try.ntmps80
  go_wp2
  all_goals go_ret
  all_goals exact ⟨rfl, bel_alloc (Below.refl _ _) _⟩

set_option maxHeartbeats 1000000 in
theorem refDone_delete (t : ByteArray) (i : Nat) (b s : Int) (w : World) (ht : t.size ≤ 140737488355328) (hi : i < t.size) (R : ByteArray) (HR : Hid (R = ⟨(t.data.toList.take i ++ t.data.toList.drop (i + 1)).toArray⟩)) :
    Calls Try.prog 80 #[.string t, .agg #[.int .i64 2, .int .i64 (i : Int), .int .i64 b, .int .i64 s]] w fun e w' => e = .returned (.string R) ∧ Below w.heap.size w w' := by
  have hi' : (i : Int) < (t.size : Int) := by omega
  have hi2 : (i : Int) + 1 ≤ (t.size : Int) := by omega
  go_enter Try.func80, Try.ntmps80
  go_wp2
  all_goals go_region
  all_goals go_wp2
  all_goals go_ret
  all_goals go_light
  all_goals exact ⟨congrArg (fun r => Ending.returned (.string r)) ((cat_del t i).trans HR.out.symm), by repeat (first | exact Below.refl _ _ | apply Below.drew | refine bel_alloc ?_ _)⟩

set_option maxHeartbeats 1000000 in
theorem refDone_insert (t : ByteArray) (i : Nat) (b s : Int) (w : World) (ht : t.size + 1 ≤ 140737488355328) (hi : i ≤ t.size) (b0 : 0 ≤ b) (b1 : b ≤ 255) (R : ByteArray) (HR : Hid (R = ⟨(t.data.toList.take i ++ UInt8.ofNat b.toNat :: t.data.toList.drop i).toArray⟩)) :
    Calls Try.prog 80 #[.string t, .agg #[.int .i64 1, .int .i64 (i : Int), .int .i64 b, .int .i64 s]] w fun e w' => e = .returned (.string R) ∧ Below w.heap.size w w' := by
  have hi' : (i : Int) ≤ (t.size : Int) := by omega
  have e : (UInt8.ofNat b.toNat).toNat = b.toNat := by simp; omega
  have hcv : (convert 119 9 (.slice (some ⟨w.heap.size + 1, 0, none⟩) 1 1)).run Try.prog ((w.alloc (.cells #[.int .i64 1, .int .i64 (i : Int), .int .i64 b, .int .i64 s] 26)).alloc (.cells #[.int .u8 b] 5)).drew =
      .ok (.string ⟨#[UInt8.ofNat b.toNat]⟩) ((w.alloc (.cells #[.int .i64 1, .int .i64 (i : Int), .int .i64 b, .int .i64 s] 26)).alloc (.cells #[.int .u8 b] 5)).drew :=
    run_convert_bytes_back (P := Try.prog) _ 119 9 5 ⟨w.heap.size + 1, 0, none⟩ 1 [UInt8.ofNat b.toNat] Try.underlying119 Try.underlying5 Try.underlying9 (fun j hj => by
      obtain rfl : j = 0 := by simp at hj; omega
      rw [Addr.add_lit]
      simp only [List.getElem_cons_zero, e, Int.toNat_of_nonneg b0]
      simp [go_sem])
  clear e
  go_enter Try.func80, Try.ntmps80
  go_wp2
  all_goals go_region
  all_goals go_wp2
  all_goals go_ret
  all_goals go_light
  all_goals exact ⟨congrArg (fun r => Ending.returned (.string r)) ((cat_ins t i _).trans HR.out.symm), by repeat (first | exact Below.refl _ _ | apply Below.drew | refine bel_alloc ?_ _)⟩
end Go.Proofs.Ytabahmcbhapbiaa
