import Derived.Test.YtabahmcbhapbiaaInsert
import Derived.Shelf.SlGeneric
import Derived.Shelf.SlicesE.Delete
import Derived.Ground.SlgnProg
import Derived.Lib.OwnBridge
namespace Go.Proofs.Ytabahmcbhapbiaa
open Go.RowKit Go.Lib Go.Shelf Go.Sort
set_option linter.unusedVariables false

/-- slices.Delete, as the shelf's contract numbers it. -/
def delRen : Ren := ⟨fun | 45 => 66 | n => n, fun | 22 => 119 | 23 => 5 | 3 => 3 | 4 => 4 | 0 => 0 | n => n, fun | n => n⟩
theorem delLays : Go.Proofs.SlLaysE.n45 Try.prog delRen := {
  mixed := by kernel_rfl
  f45 := ⟨Try.f66.name, by decide, Try.func66.trans (congrArg some (by kernel_rfl))⟩
  t0 := Try.underlying0
  a0 := Try.isAgg0
  z0 := Try.sizeOf0
  v0 := Try.zeroValue0
  t3 := Try.underlying3
  a3 := Try.isAgg3
  z3 := Try.sizeOf3
  v3 := Try.zeroValue3
  t4 := Try.underlying4
  a4 := Try.isAgg4
  z4 := Try.sizeOf4
  v4 := Try.zeroValue4
  t22 := Try.underlying119
  a22 := Try.isAgg119
  z22 := Try.sizeOf119
  v22 := Try.zeroValue119
  a23 := Try.isAgg5
  z23 := Try.sizeOf5 }

theorem delete_any (b c i : Nat) (l : Array UInt8) (w : World) (hi : i < l.size) (hcap : l.size ≤ c) (hc63 : c ≤ 9223372036854775807)
    (hrow : rowAt w b l.toList) (hfz : ∀ j, j < c → w.frozen? ⟨b, j, none⟩ = false) :
    Calls Try.prog 66 #[.slice (some ⟨b, 0, none⟩) l.size c, .int .i64 (i : Int), .int .i64 ((i : Int) + 1)] w fun e w' =>
      e = .returned (.slice (some ⟨b, 0, none⟩) (l.size - 1) c) ∧ rowAt w' b (l.toList.take i ++ l.toList.drop (i + 1)) ∧ Below b w w' := by
  have hH : Holds byt w b 0 l := fun j hj => ⟨by
    rw [Nat.zero_add]
    refine hrow j _ ?_
    rw [List.getElem?_map, Array.getElem?_toList, Array.getElem?_eq_getElem hj, getElem!_pos l j hj]
    rfl, by rw [Nat.zero_add]; exact hfz j (by omega)⟩
  obtain ⟨i0, hi0, hz0, hzs, hzb⟩ := info_parts info5
  have h := AnyE.slices_Delete delLays byt (fun _ => rfl) 0 (fun w => Try.zeroValue5 w) i0 hi0 hzs b 0 c i (i + 1) l w hH hcap hc63 (Nat.le_succ i) hi
  change Calls Try.prog 66 _ _ _ at h
  rw [show ((i + 1 : Nat) : Int) = (i : Int) + 1 by omega, show i + 1 - i = 1 by omega] at h
  refine h.mono ?_
  rintro e w' ⟨rfl, q, rfl⟩
  have hsz : (l.toList.take i ++ l.toList.drop (i + 1) ++ List.replicate 1 (0 : UInt8)).toArray.size = l.size := by simp; omega
  have hN := holds_putRow byt (Sort.ahead w q) b 0 l _ (holds_ahead byt w q b 0 l hH) hsz
  refine ⟨rfl, fun j v hj => ?_, below_putRow (Below.refl _ _) (Nat.le_refl _)⟩
  have hjl : j < (l.toList.take i ++ l.toList.drop (i + 1)).length := by
    have := (List.getElem?_eq_some_iff.1 hj).1
    simpa using this
  have hj2 := (hN j (by rw [hsz]; simp at hjl; omega)).1
  rw [Nat.zero_add] at hj2
  rw [hj2, getElem!_pos _ j (by rw [hsz]; simp at hjl; omega)]
  rw [List.getElem?_map, List.getElem?_eq_getElem hjl] at hj
  simp only [Option.map_some, Option.some.injEq] at hj
  rw [← hj]
  rw [List.getElem_toArray, List.getElem_append_left hjl]
end Go.Proofs.Ytabahmcbhapbiaa
