import Derived.Test.YtabahmcbhapbiaaRows
import Derived.Test.YtabahmcbhapbiaaBase
import Derived.Shelf.Spec.SlicesInsertGrow
import Derived.Deep.RegionLaw
namespace Go.Proofs.Ytabahmcbhapbiaa
open Go.RowKit Go.Lib
set_option linter.unusedVariables false

/-- The cell of a byte. -/
def byt (c : UInt8) : Value := .int .u8 (c.toNat : Int)
theorem byt_one (l : List UInt8) : ∀ v ∈ l.map byt, v.oneCell' = true := by
  intro v hv
  obtain ⟨c, _, rfl⟩ := List.mem_map.1 hv
  rfl
/-- From place 0 on block b holds the bytes l. -/
def rowAt (w : World) (b : Nat) (l : List UInt8) : Prop := ∀ j v, (l.map byt)[j]? = some v → w.cell? ⟨b, j, none⟩ = some v
theorem rowAt.at {w : World} {b : Nat} {l : List UInt8} (h : rowAt w b l) (j : Nat) (hj : j < l.length) : w.cell? ⟨b, j, none⟩ = some (.int .u8 (l[j].toNat : Int)) :=
  h j _ (by simp [hj, byt])
theorem info5 : (Try.prog.info? 5).map (fun i => (i.zero, i.size, i.bytes)) = some (some (.int .u8 0), 1, 1) := by kernel_rfl
theorem info5s : (Try.prog.info? 5).map (·.size) = some 1 := by kernel_rfl

set_option maxHeartbeats 1000000 in
set_option maxRecDepth 100000 in
/-- At the end, with room. -/
theorem ins_end_room (b c vb : Nat) (l : List UInt8) (x : UInt8) (w : World) (hroom : l.length + 1 ≤ c) (hc63 : c ≤ 9223372036854775807)
    (hsp : (w.cell? ⟨b, l.length, none⟩).isSome = true) (hfz : w.frozen? ⟨b, l.length, none⟩ = false) (hv : w.cell? ⟨vb, 0, none⟩ = some (byt x)) :
    Calls Try.prog 65 #[.slice (some ⟨b, 0, none⟩) l.length c, .int .i64 (l.length : Int), .slice (some ⟨vb, 0, none⟩) 1 1] w fun e w' =>
      e = .returned (.slice (some ⟨b, 0, none⟩) (l.length + 1) c) ∧ w' = w.setCells b l.length [byt x] := by
  have hsrc : Src Try.prog 1 119 (.slice (some ⟨vb, 0, none⟩) 1 1) 1 [byt x] w := Src.ofSlice w Try.underlying119 ⟨vb, 0, none⟩ 1 1 [byt x] rfl
    (fun j u hj => by
      rcases j with _ | j
      · simp at hj; subst hj; exact hv
      · simp at hj) (fun u hu => by simp at hu; subst hu; rfl)
  generalize l.length = n at *
  go_enter Try.func65, Try.ntmps65
  go_wp2_with (at_builtin; refine wpList_append_room1 _ rfl _ _ 119 119 rfl 5 _ _ Try.underlying119 info5 b 0 n c rfl _ rfl 1 [byt x] hsrc hroom (by simpa using hsp) (by simpa using hfz) ?_)
  all_goals go_ret
  all_goals exact ⟨rfl, by simp⟩

set_option maxHeartbeats 1000000 in
set_option maxRecDepth 100000 in
/-- At the end, without room: a new row. -/
theorem ins_end_grow (b c vb : Nat) (l : List UInt8) (x : UInt8) (w : World) (hcap : l.length ≤ c) (hroom : c < l.length + 1) (hbig : l.length + 1 ≤ 140737488355328)
    (hrow : rowAt w b l) (hv : w.cell? ⟨vb, 0, none⟩ = some (byt x)) :
    Calls Try.prog 65 #[.slice (some ⟨b, 0, none⟩) l.length c, .int .i64 (l.length : Int), .slice (some ⟨vb, 0, none⟩) 1 1] w fun e w' =>
      ∃ (cap : Nat) (cs : Array Value), e = .returned (.slice (some ⟨w.heap.size, 0, none⟩) (l.length + 1) cap) ∧ w' = w.drew.alloc (.cells ((l.map byt ++ [byt x]).toArray ++ cs) 5) := by
  obtain ⟨i0, hi0, hz0, hzs, hzb⟩ := info_parts info5
  have hsrc : Src Try.prog i0.size 119 (.slice (some ⟨vb, 0, none⟩) 1 1) 1 [byt x] w := by
    rw [hzs]
    exact Src.ofSlice w Try.underlying119 ⟨vb, 0, none⟩ 1 1 [byt x] rfl (fun j u hj => by
      rcases j with _ | j
      · simp at hj; subst hj; exact hv
      · simp at hj) (fun u hu => by simp at hu; subst hu; rfl)
  have hold : (Builtin.firstCells i0.size l.length (.slice (some ⟨b, 0, none⟩) l.length c)).run Try.prog w.drew = .ok (l.map byt).toArray w.drew := by
    rw [hzs]
    exact run_firstCells_some w.drew 1 l.length ⟨b, 0, none⟩ l.length c (l.map byt) (by simp) (fun j v hj => by
      rw [Addr.add_lit, Nat.zero_add]; exact hrow j v hj)
  have hrun : ∀ ty, (Builtin.append_ #[119, 119] ty #[.slice (some ⟨b, 0, none⟩) l.length c, .slice (some ⟨vb, 0, none⟩) 1 1]).run Try.prog w = _ := fun ty =>
    run_append_grow_src w 119 119 ty 5 i0 _ Try.underlying119 hi0 hz0 (some ⟨b, 0, none⟩) l.length c (l.map byt) hold _ 1 [byt x] hsrc hroom (by omega) (by rw [hzb]; exact growslice_fits hroom (by omega))
  clear hold hsrc hrow hv hi0 hz0 hzs hzb
  generalize hcs : Builtin.zeroCells (Value.int .u8 0).cells (grownCap w (l.length + 1) c 5 - (l.length + 1)) = cs at hrun
  clear hcs
  generalize grownCap w (l.length + 1) c 5 = G at hrun
  generalize hL : l.map byt ++ [byt x] = L at *
  clear hL
  generalize l.length = n at *
  go_enter Try.func65, Try.ntmps65
  go_wp2_with (at_builtin; refine Lib.wpList_append_run _ rfl _ _ _ _ rfl _ _ rfl rfl _ _ (hrun _) ?_)
  all_goals go_ret
  all_goals exact ⟨G, cs, rfl, rfl⟩
end Go.Proofs.Ytabahmcbhapbiaa
