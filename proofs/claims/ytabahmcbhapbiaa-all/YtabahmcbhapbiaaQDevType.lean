import Derived.Test.YtabahmcbhapbiaaQDevMoot
import Derived.Test.YtabahmcbhapbiaaQEndSend
import Derived.Test.YtabahmcbhapbiaaQApply
import Derived.Deep.RegionHeld3
import Derived.Deep.DeepCutAuto
namespace Go.Proofs.Ytabahmcbhapbiaa
open Go.RowKit Go.Lib
set_option linter.unusedVariables false
/-- What a client answers to an op that is typed: 2, 3, 4, or 0. -/
def mayT (n len : Nat) (o : Op4) : Int := if rightB o.k o.p o.b o.s = false ∨ o.k = 0 ∨ fitsB n o.k o.p = false then 2 else if o.k = 1 ∧ 60 ≤ n then 3 else if 20 ≤ len then 4 else 0
set_option maxHeartbeats 1000000 in
theorem mayType_1 (cb i : Nat) (x : Cli) (go gq : Option Nat) (o : Op4) (w : World) (h : CliMem w cb i x go gq) (hr : rightB o.k o.p o.b o.s = false) :
    Calls Try.prog 71 #[.pointer (some ⟨cb, 0, none⟩), .agg #[.int .i64 o.k, .int .i64 o.p, .int .i64 o.b, .int .i64 o.s]] w fun e w' => e = .returned (.int .i64 (mayT x.text.length x.ho.length o)) ∧ Below w.heap.size w w' := by
  obtain ⟨⟨vo, vq, he⟩, h4, h5⟩ := h
  obtain ⟨va, vc, hv⟩ := rowq_len he.qo
  subst hv
  have c2 : w.cell? ⟨cb, 2, none⟩ = some (.slice va x.ho.length vc) := he.c2
  have lt := he.lt
  clear he
  have HR : Hid (∀ W, Calls Try.prog 31 #[.agg #[.int .i64 o.k, .int .i64 o.p, .int .i64 o.b, .int .i64 o.s]] W fun e w' => e = .returned (.bool false) ∧ Below W.heap.size W w') := fun W => by rw [← hr]; exact opRight_any _ _ _ _ W
  have HF : Hid (∀ W, Calls Try.prog 33 #[.int .i64 (x.text.length : Int), .agg #[.int .i64 o.k, .int .i64 o.p, .int .i64 o.b, .int .i64 o.s]] W fun e w' => e = .returned (.bool (fitsB x.text.length o.k o.p)) ∧ Below W.heap.size W w') := fun W => opFits_any _ _ _ _ _ W
  have HCar : Hid (∀ W, Below (w.alloc (.cells #[.int .i64 o.k, .int .i64 o.p, .int .i64 o.b, .int .i64 o.s] 26)).heap.size (w.alloc (.cells #[.int .i64 o.k, .int .i64 o.p, .int .i64 o.b, .int .i64 o.s] 26)) W → (W.cell? ⟨w.heap.size, 0, none⟩ = some (.int .i64 o.k) ∧ W.cell? ⟨w.heap.size, 1, none⟩ = some (.int .i64 o.p) ∧ W.cell? ⟨w.heap.size, 2, none⟩ = some (.int .i64 o.b) ∧ W.cell? ⟨w.heap.size, 3, none⟩ = some (.int .i64 o.s)) ∧ W.cell? ⟨cb, 5, none⟩ = some (dstr x.text) ∧ W.cell? ⟨cb, 2, none⟩ = some (.slice va x.ho.length vc)) := fun W hW => by
    have g : ∀ j, W.cell? ⟨w.heap.size, j, none⟩ = _ := fun j => hW.cell (p := ⟨w.heap.size, j, none⟩) (by simp)
    have k : ∀ j, W.cell? ⟨cb, j, none⟩ = _ := fun j => hW.cell (p := ⟨cb, j, none⟩) (by simp; omega)
    refine ⟨⟨(g 0).trans ?_, (g 1).trans ?_, (g 2).trans ?_, (g 3).trans ?_⟩, (k 5).trans ?_, (k 2).trans ?_⟩
    all_goals simp [go_sem, lt, h5, c2]
  have hsz : (ByteArray.mk x.text.toArray).size = x.text.length := by show x.text.toArray.size = _; simp
  have em : mayT x.text.length x.ho.length o = 2 := by unfold mayT; rw [if_pos (Or.inl hr)]
  rw [em]
  clear em
  go_enter Try.func71, Try.ntmps71
  go_wp2_with fail
  first | (go_region_with ((first | (go_at_call 31; refine (HR.out _).mono ?_; rintro e w1 ⟨rfl, hb1⟩; have hbw : Below (w.alloc (.cells #[.int .i64 o.k, .int .i64 o.p, .int .i64 o.b, .int .i64 o.s] 26)).heap.size (w.alloc (.cells #[.int .i64 o.k, .int .i64 o.p, .int .i64 o.b, .int .i64 o.s] 26)) w1 := bel_trans (by repeat (first | exact Below.refl _ _ | apply Below.drew | refine bel_alloc ?_ _)) hb1; obtain ⟨⟨t0, t1, t2, t3⟩, t4, t5⟩ := HCar.out _ hbw; have HB1 : Hid (Below (w.alloc (.cells #[.int .i64 o.k, .int .i64 o.p, .int .i64 o.b, .int .i64 o.s] 26)).heap.size (w.alloc (.cells #[.int .i64 o.k, .int .i64 o.p, .int .i64 o.b, .int .i64 o.s] 26)) w1) := hbw; clear hb1 hbw) | (go_at_call 33; refine (HF.out _).mono ?_; rintro e w2 ⟨rfl, hb2⟩; have hbw : Below (w.alloc (.cells #[.int .i64 o.k, .int .i64 o.p, .int .i64 o.b, .int .i64 o.s] 26)).heap.size (w.alloc (.cells #[.int .i64 o.k, .int .i64 o.p, .int .i64 o.b, .int .i64 o.s] 26)) w2 := bel_trans HB1.out hb2; obtain ⟨⟨q0, q1, q2, q3⟩, q4, q5⟩ := HCar.out _ hbw; have HB2 : Hid (Below (w.alloc (.cells #[.int .i64 o.k, .int .i64 o.p, .int .i64 o.b, .int .i64 o.s] 26)).heap.size (w.alloc (.cells #[.int .i64 o.k, .int .i64 o.p, .int .i64 o.b, .int .i64 o.s] 26)) w2) := hbw; clear hb2 hbw)))) | fail
  all_goals go_wp2
  all_goals go_ret
  all_goals exact ⟨rfl, bel_trans (bel_alloc (Below.refl _ _) _) HB1.out⟩
set_option maxHeartbeats 1000000 in
theorem mayType_2 (cb i : Nat) (x : Cli) (go gq : Option Nat) (o : Op4) (w : World) (h : CliMem w cb i x go gq) (hr : rightB o.k o.p o.b o.s = true) (hk : o.k = 0) :
    Calls Try.prog 71 #[.pointer (some ⟨cb, 0, none⟩), .agg #[.int .i64 o.k, .int .i64 o.p, .int .i64 o.b, .int .i64 o.s]] w fun e w' => e = .returned (.int .i64 (mayT x.text.length x.ho.length o)) ∧ Below w.heap.size w w' := by
  obtain ⟨ok, op, ob, os1⟩ := o
  simp only at hr hk
  subst hk
  obtain ⟨⟨vo, vq, he⟩, h4, h5⟩ := h
  obtain ⟨va, vc, hv⟩ := rowq_len he.qo
  subst hv
  have c2 : w.cell? ⟨cb, 2, none⟩ = some (.slice va x.ho.length vc) := he.c2
  have lt := he.lt
  clear he
  have HR : Hid (∀ W, Calls Try.prog 31 #[.agg #[.int .i64 0, .int .i64 op, .int .i64 ob, .int .i64 os1]] W fun e w' => e = .returned (.bool true) ∧ Below W.heap.size W w') := fun W => by rw [← hr]; exact opRight_any _ _ _ _ W
  have HF : Hid (∀ W, Calls Try.prog 33 #[.int .i64 (x.text.length : Int), .agg #[.int .i64 0, .int .i64 op, .int .i64 ob, .int .i64 os1]] W fun e w' => e = .returned (.bool (fitsB x.text.length 0 op)) ∧ Below W.heap.size W w') := fun W => opFits_any _ _ _ _ _ W
  have HCar : Hid (∀ W, Below (w.alloc (.cells #[.int .i64 0, .int .i64 op, .int .i64 ob, .int .i64 os1] 26)).heap.size (w.alloc (.cells #[.int .i64 0, .int .i64 op, .int .i64 ob, .int .i64 os1] 26)) W → (W.cell? ⟨w.heap.size, 0, none⟩ = some (.int .i64 0) ∧ W.cell? ⟨w.heap.size, 1, none⟩ = some (.int .i64 op) ∧ W.cell? ⟨w.heap.size, 2, none⟩ = some (.int .i64 ob) ∧ W.cell? ⟨w.heap.size, 3, none⟩ = some (.int .i64 os1)) ∧ W.cell? ⟨cb, 5, none⟩ = some (dstr x.text) ∧ W.cell? ⟨cb, 2, none⟩ = some (.slice va x.ho.length vc)) := fun W hW => by
    have g : ∀ j, W.cell? ⟨w.heap.size, j, none⟩ = _ := fun j => hW.cell (p := ⟨w.heap.size, j, none⟩) (by simp)
    have k : ∀ j, W.cell? ⟨cb, j, none⟩ = _ := fun j => hW.cell (p := ⟨cb, j, none⟩) (by simp; omega)
    refine ⟨⟨(g 0).trans ?_, (g 1).trans ?_, (g 2).trans ?_, (g 3).trans ?_⟩, (k 5).trans ?_, (k 2).trans ?_⟩
    all_goals simp [go_sem, lt, h5, c2]
  have hsz : (ByteArray.mk x.text.toArray).size = x.text.length := by show x.text.toArray.size = _; simp
  have em : mayT x.text.length x.ho.length ⟨0, op, ob, os1⟩ = 2 := by unfold mayT; simp only; rw [if_pos (Or.inr (Or.inl trivial))]
  rw [em]
  clear em
  go_enter Try.func71, Try.ntmps71
  go_wp2_with fail
  first | (go_region_with ((first | (go_at_call 31; refine (HR.out _).mono ?_; rintro e w1 ⟨rfl, hb1⟩; have hbw : Below (w.alloc (.cells #[.int .i64 0, .int .i64 op, .int .i64 ob, .int .i64 os1] 26)).heap.size (w.alloc (.cells #[.int .i64 0, .int .i64 op, .int .i64 ob, .int .i64 os1] 26)) w1 := bel_trans (by repeat (first | exact Below.refl _ _ | apply Below.drew | refine bel_alloc ?_ _)) hb1; obtain ⟨⟨t0, t1, t2, t3⟩, t4, t5⟩ := HCar.out _ hbw; have HB1 : Hid (Below (w.alloc (.cells #[.int .i64 0, .int .i64 op, .int .i64 ob, .int .i64 os1] 26)).heap.size (w.alloc (.cells #[.int .i64 0, .int .i64 op, .int .i64 ob, .int .i64 os1] 26)) w1) := hbw; clear hb1 hbw) | (go_at_call 33; refine (HF.out _).mono ?_; rintro e w2 ⟨rfl, hb2⟩; have hbw : Below (w.alloc (.cells #[.int .i64 0, .int .i64 op, .int .i64 ob, .int .i64 os1] 26)).heap.size (w.alloc (.cells #[.int .i64 0, .int .i64 op, .int .i64 ob, .int .i64 os1] 26)) w2 := bel_trans HB1.out hb2; obtain ⟨⟨q0, q1, q2, q3⟩, q4, q5⟩ := HCar.out _ hbw; have HB2 : Hid (Below (w.alloc (.cells #[.int .i64 0, .int .i64 op, .int .i64 ob, .int .i64 os1] 26)).heap.size (w.alloc (.cells #[.int .i64 0, .int .i64 op, .int .i64 ob, .int .i64 os1] 26)) w2) := hbw; clear hb2 hbw)))) | fail
  all_goals go_wp2
  all_goals go_ret
  all_goals exact ⟨rfl, bel_trans (bel_alloc (Below.refl _ _) _) HB1.out⟩
set_option maxHeartbeats 1000000 in
theorem mayType_3 (cb i : Nat) (x : Cli) (go gq : Option Nat) (o : Op4) (w : World) (h : CliMem w cb i x go gq) (hr : rightB o.k o.p o.b o.s = true) (hk : (o.k == 0) = false) (hf : fitsB x.text.length o.k o.p = false) :
    Calls Try.prog 71 #[.pointer (some ⟨cb, 0, none⟩), .agg #[.int .i64 o.k, .int .i64 o.p, .int .i64 o.b, .int .i64 o.s]] w fun e w' => e = .returned (.int .i64 (mayT x.text.length x.ho.length o)) ∧ Below w.heap.size w w' := by
  obtain ⟨⟨vo, vq, he⟩, h4, h5⟩ := h
  obtain ⟨va, vc, hv⟩ := rowq_len he.qo
  subst hv
  have c2 : w.cell? ⟨cb, 2, none⟩ = some (.slice va x.ho.length vc) := he.c2
  have lt := he.lt
  clear he
  have HR : Hid (∀ W, Calls Try.prog 31 #[.agg #[.int .i64 o.k, .int .i64 o.p, .int .i64 o.b, .int .i64 o.s]] W fun e w' => e = .returned (.bool true) ∧ Below W.heap.size W w') := fun W => by rw [← hr]; exact opRight_any _ _ _ _ W
  have HF : Hid (∀ W, Calls Try.prog 33 #[.int .i64 (x.text.length : Int), .agg #[.int .i64 o.k, .int .i64 o.p, .int .i64 o.b, .int .i64 o.s]] W fun e w' => e = .returned (.bool false) ∧ Below W.heap.size W w') := fun W => by rw [← hf]; exact opFits_any _ _ _ _ _ W
  have HCar : Hid (∀ W, Below (w.alloc (.cells #[.int .i64 o.k, .int .i64 o.p, .int .i64 o.b, .int .i64 o.s] 26)).heap.size (w.alloc (.cells #[.int .i64 o.k, .int .i64 o.p, .int .i64 o.b, .int .i64 o.s] 26)) W → (W.cell? ⟨w.heap.size, 0, none⟩ = some (.int .i64 o.k) ∧ W.cell? ⟨w.heap.size, 1, none⟩ = some (.int .i64 o.p) ∧ W.cell? ⟨w.heap.size, 2, none⟩ = some (.int .i64 o.b) ∧ W.cell? ⟨w.heap.size, 3, none⟩ = some (.int .i64 o.s)) ∧ W.cell? ⟨cb, 5, none⟩ = some (dstr x.text) ∧ W.cell? ⟨cb, 2, none⟩ = some (.slice va x.ho.length vc)) := fun W hW => by
    have g : ∀ j, W.cell? ⟨w.heap.size, j, none⟩ = _ := fun j => hW.cell (p := ⟨w.heap.size, j, none⟩) (by simp)
    have k : ∀ j, W.cell? ⟨cb, j, none⟩ = _ := fun j => hW.cell (p := ⟨cb, j, none⟩) (by simp; omega)
    refine ⟨⟨(g 0).trans ?_, (g 1).trans ?_, (g 2).trans ?_, (g 3).trans ?_⟩, (k 5).trans ?_, (k 2).trans ?_⟩
    all_goals simp [go_sem, lt, h5, c2]
  have hsz : (ByteArray.mk x.text.toArray).size = x.text.length := by show x.text.toArray.size = _; simp
  have em : mayT x.text.length x.ho.length o = 2 := by unfold mayT; rw [if_pos (Or.inr (Or.inr hf))]
  rw [em]
  clear em
  go_enter Try.func71, Try.ntmps71
  go_wp2_with fail
  go_region_with ((first | (go_at_call 31; refine (HR.out _).mono ?_; rintro e w1 ⟨rfl, hb1⟩; have hbw : Below (w.alloc (.cells #[.int .i64 o.k, .int .i64 o.p, .int .i64 o.b, .int .i64 o.s] 26)).heap.size (w.alloc (.cells #[.int .i64 o.k, .int .i64 o.p, .int .i64 o.b, .int .i64 o.s] 26)) w1 := bel_trans (by repeat (first | exact Below.refl _ _ | apply Below.drew | refine bel_alloc ?_ _)) hb1; obtain ⟨⟨t0, t1, t2, t3⟩, t4, t5⟩ := HCar.out _ hbw; have HB1 : Hid (Below (w.alloc (.cells #[.int .i64 o.k, .int .i64 o.p, .int .i64 o.b, .int .i64 o.s] 26)).heap.size (w.alloc (.cells #[.int .i64 o.k, .int .i64 o.p, .int .i64 o.b, .int .i64 o.s] 26)) w1) := hbw; clear hb1 hbw) | (go_at_call 33; refine (HF.out _).mono ?_; rintro e w2 ⟨rfl, hb2⟩; have hbw : Below (w.alloc (.cells #[.int .i64 o.k, .int .i64 o.p, .int .i64 o.b, .int .i64 o.s] 26)).heap.size (w.alloc (.cells #[.int .i64 o.k, .int .i64 o.p, .int .i64 o.b, .int .i64 o.s] 26)) w2 := bel_trans HB1.out hb2; obtain ⟨⟨q0, q1, q2, q3⟩, q4, q5⟩ := HCar.out _ hbw; have HB2 : Hid (Below (w.alloc (.cells #[.int .i64 o.k, .int .i64 o.p, .int .i64 o.b, .int .i64 o.s] 26)).heap.size (w.alloc (.cells #[.int .i64 o.k, .int .i64 o.p, .int .i64 o.b, .int .i64 o.s] 26)) w2) := hbw; clear hb2 hbw)))
  all_goals go_wp2
  all_goals go_ret
  all_goals exact ⟨rfl, bel_trans (bel_alloc (Below.refl _ _) _) HB2.out⟩
set_option maxHeartbeats 1000000 in
theorem mayType_4 (cb i : Nat) (x : Cli) (go gq : Option Nat) (o : Op4) (w : World) (h : CliMem w cb i x go gq) (hr : rightB o.k o.p o.b o.s = true) (hk : (o.k == 0) = false) (hf : fitsB x.text.length o.k o.p = true) :
    Calls Try.prog 71 #[.pointer (some ⟨cb, 0, none⟩), .agg #[.int .i64 o.k, .int .i64 o.p, .int .i64 o.b, .int .i64 o.s]] w fun e w' => e = .returned (.int .i64 (mayT x.text.length x.ho.length o)) ∧ Below w.heap.size w w' := by
  obtain ⟨⟨vo, vq, he⟩, h4, h5⟩ := h
  obtain ⟨va, vc, hv⟩ := rowq_len he.qo
  subst hv
  have c2 : w.cell? ⟨cb, 2, none⟩ = some (.slice va x.ho.length vc) := he.c2
  have lt := he.lt
  clear he
  have HR : Hid (∀ W, Calls Try.prog 31 #[.agg #[.int .i64 o.k, .int .i64 o.p, .int .i64 o.b, .int .i64 o.s]] W fun e w' => e = .returned (.bool true) ∧ Below W.heap.size W w') := fun W => by rw [← hr]; exact opRight_any _ _ _ _ W
  have HF : Hid (∀ W, Calls Try.prog 33 #[.int .i64 (x.text.length : Int), .agg #[.int .i64 o.k, .int .i64 o.p, .int .i64 o.b, .int .i64 o.s]] W fun e w' => e = .returned (.bool true) ∧ Below W.heap.size W w') := fun W => by rw [← hf]; exact opFits_any _ _ _ _ _ W
  have HCar : Hid (∀ W, Below (w.alloc (.cells #[.int .i64 o.k, .int .i64 o.p, .int .i64 o.b, .int .i64 o.s] 26)).heap.size (w.alloc (.cells #[.int .i64 o.k, .int .i64 o.p, .int .i64 o.b, .int .i64 o.s] 26)) W → (W.cell? ⟨w.heap.size, 0, none⟩ = some (.int .i64 o.k) ∧ W.cell? ⟨w.heap.size, 1, none⟩ = some (.int .i64 o.p) ∧ W.cell? ⟨w.heap.size, 2, none⟩ = some (.int .i64 o.b) ∧ W.cell? ⟨w.heap.size, 3, none⟩ = some (.int .i64 o.s)) ∧ W.cell? ⟨cb, 5, none⟩ = some (dstr x.text) ∧ W.cell? ⟨cb, 2, none⟩ = some (.slice va x.ho.length vc)) := fun W hW => by
    have g : ∀ j, W.cell? ⟨w.heap.size, j, none⟩ = _ := fun j => hW.cell (p := ⟨w.heap.size, j, none⟩) (by simp)
    have k : ∀ j, W.cell? ⟨cb, j, none⟩ = _ := fun j => hW.cell (p := ⟨cb, j, none⟩) (by simp; omega)
    refine ⟨⟨(g 0).trans ?_, (g 1).trans ?_, (g 2).trans ?_, (g 3).trans ?_⟩, (k 5).trans ?_, (k 2).trans ?_⟩
    all_goals simp [go_sem, lt, h5, c2]
  have hsz : (ByteArray.mk x.text.toArray).size = x.text.length := by show x.text.toArray.size = _; simp
  have hk0 : ¬ (o.k = 0) := by simpa using hk
  have em : mayT x.text.length x.ho.length o = if o.k = 1 ∧ 60 ≤ x.text.length then 3 else if 20 ≤ x.ho.length then 4 else 0 := by unfold mayT; rw [if_neg (by rw [hr, hf]; simp [hk0])]
  rw [em]
  clear em hk0
  go_enter Try.func71, Try.ntmps71
  go_wp2_with fail
  go_region_with ((first | (go_at_call 31; refine (HR.out _).mono ?_; rintro e w1 ⟨rfl, hb1⟩; have hbw : Below (w.alloc (.cells #[.int .i64 o.k, .int .i64 o.p, .int .i64 o.b, .int .i64 o.s] 26)).heap.size (w.alloc (.cells #[.int .i64 o.k, .int .i64 o.p, .int .i64 o.b, .int .i64 o.s] 26)) w1 := bel_trans (by repeat (first | exact Below.refl _ _ | apply Below.drew | refine bel_alloc ?_ _)) hb1; obtain ⟨⟨t0, t1, t2, t3⟩, t4, t5⟩ := HCar.out _ hbw; have HB1 : Hid (Below (w.alloc (.cells #[.int .i64 o.k, .int .i64 o.p, .int .i64 o.b, .int .i64 o.s] 26)).heap.size (w.alloc (.cells #[.int .i64 o.k, .int .i64 o.p, .int .i64 o.b, .int .i64 o.s] 26)) w1) := hbw; clear hb1 hbw) | (go_at_call 33; refine (HF.out _).mono ?_; rintro e w2 ⟨rfl, hb2⟩; have hbw : Below (w.alloc (.cells #[.int .i64 o.k, .int .i64 o.p, .int .i64 o.b, .int .i64 o.s] 26)).heap.size (w.alloc (.cells #[.int .i64 o.k, .int .i64 o.p, .int .i64 o.b, .int .i64 o.s] 26)) w2 := bel_trans HB1.out hb2; obtain ⟨⟨q0, q1, q2, q3⟩, q4, q5⟩ := HCar.out _ hbw; have HB2 : Hid (Below (w.alloc (.cells #[.int .i64 o.k, .int .i64 o.p, .int .i64 o.b, .int .i64 o.s] 26)).heap.size (w.alloc (.cells #[.int .i64 o.k, .int .i64 o.p, .int .i64 o.b, .int .i64 o.s] 26)) w2) := hbw; clear hb2 hbw)))
  all_goals go_wp2
  all_goals go_ret
  all_goals exact ⟨rfl, bel_trans (bel_alloc (Below.refl _ _) _) HB2.out⟩
theorem mayType_any (cb i : Nat) (x : Cli) (go gq : Option Nat) (o : Op4) (w : World) (h : CliMem w cb i x go gq) :
    Calls Try.prog 71 #[.pointer (some ⟨cb, 0, none⟩), .agg #[.int .i64 o.k, .int .i64 o.p, .int .i64 o.b, .int .i64 o.s]] w fun e w' => e = .returned (.int .i64 (mayT x.text.length x.ho.length o)) ∧ Below w.heap.size w w' := by
  cases hr : rightB o.k o.p o.b o.s
  · exact mayType_1 cb i x go gq o w h hr
  · by_cases hk : o.k = 0
    · exact mayType_2 cb i x go gq o w h hr hk
    · cases hf : fitsB x.text.length o.k o.p
      · exact mayType_3 cb i x go gq o w h hr (by simpa using hk) hf
      · exact mayType_4 cb i x go gq o w h hr (by simpa using hk) hf
end Go.Proofs.Ytabahmcbhapbiaa
