import Derived.Test.YtabahmcbhapbiaaSquareTop
namespace Go.Proofs.Ytabahmcbhapbiaa
open Go.RowKit Go.Lib
set_option linter.unusedVariables false
set_option maxHeartbeats 1000000 in
theorem undone_long (t : List UInt8) (xk xp xb xs site : Int) (h5 : (500 : Int) < (t.length : Int)) (w : World) :
    Calls Try.prog 5 #[dstr t, .agg #[.int .i64 xk, .int .i64 xp, .int .i64 xb, .int .i64 xs], .int .i64 site] w fun e w' => e = .returned (.bool true) ∧ Below w.heap.size w w' := by
  have HA : Hid (∀ W, Calls Try.prog 13 #[] W fun e w' => e = .returned (.bool true) ∧ Below W.heap.size W w') := fun W => awake_any W
  have hsz := dstr_size t
  go_enter Try.func5, Try.ntmps5
  go_wp2_with fail
  refine (HA.out _).mono ?_
  rintro e w1 ⟨rfl, hb1⟩
  have HB1 : Hid (Below w.heap.size w w1) := bel_trans (bel_alloc (Below.refl _ _) _) hb1
  clear hb1
  go_wp2
  go_ret
  exact ⟨rfl, HB1.out⟩
set_option maxHeartbeats 2000000 in
theorem undone_yes (t s : List UInt8) (xk xp xb xs site : Int) (ap ab as1 sn : Nat) (h5 : (t.length : Int) ≤ 500) (hs : s.length = t.length + 1) (hap : ap ≤ t.length) (hab : ab ≤ 255) (hat : s[ap]? = some (UInt8.ofNat ab))
    (HX : Hid (∀ W, Calls Try.prog 14 #[.agg #[.int .i64 0, .int .i64 xp, .int .i64 xb, .int .i64 xs], .int .i64 (t.length : Int)] W fun e w' => e = .returned (.tuple #[.agg #[.int .i64 1, .int .i64 (ap : Int), .int .i64 (ab : Int), .int .i64 (as1 : Int)], .bool true]) ∧ Below W.heap.size W w'))
    (HP1 : Hid (∀ W, Calls Try.prog 16 #[dstr t, .agg #[.int .i64 1, .int .i64 (ap : Int), .int .i64 (ab : Int), .int .i64 (as1 : Int)]] W fun e w' => e = .returned (.tuple #[dstr s, .int .i64 0]) ∧ Below W.heap.size W w'))
    (HP2 : Hid (∀ W, Calls Try.prog 16 #[dstr s, .agg #[.int .i64 2, .int .i64 (ap : Int), .int .i64 0, .int .i64 0]] W fun e w' => e = .returned (.tuple #[dstr t, .int .i64 0]) ∧ Below W.heap.size W w'))
    (HPk : Hid (∀ W, Calls Try.prog 17 #[.int .i64 site, .int .i64 4] W fun e w' => e = .returned (.int .i64 (sn : Int)) ∧ W = w'))
    (HT1 : Hid (∀ W, Calls Try.prog 15 #[.agg #[.int .i64 1, .int .i64 (ap : Int), .int .i64 (ab : Int), .int .i64 (as1 : Int)], .agg #[.int .i64 0, .int .i64 0, .int .i64 0, .int .i64 (sn : Int)]] W fun e w' => e = .returned (.tuple #[.agg #[.int .i64 1, .int .i64 (ap : Int), .int .i64 (ab : Int), .int .i64 (as1 : Int)], .agg #[.int .i64 0, .int .i64 0, .int .i64 0, .int .i64 (sn : Int)], .int .i64 0]) ∧ Below W.heap.size W w'))
    (HT2 : Hid (∀ W, Calls Try.prog 15 #[.agg #[.int .i64 2, .int .i64 (ap : Int), .int .i64 0, .int .i64 (sn : Int)], .agg #[.int .i64 2, .int .i64 (ap : Int), .int .i64 0, .int .i64 (as1 : Int)]] W fun e w' => e = .returned (.tuple #[.agg #[.int .i64 0, .int .i64 0, .int .i64 0, .int .i64 (sn : Int)], .agg #[.int .i64 0, .int .i64 0, .int .i64 0, .int .i64 (as1 : Int)], .int .i64 0]) ∧ Below W.heap.size W w')) (w : World) :
    Calls Try.prog 5 #[dstr t, .agg #[.int .i64 xk, .int .i64 xp, .int .i64 xb, .int .i64 xs], .int .i64 site] w fun e w' => e = .returned (.bool true) ∧ Below w.heap.size w w' := by
  have HA : Hid (∀ W, Calls Try.prog 13 #[] W fun e w' => e = .returned (.bool true) ∧ Below W.heap.size W w') := fun W => awake_any W
  have hsz := dstr_size t
  have hsz2 := dstr_size s
  go_enter Try.func5, Try.ntmps5
  go_wp2_with fail
  refine (HA.out _).mono ?_
  rintro e w1 ⟨rfl, hb1⟩
  have HB1 : Hid (Below w.heap.size w w1) := bel_trans (bel_alloc (Below.refl _ _) _) hb1
  obtain ⟨hc1, hf1⟩ := bcell hb1
  have x0 := hc1 w.heap.size 0 (by simp)
  have x1 := hc1 w.heap.size 1 (by simp)
  have x2 := hc1 w.heap.size 2 (by simp)
  have x3 := hc1 w.heap.size 3 (by simp)
  have xf := fun j => hf1 w.heap.size j (by simp)
  simp [go_sem] at x0 x1 x2 x3 xf
  have l0 : w.heap.size < w1.heap.size := by have := hb1.size; simp at this; omega
  clear hc1 hf1 hb1 HA
  go_wp2_with fail
  refine (HX.out _).mono ?_
  rintro e w2 ⟨rfl, hb2⟩
  have HB2 : Hid (Below w.heap.size w w2) := bel_trans (bel_set HB1.out (p := ⟨w.heap.size, 0, none⟩) (Nat.le_refl _) _) hb2
  clear hb2 HX x0 x1 x2 x3 xf
  go_wp2_with fail
  refine (HP1.out _).mono ?_
  rintro e w3 ⟨rfl, hb3⟩
  have HB3 : Hid (Below w.heap.size w w3) := bel_trans (bel_trans HB2.out (by repeat (first | exact Below.refl _ _ | apply Below.drew | refine bel_alloc ?_ _))) hb3
  have la3 : w2.heap.size < w3.heap.size := by have := hb3.size; simp at this; omega
  obtain ⟨hc3, hf3⟩ := bcell hb3
  have A0_3 := hc3 w2.heap.size 0 (by simp)
  have A1_3 := hc3 w2.heap.size 1 (by simp)
  have A2_3 := hc3 w2.heap.size 2 (by simp)
  have A3_3 := hc3 w2.heap.size 3 (by simp)
  simp [go_sem] at A0_3 A1_3 A2_3 A3_3
  clear hb3 hc3 hf3 HP1
  go_wp2_with fail
  refine (HP2.out _).mono ?_
  rintro e w4 ⟨rfl, hb4⟩
  have HB4 : Hid (Below w.heap.size w w4) := bel_trans (bel_trans HB3.out (by repeat (first | exact Below.refl _ _ | apply Below.drew | refine bel_alloc ?_ _))) hb4
  have la4 : w2.heap.size < w4.heap.size := by have := hb4.size; omega
  have la41 : w2.heap.size < w4.heap.size + 1 := by omega
  obtain ⟨hc4, hf4⟩ := bcell hb4
  have A0_4 := (hc4 w2.heap.size 0 la3).trans A0_3
  have A1_4 := (hc4 w2.heap.size 1 la3).trans A1_3
  have A2_4 := (hc4 w2.heap.size 2 la3).trans A2_3
  have A3_4 := (hc4 w2.heap.size 3 la3).trans A3_3
  clear hb4 hc4 hf4 HP2 A0_3 A1_3 A2_3 A3_3
  go_wp2_with (go_at_call 17; refine (HPk.out _).mono ?_; rintro e wp ⟨rfl, rfl⟩)
  refine (HT1.out _).mono ?_
  rintro e w5 ⟨rfl, hb5⟩
  have HB5 : Hid (Below w.heap.size w w5) := bel_trans (bel_trans HB4.out (by repeat (first | exact Below.refl _ _ | apply Below.drew | refine bel_alloc ?_ _))) hb5
  have ln5 : w4.heap.size < w5.heap.size := by have := hb5.size; simp at this; omega
  have la5 : w2.heap.size < w5.heap.size := by omega
  obtain ⟨hc5, hf5⟩ := bcell hb5
  have A0_5 := hc5 w2.heap.size 0 (by simp; omega)
  have A1_5 := hc5 w2.heap.size 1 (by simp; omega)
  have A2_5 := hc5 w2.heap.size 2 (by simp; omega)
  have A3_5 := hc5 w2.heap.size 3 (by simp; omega)
  have N0_5 := hc5 w4.heap.size 0 (by simp)
  have N1_5 := hc5 w4.heap.size 1 (by simp)
  have N2_5 := hc5 w4.heap.size 2 (by simp)
  have N3_5 := hc5 w4.heap.size 3 (by simp)
  simp [go_sem, la4, A0_4, A1_4, A2_4, A3_4] at A0_5 A1_5 A2_5 A3_5 N0_5 N1_5 N2_5 N3_5
  clear hb5 hc5 hf5 HT1 A0_4 A1_4 A2_4 A3_4
  have la51 : w2.heap.size < w5.heap.size + 1 := by omega
  have la52 : w2.heap.size < w5.heap.size + 1 + 1 := by omega
  have la53 : w2.heap.size < w5.heap.size + 1 + 1 + 1 := by omega
  have ln51 : w4.heap.size < w5.heap.size + 1 := by omega
  have ln52 : w4.heap.size < w5.heap.size + 1 + 1 := by omega
  have ln53 : w4.heap.size < w5.heap.size + 1 + 1 + 1 := by omega
  go_wp2_with fail
  refine (HT2.out _).mono ?_
  rintro e w6 ⟨rfl, hb6⟩
  have HB6 : Hid (Below w.heap.size w w6) := bel_trans (bel_trans HB5.out (by repeat (first | exact Below.refl _ _ | apply Below.drew | refine bel_alloc ?_ _))) hb6
  have lc6 : w5.heap.size + 1 < w6.heap.size := by have := hb6.size; simp at this; omega
  have lb6 : w5.heap.size < w6.heap.size := by omega
  have ln6 : w4.heap.size < w6.heap.size := by omega
  have la6 : w2.heap.size < w6.heap.size := by omega
  obtain ⟨hc6, hf6⟩ := bcell hb6
  have A0_6 := hc6 w2.heap.size 0 (by simp; omega)
  have A1_6 := hc6 w2.heap.size 1 (by simp; omega)
  have A2_6 := hc6 w2.heap.size 2 (by simp; omega)
  have A3_6 := hc6 w2.heap.size 3 (by simp; omega)
  have N0_6 := hc6 w4.heap.size 0 (by simp; omega)
  have N1_6 := hc6 w4.heap.size 1 (by simp; omega)
  have N2_6 := hc6 w4.heap.size 2 (by simp; omega)
  have N3_6 := hc6 w4.heap.size 3 (by simp; omega)
  have B0_6 := hc6 w5.heap.size 0 (by simp; omega)
  have B1_6 := hc6 w5.heap.size 1 (by simp; omega)
  have B2_6 := hc6 w5.heap.size 2 (by simp; omega)
  have B3_6 := hc6 w5.heap.size 3 (by simp; omega)
  have C0_6 := hc6 (w5.heap.size + 1) 0 (by simp)
  have C1_6 := hc6 (w5.heap.size + 1) 1 (by simp)
  have C2_6 := hc6 (w5.heap.size + 1) 2 (by simp)
  have C3_6 := hc6 (w5.heap.size + 1) 3 (by simp)
  simp [go_sem, la5, ln5, la51, ln51, la52, ln52, A0_5, A1_5, A2_5, A3_5, N0_5, N1_5, N2_5, N3_5] at A0_6 A1_6 A2_6 A3_6 N0_6 N1_6 N2_6 N3_6 B0_6 B1_6 B2_6 B3_6 C0_6 C1_6 C2_6 C3_6
  clear hb6 hc6 hf6 HT2 A0_5 A1_5 A2_5 A3_5 N0_5 N1_5 N2_5 N3_5
  have la61 : w2.heap.size < w6.heap.size + 1 := by omega
  have la62 : w2.heap.size < w6.heap.size + 1 + 1 := by omega
  have ln61 : w4.heap.size < w6.heap.size + 1 := by omega
  have ln62 : w4.heap.size < w6.heap.size + 1 + 1 := by omega
  have lb61 : w5.heap.size < w6.heap.size + 1 := by omega
  have lb62 : w5.heap.size < w6.heap.size + 1 + 1 := by omega
  have lc61 : w5.heap.size + 1 < w6.heap.size + 1 := by omega
  have lc62 : w5.heap.size + 1 < w6.heap.size + 1 + 1 := by omega
  have hix : (ap : Int) < (s.length : Int) := by omega
  have hix2 : ap < s.length := by omega
  have hby : ∀ h, (((⟨s.toArray⟩ : ByteArray)[ap]'h).toNat : Int) = (ab : Int) := fun h => by
    have e : (⟨s.toArray⟩ : ByteArray)[ap]'h = s[ap] := rfl
    rw [e]
    rw [List.getElem?_eq_getElem hix2] at hat
    rw [Option.some.inj hat, UInt8.toNat_ofNat']
    omega
  have hwr : IntKind.u8.wrap (ab : Int) = (ab : Int) := by
    have e : IntKind.u8.wrap (ab : Int) = (ab : Int) % 256 := rfl
    rw [e]
    omega
  clear hat
  go_wp2_with fail
  go_region_held3 (fun W => W.cell? ⟨w2.heap.size, 0, none⟩ = some (.int .i64 1) ∧ W.cell? ⟨w2.heap.size, 1, none⟩ = some (.int .i64 (ap : Int)) ∧ W.cell? ⟨w2.heap.size, 2, none⟩ = some (.int .i64 (ab : Int)) ∧ W.cell? ⟨w2.heap.size, 3, none⟩ = some (.int .i64 (as1 : Int)) ∧ W.cell? ⟨w4.heap.size, 0, none⟩ = some (.int .i64 0) ∧ W.cell? ⟨w4.heap.size, 1, none⟩ = some (.int .i64 0) ∧ W.cell? ⟨w4.heap.size, 2, none⟩ = some (.int .i64 0) ∧ W.cell? ⟨w4.heap.size, 3, none⟩ = some (.int .i64 (sn : Int)) ∧ W.cell? ⟨w5.heap.size, 0, none⟩ = some (.int .i64 1) ∧ W.cell? ⟨w5.heap.size, 1, none⟩ = some (.int .i64 (ap : Int)) ∧ W.cell? ⟨w5.heap.size, 2, none⟩ = some (.int .i64 (ab : Int)) ∧ W.cell? ⟨w5.heap.size, 3, none⟩ = some (.int .i64 (as1 : Int)) ∧ W.cell? ⟨(w5.heap.size + 1), 0, none⟩ = some (.int .i64 0) ∧ W.cell? ⟨(w5.heap.size + 1), 1, none⟩ = some (.int .i64 0) ∧ W.cell? ⟨(w5.heap.size + 1), 2, none⟩ = some (.int .i64 0) ∧ W.cell? ⟨(w5.heap.size + 1), 3, none⟩ = some (.int .i64 (sn : Int)) ∧ W.cell? ⟨w6.heap.size, 0, none⟩ = some (.int .i64 0) ∧ W.cell? ⟨w6.heap.size, 1, none⟩ = some (.int .i64 0) ∧ W.cell? ⟨w6.heap.size, 2, none⟩ = some (.int .i64 0) ∧ W.cell? ⟨w6.heap.size, 3, none⟩ = some (.int .i64 (sn : Int)) ∧ W.cell? ⟨(w6.heap.size + 1), 0, none⟩ = some (.int .i64 0) ∧ W.cell? ⟨(w6.heap.size + 1), 1, none⟩ = some (.int .i64 0) ∧ W.cell? ⟨(w6.heap.size + 1), 2, none⟩ = some (.int .i64 0) ∧ W.cell? ⟨(w6.heap.size + 1), 3, none⟩ = some (.int .i64 (as1 : Int))) (simp [go_sem, *]) (fail)
  all_goals go_wp2
  all_goals go_ret
  all_goals exact ⟨rfl, by refine bel_trans HB6.out ?_; repeat (first | exact Below.refl _ _ | apply Below.drew | refine bel_alloc ?_ _)⟩
end Go.Proofs.Ytabahmcbhapbiaa
namespace Go.Proofs.Ytabahmcbhapbiaa
open Go.ChangeShapes Go.WideShapes Go.ChangeAt Go.RowKit
set_option linter.unusedVariables false
theorem del_ins (t : List UInt8) (i : Nat) (x : UInt8) (h : i ≤ t.length) : del (ins t i x) i = t := by
  apply List.ext_getElem?
  intro j
  rw [del_get _ _ (by rw [ins_len _ _ _ h]; omega), ins_get _ _ _ h, ins_get _ _ _ h]
  by_cases e : j < i
  · rw [if_pos e, if_pos e]
  · rw [if_neg e, if_neg (by omega), if_neg (by omega)]
    rfl
theorem undone_any (t : List UInt8) (xk xp xb xs site : Int) (hx : I64 xk ∧ I64 xp ∧ I64 xb ∧ I64 xs) (hs : I64 site) (w : World) :
    Calls Try.prog 5 #[dstr t, .agg #[.int .i64 xk, .int .i64 xp, .int .i64 xb, .int .i64 xs], .int .i64 site] w fun e w' => e = .returned (.bool true) ∧ Below w.heap.size w w' := by
  by_cases h5 : 500 < t.length
  · exact undone_long t xk xp xb xs site (by omega) w
  · have l1 := pickN_lt xp (n := t.length + 1) (by omega)
    have l2 := pickN_lt xb (n := 256) (by omega)
    have l3 := pickN_lt xs (n := 4) (by omega)
    have l4 := pickN_lt site (n := 4) (by omega)
    have HX := hidP (fun W => keepOp_ins 0 xp xb xs (by unfold I64; omega) hx.2.1 hx.2.2.1 hx.2.2.2 t.length (by omega) (by decide) W)
    have HPk := hidP (fun W => pick_any site hs 4 (by omega) (by omega) W)
    generalize pickN xp (t.length + 1) = ap at *
    generalize pickN xb 256 = ab at *
    generalize pickN xs 4 = as1 at *
    generalize pickN site 4 = sn at *
    have ra : rightB 1 (ap : Int) (ab : Int) (as1 : Int) = true := by rw [rightB_iff]; omega
    have rd : rightB 2 (ap : Int) 0 0 = true := by rw [rightB_iff]; omega
    have rn : rightB 0 0 0 (sn : Int) = true := by rw [rightB_iff]; omega
    have r1 : rightB 2 (ap : Int) 0 (sn : Int) = true := by rw [rightB_iff]; omega
    have r2 : rightB 2 (ap : Int) 0 (as1 : Int) = true := by rw [rightB_iff]; omega
    have hl : ap ≤ t.length := by omega
    have h1 : app t ⟨1, ap, ab, as1⟩ = some (ins t ap (UInt8.ofNat ab)) := by
      rw [app_1 rfl, if_pos (by simpa using hl)]
      simp
    have h2 : app (ins t ap (UInt8.ofNat ab)) ⟨2, ap, 0, 0⟩ = some t := by
      rw [app_2 rfl, if_pos (by rw [ins_len _ _ _ hl]; simp; omega)]
      simp [del_ins t ap _ hl]
    have HP1 := hidP (fun W => apply_app (o := ⟨1, ap, ab, as1⟩) ra h1 (by omega) W)
    have HP2 := hidP (fun W => apply_app (o := ⟨2, ap, 0, 0⟩) rd h2 (by rw [ins_len _ _ _ hl]; omega) W)
    have HT1 : Hid _ := hidP (fun W => turn_right (a := ⟨1, ap, ab, as1⟩) (b := ⟨0, 0, 0, sn⟩) ra rn W)
    rw [turn_none' _ _ rfl] at HT1
    have HT2 : Hid _ := hidP (fun W => turn_right (a := ⟨2, ap, 0, sn⟩) (b := ⟨2, ap, 0, as1⟩) r1 r2 W)
    rw [show turn ⟨2, ap, 0, sn⟩ ⟨2, ap, 0, as1⟩ = (⟨0, 0, 0, sn⟩, ⟨0, 0, 0, as1⟩) by unfold turn; simp] at HT2
    exact undone_yes t (ins t ap (UInt8.ofNat ab)) xk xp xb xs site ap ab as1 sn (by omega) (ins_len _ _ _ hl) hl (by omega) (by rw [ins_get _ _ _ hl]; simp) HX HP1 HP2 HPk HT1 HT2 w
set_option maxRecDepth 100000 in
theorem undone_lifted (os : Os) (started : os.Started) (H : Type) (enc : TypeId × Value → H) :
    ReturnsInHanded {} Try.checked os 5 .any (Rows.undoneSpec.pre6 enc Try.prog Try.f5 Rows.undoneRow.domain false) (Rows.undoneSpec.post enc Try.prog Try.f5 false true false false) := by
  refine returnsInHanded_of_change_sized (C := Try.checked) kown started (by kernel_rfl) Try.func5
    (ChangeSpec.witness6 (enc := enc) (C := Try.checked) false ⟨#[], #[.string ⟨#[]⟩, .agg #[.int .i64 0, .int .i64 0, .int .i64 0, .int .i64 0], .int .i64 0], []⟩ 8 (by kernel_rfl) (by kernel_rfl) (by kernel_rfl) (by kernel_rfl)) ?_
  intro W base args ds gs before hval0 hW hcnd hsz0 _
  have hval : ∀ (j : Nat) t v, Try.f5.params[j]? = some t → args[j]? = some v → Value.okWide Try.prog W .any base t v := hval0
  have hW' := hW
  obtain ⟨p, q, hA0, hV, rfl, hfz, hnd⟩ := hW
  have hA : DataW.TrodAll enc Try.prog W 0 (fun _ => true) true Try.f5.params.toList args.toList ds p := hA0
  rw [Try.params5] at hA hval
  obtain ⟨v0, vs0, d0, ds0, p0, q0, hargs, rfl, rfl, h0, r0⟩ := trodAll_cons hA
  obtain ⟨v1, vs1, d1, ds1, p1, q1, e1, rfl, rfl, h1, r1⟩ := trodAll_cons r0
  obtain ⟨v2, vs2, d2, ds2, p2, q2, e2, rfl, rfl, h2, r2⟩ := trodAll_cons r1
  obtain ⟨rfl, rfl, rfl⟩ := trodAll_nil r2
  subst e2
  subst e1
  obtain rfl : args = #[v0, v1, v2] := by cases args; simp_all
  obtain ⟨rfl, rfl⟩ := trodVars_none hV
  have k0 := h0
  have k1 := h1
  have k2 := h2
  have lt0 : ∀ x ∈ p0, x.block < W.heap.size := by obtain ⟨m, hm⟩ := k0; exact DataW.trod_lt m _ _ _ hm
  have lt1 : ∀ x ∈ p1, x.block < W.heap.size := by obtain ⟨m, hm⟩ := k1; exact DataW.trod_lt m _ _ _ hm
  have lt2 : ∀ x ∈ p2, x.block < W.heap.size := by obtain ⟨m, hm⟩ := k2; exact DataW.trod_lt m _ _ _ hm
  obtain ⟨s, rfl⟩ := okWide_string Try.underlying9 (hval 0 9 v0 rfl rfl)
  obtain ⟨c1, rfl, z1⟩ := okWide_struct Try.underlying26 (hval 1 26 v1 rfl rfl)
  obtain ⟨n2, rfl⟩ := okWide_int Try.underlying3 (hval 2 3 v2 rfl rfl)
  have hn2 : I64 n2 := by
    obtain ⟨fuel, hf⟩ := h2
    obtain ⟨n, hn, _, hw⟩ := DataW.trod_int Try.underlying3 (by simpa [Value.cells] using hf)
    simp at hn
    subst hn
    exact i64_wf hw
  obtain ⟨xk, xp, xb, xs, hx, hx2⟩ : ∃ k p b s : Int, c1.toList = [.int .i64 k, .int .i64 p, .int .i64 b, .int .i64 s] ∧ I64 k ∧ I64 p ∧ I64 b ∧ I64 s := by
    obtain ⟨fuel, hf⟩ := h1
    exact kopen_op4 (by simpa [Value.cells] using hf)
  obtain rfl : c1 = #[.int .i64 xk, .int .i64 xp, .int .i64 xb, .int .i64 xs] := by cases c1; simp at hx; rw [hx]
  clear hA0 hval0 hsz0
  have hsq := undone_any s.data.toList xk xp xb xs n2 hx2 hn2 W
  rw [← str_list] at hsq
  refine hsq.mono fun e W' ⟨he, bel⟩ => ?_
  subst he
  exact ⟨_, rfl, _, _, _, [], _, [], hW', trodAll_mk1 (shut_bool Try.underlying4 _), (trodAll_cons_mk (Below.trod klaid (by kernel_rfl) (of_decide_eq_true (by kernel_rfl)) k0 bel lt0) (trodAll_cons_mk (Below.trod klaid (by kernel_rfl) (of_decide_eq_true (by kernel_rfl)) k1 bel lt1) (trodAll_cons_mk (Below.trod klaid (by kernel_rfl) (of_decide_eq_true (by kernel_rfl)) k2 bel lt2) trodAll_mk0))), rfl, bel.frame _, fun h => by cases h⟩
theorem undone_holds : Rows.UndoneSaid :=
  OpenClaim.holds_of_wide 5 Try.f5 rfl rfl rfl rfl rfl rfl rfl ⟨rfl, rfl, rfl, rfl, rfl⟩ rfl rfl rfl rfl rfl (by kernel_rfl) Try.func5 (by kernel_rfl)
    (of_decide_eq_true (by kernel_rfl)) (by unfold Func.isWrapper; first | (rw [if_pos (by decide +kernel)]; kernel_rfl) | (rw [if_neg (by decide +kernel)]; exact ⟨rfl, rfl⟩))
    (fun os started H enc _ => undone_lifted os started H enc)
end Go.Proofs.Ytabahmcbhapbiaa
