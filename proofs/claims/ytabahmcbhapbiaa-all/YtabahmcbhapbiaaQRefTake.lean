import Derived.Test.YtabahmcbhapbiaaQRefTakeR
namespace Go.Proofs.Ytabahmcbhapbiaa
open Go.RowKit Go.Lib
set_option linter.unusedVariables false

set_option maxHeartbeats 2000000 in
theorem take_any (sb so : Nat) (sent came known : Int) (v : Value) (l : List Op4) (g : Option Nat) (o : Op4) (ms mc : Int) (w : World) (hb : sb < w.heap.size) (d : Nat) (hd : mc - known = (d : Int)) (hdl : d ≤ l.length)
    (h1 : w.cell? ⟨sb, so + 1, none⟩ = some (.int .i64 came)) (h2 : w.cell? ⟨sb, so + 2, none⟩ = some (.int .i64 known)) (h3 : w.cell? ⟨sb, so + 3, none⟩ = some v)
    (f1 : w.frozen? ⟨sb, so + 1, none⟩ = false) (f2 : w.frozen? ⟨sb, so + 2, none⟩ = false) (f3 : w.frozen? ⟨sb, so + 3, none⟩ = false) (hc0 : 0 ≤ came) (hc1 : came ≤ 1000000000000000000) (hk0 : 0 ≤ known) (hk1 : known ≤ 1000000000000000000) (hm1 : mc ≤ 1000000000000000000)
    (hq : RowQ w 4 v (flat4 l) g) (hg : g ≠ some sb) (hbig : (l.length + 1) * 32 ≤ 140737488355328) (ho : Bd 100000000000000 o) (hl : ∀ x ∈ l, Bd 100000000000000 x) :
    Calls Try.prog 82 #[.pointer (some ⟨sb, so, none⟩), .agg #[.int .i64 o.k, .int .i64 o.p, .int .i64 o.b, .int .i64 o.s, .int .i64 ms, .int .i64 mc]] w fun e w' =>
      e = .returned (.agg #[.int .i64 (cross o (l.drop d)).1.k, .int .i64 (cross o (l.drop d)).1.p, .int .i64 (cross o (l.drop d)).1.b, .int .i64 (cross o (l.drop d)).1.s]) ∧ ∃ v' g', w'.cell? ⟨sb, so + 1, none⟩ = some (.int .i64 (came + 1)) ∧ w'.cell? ⟨sb, so + 2, none⟩ = some (.int .i64 mc) ∧ w'.cell? ⟨sb, so + 3, none⟩ = some v' ∧
        RowQ w' 4 v' (flat4 (cross o (l.drop d)).2) g' ∧ (∀ k, g' = some k → w.heap.size ≤ k) ∧ KeptX (fun k => k = sb) w w' ∧ (∀ j, j ≠ so + 1 → j ≠ so + 2 → j ≠ so + 3 → w'.cell? ⟨sb, j, none⟩ = w.cell? ⟨sb, j, none⟩) ∧ (∀ j, w'.frozen? ⟨sb, j, none⟩ = w.frozen? ⟨sb, j, none⟩) := by
  obtain ⟨va, vc, hv⟩ := rowq_len hq
  subst hv
  have b1 : sb < w.heap.size + 1 := by omega
  have b2 : sb < w.heap.size + 1 + 1 := by omega
  have b3 : sb < w.heap.size + 1 + 1 + 1 := by omega
  have hdd : known ≤ mc := by omega
  obtain ⟨W0, hW0⟩ : ∃ W0, W0 = ((((w.setCell ⟨sb, so + 2, none⟩ (.int .i64 mc)).alloc (.cells #[.int .i64 o.k, .int .i64 o.p, .int .i64 o.b, .int .i64 o.s, .int .i64 ms, .int .i64 mc] 147)).alloc (.cells #[.int .i64 0, .int .i64 0, .int .i64 0, .int .i64 0] 26)).alloc
    (.cells #[.int .i64 o.k, .int .i64 o.p, .int .i64 o.b, .int .i64 o.s] 26)).drew := ⟨_, rfl⟩
  have hK0 : KeptX (fun k => k = sb) w W0 := by
    rw [hW0]; exact (((((KeptX.refl (fun k => k = sb) w).setCell (p := ⟨sb, so + 2, none⟩) (fun _ => rfl) _).alloc _).alloc _).alloc _).drew
  have hz0 : W0.heap.size = w.heap.size + 3 := by rw [hW0]; simp
  have cj : ∀ j, j ≠ so + 2 → W0.cell? ⟨sb, j, none⟩ = w.cell? ⟨sb, j, none⟩ := fun j hj => by
    rw [hW0]
    simp [go_sem, b1, b2, hb, World.cell?_setCell_other _ _ _ _ (show (⟨sb, so + 2, none⟩ : Addr) ≠ ⟨sb, j, none⟩ by simp only [ne_eq, Addr.mk.injEq]; omega)]
  have hT0 : TakeAt w.heap.size W0 (cross o ((l.drop d).take 0)) (.slice none 0 0) W0 := by
    refine ⟨none, 0, 0, none, rfl, RowQ.nil _ _, fun x hx => (by cases hx), KeptX.refl _ _, ?_, ?_, ?_, ?_, fun j => ?_⟩
    all_goals (rw [hW0]; simp [go_sem, cross_nil])
  have c2 : W0.cell? ⟨sb, so + 2, none⟩ = some (.int .i64 mc) := by rw [hW0]; simp [go_sem, b1, b2, hb, h2]
  have fj : ∀ j, W0.frozen? ⟨sb, j, none⟩ = w.frozen? ⟨sb, j, none⟩ := fun j => by rw [hW0]; simp [go_sem, b1, b2, hb]
  have m1 : ∀ j, W0.cell? ⟨w.heap.size + 1, j, none⟩ = #[Value.int .i64 0, .int .i64 0, .int .i64 0, .int .i64 0][j]? := fun j => by rw [hW0]; simp [go_sem]
  have n1 : ∀ j, W0.frozen? ⟨w.heap.size + 1, j, none⟩ = false := fun j => by rw [hW0]; simp [go_sem]
  have HM : Hid ((∀ j, W0.cell? ⟨w.heap.size + 1, j, none⟩ = #[Value.int .i64 0, .int .i64 0, .int .i64 0, .int .i64 0][j]?) ∧ (∀ j, W0.frozen? ⟨w.heap.size + 1, j, none⟩ = false)) := ⟨m1, n1⟩
  clear m1 n1
  have h3' := cj (so + 3) (by omega)
  rw [h3] at h3'
  have HW0 : Hid (W0 = ((((w.setCell ⟨sb, so + 2, none⟩ (.int .i64 mc)).alloc (.cells #[.int .i64 o.k, .int .i64 o.p, .int .i64 o.b, .int .i64 o.s, .int .i64 ms, .int .i64 mc] 147)).alloc (.cells #[.int .i64 0, .int .i64 0, .int .i64 0, .int .i64 0] 26)).alloc
    (.cells #[.int .i64 o.k, .int .i64 o.p, .int .i64 o.b, .int .i64 o.s] 26)).drew) := hW0
  clear hW0
  go_enter Try.func82, Try.ntmps82
  go_wp2
  go_region
  go_wp2
  rw [← HW0.out]
  have HT0 : Hid (TakeAt w.heap.size W0 (cross o ((l.drop d).take 0)) (.slice none 0 0) W0) := hT0
  clear hT0
  go_loopw [6, 8] (fun lv i wr => ∃ q : Nat, d ≤ q ∧ q ≤ l.length ∧ i = .int .i64 (q : Int) ∧ TakeAt w.heap.size W0 (cross o ((l.drop d).take (q - d))) lv wr) (fun _ i _ => l.length - (RowKit.intOf i).toNat)
  case atStart => exact ⟨d, Nat.le_refl _, hdl, rfl, by rw [Nat.sub_self]; exact HT0.out⟩
  case round =>
    obtain ⟨q, hdq, hql, rfl, a, n, c, gl, rfl, hq1, hg1, hk1, y0, y1, y2, y3, yf⟩ := hrel
    have s3 : wr.cell? ⟨sb, so + 3, none⟩ = some (.slice va l.length vc) := by rw [hk1.cell (p := ⟨sb, so + 3, none⟩) (by show sb < _; omega) (by show ¬ sb = _; omega)]; exact h3'
    by_cases hlt : q < l.length
    · have hlt' : (q : Int) < (l.length : Int) := by omega
      rcases hq with ⟨_, hnil, _⟩ | ⟨gb, off, n', cap, hgb, hvv, hxl, hnc, hcap, hgw, h7, h8⟩
      · exfalso
        have := congrArg List.length hnil
        rw [flat4_len] at this
        simp at this
        omega
      · cases hvv
        have hgs : ¬ gb = sb := fun e => hg (by rw [hgb, e])
        have hcc : ∀ j, wr.cell? ⟨gb, j, none⟩ = w.cell? ⟨gb, j, none⟩ := fun j => by
          rw [hk1.cell (p := ⟨gb, j, none⟩) (by show gb < _; omega) (by show ¬ gb = _; omega), hK0.cell (p := ⟨gb, j, none⟩) hgw hgs]
        obtain ⟨x0, x1, x2, x3⟩ := rowq_cell4 (n := 0) (cap := 0) h7 q hlt
        rw [← hcc] at x0 x1 x2 x3
        have hx : l[q] ∈ l := List.getElem_mem hlt
        have hbx := hl _ hx
        have hL : (l.drop d)[q - d]? = some l[q] := by rw [List.getElem?_drop, show d + (q - d) = q by omega, List.getElem?_eq_getElem hlt]
        have hcr : cross o ((l.drop d).take (q + 1 - d)) = ((turn (cross o ((l.drop d).take (q - d))).1 l[q]).1, (cross o ((l.drop d).take (q - d))).2 ++ [(turn (cross o ((l.drop d).take (q - d))).1 l[q]).2]) := by
          rw [show q + 1 - d = (q - d) + 1 by omega, List.take_add_one, hL, cross_append]
          simp [cross_cons, cross_nil]
        have hbr := (bd_cross (l := (l.drop d).take (q - d)) ho (fun y hy => hl y (List.mem_of_mem_drop (List.mem_of_mem_take hy)))).1
        have hlr : ((l.drop d).take (q - d)).length ≤ l.length := by simp; omega
        have hlen : ((cross o ((l.drop d).take (q - d))).2.length + 1) * 32 ≤ 140737488355328 := by rw [cross_len]; omega
        generalize hr : cross o ((l.drop d).take (q - d)) = r at *
        generalize l[q] = x at *
        have HC : Hid (∀ W, Calls Try.prog 95 #[.agg #[.int .i64 r.1.k, .int .i64 r.1.p, .int .i64 r.1.b, .int .i64 r.1.s], .agg #[.int .i64 x.k, .int .i64 x.p, .int .i64 x.b, .int .i64 x.s]] W fun e w' =>
            e = .returned (.tuple #[.agg #[.int .i64 (turn r.1 x).1.k, .int .i64 (turn r.1 x).1.p, .int .i64 (turn r.1 x).1.b, .int .i64 (turn r.1 x).1.s], .agg #[.int .i64 (turn r.1 x).2.k, .int .i64 (turn r.1 x).2.p, .int .i64 (turn r.1 x).2.b, .int .i64 (turn r.1 x).2.s]]) ∧ Below W.heap.size W w') :=
          fun W => refTurned_any r.1 x hbr.1 hbx.1 hbr.2.1 (by have := hbr.2.2; omega) hbx.2.1 (by have := hbx.2.2; omega) W
        have HTr : TakeAt w.heap.size W0 r (.slice a n c) wr := ⟨a, n, c, gl, rfl, hq1, hg1, hk1, y0, y1, y2, y3, yf⟩
        have HA : Hid (∀ ab bb wc, TwoAt wr wc ab bb (turn r.1 x).1 (turn r.1 x).2 → _) := fun ab bb wc h => take_round hz0 hlen HTr h
        have hzr : w.heap.size + 1 + 1 < wr.heap.size := by have := hk1.size; omega
        have hzs : sb < wr.heap.size := by omega
        have hzr2 : w.heap.size + 1 < wr.heap.size := by omega
        have hzr3 : w.heap.size + 1 + 1 < wr.heap.size + 1 := by omega
        have hzg : gb < wr.heap.size := by omega
        have HCar : Hid (∀ W, Below wr.heap.size wr W → (W.cell? ⟨sb, so + 3, none⟩ = some (.slice (some ⟨gb, off, none⟩) l.length vc) ∧ W.cell? ⟨w.heap.size + 1 + 1, 0, none⟩ = some (.int .i64 r.1.k) ∧ W.cell? ⟨w.heap.size + 1 + 1, 1, none⟩ = some (.int .i64 r.1.p) ∧ W.cell? ⟨w.heap.size + 1 + 1, 2, none⟩ = some (.int .i64 r.1.b) ∧ W.cell? ⟨w.heap.size + 1 + 1, 3, none⟩ = some (.int .i64 r.1.s) ∧ W.cell? ⟨gb, off + q * 4, none⟩ = some (.int .i64 x.k) ∧ W.cell? ⟨gb, off + q * 4 + 1, none⟩ = some (.int .i64 x.p) ∧ W.cell? ⟨gb, off + q * 4 + 2, none⟩ = some (.int .i64 x.b) ∧ W.cell? ⟨gb, off + q * 4 + 3, none⟩ = some (.int .i64 x.s)) ∧ (∀ j, W.frozen? ⟨w.heap.size + 1 + 1, j, none⟩ = false) ∧ sb < W.heap.size ∧ sb < W.heap.size + 1 ∧ gb < W.heap.size ∧ gb < W.heap.size + 1 ∧ w.heap.size + 1 + 1 < W.heap.size ∧ w.heap.size + 1 < W.heap.size) := fun W hW => by
          have hsz := hW.size
          refine ⟨⟨(hW.cell (p := ⟨sb, so + 3, none⟩) hzs).trans s3, (hW.cell (p := ⟨w.heap.size + 1 + 1, 0, none⟩) hzr).trans y0, (hW.cell (p := ⟨w.heap.size + 1 + 1, 1, none⟩) hzr).trans y1, (hW.cell (p := ⟨w.heap.size + 1 + 1, 2, none⟩) hzr).trans y2, (hW.cell (p := ⟨w.heap.size + 1 + 1, 3, none⟩) hzr).trans y3, (hW.cell (p := ⟨gb, off + q * 4, none⟩) hzg).trans x0, (hW.cell (p := ⟨gb, off + q * 4 + 1, none⟩) hzg).trans x1, (hW.cell (p := ⟨gb, off + q * 4 + 2, none⟩) hzg).trans x2, (hW.cell (p := ⟨gb, off + q * 4 + 3, none⟩) hzg).trans x3⟩, fun j => (hW.frozen (p := ⟨w.heap.size + 1 + 1, j, none⟩) hzr).trans (yf j), by omega, by omega, by omega, by omega, by omega, by omega⟩
        clear hq1 hk1 hcc h7 h8 hbr hbx hlr hr HTr hlen
        go_wp2_with fail
        go_cut [9, 10] (fun s9 s10 W => ∃ ab bb : Nat, s9 = .pointer (some ⟨ab, 0, none⟩) ∧ s10 = .pointer (some ⟨bb, 0, none⟩) ∧ TwoAt wr W ab bb (turn r.1 x).1 (turn r.1 x).2)
        case first =>
          go_region_held3 (fun W => W.cell? ⟨sb, so + 3, none⟩ = some (.slice (some ⟨gb, off, none⟩) l.length vc) ∧ W.cell? ⟨w.heap.size + 1 + 1, 0, none⟩ = some (.int .i64 r.1.k) ∧ W.cell? ⟨w.heap.size + 1 + 1, 1, none⟩ = some (.int .i64 r.1.p) ∧ W.cell? ⟨w.heap.size + 1 + 1, 2, none⟩ = some (.int .i64 r.1.b) ∧ W.cell? ⟨w.heap.size + 1 + 1, 3, none⟩ = some (.int .i64 r.1.s) ∧ W.cell? ⟨gb, off + q * 4, none⟩ = some (.int .i64 x.k) ∧ W.cell? ⟨gb, off + q * 4 + 1, none⟩ = some (.int .i64 x.p) ∧ W.cell? ⟨gb, off + q * 4 + 2, none⟩ = some (.int .i64 x.b) ∧ W.cell? ⟨gb, off + q * 4 + 3, none⟩ = some (.int .i64 x.s)) (simp [go_sem, *]) ((go_at_call 95; refine (HC.out _).mono ?_; rintro e w1 ⟨rfl, hb1⟩; have hbw : Below wr.heap.size wr w1 := bel_trans (by repeat (first | exact Below.refl _ _ | apply Below.drew | refine bel_alloc ?_ _)) hb1; obtain ⟨⟨t0, t1, t2, t3, t4, t5, t6, t7, t8⟩, tf, z1, z2, z3, z4, z5, z6⟩ := HCar.out w1 hbw; have HB1 : Hid (Below wr.heap.size wr w1) := hbw; obtain ⟨hcX, hfX⟩ := bcell hb1; have p0 := hcX wr.heap.size; have p1 := hcX (wr.heap.size + 1); have p2 := hfX wr.heap.size; have p3 := hfX (wr.heap.size + 1); have p4 := fun h => Nat.lt_of_lt_of_le (n := wr.heap.size) h hb1.size; have p5 := fun h => Nat.lt_of_lt_of_le (n := wr.heap.size + 1) h hb1.size; have p6 : wr.heap.size < w1.heap.size + 1 := Nat.lt_succ_of_le HB1.out.size; clear hcX hfX hb1 hbw; (try simp at p4); (try simp at p5); (try simp [go_sem] at p0); (try simp [go_sem] at p1); (try simp [go_sem] at p2); (try simp [go_sem] at p3)))
          all_goals
            go_wp2_with fail
            go_meet
            case rel =>
              go_light
              first
                | with_reducible exact ⟨_, _, rfl, rfl, lit_aa HB1.out (turn r.1 x).1 (turn r.1 x).2 26⟩
                | with_reducible exact ⟨_, _, rfl, rfl, lit_aa' HB1.out (turn r.1 x).1 (turn r.1 x).2 26⟩
                | with_reducible exact ⟨_, _, rfl, rfl, lit_sa HB1.out p0 (turn r.1 x).1 (turn r.1 x).2 26⟩
                | with_reducible exact ⟨_, _, rfl, rfl, lit_as HB1.out p0 (turn r.1 x).1 (turn r.1 x).2 26⟩
                | with_reducible exact ⟨_, _, rfl, rfl, lit_ss HB1.out p0 p1 (turn r.1 x).1 (turn r.1 x).2⟩
                | with_reducible exact ⟨_, _, rfl, rfl, lit_ss' HB1.out p0 p1 (turn r.1 x).1 (turn r.1 x).2⟩
        case rest =>
          obtain ⟨ab, bb, rfl, rfl, hT2⟩ := hcut
          obtain ⟨⟨t0, t1, t2, t3, t4, t5, t6, t7, t8⟩, tf, z1, z2, z3, z4, z5, z6⟩ := HCar.out wc hT2.2.2.1
          have A0 : wc.cell? ⟨ab, 0, none⟩ = some (.int .i64 (turn r.1 x).1.k) := hT2.2.2.2.1.1
          have A1 : wc.cell? ⟨ab, 1, none⟩ = some (.int .i64 (turn r.1 x).1.p) := hT2.2.2.2.1.2.1
          have A2 : wc.cell? ⟨ab, 2, none⟩ = some (.int .i64 (turn r.1 x).1.b) := hT2.2.2.2.1.2.2.1
          have A3 : wc.cell? ⟨ab, 3, none⟩ = some (.int .i64 (turn r.1 x).1.s) := hT2.2.2.2.1.2.2.2
          have B0 : wc.cell? ⟨bb, 0, none⟩ = some (.int .i64 (turn r.1 x).2.k) := hT2.2.2.2.2.1
          have B1 : wc.cell? ⟨bb, 1, none⟩ = some (.int .i64 (turn r.1 x).2.p) := hT2.2.2.2.2.2.1
          have B2 : wc.cell? ⟨bb, 2, none⟩ = some (.int .i64 (turn r.1 x).2.b) := hT2.2.2.2.2.2.2.1
          have B3 : wc.cell? ⟨bb, 3, none⟩ = some (.int .i64 (turn r.1 x).2.s) := hT2.2.2.2.2.2.2.2
          have HA2 : Hid _ := HA.out ab bb wc hT2
          have n1 : ¬ (bb = w.heap.size + 1 + 1) := by have := hT2.2.1; omega
          have n2 : ¬ (w.heap.size + 1 + 1 = bb) := fun e => n1 e.symm
          clear hT2 HC HCar HA s3 y0 y1 y2 y3 x0 x1 x2 x3 t5 t6 t7 t8
          go_wp2_with (at_builtin; go_must (refine wpList_append_ex _ rfl _ _ _ _ rfl _ _ rfl rfl _ HA2.out ?_; rintro v2 W2 ⟨⟨a2, n2, c2, rfl⟩, hT3⟩; have HT3 : Hid _ := hT3; clear hT3))
          all_goals exact ⟨⟨q + 1, by omega, by omega, by go_num, by rw [hcr]; exact HT3.out⟩, by simp [RowKit.intOf]; omega⟩
    · have hqe : q = l.length := by omega
      subst hqe
      rw [List.take_of_length_le (by simp)] at y0 y1 y2 y3 hq1
      generalize hr : cross o (l.drop d) = r at *
      have Hr : Hid (cross o (l.drop d) = r) := hr
      clear hr
      have hsr : sb < wr.heap.size := by have := hk1.size; omega
      have kw : KeptX (fun k => k = sb) w wr := hK0.trans hk1 (fun i hi h => by omega)
      have cr : ∀ j, wr.cell? ⟨sb, j, none⟩ = W0.cell? ⟨sb, j, none⟩ := fun j => hk1.cell (p := ⟨sb, j, none⟩) (by show sb < _; omega) (by show ¬ sb = _; omega)
      have fr : ∀ j, wr.frozen? ⟨sb, j, none⟩ = w.frozen? ⟨sb, j, none⟩ := fun j => (hk1.frozen (p := ⟨sb, j, none⟩) (by show sb < _; omega) (by show ¬ sb = _; omega)).trans (fj j)
      have s1 : wr.cell? ⟨sb, so + 1, none⟩ = some (.int .i64 came) := by rw [cr, cj _ (by omega)]; exact h1
      have s2 : wr.cell? ⟨sb, so + 2, none⟩ = some (.int .i64 mc) := by rw [cr]; exact c2
      have f1' := (fr (so + 1)).trans f1
      have f3' := (fr (so + 3)).trans f3
      have HE : Hid (RowQ wr 4 (.slice a n c) (flat4 r.2) gl ∧ KeptX (fun k => k = sb) w wr ∧ (∀ j, j ≠ so + 2 → wr.cell? ⟨sb, j, none⟩ = w.cell? ⟨sb, j, none⟩) ∧ (∀ j, wr.frozen? ⟨sb, j, none⟩ = w.frozen? ⟨sb, j, none⟩)) := ⟨hq1, kw, fun j hj => (cr j).trans (cj j hj), fr⟩
      have nq : ¬ (sb = w.heap.size + 1 + 1) := by omega
      have nq1 : ¬ (sb = w.heap.size + 1) := by omega
      have mr : ∀ j, wr.cell? ⟨w.heap.size + 1, j, none⟩ = #[Value.int .i64 0, .int .i64 0, .int .i64 0, .int .i64 0][j]? := fun j => (hk1.cell (p := ⟨w.heap.size + 1, j, none⟩) (by show w.heap.size + 1 < _; omega) (by show ¬ w.heap.size + 1 = _; omega)).trans (HM.out.1 j)
      have m0 : wr.cell? ⟨w.heap.size + 1, 0, none⟩ = some (.int .i64 0) := mr 0
      have m1 : wr.cell? ⟨w.heap.size + 1, 1, none⟩ = some (.int .i64 0) := mr 1
      have m2 : wr.cell? ⟨w.heap.size + 1, 2, none⟩ = some (.int .i64 0) := mr 2
      have m3 : wr.cell? ⟨w.heap.size + 1, 3, none⟩ = some (.int .i64 0) := mr 3
      have mf : ∀ j, wr.frozen? ⟨w.heap.size + 1, j, none⟩ = false := fun j => (hk1.frozen (p := ⟨w.heap.size + 1, j, none⟩) (by show w.heap.size + 1 < _; omega) (by show ¬ w.heap.size + 1 = _; omega)).trans (HM.out.2 j)
      clear hq1 kw cr fr cj fj hk1 hK0 HT0 hq hl ho yf mr
      go_wp2
      simp [bodyPost, results, Try.results82, go_sem, s1, s2, s3, m0, m1, m2, m3]
      rw [Hr.out]
      obtain ⟨hq1, kw, cr, fr⟩ := HE.out
      refine ⟨⟨rfl, rfl, rfl, rfl⟩, gl, hq1.keep (F := fun k => k = sb ∨ k = w.heap.size + 1) ?_ (fun k hk h => ?_), fun k hk => by have := hg1 k hk; omega, ?_, fun j j1 j2 j3 => ?_, fr⟩
      · exact (((((((KeptX.refl _ _).setCell (p := ⟨sb, so + 3, none⟩) (fun _ => Or.inl rfl) _).setCell (p := ⟨sb, so + 1, none⟩) (fun _ => Or.inl rfl) _).setCell (p := ⟨w.heap.size + 1, 0, none⟩) (fun _ => Or.inr rfl) _).setCell (p := ⟨w.heap.size + 1, 1, none⟩) (fun _ => Or.inr rfl) _).setCell (p := ⟨w.heap.size + 1, 2, none⟩) (fun _ => Or.inr rfl) _).setCell (p := ⟨w.heap.size + 1, 3, none⟩) (fun _ => Or.inr rfl) _)
      · have := hg1 k hk
        omega
      · exact ((((((kw.setCell (p := ⟨sb, so + 3, none⟩) (fun _ => rfl) _).setCell (p := ⟨sb, so + 1, none⟩) (fun _ => rfl) _).setCell (p := ⟨w.heap.size + 1, 0, none⟩) (fun h => absurd h (by simp)) _).setCell (p := ⟨w.heap.size + 1, 1, none⟩) (fun h => absurd h (by simp)) _).setCell (p := ⟨w.heap.size + 1, 2, none⟩) (fun h => absurd h (by simp)) _).setCell (p := ⟨w.heap.size + 1, 3, none⟩) (fun h => absurd h (by simp)) _)
      · rw [World.cell?_setCell_other _ _ _ _ (by simp only [ne_eq, Addr.mk.injEq]; omega), World.cell?_setCell_other _ _ _ _ (by simp only [ne_eq, Addr.mk.injEq]; omega)]
        exact cr j j2
end Go.Proofs.Ytabahmcbhapbiaa
