import Derived.Test.YtabahmcbhapbiaaQRefX
namespace Go.Proofs.Ytabahmcbhapbiaa
open Go.RowKit Go.Lib
set_option linter.unusedVariables false
section
variable {w w' W1 : World} {mb : Nat} {m : Moo} {L : Lay} {own : Nat → Option Slot}
set_option maxRecDepth 8000 in
set_option maxHeartbeats 16000000 in
theorem refType_ok2 (h : RefM w mb m L own) (c : Nat) (o : Op4) (hc : c < m.n) (hk1 : o.k = 2) (hr : rightB o.k o.p o.b o.s = true) (hfit : fitsB (m.cl c).text.length o.k o.p = true) (hbusy : (m.cl c).ho.length < 20) (t : List UInt8) (ha : app (m.cl c).text ⟨o.k, o.p, o.b, c⟩ = some t) (hw : Wf ⟨o.k, o.p, o.b, c⟩) (htl : (m.cl c).text.length ≤ 1000) (b1 : (m.cl c).hs ≤ 1000000000000000000) (hup : ((m.cl c).up.length + 1) * 48 ≤ 140737488355328) :
    Calls Try.prog 51 #[.pointer (some ⟨mb, 0, none⟩), .int .i64 (c : Int), .agg #[.int .i64 o.k, .int .i64 o.p, .int .i64 o.b, .int .i64 o.s]] w fun e w' => e = .returned (.int .i64 0) ∧ ∃ L' own', RefM w' mb (m.set c (typeC (m.cl c) ⟨o.k, o.p, o.b, c⟩ t)) L' own' ∧ Frm w own w' own' := by
  have HH : Hid (RefM w mb m L own) := h
  obtain ⟨⟨a0, a1, a2, a3, a4, a5, a6⟩, f⟩ := h.pc 0 0 (fun _ => rfl)
  have ht := (h.pc 1 0 (fun _ => rfl)).1 c hc
  have hlm := h.lto h.o0
  have hlh := h.lto h.o2
  have hsd := ((h.pc 2 0 (fun _ => rfl)).1 c hc).2.2.2
  obtain ⟨qa, qc, hqv⟩ := rowq_len (h.pc 7 c (fun e => absurd e (by omega)) hc)
  have hsd' : w.cell? ⟨L.hb, c * 4 + 3, none⟩ = some (.slice qa (m.cl c).ho.length qc) := by rw [← hqv]; exact hsd
  clear hqv hsd
  have hlt := h.lto h.o1
  have hc' : (c : Int) < (m.n : Int) := by omega
  have HI : Hid (∀ W, Below w.heap.size w W → Calls Try.prog 78 #[.pointer (some ⟨mb, 0, none⟩), .int .i64 (c : Int)] W fun e w' => e = .returned (.bool true) ∧ W = w') := fun W hW => by
    have := is_any mb (some ⟨L.tb, 0, none⟩) m.n L.tcap c W ((hW.cell (p := ⟨mb, 0, none⟩) hlm).trans a0)
    rw [isB_nat hc] at this
    exact this
  have HR : Hid (∀ W, Calls Try.prog 74 #[.agg #[.int .i64 o.k, .int .i64 o.p, .int .i64 o.b, .int .i64 o.s]] W fun e w' => e = .returned (.int .i64 0) ∧ Below W.heap.size W w') := fun W => by have := refRight_any o.k o.p o.b o.s W; rw [hr] at this; exact this
  have HF : Hid (∀ W, Calls Try.prog 79 #[str (m.cl c).text, .agg #[.int .i64 o.k, .int .i64 o.p, .int .i64 o.b, .int .i64 o.s]] W fun e w' => e = .returned (.bool true) ∧ Below W.heap.size W w') := fun W => by
    have := refFits_any ⟨(m.cl c).text.toArray⟩ o.k o.p o.b o.s (by omega) W
    rw [show ((ByteArray.mk (m.cl c).text.toArray).size : Int) = ((m.cl c).text.length : Int) by show ((m.cl c).text.toArray.size : Int) = _; simp, hfit] at this
    exact this
  have hsz : (((ByteArray.mk (m.cl c).text.toArray).size : Nat) : Int) = ((m.cl c).text.length : Int) := by show ((m.cl c).text.toArray.size : Int) = _; simp
  have e3 : (o.k == 0) = false := by simp; omega
  have hbl : ((m.cl c).ho.length : Int) < 20 := by omega
  have HA : Hid (app (m.cl c).text ⟨o.k, o.p, o.b, c⟩ = some t ∧ Wf ⟨o.k, o.p, o.b, c⟩) := ⟨ha, hw⟩
  clear ha hw
  have e4 : (o.k == 1) = false := by simp [hk1]
  clear h hk1 hr hfit hbusy
  go_enter Try.func51, Try.ntmps51
  go_wp2_with (go_at_call 78; refine (HI.out _ ?_).mono ?_; exact bel_alloc (Below.refl _ _) _; rintro e w1 ⟨rfl, rfl⟩)
  refine (HR.out _).mono ?_
  rintro e w1 ⟨rfl, hb1⟩
  have hbw : Below w.heap.size w w1 := bel_trans (bel_alloc (Below.refl _ _) _) hb1
  have k0 : w1.cell? ⟨mb, 0, none⟩ = _ := (hbw.cell (p := ⟨mb, 0, none⟩) hlm).trans a0
  have k1 : w1.cell? ⟨L.tb, c, none⟩ = some (str (m.cl c).text) := (hbw.cell (p := ⟨L.tb, c, none⟩) hlt).trans ht
  obtain ⟨hc1, hf1⟩ := bcell hb1
  have o0 := hc1 w.heap.size 0 (by simp)
  have o1 := hc1 w.heap.size 1 (by simp)
  have o2 := hc1 w.heap.size 2 (by simp)
  have o3 := hc1 w.heap.size 3 (by simp)
  simp [go_sem] at o0 o1 o2 o3
  have of := fun j => hf1 w.heap.size j (by simp)
  simp [go_sem] at of
  have hzz : w.heap.size < w1.heap.size := by have := hb1.size; simp at this; omega
  have HB : Hid (Below w.heap.size w w1) := hbw
  have HC : Hid (∀ W, Below w1.heap.size w1 W → (W.cell? ⟨mb, 0, none⟩ = some (.slice (some ⟨L.tb, 0, none⟩) m.n L.tcap) ∧ W.cell? ⟨L.tb, c, none⟩ = some (str (m.cl c).text) ∧ W.cell? ⟨w.heap.size, 0, none⟩ = some (.int .i64 o.k) ∧ W.cell? ⟨w.heap.size, 1, none⟩ = some (.int .i64 o.p) ∧ W.cell? ⟨w.heap.size, 2, none⟩ = some (.int .i64 o.b) ∧ W.cell? ⟨w.heap.size, 3, none⟩ = some (.int .i64 o.s)) ∧ (W.cell? ⟨mb, 2, none⟩ = some (.slice (some ⟨L.hb, 0, none⟩) m.n m.n) ∧ W.cell? ⟨L.hb, c * 4 + 3, none⟩ = some (.slice qa (m.cl c).ho.length qc)) ∧ TyT w W o) := fun W hW =>
    ⟨⟨(hW.cell (p := ⟨mb, 0, none⟩) (by show mb < _; omega)).trans k0, (hW.cell (p := ⟨L.tb, c, none⟩) (by show L.tb < _; omega)).trans k1, (hW.cell (p := ⟨w.heap.size, 0, none⟩) hzz).trans o0, (hW.cell (p := ⟨w.heap.size, 1, none⟩) hzz).trans o1, (hW.cell (p := ⟨w.heap.size, 2, none⟩) hzz).trans o2, (hW.cell (p := ⟨w.heap.size, 3, none⟩) hzz).trans o3⟩, ⟨((bel_trans hbw hW).cell (p := ⟨mb, 2, none⟩) hlm).trans a2, ((bel_trans hbw hW).cell (p := ⟨L.hb, c * 4 + 3, none⟩) hlh).trans hsd'⟩, ⟨bel_trans hbw hW, Nat.lt_of_lt_of_le hzz hW.size, (hW.cell (p := ⟨w.heap.size, 0, none⟩) hzz).trans o0, (hW.cell (p := ⟨w.heap.size, 1, none⟩) hzz).trans o1, (hW.cell (p := ⟨w.heap.size, 2, none⟩) hzz).trans o2, (hW.cell (p := ⟨w.heap.size, 3, none⟩) hzz).trans o3, fun j => (hW.frozen (p := ⟨w.heap.size, j, none⟩) hzz).trans (of j)⟩⟩
  clear hb1 hbw hc1 hf1 HI HR a0 a1 a2 a3 a4 a5 a6 ht f
  go_wp2_with fail
  go_region_held3 (fun W => W.cell? ⟨mb, 0, none⟩ = some (.slice (some ⟨L.tb, 0, none⟩) m.n L.tcap) ∧ W.cell? ⟨L.tb, c, none⟩ = some (str (m.cl c).text) ∧ W.cell? ⟨w.heap.size, 0, none⟩ = some (.int .i64 o.k) ∧ W.cell? ⟨w.heap.size, 1, none⟩ = some (.int .i64 o.p) ∧ W.cell? ⟨w.heap.size, 2, none⟩ = some (.int .i64 o.b) ∧ W.cell? ⟨w.heap.size, 3, none⟩ = some (.int .i64 o.s)) (simp [go_sem, *]) ((go_at_call 79; refine (HF.out _).mono ?_; rintro e w2 ⟨rfl, hb2⟩; have hbx : Below w1.heap.size w1 w2 := bel_trans (by repeat (first | exact Below.refl _ _ | apply Below.drew | refine bel_alloc ?_ _)) hb2; obtain ⟨⟨t0, t1, t2, t3, t4, t5⟩, ⟨u0, u1⟩, tb⟩ := HC.out w2 hbx; have HE : Hid (TyT w w2 o) := tb; clear hb2 hbx tb))
  clear hsd' HC HF HB k0 k1 o0 o1 o2 o3 of
  have q3 := HE.out.fr
  have T3 := hidR (HE.out.set c)
  have hlm2 : mb < w2.heap.size := Nat.lt_of_lt_of_le hlm HE.out.bel.size
  have hlt2 : L.tb < w2.heap.size := Nat.lt_of_lt_of_le hlt HE.out.bel.size
  go_wp2_with fail
  generalize w2.setCell _ _ = w3 at *
  clear t0 t1 t2 t3 t4 t5 u0 u1 q3 HE
  have hb3 := T3.out.bel
  obtain ⟨⟨a0, _, _, _, _, _, _⟩, _⟩ := (HH.out.below hb3).pc 0 0 (fun _ => rfl)
  obtain ⟨k1, k2⟩ := (HH.out.below hb3).pc 1 0 (fun _ => rfl)
  have k1' := k1 c hc
  have k2' := k2 c
  have z0 := T3.out.c0
  have z1 := T3.out.c1
  have z2 := T3.out.c2
  have z3 := T3.out.c3
  have zl := T3.out.lt
  have l3 : mb < w3.heap.size := Nat.lt_of_lt_of_le hlm hb3.size
  have l4 : L.tb < w3.heap.size := Nat.lt_of_lt_of_le hlt hb3.size
  have HDn : Hid (∀ W, Calls Try.prog 80 #[str (m.cl c).text, .agg #[.int .i64 o.k, .int .i64 o.p, .int .i64 o.b, .int .i64 (c : Int)]] W fun e w' => e = .returned (str t) ∧ Below W.heap.size W w') := fun W => done_app _ _ ⟨o.k, o.p, o.b, c⟩ HA.out.2 HA.out.1 htl W
  have HFin : Hid (∀ W, Below w3.heap.size w3 W → (W.cell? ⟨mb, 0, none⟩ = some (.slice (some ⟨L.tb, 0, none⟩) m.n L.tcap) ∧ W.cell? ⟨L.tb, c, none⟩ = some (str (m.cl c).text) ∧ W.cell? ⟨w.heap.size, 0, none⟩ = some (.int .i64 o.k) ∧ W.cell? ⟨w.heap.size, 1, none⟩ = some (.int .i64 o.p) ∧ W.cell? ⟨w.heap.size, 2, none⟩ = some (.int .i64 o.b) ∧ W.cell? ⟨w.heap.size, 3, none⟩ = some (.int .i64 (c : Int))) ∧ W.frozen? ⟨L.tb, c, none⟩ = false ∧ TyA w own mb m L c ⟨o.k, o.p, o.b, c⟩ t (W.setCell ⟨L.tb, c, none⟩ (str t))) := fun W hW =>
    ⟨⟨(hW.cell (p := ⟨mb, 0, none⟩) l3).trans a0, (hW.cell (p := ⟨L.tb, c, none⟩) l4).trans k1', (hW.cell (p := ⟨w.heap.size, 0, none⟩) zl).trans z0, (hW.cell (p := ⟨w.heap.size, 1, none⟩) zl).trans z1, (hW.cell (p := ⟨w.heap.size, 2, none⟩) zl).trans z2, (hW.cell (p := ⟨w.heap.size, 3, none⟩) zl).trans z3⟩, (hW.frozen (p := ⟨L.tb, c, none⟩) l4).trans k2', tyA_of HH.out hc t T3.out hW⟩
  clear hb3 k1 k2
  go_cut [] (fun W => TyA w own mb m L c ⟨o.k, o.p, o.b, c⟩ t W)
  case first =>
    go_region_with ((go_at_call 80; refine (HDn.out _).mono ?_; rintro e w4 ⟨rfl, hb4⟩; have hbw : Below w3.heap.size w3 w4 := bel_trans (by repeat (first | exact Below.refl _ _ | apply Below.drew | refine bel_alloc ?_ _)) hb4; obtain ⟨⟨t0, t1, t2, t3, t4, t5⟩, tf, hfin⟩ := HFin.out w4 hbw; have HE : Hid (TyA w own mb m L c ⟨o.k, o.p, o.b, c⟩ t (w4.setCell ⟨L.tb, c, none⟩ (str t))) := hfin; clear hb4 hbw hfin))
    all_goals go_wp2_with fail
    all_goals go_meet
    all_goals exact HE.out
  case rest =>
    obtain ⟨own1, hr1, hf1, hn1, hlw, x0, x1, x2, x3⟩ := hcut
    obtain ⟨⟨_, _, q2, _, q4, _, _⟩, _⟩ := hr1.pc 0 0 (fun _ => rfl)
    have HR1 := hidR (And.intro hr1 hf1)
    have hlm4 := hr1.lto hr1.o0
    have q2' : wc.cell? ⟨mb, 2, none⟩ = some (.slice (some ⟨L.hb, 0, none⟩) m.n m.n) := q2
    have HTk : Hid (∀ W, Below wc.heap.size wc W → Calls Try.prog 81 #[.pointer (some ⟨L.hb, c * 4, none⟩), .agg #[.int .i64 o.k, .int .i64 o.p, .int .i64 o.b, .int .i64 (c : Int)]] W fun e w1 =>
        e = .returned (.agg #[.int .i64 o.k, .int .i64 o.p, .int .i64 o.b, .int .i64 (c : Int), .int .i64 ((m.cl c).hs : Int), .int .i64 ((m.cl c).hc : Int)]) ∧ Took wc W own1 mb L (m.set c (sentC (m.cl c) ⟨o.k, o.p, o.b, c⟩ t)) w1) := fun W hW => took_send hc HR1.out.1 ⟨o.k, o.p, o.b, c⟩ b1 (by omega) W hW
    have HCar : Hid (∀ W w1, Took wc W own1 mb L (m.set c (sentC (m.cl c) ⟨o.k, o.p, o.b, c⟩ t)) w1 → (w1.cell? ⟨mb, 2, none⟩ = some (.slice (some ⟨L.hb, 0, none⟩) m.n m.n) ∧ w1.cell? ⟨w.heap.size, 0, none⟩ = some (.int .i64 o.k) ∧ w1.cell? ⟨w.heap.size, 1, none⟩ = some (.int .i64 o.p) ∧ w1.cell? ⟨w.heap.size, 2, none⟩ = some (.int .i64 o.b) ∧ w1.cell? ⟨w.heap.size, 3, none⟩ = some (.int .i64 (c : Int))) ∧ mb < w1.heap.size ∧ w.heap.size < w1.heap.size) := fun W w1 hT =>
      ⟨⟨(took_moot hT).2.2.1, (took_keep hT hlw hn1 0).trans x0, (took_keep hT hlw hn1 1).trans x1, (took_keep hT hlw hn1 2).trans x2, (took_keep hT hlw hn1 3).trans x3⟩, by
        obtain ⟨hb, L2, own2, _, hr, hf⟩ := hT
        exact ⟨Nat.lt_of_lt_of_le hlm4 (Nat.le_trans hb.size hf.1.size), Nat.lt_of_lt_of_le hlw (Nat.le_trans hb.size hf.1.size)⟩⟩
    have hxl1 : w.heap.size < wc.heap.size + 1 := by omega
    have hlm5 : mb < wc.heap.size + 1 := by omega
    clear a0 k1' k2' z0 z1 z2 z3 HFin HDn T3 HA hr1 hf1 q2 q4
    go_wp2_with fail
    go_cut [10] (fun s10 W => ∃ xb, s10 = .pointer (some ⟨xb, 0, none⟩) ∧ MsgAt wc own1 mb L (m.set c (sentC (m.cl c) ⟨o.k, o.p, o.b, c⟩ t)) xb ⟨⟨o.k, o.p, o.b, c⟩, (m.cl c).hs, (m.cl c).hc⟩ W)
    case first =>
      go_region_held3 (fun W => W.cell? ⟨mb, 2, none⟩ = some (.slice (some ⟨L.hb, 0, none⟩) m.n m.n) ∧ W.cell? ⟨w.heap.size, 0, none⟩ = some (.int .i64 o.k) ∧ W.cell? ⟨w.heap.size, 1, none⟩ = some (.int .i64 o.p) ∧ W.cell? ⟨w.heap.size, 2, none⟩ = some (.int .i64 o.b) ∧ W.cell? ⟨w.heap.size, 3, none⟩ = some (.int .i64 (c : Int))) (simp [go_sem, *]) ((go_at_call 81; refine (HTk.out _ ?_).mono ?_; (repeat (first | exact Below.refl _ _ | apply Below.drew | refine bel_alloc ?_ _)); rintro e w1 ⟨rfl, hb1⟩; obtain ⟨⟨t0, t1, t2, t3, t4⟩, z1, z2⟩ := HCar.out _ _ hb1; obtain ⟨p0, p2, p4⟩ := took_cell hb1 HR1.out.1; (first | (have HB1 : Hid (∃ W, Took wc W own1 mb L (m.set c (sentC (m.cl c) ⟨o.k, o.p, o.b, c⟩ t)) w1 ∧ wc.heap.size < W.heap.size) := ⟨_, hb1, lt_alloc wc _⟩) | (have HB1 : Hid (∃ W, Took wc W own1 mb L (m.set c (sentC (m.cl c) ⟨o.k, o.p, o.b, c⟩ t)) w1 ∧ wc.heap.size < W.heap.size) := ⟨_, hb1, lt_alloc wc.drew _⟩) | (have HB1 : Hid (∃ W, Took wc W own1 mb L (m.set c (sentC (m.cl c) ⟨o.k, o.p, o.b, c⟩ t)) w1 ∧ True) := ⟨_, hb1, trivial⟩)); clear hb1; (try simp [go_sem] at p0); (try simp [go_sem] at p2); (try simp at p4)))
      all_goals
        go_wp2_with fail
        go_meet
        case rel =>
          go_light
          obtain ⟨W, hT, hWl⟩ := HB1.out
          first
            | with_reducible exact ⟨_, rfl, msgAt_new hT ⟨⟨o.k, o.p, o.b, c⟩, (m.cl c).hs, (m.cl c).hc⟩ 147⟩
            | exact ⟨_, rfl, msgAt_set hT HR1.out.1 p4 hWl p0 ⟨⟨o.k, o.p, o.b, c⟩, (m.cl c).hs, (m.cl c).hc⟩⟩
    case rest =>
      obtain ⟨xb, rfl, L2, own2, ⟨e1, e2, e3, e4, e5, e6⟩, hr2, hf2, ⟨y0, y1, y2, y3, y4, y5⟩, hxn, hxb1, hxb2⟩ := hcut
      obtain ⟨⟨_, _, _, _, q4, _, _⟩, _⟩ := hr2.pc 0 0 (fun _ => rfl)
      have q4' : wc.cell? ⟨mb, 4, none⟩ = some (.slice (some ⟨L2.ub, 0, none⟩) m.n m.n) := q4
      have hqu : RowQ wc 6 (L2.uv c) (flat6 (m.cl c).up) (L2.ug c) := by
        have := hr2.pc 9 c (fun e => absurd e (by omega)) hc
        simp only [set_at] at this
        exact this
      have hcu : wc.cell? ⟨L2.ub, c, none⟩ = some (L2.uv c) := (hr2.pc 4 0 (fun _ => rfl)).1 c hc
      obtain ⟨ua, uc, huv⟩ := rowq6_len hqu
      have hqd := hqu.keep (w' := wc.drew) (F := fun _ => False) (KeptX.refl _ _).drew (fun _ _ e => e)
      have hap := app_msg hqd ⟨⟨o.k, o.p, o.b, c⟩, (m.cl c).hs, (m.cl c).hc⟩ hup
      rw [huv] at hap hcu
      have HAp : Hid (∃ v' W', (∀ ty, (Builtin.append_ #[149, 149] ty #[.slice ua (m.cl c).up.length uc, .slice (some ⟨wc.heap.size, 0, none⟩) 1 1]).run Try.prog (wc.drew.alloc (.cells #[.int .i64 o.k, .int .i64 o.p, .int .i64 o.b, .int .i64 (c : Int), .int .i64 ((m.cl c).hs : Int), .int .i64 ((m.cl c).hc : Int)] 147)) = .ok v' W') ∧
        ((∃ a n cp, v' = .slice a n cp) ∧ ∃ g', RowQ W' 6 v' (flat6 ((m.cl c).up ++ [⟨⟨o.k, o.p, o.b, c⟩, (m.cl c).hs, (m.cl c).hc⟩])) g' ∧ KeptX (fun k => L2.ug c = some k) wc.drew W' ∧ (g' = L2.ug c ∨ ∀ k, g' = some k → wc.drew.heap.size ≤ k))) := hap
      have HF2 := hidR (HR1.out.2.trans hf2)
      have HG : Hid (∀ (a : Option Addr) (n cp : Nat) (W2 : World), (∃ g', RowQ W2 6 (.slice a n cp) (flat6 ((m.cl c).up ++ [⟨⟨o.k, o.p, o.b, c⟩, (m.cl c).hs, (m.cl c).hc⟩])) g' ∧ KeptX (fun k => L2.ug c = some k) wc.drew W2 ∧ (g' = L2.ug c ∨ ∀ k, g' = some k → wc.drew.heap.size ≤ k)) →
        (∃ L' own', RefM (W2.setCell ⟨L2.ub, c, none⟩ (.slice a n cp)) mb (m.set c (typeC (m.cl c) ⟨o.k, o.p, o.b, c⟩ t)) L' own' ∧ Frm w own (W2.setCell ⟨L2.ub, c, none⟩ (.slice a n cp)) own') ∧ W2.cell? ⟨L2.ub, c, none⟩ = some (.slice ua (m.cl c).up.length uc) ∧ W2.frozen? ⟨L2.ub, c, none⟩ = false ∧ W2.cell? ⟨mb, 4, none⟩ = some (.slice (some ⟨L2.ub, 0, none⟩) m.n m.n)) := fun a n cp W2 ⟨g', h1, h2, h3⟩ => by
          obtain ⟨x1, x2, x3, x4⟩ := type_end (own0 := own) (own1 := own) (w1 := w) hc HF2.out hr2 h1 h2 h3
          exact ⟨x1, x2.trans hcu, x3, x4.trans q4'⟩
      have hlm6 := hr2.lto hr2.o0
      have hlu6 := hr2.lto hr2.o4
      clear hap hqd hqu hr2 hf2 q4 HR1 HTk HCar huv e1 e2 e3 e4 e5 e6
      go_wp2_with fail
      go_region_law (refine step_append_ex (by rfl) _ _ _ _ (by rfl) _ _ (by rfl) (by rfl) _ HAp.out ?_; rintro v2 W2 ⟨⟨a2, n2, cp2, rfl⟩, hw2⟩; obtain ⟨hm, hc2, hf2, hm4⟩ := HG.out _ _ _ _ hw2; have HM2 : Hid (∃ L' own', RefM (W2.setCell ⟨L2.ub, c, none⟩ (.slice a2 n2 cp2)) mb (m.set c (typeC (m.cl c) ⟨o.k, o.p, o.b, c⟩ t)) L' own' ∧ Frm w own (W2.setCell ⟨L2.ub, c, none⟩ (.slice a2 n2 cp2)) own') := hm; clear hw2 hm)
      all_goals go_wp2
      all_goals go_ret
      all_goals exact ⟨rfl, HM2.out⟩
end
end Go.Proofs.Ytabahmcbhapbiaa
