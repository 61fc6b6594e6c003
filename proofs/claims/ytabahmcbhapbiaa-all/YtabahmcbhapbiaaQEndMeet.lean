import Derived.Test.YtabahmcbhapbiaaQEndX
import Derived.Deep.RegionHeld3
import Derived.Deep.DeepCutAuto
import Derived.Deep.LoopGhost
namespace Go.Proofs.Ytabahmcbhapbiaa
open Go.RowKit Go.Lib
set_option linter.unusedVariables false
set_option maxHeartbeats 2000000 in
theorem emeet_any (b o s c : Nat) (vo vq : Value) (l : List Op4) (q : List Msg) (go gq : Option Nat) (x : Op4) (ms d : Nat) (w : World) (h : EndAt w b o s c vo vq l q go gq) (hls : l.length ≤ s) (hs : s ≤ 1000000000000000000) (hd : d ≤ l.length) (hc : c ≤ 1000000000000000000)
    (hlen : l.length ≤ 10000000000000) (ho : Bd 100000000000000 x) (hl : ∀ x ∈ l, Bd 100000000000000 x) :
    Calls Try.prog 69 #[.pointer (some ⟨b, o, none⟩), .agg #[.int .i64 x.k, .int .i64 x.p, .int .i64 x.b, .int .i64 x.s, .int .i64 (ms : Int), .int .i64 ((s - l.length + d : Nat) : Int)]] w fun e w' =>
      e = .returned (.agg #[.int .i64 (cross x (l.drop d)).1.k, .int .i64 (cross x (l.drop d)).1.p, .int .i64 (cross x (l.drop d)).1.b, .int .i64 (cross x (l.drop d)).1.s]) ∧ Hid (∃ vo', EndAt w' b o s (c + 1) vo' vq (cross x (l.drop d)).2 q go gq ∧ EndKept w w' b o go gq go gq) := by
  have HC : Hid (∀ W, Below w.heap.size w W → Calls Try.prog 93 #[.pointer (some ⟨b, o, none⟩), .int .i64 ((s - l.length + d : Nat) : Int)] W fun e w' =>
      e = .returned (.tuple #[]) ∧ Hid (∃ vo', EndSet W w' b o s c vo' vq (l.drop d) q go gq)) := fun W hW => eclose_any b o s c vo vq l q go gq d W (h.below hW) hls hs hd
  have HGo : Hid (∀ k, go = some k → k < w.heap.size) := h.qo.lt
  have HGq : Hid (∀ k, gq = some k → k < w.heap.size) := h.qq.lt
  generalize (s - l.length + d : Nat) = kn at *
  obtain ⟨lt, c0, c1, c2, c3, qo, qq, fr, no, nq, ne⟩ := h
  clear qo qq no nq ne
  go_enter Try.func69, Try.ntmps69
  go_wp2_with fail
  refine (HC.out _ (bel_alloc (bel_alloc (Below.refl _ _) _) _)).mono ?_
  rintro e w1 ⟨rfl, ⟨vo1, hset⟩⟩
  have hW : KeptX (fun k => k = b) ((w.alloc (.cells #[.int .i64 x.k, .int .i64 x.p, .int .i64 x.b, .int .i64 x.s, .int .i64 (ms : Int), .int .i64 (kn : Int)] 94)).alloc (.cells #[.int .i64 0, .int .i64 0, .int .i64 0, .int .i64 0] 26)) w1 := hset.kx
  have hz1 : w.heap.size + 1 + 1 ≤ w1.heap.size := by have := hW.size; simpa using this
  have hz2 : w.heap.size < w1.heap.size := by omega
  have hz3 : w.heap.size + 1 < w1.heap.size := by omega
  have hn1 : ¬ (w.heap.size = b) := by omega
  have hn2 : ¬ (w.heap.size + 1 = b) := by omega
  have m : ∀ j, w1.cell? ⟨w.heap.size, j, none⟩ = #[Value.int .i64 x.k, .int .i64 x.p, .int .i64 x.b, .int .i64 x.s, .int .i64 (ms : Int), .int .i64 (kn : Int)][j]? := fun j => by
    rw [hW.cell (p := ⟨w.heap.size, j, none⟩) (by simp; omega) hn1]; simp [go_sem]
  have m0 : w1.cell? ⟨w.heap.size, 0, none⟩ = some (.int .i64 x.k) := m 0
  have m1 : w1.cell? ⟨w.heap.size, 1, none⟩ = some (.int .i64 x.p) := m 1
  have m2 : w1.cell? ⟨w.heap.size, 2, none⟩ = some (.int .i64 x.b) := m 2
  have m3 : w1.cell? ⟨w.heap.size, 3, none⟩ = some (.int .i64 x.s) := m 3
  have r0 : ∀ j, w1.cell? ⟨w.heap.size + 1, j, none⟩ = #[Value.int .i64 0, .int .i64 0, .int .i64 0, .int .i64 0][j]? := fun j => by
    rw [hW.cell (p := ⟨w.heap.size + 1, j, none⟩) (by simp) hn2]; simp [go_sem]
  have rf : ∀ j, w1.frozen? ⟨w.heap.size + 1, j, none⟩ = false := fun j => by
    rw [hW.frozen (p := ⟨w.heap.size + 1, j, none⟩) (by simp) hn2]; simp [go_sem]
  obtain ⟨va, vc, hv1⟩ := rowq_len hset.en.qo
  subst hv1
  have d2 := hset.en.c2
  have d1 := hset.en.c1
  have df := hset.en.fr
  have dl := hset.en.lt
  have HS : Hid (EndSet ((w.alloc (.cells #[.int .i64 x.k, .int .i64 x.p, .int .i64 x.b, .int .i64 x.s, .int .i64 (ms : Int), .int .i64 (kn : Int)] 94)).alloc (.cells #[.int .i64 0, .int .i64 0, .int .i64 0, .int .i64 0] 26)) w1 b o s c (.slice va (l.drop d).length vc) vq (l.drop d) q go gq) := hset
  have hbl : b < w1.heap.size := dl
  have HM0 : Hid (MeetAt (w1.alloc (.cells #[.int .i64 x.k, .int .i64 x.p, .int .i64 x.b, .int .i64 x.s] 26)) w1.heap.size go va (l.drop d).length vc x (l.drop d) 0 (w1.alloc (.cells #[.int .i64 x.k, .int .i64 x.p, .int .i64 x.b, .int .i64 x.s] 26))) := by
    refine ⟨KeptX.refl _ _, by unfold Op4At; simp [go_sem, cross_nil], fun j => by simp [go_sem], ?_⟩
    rw [List.take_zero, cross_nil]
    exact hset.en.qo.keep (F := fun _ => False) ((KeptX.refl _ _).alloc _) (fun _ _ e => e)
  obtain ⟨W0, hW0⟩ : ∃ W0, W0 = w1.alloc (.cells #[.int .i64 x.k, .int .i64 x.p, .int .i64 x.b, .int .i64 x.s] 26) := ⟨_, rfl⟩
  have HW0 : Hid (W0 = w1.alloc (.cells #[.int .i64 x.k, .int .i64 x.p, .int .i64 x.b, .int .i64 x.s] 26)) := hW0
  have hzW : W0.heap.size = w1.heap.size + 1 := by rw [hW0]; simp
  have HL : Hid (∀ y ∈ l.drop d, Bd 100000000000000 y) := fun y hy => hl y (List.mem_of_mem_drop hy)
  have HLn : Hid ((l.drop d).length ≤ 10000000000000) := by show (l.drop d).length ≤ _; rw [List.length_drop]; omega
  rw [← hW0] at HM0
  clear hset hW m hW0 hl
  generalize hLe : l.drop d = L at *
  have HLe : Hid (l.drop d = L) := hLe
  clear hLe
  go_wp2_with fail
  rw [← HW0.out]
  go_loopw [19] (fun i wr => ∃ q : Nat, q ≤ L.length ∧ i = .int .i64 (q : Int) ∧ MeetAt W0 w1.heap.size go va L.length vc x L q wr) (fun i _ => L.length - (RowKit.intOf i).toNat)
  case atStart => exact ⟨0, Nat.zero_le _, rfl, HM0.out⟩
  case round =>
    obtain ⟨q', hql, rfl, hma⟩ := hrel
    by_cases hlt : q' < L.length
    · have hlt' : (q' : Int) < (L.length : Int) := by omega
      have HMA : Hid (MeetAt W0 w1.heap.size go va L.length vc x L q' wr) := hma
      obtain ⟨kx, op, fz, rq⟩ := hma
      have hnil : (flat4 ((cross x (L.take q')).2 ++ L.drop q')).length ≠ 0 := by rw [flat4_len, List.length_append, List.length_drop]; omega
      rcases rq with ⟨_, hn, _⟩ | ⟨gb, off, n', cap, hgb, hvv, hxl, hnc, hcap, hgw, h7, h8⟩
      · exact absurd (by rw [hn]; rfl) hnil
      · cases hvv
        have hlq : ((cross x (L.take q')).2 ++ L.drop q').length = L.length := by rw [List.length_append, cross_len, List.length_take, List.length_drop]; omega
        have hx : ((cross x (L.take q')).2 ++ L.drop q')[q']'(by omega) = L[q'] := by
          rw [List.getElem_append_right (by rw [cross_len, List.length_take]; omega)]
          simp only [cross_len, List.length_take, List.getElem_drop]
          congr 1
          omega
        obtain ⟨x0, x1, x2, x3⟩ := rowq_cell4 (n := 0) (cap := 0) h7 q' (by omega)
        rw [hx] at x0 x1 x2 x3
        have hgbW : gb < w1.heap.size := by have := HS.out.en.qo.lt gb hgb; exact this
        have hgo' : ¬ (gb = w1.heap.size) := by omega
        have hgnb : ¬ (gb = b) := fun e => HS.out.en.no (by rw [hgb, e])
        have hsz := kx.size
        have s2 : wr.cell? ⟨b, o + 2, none⟩ = some (.slice (some ⟨gb, off, none⟩) L.length vc) := by
          rw [kx.cell (p := ⟨b, o + 2, none⟩) (by show b < _; omega) (fun e => by
            rcases e with e | e
            · have : b = w1.heap.size := e
              omega
            · exact HS.out.en.no e), HW0.out, World.cell?_alloc_some _ _ _ (by rw [d2]; rfl)]
          exact d2
        have hbx : Bd 100000000000000 L[q'] := HL.out _ (List.getElem_mem hlt)
        have hbr := (bd_cross (l := L.take q') ho (fun y hy => HL.out y (List.mem_of_mem_take hy))).1
        have hlr : (L.take q').length ≤ 10000000000000 := by rw [List.length_take]; have := HLn.out; omega
        have hrow : ∀ j, j < 4 → wr.frozen? ⟨gb, off + (q' * 4 + j), none⟩ = false := fun j hj => (h8 (q' * 4 + j) (by omega)).2
        have g0 : wr.frozen? ⟨gb, off + q' * 4, none⟩ = false := hrow 0 (by omega)
        have g1 : wr.frozen? ⟨gb, off + q' * 4 + 1, none⟩ = false := hrow 1 (by omega)
        have g2 : wr.frozen? ⟨gb, off + q' * 4 + 2, none⟩ = false := hrow 2 (by omega)
        have g3 : wr.frozen? ⟨gb, off + q' * 4 + 3, none⟩ = false := hrow 3 (by omega)
        obtain ⟨y0, y1, y2, y3⟩ := op
        have HA : Hid (∀ wc, Below wr.heap.size wr wc → MeetAt W0 w1.heap.size go (some ⟨gb, off, none⟩) L.length vc x L (q' + 1) (put4o (put4o wc w1.heap.size 0 (turn (cross x (L.take q')).1 L[q']).1) gb (off + q' * 4) (turn (cross x (L.take q')).1 L[q']).2)) := fun wc hwc => by
          have hm := HMA.out
          rw [hgb] at hm ⊢
          exact meet_round hlt (by omega) (by omega) hgo' hm hwc
        generalize hr : (cross x (L.take q')).1 = r at *
        generalize hy : L[q'] = y at *
        have HC2 : Hid (∀ W, Calls Try.prog 32 #[.agg #[.int .i64 r.k, .int .i64 r.p, .int .i64 r.b, .int .i64 r.s], .agg #[.int .i64 y.k, .int .i64 y.p, .int .i64 y.b, .int .i64 y.s]] W fun e w' =>
            e = .returned (.tuple #[.agg #[.int .i64 (turn r y).1.k, .int .i64 (turn r y).1.p, .int .i64 (turn r y).1.b, .int .i64 (turn r y).1.s], .agg #[.int .i64 (turn r y).2.k, .int .i64 (turn r y).2.p, .int .i64 (turn r y).2.b, .int .i64 (turn r y).2.s]]) ∧ Below W.heap.size W w') :=
          fun W => opTurn_any r y hbr.1 hbx.1 hbr.2.1 (by have := hbr.2.2; omega) hbx.2.1 (by have := hbx.2.2; omega) W
        have hzr : w1.heap.size < wr.heap.size := by omega
        have hzr1 : w1.heap.size < wr.heap.size + 1 := by omega
        have hzb : b < wr.heap.size := by omega
        have hzb1 : b < wr.heap.size + 1 := by omega
        have hzg : gb < wr.heap.size := by omega
        have hzg1 : gb < wr.heap.size + 1 := by omega
        have HCar : Hid (∀ W, Below wr.heap.size wr W → (W.cell? ⟨b, o + 2, none⟩ = some (.slice (some ⟨gb, off, none⟩) L.length vc) ∧ (W.cell? ⟨w1.heap.size, 0, none⟩ = some (.int .i64 r.k) ∧ W.cell? ⟨w1.heap.size, 1, none⟩ = some (.int .i64 r.p) ∧ W.cell? ⟨w1.heap.size, 2, none⟩ = some (.int .i64 r.b) ∧ W.cell? ⟨w1.heap.size, 3, none⟩ = some (.int .i64 r.s)) ∧ (W.cell? ⟨gb, off + q' * 4, none⟩ = some (.int .i64 y.k) ∧ W.cell? ⟨gb, off + q' * 4 + 1, none⟩ = some (.int .i64 y.p) ∧ W.cell? ⟨gb, off + q' * 4 + 2, none⟩ = some (.int .i64 y.b) ∧ W.cell? ⟨gb, off + q' * 4 + 3, none⟩ = some (.int .i64 y.s))) ∧
            ((∀ j, W.frozen? ⟨w1.heap.size, j, none⟩ = false) ∧ W.frozen? ⟨gb, off + q' * 4, none⟩ = false ∧ W.frozen? ⟨gb, off + q' * 4 + 1, none⟩ = false ∧ W.frozen? ⟨gb, off + q' * 4 + 2, none⟩ = false ∧ W.frozen? ⟨gb, off + q' * 4 + 3, none⟩ = false) ∧ b < W.heap.size ∧ gb < W.heap.size ∧ w1.heap.size < W.heap.size) := fun W hW => by
          have hsz2 := hW.size
          have hg : ∀ j, W.cell? ⟨gb, j, none⟩ = wr.cell? ⟨gb, j, none⟩ := fun j => hW.cell (p := ⟨gb, j, none⟩) hzg
          have hgf : ∀ j, W.frozen? ⟨gb, j, none⟩ = wr.frozen? ⟨gb, j, none⟩ := fun j => hW.frozen (p := ⟨gb, j, none⟩) hzg
          have ho : ∀ j, W.cell? ⟨w1.heap.size, j, none⟩ = wr.cell? ⟨w1.heap.size, j, none⟩ := fun j => hW.cell (p := ⟨w1.heap.size, j, none⟩) hzr
          exact ⟨⟨(hW.cell (p := ⟨b, o + 2, none⟩) hzb).trans s2, ⟨(ho _).trans y0, (ho _).trans y1, (ho _).trans y2, (ho _).trans y3⟩, ⟨(hg _).trans x0, (hg _).trans x1, (hg _).trans x2, (hg _).trans x3⟩⟩, ⟨fun j => (hW.frozen (p := ⟨w1.heap.size, j, none⟩) hzr).trans (fz j), (hgf _).trans g0, (hgf _).trans g1, (hgf _).trans g2, (hgf _).trans g3⟩, by omega, by omega, by omega⟩
        clear h7 h8 hbr hbx hlr hr hy kx hx hlq hnil hrow hgb
        go_wp2_with fail
        go_region_with ((go_at_call 32; refine (HC2.out _).mono ?_; rintro e w2 ⟨rfl, hb2⟩; have hbw : Below wr.heap.size wr w2 := bel_trans (by repeat (first | exact Below.refl _ _ | apply Below.drew | refine bel_alloc ?_ _)) hb2; obtain ⟨⟨t0, ⟨t1, t2, t3, t4⟩, ⟨t5, t6, t7, t8⟩⟩, ⟨f1, f2, f3, f4, f5⟩, z1, z2, z3⟩ := HCar.out w2 hbw; have HB2 : Hid (Below wr.heap.size wr w2) := hbw; clear hb2 hbw))
        all_goals go_wp2_with fail
        all_goals exact ⟨⟨q' + 1, by omega, by go_num, HA.out w2 HB2.out⟩, by simp [RowKit.intOf]; omega⟩
    · have hqe : q' = L.length := by omega
      subst hqe
      have hsz := hma.kx.size
      obtain ⟨hE, hK⟩ := meet_fin (bel_alloc (bel_alloc (Below.refl _ _) _) _) lt HGo.out HGq.out HS.out (by rw [HW0.out]; exact (KeptX.refl _ _).alloc _) hma
      have HF : Hid (∀ W', KeptX (fun k => k = w.heap.size + 1) (wr.setCell ⟨b, o + 1, none⟩ (.int .i64 ((c : Int) + 1))) W' → ∃ vo', EndAt W' b o s (c + 1) vo' vq (cross x L).2 q go gq ∧ EndKept w W' b o go gq go gq) := fun W' hW' => by
        have h2 := hE.setC (c + 1)
        have hbn : b ≠ w.heap.size + 1 := by omega
        refine ⟨_, h2.en.keep hW' (fun k e e2 => ?_), ⟨?_, fun j hj => ?_, fun k e => Or.inl e, fun k e => Or.inl e⟩⟩
        · rcases e with e | e | e
          · omega
          · have := HGo.out k e; omega
          · have := HGq.out k e; omega
        · refine (hK.kx.trans h2.kx (fun i _ e => Or.inl e)).trans hW' (fun i hi e => ?_)
          omega
        · exact ((hW'.cell (p := ⟨b, j, none⟩) h2.en.lt hbn).trans (h2.ot j hj)).trans (hK.ot j hj)
      obtain ⟨kx, op, fz, rq⟩ := hma
      rw [List.take_of_length_le (Nat.le_refl _)] at op
      obtain ⟨y0, y1, y2, y3⟩ := op
      generalize hr : cross x L = r at *
      have Hr : Hid (cross x L = r) := hr
      clear hr
      have s1 : wr.cell? ⟨b, o + 1, none⟩ = some (.int .i64 (c : Int)) := hE.c1
      have sf : wr.frozen? ⟨b, o + 1, none⟩ = false := hE.fr _
      have hzr : w1.heap.size < wr.heap.size := by omega
      have nq1 : ¬ (b = w1.heap.size) := by omega
      have nq2 : ¬ (w.heap.size + 1 = w1.heap.size) := by omega
      have kq : ∀ j, wr.cell? ⟨w.heap.size + 1, j, none⟩ = W0.cell? ⟨w.heap.size + 1, j, none⟩ := fun j => kx.cell (p := ⟨w.heap.size + 1, j, none⟩) (by show w.heap.size + 1 < _; omega) (fun e => by
        rcases e with e | e
        · exact nq2 e
        · have : w.heap.size + 1 < w.heap.size := HGo.out _ e
          omega)
      have kf : ∀ j, wr.frozen? ⟨w.heap.size + 1, j, none⟩ = false := fun j => by
        rw [kx.frozen (p := ⟨w.heap.size + 1, j, none⟩) (by show w.heap.size + 1 < _; omega) (fun e => by
          rcases e with e | e
          · exact nq2 e
          · have : w.heap.size + 1 < w.heap.size := HGo.out _ e
            omega), HW0.out]
        simp [go_sem, hz3, rf]
      have rr : ∀ j, wr.cell? ⟨w.heap.size + 1, j, none⟩ = #[Value.int .i64 0, .int .i64 0, .int .i64 0, .int .i64 0][j]? := fun j => by
        rw [kq, HW0.out]
        have := r0 j
        simp [go_sem, hz3, this]
      have r00 : wr.cell? ⟨w.heap.size + 1, 0, none⟩ = some (.int .i64 0) := rr 0
      have r01 : wr.cell? ⟨w.heap.size + 1, 1, none⟩ = some (.int .i64 0) := rr 1
      have r02 : wr.cell? ⟨w.heap.size + 1, 2, none⟩ = some (.int .i64 0) := rr 2
      have r03 : wr.cell? ⟨w.heap.size + 1, 3, none⟩ = some (.int .i64 0) := rr 3
      clear kx fz rq kq rr hE hK HM0 HS r0 rf
      go_wp2
      simp [bodyPost, results, Try.results69, go_sem, r00, r01, r02, r03]
      rw [HLe.out, Hr.out]
      refine ⟨⟨rfl, rfl, rfl, rfl⟩, ?_⟩
      obtain ⟨v, h1, h2⟩ := HF.out _ (((((KeptX.refl (fun k => k = w.heap.size + 1) _).setCell (p := ⟨w.heap.size + 1, 0, none⟩) (fun _ => rfl) (.int .i64 r.1.k)).setCell (p := ⟨w.heap.size + 1, 1, none⟩) (fun _ => rfl) (.int .i64 r.1.p)).setCell (p := ⟨w.heap.size + 1, 2, none⟩) (fun _ => rfl) (.int .i64 r.1.b)).setCell (p := ⟨w.heap.size + 1, 3, none⟩) (fun _ => rfl) (.int .i64 r.1.s))
      exact ⟨⟨v, h1⟩, h2⟩
end Go.Proofs.Ytabahmcbhapbiaa
