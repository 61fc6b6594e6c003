import Derived.Test.YtabahmcbhapbiaaQRow
import Derived.Test.YtabahmcbhapbiaaRows
import Derived.Test.YtabahmcbhapbiaaQDevMoot
import Derived.Deep.RegionLawGrows
import Derived.Deep.DeepCutAuto
import Derived.Deep.LoopGhost
import Derived.Test.YtabahmcbhapbiaaQBase
import Derived.Shelf.Strconv.Clone
import Derived.Deep.RegionHeld3
namespace Go.Proofs.Ytabahmcbhapbiaa
open Go.RowKit Go.Lib
set_option linter.unusedVariables false
theorem infoSeat : (Try.prog.info? 127).map (fun i => (i.zero, i.size, i.bytes)) = some (some (.agg #[.int .i64 0, .int .i64 0, .slice none 0 0, .slice none 0 0, .int .i64 0]), 5, 72) := by kernel_rfl
def seatRow (i : Nat) : List Value := [.int .i64 0, .int .i64 0, .slice none 0 0, .slice none 0 0, .int .i64 (i : Int)]
theorem seatRow_len (i : Nat) : (seatRow i).length = 5 := rfl
theorem seatRow_one (i : Nat) : ∀ u ∈ seatRow i, u.oneCell' = true := by
  intro u hu
  simp only [seatRow, List.mem_cons, List.not_mem_nil, or_false] at hu
  rcases hu with rfl | rfl | rfl | rfl | rfl <;> rfl
/-- How the server stands with j seats. -/
structure SrvAt (w : World) (vb : Nat) (t : List UInt8) (j : Nat) (W : World) : Prop where
  bel : Below w.heap.size w W
  ge : w.heap.size ≤ vb
  lt : vb < W.heap.size
  c0 : W.cell? ⟨vb, 0, none⟩ = some (dstr t)
  fr : ∀ k, W.frozen? ⟨vb, k, none⟩ = false
  hh : W.cell? ⟨vb, 1, none⟩ = some (.slice none 0 0)
  sl : ∃ a n c g, W.cell? ⟨vb, 2, none⟩ = some (.slice a n c) ∧ RowQ W 5 (.slice a n c) (flatN seatRow j) g ∧ Off0 (.slice a n c) ∧ g ≠ some vb ∧ (∀ k, g = some k → w.heap.size ≤ k) ∧ (∀ k, g = some k → ∀ i, W.frozen? ⟨k, i, none⟩ = false)
theorem srv_step {w wr W1 : World} {vb j : Nat} {t : List UInt8} {a : Option Addr} {n c : Nat} {a1 : Option Addr} {n1 c1 : Nat} {g : Option Nat} (h : SrvAt w vb t j wr) (hc : wr.cell? ⟨vb, 2, none⟩ = some (.slice a n c)) (h0 : Off0 (.slice a n c)) (hg : g ≠ some vb) (hgw : ∀ k, g = some k → w.heap.size ≤ k) (hgf : ∀ k, g = some k → ∀ i, wr.frozen? ⟨k, i, none⟩ = false)
    (hw : ∃ g', RowQ W1 5 (.slice a1 n1 c1) (flatN seatRow (j + 1)) g' ∧ KeptX (fun k => g = some k) wr W1 ∧ (∀ k, g' = some k → g = some k ∨ wr.heap.size < k) ∧ OffOK (.slice a n c) (.slice a1 n1 c1) ∧ FrzOK g g' wr W1) :
    SrvAt w vb t (j + 1) (W1.setCell ⟨vb, 2, none⟩ (.slice a1 n1 c1)) ∧ W1.cell? ⟨vb, 2, none⟩ = some (.slice a n c) ∧ W1.frozen? ⟨vb, 2, none⟩ = false := by
  obtain ⟨g', hr, hk, hg', ho, hfz⟩ := hw
  have cl : ∀ k, W1.cell? ⟨vb, k, none⟩ = wr.cell? ⟨vb, k, none⟩ := fun k => hk.cell (p := ⟨vb, k, none⟩) h.lt hg
  have fz : ∀ k, W1.frozen? ⟨vb, k, none⟩ = false := fun k => (hk.frozen (p := ⟨vb, k, none⟩) h.lt hg).trans (h.fr k)
  have hgb : g' ≠ some vb := fun e => by
    rcases hg' vb e with x | x
    · exact hg x
    · have := h.lt; omega
  have kb : Below w.heap.size w W1 := ⟨hk.os.trans h.bel.os, hk.tape.trans h.bel.tape, hk.output.trans h.bel.output, Nat.le_trans h.bel.size hk.size, fun k hk1 => (hk.block k (Nat.lt_of_lt_of_le hk1 h.bel.size) (fun e => by have := hgw k e; omega)).trans (h.bel.block k hk1)⟩
  refine ⟨⟨bel_set kb (p := ⟨vb, 2, none⟩) h.ge _, h.ge, by simp [World.setCell]; exact Nat.lt_of_lt_of_le h.lt hk.size, ?_, fun k => by rw [World.frozen?_setCell]; exact fz k, by rw [World.cell?_setCell_other _ _ _ _ (by simp), cl]; exact h.hh, ⟨a1, n1, c1, g', ?_, ?_, h0.next ho, hgb, fun k e => ?_, fun k e i => ?_⟩⟩, (cl 2).trans hc, fz 2⟩
  · rw [World.cell?_setCell_other _ _ _ _ (by simp), cl]; exact h.c0
  · have := (cl 2).trans hc
    simp [go_sem, this]
  · exact hr.keep (F := fun k => k = vb) ((KeptX.refl (fun k => k = vb) W1).setCell (p := ⟨vb, 2, none⟩) (fun _ => rfl) _) (fun k e e2 => hgb (by rw [e, e2]))
  · rcases hg' k e with x | x
    · exact hgw k x
    · have := h.bel.size; omega
  · rw [World.frozen?_setCell]
    rcases hfz k e with ⟨x, y⟩ | x
    · exact (y i).trans (hgf k x i)
    · exact x i
set_option maxHeartbeats 1000000 in
theorem newServer_any (n : Nat) (hn : n ≤ 4) (t : List UInt8) (w : World) :
    Calls Try.prog 60 #[.int .i64 (n : Int), dstr t] w fun e w' => e = .returned (.pointer (some ⟨w.heap.size, 0, none⟩)) ∧ Hid (SrvAt w w.heap.size t n w') := by
  have H0 : Hid (SrvAt w w.heap.size t 0 (w.alloc (.cells #[dstr t, .slice none 0 0, .slice none 0 0] 124))) := by
    refine ⟨bel_alloc (Below.refl _ _) _, Nat.le_refl _, by simp, by simp [go_sem], fun k => by simp [go_sem], by simp [go_sem], ⟨none, 0, 0, none, by simp [go_sem], RowQ.nil _ _, Off0.nil, by simp, fun k e => (by cases e), fun k e => (by cases e)⟩⟩
  go_enter Try.func60, Try.ntmps60
  go_wp2_with fail
  go_loopw [11] (fun i wr => ∃ j : Nat, j ≤ n ∧ i = .int .i64 (j : Int) ∧ SrvAt w w.heap.size t j wr) (fun i _ => n - (RowKit.intOf i).toNat)
  case atStart => exact ⟨0, Nat.zero_le _, rfl, H0.out⟩
  case round =>
    obtain ⟨j, hjn, rfl, hd⟩ := hrel
    clear H0
    by_cases hlt : j < n
    · have hlt' : (j : Int) < (n : Int) := by omega
      have hj4 : (j : Int) < 4 := by omega
      have hj5 : j < 4 := by omega
      obtain ⟨a, n0, c, g, hc1, hq, h0, hg, hgw, hgf⟩ := hd.sl
      have hl := hd.lt
      have hl1 : w.heap.size < wr.heap.size + 1 := by omega
      have hfr := hd.fr
      have HA := hidP (appN (W := wr) (t := 122) (e := 127) (row := seatRow) Try.underlying122 infoSeat rfl (by decide) seatRow_len (seatRow_one j) hq #[.int .i64 0, .int .i64 0, .slice none 0 0, .slice none 0 0, .int .i64 (j : Int)] rfl (by omega) (by omega))
      have HS : Hid (∀ (a1 : Option Addr) (n1 c1 : Nat) (W1 : World), (∃ g', RowQ W1 5 (.slice a1 n1 c1) (flatN seatRow (j + 1)) g' ∧ KeptX (fun k => g = some k) wr W1 ∧ (∀ k, g' = some k → g = some k ∨ wr.heap.size < k) ∧ OffOK (.slice a n0 c) (.slice a1 n1 c1) ∧ FrzOK g g' wr W1) → _) := fun a1 n1 c1 W1 hh => srv_step hd hc1 h0 hg hgw hgf hh
      clear hq h0 hg hgw hgf hd
      go_wp2_with (at_builtin; go_must (refine wpList_append_ex _ rfl _ _ _ _ rfl _ _ rfl rfl _ HA.out ?_; rintro v1 W1 ⟨⟨a1, n1, c1, rfl⟩, hw1⟩; obtain ⟨hs1, t1, tf⟩ := HS.out _ _ _ _ hw1; have HS1 := hidP hs1; clear hw1 hs1))
      all_goals exact ⟨⟨j + 1, by omega, by go_num, HS1.out⟩, by simp [RowKit.intOf]; omega⟩
    · have hje : j = n := by omega
      subst hje
      have HF := hidP hd
      clear hd
      go_wp2
      go_ret
      exact ⟨rfl, HF.out⟩
theorem newClient_any (i : Nat) (t : List UInt8) (w : World) :
    Calls Try.prog 61 #[.int .i64 (i : Int), dstr t] w fun e w' => e = .returned (.pointer (some ⟨w.heap.size, 0, none⟩)) ∧ w' = w.alloc (.cells #[.int .i64 0, .int .i64 0, .slice none 0 0, .slice none 0 0, .int .i64 (i : Int), dstr t] 88) := by
  go_enter Try.func61, Try.ntmps61
  go_wp2
  go_ret
  exact ⟨rfl, rfl⟩
end Go.Proofs.Ytabahmcbhapbiaa
namespace Go.Proofs.Ytabahmcbhapbiaa
open Go.RowKit Go.Lib Go.Shelf
set_option linter.unusedVariables false
/-- internal/stringslite.Clone, as the shelf's contract numbers it. -/
def cloneRen : Ren := ⟨fun | 316 => 84 | n => n, fun | 5 => 5 | 9 => 9 | 3 => 3 | 4 => 4 | 37 => 119 | 0 => 0 | 127 => 159 | n => n, fun | n => n⟩
theorem cloneLays : Go.Proofs.LaysM.n316 Try.prog cloneRen := {
  mixed := by kernel_rfl
  f316 := Try.func84.trans (congrArg some (by kernel_rfl))
  t0 := Try.underlying0
  a0 := Try.isAgg0
  z0 := Try.sizeOf0
  v0 := Try.zeroValue0
  t3 := Try.underlying3
  a3 := Try.isAgg3
  z3 := Try.sizeOf3
  v3 := Try.zeroValue3
  t4 := Try.underlying4
  a4 := Try.isAgg4
  z4 := Try.sizeOf4
  v4 := Try.zeroValue4
  t9 := Try.underlying9
  a9 := Try.isAgg9
  z9 := Try.sizeOf9
  v9 := Try.zeroValue9
  t37 := Try.underlying119
  a37 := Try.isAgg119
  z37 := Try.sizeOf119
  v37 := Try.zeroValue119
  t127 := Try.underlying159
  a127 := Try.isAgg159
  z127 := Try.sizeOf159
  v127 := Try.zeroValue159
  t5 := Try.underlying5
  a5 := Try.isAgg5
  z5 := Try.sizeOf5
  v5 := Try.zeroValue5
  i0 := by kernel_rfl
  i3 := by kernel_rfl
  i4 := by kernel_rfl
  i5 := by kernel_rfl
  i9 := by kernel_rfl
  i37 := by kernel_rfl
  i127 := by kernel_rfl }
theorem lite_any (s : ByteArray) (w : World) (hlim : s.size ≤ 281474976710656) : Calls Try.prog 84 #[.string s] w fun e w' => e = .returned (.string s) ∧ Below w.heap.size w w' :=
  Go.Proofs.Any.stringslite_Clone cloneLays s w hlim
theorem clone_any (s : ByteArray) (w : World) (hlim : s.size ≤ 281474976710656) : Calls Try.prog 59 #[.string s] w fun e w' => e = .returned (.string s) ∧ Below w.heap.size w w' := by
  have HL : Hid (∀ W, Calls Try.prog 84 #[.string s] W fun e w' => e = .returned (.string s) ∧ Below W.heap.size W w') := fun W => lite_any s W hlim
  clear hlim
  go_enter Try.func59, Try.ntmps59
  go_wp2_with fail
  refine (HL.out _).mono ?_
  rintro e w1 ⟨rfl, hb⟩
  go_wp2
  go_ret
  exact ⟨rfl, hb⟩
end Go.Proofs.Ytabahmcbhapbiaa
namespace Go.Proofs.Ytabahmcbhapbiaa
open Go.RowKit Go.Lib
set_option linter.unusedVariables false
theorem infoCliP : (Try.prog.info? 82).map (fun i => (i.zero, i.size, i.bytes)) = some (some (.pointer none), 1, 8) := by kernel_rfl
def cliRow (i : Nat) (t : List UInt8) : List Value := [.int .i64 0, .int .i64 0, .slice none 0 0, .slice none 0 0, .int .i64 (i : Int), dstr t]
def ptrRow (cb : Nat → Nat) (i : Nat) : List Value := [.pointer (some ⟨cb i, 0, none⟩)]
theorem ptrRow_len (cb : Nat → Nat) (i : Nat) : (ptrRow cb i).length = 1 := rfl
theorem ptrRow_one (cb : Nat → Nat) (i : Nat) : ∀ u ∈ ptrRow cb i, u.oneCell' = true := by
  intro u hu
  simp only [ptrRow, List.mem_cons, List.not_mem_nil, or_false] at hu
  rw [hu]; rfl
theorem flatN_congr {r s : Nat → List Value} : ∀ n, (∀ i, i < n → r i = s i) → flatN r n = flatN s n
  | 0, _ => rfl
  | n + 1, h => by rw [flatN_succ, flatN_succ, flatN_congr n (fun i hi => h i (by omega)), h n (by omega)]
/-- How New stands with j clients. -/
structure NewAt (w : World) (mb vb eb ecap : Nat) (t : List UInt8) (n j : Nat) (W : World) : Prop where
  bel : Below w.heap.size w W
  m0 : W.cell? ⟨mb, 0, none⟩ = some (.pointer (some ⟨vb, 0, none⟩))
  mf : ∀ k, W.frozen? ⟨mb, k, none⟩ = false
  v0 : W.cell? ⟨vb, 0, none⟩ = some (dstr t)
  v1 : W.cell? ⟨vb, 2, none⟩ = some (.slice (some ⟨eb, 0, none⟩) n ecap)
  vh : W.cell? ⟨vb, 1, none⟩ = some (.slice none 0 0)
  vf : ∀ k, W.frozen? ⟨vb, k, none⟩ = false
  ss : ∀ i k, i < n → k < 5 → W.cell? ⟨eb, i * 5 + k, none⟩ = (seatRow i)[k]?
  ef : ∀ k, W.frozen? ⟨eb, k, none⟩ = false
  kk : ∃ (own : Nat → Option Nat) (cb : Nat → Nat) (a : Option Addr) (n0 c : Nat) (g : Option Nat), W.cell? ⟨mb, 1, none⟩ = some (.slice a n0 c) ∧ RowQ W 1 (.slice a n0 c) (flatN (ptrRow cb) j) g ∧ Off0 (.slice a n0 c) ∧ (∀ k, g = some k → own k = some 2) ∧ own mb = some 0 ∧ own vb = some 1 ∧ own eb = some 3 ∧
    (∀ i, i < j → own (cb i) = some (10 + i) ∧ (∀ k, k < 6 → W.cell? ⟨cb i, k, none⟩ = (cliRow i t)[k]?) ∧ ∀ k, W.frozen? ⟨cb i, k, none⟩ = false) ∧ (∀ k, own k ≠ none → w.heap.size ≤ k ∧ k < W.heap.size)
theorem new_step {w wr : World} {mb vb eb ecap n j : Nat} {t : List UInt8} (h : NewAt w mb vb eb ecap t n j wr) (hj : j < 4) :
    ∃ (a : Option Addr) (n0 c : Nat), wr.cell? ⟨mb, 1, none⟩ = some (.slice a n0 c) ∧ wr.frozen? ⟨mb, 1, none⟩ = false ∧ mb < wr.heap.size ∧
      ∃ v' W', (∀ ty, (Builtin.append_ #[78, 78] ty #[.slice a n0 c, .slice (some ⟨wr.heap.size + 1, 0, none⟩) 1 1]).run Try.prog ((wr.drew.alloc (.cells #[.int .i64 0, .int .i64 0, .slice none 0 0, .slice none 0 0, .int .i64 (j : Int), dstr t] 88)).alloc (.cells #[.pointer (some ⟨wr.heap.size, 0, none⟩)] 82)) = .ok v' W') ∧
        ((∃ a' n' c', v' = .slice a' n' c') ∧ NewAt w mb vb eb ecap t n (j + 1) (W'.setCell ⟨mb, 1, none⟩ v') ∧ W'.cell? ⟨mb, 1, none⟩ = some (.slice a n0 c) ∧ W'.frozen? ⟨mb, 1, none⟩ = false) := by
  obtain ⟨bel, m0, mf, v0, v1, vh, vf, ss, ef, own, cb, a, n0, c, g, m1, kq, k0, hg2, o0, o1, o3, hcb, hlt⟩ := h
  have lo : ∀ {k l : Nat}, own k = some l → k < wr.heap.size := fun {k l} e => (hlt k (by rw [e]; simp)).2
  obtain ⟨cb', hcb'⟩ : ∃ cb' : Nat → Nat, cb' = fun i => if i = j then wr.heap.size else cb i := ⟨_, rfl⟩
  have ej : cb' j = wr.heap.size := by rw [hcb']; simp
  have ei : ∀ i, i < j → cb' i = cb i := fun i hi => by rw [hcb']; simp [show ¬ i = j by omega]
  obtain ⟨Wa, hWa⟩ : ∃ Wa, Wa = wr.drew.alloc (.cells #[.int .i64 0, .int .i64 0, .slice none 0 0, .slice none 0 0, .int .i64 (j : Int), dstr t] 88) := ⟨_, rfl⟩
  have hsa : Wa.heap.size = wr.heap.size + 1 := by rw [hWa]; simp
  have hka : KeptX (fun _ => False) wr Wa := by rw [hWa]; exact ((KeptX.refl (fun _ => False) wr).drew.alloc _)
  have kq1 : RowQ Wa 1 (.slice a n0 c) (flatN (ptrRow cb') j) g := by
    rw [flatN_congr (r := ptrRow cb') (s := ptrRow cb) j (fun i hi => by unfold ptrRow; rw [ei i hi])]
    exact kq.keep hka (fun _ _ e => e)
  obtain ⟨v', W', hrun, ⟨a', n', c', hv'⟩, g', q', k', d', o', f'⟩ := appN (W := Wa) (t := 78) (e := 82) (row := ptrRow cb') Try.underlying78 infoCliP rfl (by decide) (ptrRow_len cb') (ptrRow_one cb' j) kq1 #[.pointer (some ⟨wr.heap.size, 0, none⟩)] (by unfold ptrRow; rw [ej]) (by omega) (by omega)
  rw [hsa] at hrun d'
  rw [← hWa]
  subst hv'
  have hkW : KeptX (fun k => g = some k) wr W' := (hka.mono (fun _ _ e => e.elim)).trans k' (fun _ _ e => e)
  have hng : ∀ {k l : Nat}, own k = some l → l ≠ 2 → g ≠ some k := fun {k l} e hl e2 => hl (by have := hg2 k e2; rw [e] at this; exact Option.some.inj this)
  have cW : ∀ {b l : Nat} (k : Nat), own b = some l → l ≠ 2 → W'.cell? ⟨b, k, none⟩ = wr.cell? ⟨b, k, none⟩ := fun {b l} k e hl => hkW.cell (p := ⟨b, k, none⟩) (lo e) (hng e hl)
  have fW : ∀ {b l : Nat} (k : Nat), own b = some l → l ≠ 2 → W'.frozen? ⟨b, k, none⟩ = wr.frozen? ⟨b, k, none⟩ := fun {b l} k e hl => hkW.frozen (p := ⟨b, k, none⟩) (lo e) (hng e hl)
  have lm := lo o0
  have hgw : g ≠ some wr.heap.size := fun e => by have := lo (hg2 _ e); omega
  refine ⟨a, n0, c, m1, mf 1, lm, _, W', hrun, ⟨a', n', c', rfl⟩, ?_, (cW 1 o0 (by omega)).trans m1, (fW 1 o0 (by omega)).trans (mf 1)⟩
  have hks : KeptX (fun k => k = mb) W' (W'.setCell ⟨mb, 1, none⟩ (.slice a' n' c')) := (KeptX.refl (fun k => k = mb) W').setCell (p := ⟨mb, 1, none⟩) (fun _ => rfl) _
  have hszW : wr.heap.size + 1 ≤ W'.heap.size := by have := k'.size; omega
  have ne : ∀ {k l : Nat}, own k = some l → l ≠ 0 → k ≠ mb := fun {k l} e hl e2 => hl (by rw [e2, o0] at e; exact (Option.some.inj e).symm)
  have cS : ∀ {b : Nat} (k : Nat), b < W'.heap.size → b ≠ mb → (W'.setCell ⟨mb, 1, none⟩ (.slice a' n' c')).cell? ⟨b, k, none⟩ = W'.cell? ⟨b, k, none⟩ := fun {b} k hb hn => hks.cell (p := ⟨b, k, none⟩) hb hn
  have fS : ∀ (b k : Nat), (W'.setCell ⟨mb, 1, none⟩ (.slice a' n' c')).frozen? ⟨b, k, none⟩ = W'.frozen? ⟨b, k, none⟩ := fun b k => World.frozen?_setCell _ _ _ _
  have lW : ∀ {k l : Nat}, own k = some l → k < W'.heap.size := fun {k l} e => by have := lo e; omega
  have hwb : w.heap.size ≤ mb := (hlt mb (by rw [o0]; simp)).1
  have bW : Below w.heap.size w W' := ⟨hkW.os.trans bel.os, hkW.tape.trans bel.tape, hkW.output.trans bel.output, Nat.le_trans bel.size hkW.size, fun k hk1 => (hkW.block k (Nat.lt_of_lt_of_le hk1 bel.size) (fun e => by have := (hlt k (by rw [hg2 k e]; simp)).1; omega)).trans (bel.block k hk1)⟩
  refine ⟨bel_set bW (p := ⟨mb, 1, none⟩) hwb _, ?_, fun k => (fS mb k).trans ((fW k o0 (by omega)).trans (mf k)), (cS 0 (lW o1) (ne o1 (by omega))).trans ((cW 0 o1 (by omega)).trans v0), (cS 2 (lW o1) (ne o1 (by omega))).trans ((cW 2 o1 (by omega)).trans v1), (cS 1 (lW o1) (ne o1 (by omega))).trans ((cW 1 o1 (by omega)).trans vh), fun k => (fS vb k).trans ((fW k o1 (by omega)).trans (vf k)), fun i k hi hk => (cS _ (lW o3) (ne o3 (by omega))).trans ((cW _ o3 (by omega)).trans (ss i k hi hk)), fun k => (fS eb k).trans ((fW k o3 (by omega)).trans (ef k)), ?_⟩
  · rw [World.cell?_setCell_other _ _ _ _ (by simp)]; exact (cW 0 o0 (by omega)).trans m0
  · obtain ⟨own', hown'⟩ : ∃ own' : Nat → Option Nat, own' = fun k => if k = wr.heap.size then some (10 + j) else if g' = some k then some 2 else own k := ⟨_, rfl⟩
    have gd : ∀ {k l : Nat}, own k = some l → l ≠ 2 → own' k = some l := fun {k l} e hl => by
      rw [hown']
      simp only
      rw [if_neg (by have := lo e; omega), if_neg (fun e2 => by
        rcases d' k e2 with x | x
        · exact hng e hl x
        · have := lo e; omega)]
      exact e
    have hg'n : g' ≠ some wr.heap.size := fun e => by
      rcases d' _ e with x | x
      · exact hgw x
      · omega
    have hg'm : g' ≠ some mb := fun e => by
      rcases d' _ e with x | x
      · exact hng o0 (by omega) x
      · omega
    refine ⟨own', cb', a', n', c', g', ?_, ?_, k0.next o', fun k e => ?_, gd o0 (by omega), gd o1 (by omega), gd o3 (by omega), fun i hi => ?_, fun k e => ?_⟩
    · have := (cW 1 o0 (by omega)).trans m1
      simp [go_sem, this]
    · exact q'.keep hks (fun k e e2 => hg'm (by rw [e, e2]))
    · rw [hown']
      simp only
      rw [if_neg (fun e2 => hg'n (by rw [← e2]; exact e)), if_pos e]
    · by_cases e : i = j
      · subst e
        rw [ej]
        have hlw : wr.heap.size < W'.heap.size := by omega
        have hnm : wr.heap.size ≠ mb := by omega
        have hcl : ∀ k, Wa.cell? ⟨wr.heap.size, k, none⟩ = (cliRow i t)[k]? := fun k => by
          rw [hWa, World.cell?_alloc_at (w := wr.drew) _ _ wr.heap.size k rfl]
          simp [cliRow]
        have hfl : ∀ k, Wa.frozen? ⟨wr.heap.size, k, none⟩ = false := fun k => by
          rw [hWa]
          exact World.frozen?_alloc_at (w := wr.drew) _ _ wr.heap.size k rfl
        refine ⟨by rw [hown']; simp, fun k hk => (cS k hlw hnm).trans ((k'.cell (p := ⟨wr.heap.size, k, none⟩) (by show wr.heap.size < _; omega) hgw).trans (hcl k)), fun k => (fS _ k).trans ((k'.frozen (p := ⟨wr.heap.size, k, none⟩) (by show wr.heap.size < _; omega) hgw).trans (hfl k))⟩
      · have hij : i < j := by omega
        rw [ei i hij]
        obtain ⟨x1, x2, x3⟩ := hcb i hij
        exact ⟨gd x1 (by omega), fun k hk => (cS k (lW x1) (ne x1 (by omega))).trans ((cW k x1 (by omega)).trans (x2 k hk)), fun k => (fS _ k).trans ((fW k x1 (by omega)).trans (x3 k))⟩
    · rw [hown'] at e
      simp only at e
      have hzS : (W'.setCell ⟨mb, 1, none⟩ (.slice a' n' c')).heap.size = W'.heap.size := by simp [World.setCell]
      rw [hzS]
      by_cases e1 : k = wr.heap.size
      · have := bel.size; omega
      · rw [if_neg e1] at e
        by_cases e2 : g' = some k
        · refine ⟨?_, q'.lt k e2⟩
          rcases d' k e2 with x | x
          · exact (hlt k (by rw [hg2 k x]; simp)).1
          · have := bel.size; omega
        · rw [if_neg e2] at e
          have := hlt k e
          omega
/-- All clients are there: the moot. -/
theorem new_done {w W : World} {mb vb eb ecap n : Nat} {t : List UInt8} (h : NewAt w mb vb eb ecap t n n W) (n1 : 1 ≤ n) (n4 : n ≤ 4) : ∃ L own, DevM W mb (newM n t) L own ∧ Below w.heap.size w W ∧ ∀ k, own k ≠ none → w.heap.size ≤ k := by
  obtain ⟨bel, m0, mf, v0, v1, vh, vf, ss, ef, own, cb, a, n0, c, g, m1, kq, k0, hg2, o0, o1, o3, hcb, hlt⟩ := h
  obtain ⟨kb, kcap, hkb, hkv, hkl, hkc, _⟩ := rowN_open (by decide) (ptrRow_len cb) kq k0 n1
  rw [hkv] at m1
  have lo : ∀ {k l : Nat}, own k = some l → k < W.heap.size := fun {k l} e => (hlt k (by rw [e]; simp)).2
  refine ⟨⟨vb, kb, kcap, eb, ecap, cb⟩, own, ⟨n1, n4, m0, m1, v0, v1, vf, fun i hi => ?_, fun i hi => ?_, fun i hi => ?_, fun i hi => ⟨rfl, rfl⟩, o0, o1, hg2 kb hkb, o3, fun k e => (hlt k e).2, ⟨.slice none 0 0, none, vh, RowQ.nil _ _, Off0.nil, fun k e => (by cases e)⟩⟩, bel, fun k e => (hlt k e).1⟩
  · have := hkc i 0 hi (by decide)
    rw [Nat.mul_one, Nat.add_zero] at this
    exact this
  · obtain ⟨x1, x2, x3⟩ := hcb i hi
    refine ⟨none, none, ⟨⟨.slice none 0 0, .slice none 0 0, ⟨lo x1, x2 0 (by omega), x2 1 (by omega), x2 2 (by omega), x2 3 (by omega), RowQ.nil _ _, RowQ.nil _ _, x3, by simp, by simp, fun k e => (by cases e)⟩⟩, x2 4 (by omega), x2 5 (by omega)⟩, x1, fun k e => (by cases e), fun k e => (by cases e)⟩
  · refine ⟨none, none, ⟨⟨.slice none 0 0, .slice none 0 0, ⟨lo o3, ss i 0 hi (by omega), ss i 1 hi (by omega), ss i 2 hi (by omega), ss i 3 hi (by omega), RowQ.nil _ _, RowQ.nil _ _, ef, by simp, by simp, fun k e => (by cases e)⟩⟩, ss i 4 hi (by omega)⟩, fun k e => (by cases e), fun k e => (by cases e)⟩
end Go.Proofs.Ytabahmcbhapbiaa
namespace Go.Proofs.Ytabahmcbhapbiaa
open Go.RowKit Go.Lib
set_option linter.unusedVariables false
theorem dstr_size (t : List UInt8) : (ByteArray.mk t.toArray).size = t.length := by show t.toArray.size = _; simp
/-- What the server's making gives to New. -/
theorem new_zero {w w1 : World} {n : Nat} {t : List UInt8} (hb : Below w.heap.size w w1) (n1 : 1 ≤ n) (w2 : World) (h : SrvAt w1 w1.heap.size t n w2) (C : Obj) (hC : C = .cells #[.pointer (some ⟨w1.heap.size, 0, none⟩), .slice none 0 0] 80) : ∃ eb ecap, NewAt w w2.heap.size w1.heap.size eb ecap t n 0 (w2.alloc C) := by
  obtain ⟨bel, ge, lt, c0, fr, hh, a, n0, c, g, hc1, hq, h0, hg, hgw, hgf⟩ := h
  obtain ⟨eb, ecap, hge, hv, hel, hec, _⟩ := rowN_open (by decide) seatRow_len hq h0 n1
  rw [hv] at hc1
  have hbw : Below w.heap.size w w2 := bel_trans hb bel
  have hee : eb ≠ w1.heap.size := fun e => hg (by rw [hge, e])
  have hew := hgw eb hge
  have cl : ∀ {b : Nat} (k : Nat), b < w2.heap.size → (w2.alloc C).cell? ⟨b, k, none⟩ = w2.cell? ⟨b, k, none⟩ := fun {b} k hk => ((KeptX.refl (fun _ => False) w2).alloc C).cell (p := ⟨b, k, none⟩) hk (fun e => e)
  have fl : ∀ {b : Nat} (k : Nat), b < w2.heap.size → (w2.alloc C).frozen? ⟨b, k, none⟩ = w2.frozen? ⟨b, k, none⟩ := fun {b} k hk => ((KeptX.refl (fun _ => False) w2).alloc C).frozen (p := ⟨b, k, none⟩) hk (fun e => e)
  refine ⟨eb, ecap, ⟨bel_alloc hbw _, by rw [hC]; simp [go_sem], fun k => by rw [hC]; simp [go_sem], (cl 0 lt).trans c0, (cl 2 lt).trans hc1, (cl 1 lt).trans hh, fun k => (fl k lt).trans (fr k), fun i k hi hk => (cl _ hel).trans (hec i k hi hk), fun k => (fl k hel).trans (hgf eb hge k), ?_⟩⟩
  refine ⟨fun k => if k = w2.heap.size then some 0 else if k = w1.heap.size then some 1 else if k = eb then some 3 else none, fun _ => 0, none, 0, 0, none, by rw [hC]; simp [go_sem], RowQ.nil _ _, Off0.nil, fun k e => (by cases e), by simp, by simp [show w1.heap.size ≠ w2.heap.size by omega], by simp [show eb ≠ w2.heap.size by omega, hee], fun i hi => absurd hi (by omega), fun k e => ?_⟩
  have hs := hb.size
  simp only at e
  have hz : (w2.alloc C).heap.size = w2.heap.size + 1 := by simp
  rw [hz]
  by_cases e1 : k = w2.heap.size
  · have := bel.size; omega
  · rw [if_neg e1] at e
    by_cases e2 : k = w1.heap.size
    · omega
    · rw [if_neg e2] at e
      by_cases e3 : k = eb
      · omega
      · rw [if_neg e3] at e; exact absurd rfl e
set_option maxHeartbeats 2000000 in
theorem devNew_ok (n : Nat) (n1 : 1 ≤ n) (n4 : n ≤ 4) (t : List UInt8) (ht : t.length ≤ 60) (w : World) :
    Calls Try.prog 30 #[.int .i64 (n : Int), dstr t] w fun e w' => ∃ mb L own, e = .returned (.tuple #[.pointer (some ⟨mb, 0, none⟩), .int .i64 0]) ∧ Hid (DevM w' mb (newM n t) L own ∧ Below w.heap.size w w' ∧ ∀ k, own k ≠ none → w.heap.size ≤ k) := by
  have HC : Hid (∀ W, Calls Try.prog 59 #[dstr t] W fun e w' => e = .returned (dstr t) ∧ Below W.heap.size W w') := fun W => clone_any _ W (by rw [dstr_size]; omega)
  have HS : Hid (∀ W, Calls Try.prog 60 #[.int .i64 (n : Int), dstr t] W fun e w' => e = .returned (.pointer (some ⟨W.heap.size, 0, none⟩)) ∧ Hid (SrvAt W W.heap.size t n w')) := fun W => newServer_any n n4 t W
  have i1 : 1 ≤ (n : Int) := by omega
  have i4 : (n : Int) ≤ 4 := by omega
  have il : (t.length : Int) ≤ 60 := by omega
  have isz := dstr_size t
  go_enter Try.func30, Try.ntmps30
  go_wp2_with fail
  refine (HC.out _).mono ?_
  rintro e w1 ⟨rfl, hb1⟩
  have HB1 := hidP hb1
  clear hb1
  go_wp2_with fail
  refine (HS.out _).mono ?_
  rintro e w2 ⟨rfl, hs2⟩
  have HN := hidP (fun C hC => new_zero HB1.out n1 w2 hs2 C hC)
  clear hs2 HS HC
  go_wp2_with fail
  obtain ⟨eb, ecap, h0⟩ := HN.out _ rfl
  have H0 := hidP h0
  clear h0 HN
  go_loopw [25] (fun i wr => ∃ j : Nat, j ≤ n ∧ i = .int .i64 (j : Int) ∧ NewAt w w2.heap.size w1.heap.size eb ecap t n j wr) (fun i _ => n - (RowKit.intOf i).toNat)
  case atStart => exact ⟨0, Nat.zero_le _, rfl, H0.out⟩
  case round =>
    obtain ⟨j, hjn, rfl, hd⟩ := hrel
    clear H0
    by_cases hlt : j < n
    · have hlt' : (j : Int) < (n : Int) := by omega
      have hj4 : (j : Int) < 4 := by omega
      have hj5 : j < 4 := by omega
      obtain ⟨a, n0, c, m1, mf, lm, hA⟩ := new_step hd hj5
      have HA := hidP hA
      have HC : Hid (∀ W, Calls Try.prog 61 #[.int .i64 (j : Int), dstr t] W fun e w' => e = .returned (.pointer (some ⟨W.heap.size, 0, none⟩)) ∧ w' = W.alloc (.cells #[.int .i64 0, .int .i64 0, .slice none 0 0, .slice none 0 0, .int .i64 (j : Int), dstr t] 88)) := fun W => newClient_any j t W
      have lm1 : w2.heap.size < wr.heap.size + 1 := by omega
      have lm2 : w2.heap.size < wr.heap.size + 1 + 1 := by omega
      clear hA hd
      go_wp2_with fail
      first | (go_region_law (first | (go_simp; go_at_call 61; refine (HC.out _).mono ?_; rintro e w3 ⟨rfl, rfl⟩) | (refine step_append_ex (by rfl) _ _ _ _ (by rfl) _ _ (by rfl) (by rfl) _ HA.out ?_; rintro v3 W3 ⟨⟨a3, n3, c3, rfl⟩, hw3, t3, tf⟩; have HW3 := hidP hw3; clear hw3))) | fail
      all_goals go_wp2_with fail
      all_goals exact ⟨⟨j + 1, by omega, by go_num, HW3.out⟩, by simp [RowKit.intOf]; omega⟩
    · have hje : j = n := by omega
      subst hje
      have HF := hidP (new_done hd n1 n4)
      clear hd
      go_wp2
      go_ret2
      obtain ⟨L, own, hF⟩ := HF.out
      exact ⟨_, L, own, rfl, hF⟩
set_option maxHeartbeats 1000000 in
theorem devNew_arg (n : Int) (hn : n < 1 ∨ 4 < n) (t : List UInt8) (w : World) :
    Calls Try.prog 30 #[.int .i64 n, dstr t] w fun e w' => e = .returned (.tuple #[.pointer none, .int .i64 1]) ∧ w' = w := by
  by_cases h1 : n < 1
  · clear hn
    go_enter Try.func30, Try.ntmps30
    go_wp2_with fail
    go_ret2
    exact ⟨rfl, rfl⟩
  · have h4 : 4 < n := by omega
    have h1' : 1 ≤ n := by omega
    clear hn h1
    go_enter Try.func30, Try.ntmps30
    go_wp2_with fail
    go_ret2
    exact ⟨rfl, rfl⟩
set_option maxHeartbeats 1000000 in
theorem devNew_full (n : Nat) (n1 : 1 ≤ n) (n4 : n ≤ 4) (t : List UInt8) (ht : 60 < t.length) (w : World) :
    Calls Try.prog 30 #[.int .i64 (n : Int), dstr t] w fun e w' => e = .returned (.tuple #[.pointer none, .int .i64 3]) ∧ w' = w := by
  have i1 : 1 ≤ (n : Int) := by omega
  have i4 : (n : Int) ≤ 4 := by omega
  have il : 60 < (t.length : Int) := by omega
  have isz := dstr_size t
  go_enter Try.func30, Try.ntmps30
  go_wp2_with fail
  go_ret2
  exact ⟨rfl, rfl⟩
end Go.Proofs.Ytabahmcbhapbiaa
