import Derived.Test.YtabahmcbhapbiaaDevInv
import Derived.Test.YtabahmcbhapbiaaDevText
import Derived.Test.YtabahmcbhapbiaaDevNew
import Derived.Test.YtabahmcbhapbiaaTurn
namespace Go.Proofs.Ytabahmcbhapbiaa
open Go.RowKit Go.Lib
set_option linter.unusedVariables false
/-- A moot that was made since w. -/
def Live (w W : World) (mb : Nat) (first : List UInt8) (m : Moo) : Prop := ∃ L own, DevM W mb m L own ∧ Inv first m ∧ Few m ∧ Below w.heap.size w W ∧ ∀ k, own k ≠ none → w.heap.size ≤ k
theorem Live.bel {w W : World} {mb : Nat} {first : List UInt8} {m : Moo} (h : Live w W mb first m) : Below w.heap.size w W := by
  obtain ⟨L, own, _, _, _, h4, _⟩ := h
  exact h4
theorem Live.below {w W W' : World} {mb : Nat} {first : List UInt8} {m : Moo} (h : Live w W mb first m) (hb : Below W.heap.size W W') : Live w W' mb first m := by
  obtain ⟨L, own, h1, h2, h3, h4, h5⟩ := h
  exact ⟨L, own, h1.below hb, h2, h3, bel_trans h4 hb, h5⟩
theorem live_next {w W W' : World} {mb : Nat} {L : DLay} {own own' : Nat → Option Nat} {first : List UInt8} {m' : Moo} (h4 : Below w.heap.size w W) (h5 : ∀ k, own k ≠ none → w.heap.size ≤ k) (hd : DevM W' mb m' L own') (hf : DFrm W own W' own') (hI : Inv first m') (hF : Few m') : Live w W' mb first m' := by
  refine ⟨L, own', hd, hI, hF, ⟨hf.kx.os.trans h4.os, hf.kx.tape.trans h4.tape, hf.kx.output.trans h4.output, Nat.le_trans h4.size hf.kx.size, fun k hk => (hf.kx.block k (Nat.lt_of_lt_of_le hk h4.size) (fun e => by have := h5 k e; omega)).trans (h4.block k hk)⟩, fun k e => ?_⟩
  rcases hf.nw k e with x | x
  · exact h5 k x
  · exact Nat.le_trans h4.size x
theorem few_small {m : Moo} (h : m.hist.length ≤ 1000) : Few m := by
  show (m.hist.length + 1) * 48 ≤ 140737488355328
  omega
theorem live_new (n : Nat) (n1 : 1 ≤ n) (n4 : n ≤ 4) (t : List UInt8) (ht : t.length ≤ 60) (w : World) :
    Calls Try.prog 30 #[.int .i64 (n : Int), dstr t] w fun e w' => ∃ mb, e = .returned (.tuple #[.pointer (some ⟨mb, 0, none⟩), .int .i64 0]) ∧ Live w w' mb t (newM n t) := by
  refine (devNew_ok n n1 n4 t ht w).mono ?_
  rintro e w' ⟨mb, L, own, rfl, h1, h2, h3⟩
  exact ⟨mb, rfl, L, own, h1, inv_new n1 n4 ht, few_small (by show (0 : Nat) ≤ _; omega), h2, h3⟩
theorem live_type {w W : World} {mb : Nat} {first : List UInt8} {m m' : Moo} (h : Live w W mb first m) (c : Nat) (hc : c < m.n) (o : Op4) (t : List UInt8) (hm : mayT (m.cl c).text.length (m.cl c).ho.length o = 0) (ht : app (m.cl c).text (asOf o c) = some t) (hm' : m' = m.set c (typeC (m.cl c) (asOf o c) t)) :
    Calls Try.prog 26 #[.pointer (some ⟨mb, 0, none⟩), .int .i64 (c : Int), .agg #[.int .i64 o.k, .int .i64 o.p, .int .i64 o.b, .int .i64 o.s]] W fun e w' => e = .returned (.int .i64 0) ∧ Live w w' mb first m' := by
  obtain ⟨L, own, h1, h2, h3, h4, h5⟩ := h
  obtain ⟨t', e1, e2, e3⟩ := devType_inv h1 h2 h3 c hc o hm
  rw [ht] at e1
  cases e1
  refine e3.mono ?_
  rintro e w' ⟨rfl, own', hd, hf⟩
  rw [hm']
  exact ⟨rfl, live_next h4 h5 hd hf e2 h3⟩
theorem live_up {w W : World} {mb : Nat} {first : List UInt8} {m m' : Moo} (h : Live w W mb first m) (c : Nat) (hc : c < m.n) (μ : Msg) (r : List Msg) (t : List UInt8) (hu : (m.cl c).up = μ :: r) (ht : app m.srv (upO (m.cl c) μ) = some t) (hm' : m' = upM m c μ r t) (hF : Few m') :
    Calls Try.prog 25 #[.pointer (some ⟨mb, 0, none⟩), .int .i64 (c : Int)] W fun e w' => e = .returned (.int .i64 0) ∧ Live w w' mb first m' := by
  obtain ⟨L, own, h1, h2, h3, h4, h5⟩ := h
  obtain ⟨t', e1, e2, e3⟩ := devUp_inv h1 h2 h3 c hc μ r hu
  rw [ht] at e1
  cases e1
  refine e3.mono ?_
  rintro e w' ⟨rfl, own', hd, hf⟩
  rw [hm'] at hF ⊢
  exact ⟨rfl, live_next h4 h5 hd hf e2 hF⟩
theorem live_down {w W : World} {mb : Nat} {first : List UInt8} {m m' : Moo} (h : Live w W mb first m) (c : Nat) (hc : c < m.n) (μ : Msg) (r : List Msg) (t : List UInt8) (hd : (m.cl c).dn = μ :: r) (ht : app (m.cl c).text (dnO (m.cl c) μ) = some t) (hm' : m' = m.set c (takeC (m.cl c) μ r t)) :
    Calls Try.prog 27 #[.pointer (some ⟨mb, 0, none⟩), .int .i64 (c : Int)] W fun e w' => e = .returned (.int .i64 0) ∧ Live w w' mb first m' := by
  obtain ⟨L, own, h1, h2, h3, h4, h5⟩ := h
  obtain ⟨t', e1, e2, e3⟩ := devDown_inv h1 h2 h3 c hc μ r hd
  rw [ht] at e1
  cases e1
  refine e3.mono ?_
  rintro e w' ⟨rfl, own', hd, hf⟩
  rw [hm']
  exact ⟨rfl, live_next h4 h5 hd hf e2 h3⟩
theorem live_text {w W : World} {mb : Nat} {first : List UInt8} {m : Moo} (h : Live w W mb first m) (c : Nat) (hc : c < m.n) (t : List UInt8) (ht : (m.cl c).text = t) :
    Calls Try.prog 20 #[.pointer (some ⟨mb, 0, none⟩), .int .i64 (c : Int)] W fun e w' => e = .returned (.tuple #[dstr t, .int .i64 0]) ∧ W = w' := by
  obtain ⟨L, own, h1, h2, h3, h4, h5⟩ := h
  rw [← ht]
  exact devText_cli h1 c hc
theorem live_srv {w W : World} {mb : Nat} {first : List UInt8} {m : Moo} (h : Live w W mb first m) (t : List UInt8) (ht : m.srv = t) :
    Calls Try.prog 20 #[.pointer (some ⟨mb, 0, none⟩), .int .i64 (-1)] W fun e w' => e = .returned (.tuple #[dstr t, .int .i64 0]) ∧ W = w' := by
  obtain ⟨L, own, h1, h2, h3, h4, h5⟩ := h
  rw [← ht]
  exact devText_srv h1
/-! ### The moot of 'awake' -/
def abc : List UInt8 := [97, 98, 99]
def aw0 : Moo := newM 2 abc
def aw1 : Moo := aw0.set 0 (typeC (aw0.cl 0) ⟨1, 1, 120, 0⟩ [97, 120, 98, 99])
def aw2 : Moo := aw1.set 1 (typeC (aw1.cl 1) ⟨2, 1, 0, 1⟩ [97, 99])
def aw3 : Moo := upM aw2 0 ⟨⟨1, 1, 120, 0⟩, 0, 0⟩ [] [97, 120, 98, 99]
def aw4 : Moo := upM aw3 1 ⟨⟨2, 1, 0, 1⟩, 0, 0⟩ [] [97, 120, 99]
def aw5 : Moo := aw4.set 0 (takeC (aw4.cl 0) ⟨noop 0, 0, 1⟩ [⟨⟨2, 2, 0, 1⟩, 1, 1⟩] [97, 120, 98, 99])
def aw6 : Moo := aw5.set 0 (takeC (aw5.cl 0) ⟨⟨2, 2, 0, 1⟩, 1, 1⟩ [] [97, 120, 99])
def aw7 : Moo := aw6.set 1 (takeC (aw6.cl 1) ⟨⟨1, 1, 120, 0⟩, 0, 0⟩ [⟨noop 1, 1, 1⟩] [97, 120, 99])
def aw8 : Moo := aw7.set 1 (takeC (aw7.cl 1) ⟨noop 1, 1, 1⟩ [] [97, 120, 99])
theorem aw1_ok : mayT (aw0.cl 0).text.length (aw0.cl 0).ho.length ⟨1, 1, 120, 0⟩ = 0 ∧ app (aw0.cl 0).text (asOf ⟨1, 1, 120, 0⟩ 0) = some [97, 120, 98, 99] := ⟨by decide, by decide⟩
theorem aw2_ok : mayT (aw1.cl 1).text.length (aw1.cl 1).ho.length ⟨2, 1, 0, 0⟩ = 0 ∧ app (aw1.cl 1).text (asOf ⟨2, 1, 0, 0⟩ 1) = some [97, 99] := ⟨by decide, by decide⟩
theorem aw3_ok : (aw2.cl 0).up = ⟨⟨1, 1, 120, 0⟩, 0, 0⟩ :: [] ∧ app aw2.srv (upO (aw2.cl 0) ⟨⟨1, 1, 120, 0⟩, 0, 0⟩) = some [97, 120, 98, 99] := ⟨rfl, by decide⟩
theorem aw4_ok : (aw3.cl 1).up = ⟨⟨2, 1, 0, 1⟩, 0, 0⟩ :: [] ∧ app aw3.srv (upO (aw3.cl 1) ⟨⟨2, 1, 0, 1⟩, 0, 0⟩) = some [97, 120, 99] := ⟨rfl, by decide⟩
theorem aw5_ok : (aw4.cl 0).dn = ⟨noop 0, 0, 1⟩ :: [⟨⟨2, 2, 0, 1⟩, 1, 1⟩] ∧ app (aw4.cl 0).text (dnO (aw4.cl 0) ⟨noop 0, 0, 1⟩) = some [97, 120, 98, 99] := ⟨rfl, by decide⟩
theorem aw6_ok : (aw5.cl 0).dn = ⟨⟨2, 2, 0, 1⟩, 1, 1⟩ :: [] ∧ app (aw5.cl 0).text (dnO (aw5.cl 0) ⟨⟨2, 2, 0, 1⟩, 1, 1⟩) = some [97, 120, 99] := ⟨rfl, by decide⟩
theorem aw7_ok : (aw6.cl 1).dn = ⟨⟨1, 1, 120, 0⟩, 0, 0⟩ :: [⟨noop 1, 1, 1⟩] ∧ app (aw6.cl 1).text (dnO (aw6.cl 1) ⟨⟨1, 1, 120, 0⟩, 0, 0⟩) = some [97, 120, 99] := ⟨rfl, by decide⟩
theorem aw8_ok : (aw7.cl 1).dn = ⟨noop 1, 1, 1⟩ :: [] ∧ app (aw7.cl 1).text (dnO (aw7.cl 1) ⟨noop 1, 1, 1⟩) = some [97, 120, 99] := ⟨rfl, by decide⟩
theorem aw_end : (aw8.cl 0).text = [97, 120, 99] ∧ (aw8.cl 1).text = [97, 120, 99] ∧ aw8.srv = [97, 120, 99] := ⟨rfl, rfl, rfl⟩
end Go.Proofs.Ytabahmcbhapbiaa
namespace Go.Proofs.Ytabahmcbhapbiaa
open Go.RowKit Go.Lib
set_option linter.unusedVariables false
set_option maxHeartbeats 2000000 in
theorem awake_any (w : World) : Calls Try.prog 13 #[] w fun e w' => e = .returned (.bool true) ∧ Below w.heap.size w w' := by
  have H0 : Hid (∀ W, Calls Try.prog 30 #[.int .i64 2, dstr abc] W fun e w' => ∃ mb, e = .returned (.tuple #[.pointer (some ⟨mb, 0, none⟩), .int .i64 0]) ∧ Live W w' mb abc aw0) := fun W => live_new 2 (by decide) (by decide) abc (by decide) W
  have H1 : Hid (∀ W mb, Live w W mb abc aw0 → Calls Try.prog 26 #[.pointer (some ⟨mb, 0, none⟩), .int .i64 0, .agg #[.int .i64 1, .int .i64 1, .int .i64 120, .int .i64 0]] W fun e w' => e = .returned (.int .i64 0) ∧ Live w w' mb abc aw1) := fun W mb h => live_type h 0 (by decide) ⟨1, 1, 120, 0⟩ _ aw1_ok.1 aw1_ok.2 rfl
  have H2 : Hid (∀ W mb, Live w W mb abc aw1 → Calls Try.prog 26 #[.pointer (some ⟨mb, 0, none⟩), .int .i64 1, .agg #[.int .i64 2, .int .i64 1, .int .i64 0, .int .i64 0]] W fun e w' => e = .returned (.int .i64 0) ∧ Live w w' mb abc aw2) := fun W mb h => live_type h 1 (by decide) ⟨2, 1, 0, 0⟩ _ aw2_ok.1 aw2_ok.2 rfl
  have H3 : Hid (∀ W mb, Live w W mb abc aw2 → Calls Try.prog 25 #[.pointer (some ⟨mb, 0, none⟩), .int .i64 0] W fun e w' => e = .returned (.int .i64 0) ∧ Live w w' mb abc aw3) := fun W mb h => live_up h 0 (by decide) _ _ _ aw3_ok.1 aw3_ok.2 rfl (few_small (by decide))
  have H4 : Hid (∀ W mb, Live w W mb abc aw3 → Calls Try.prog 25 #[.pointer (some ⟨mb, 0, none⟩), .int .i64 1] W fun e w' => e = .returned (.int .i64 0) ∧ Live w w' mb abc aw4) := fun W mb h => live_up h 1 (by decide) _ _ _ aw4_ok.1 aw4_ok.2 rfl (few_small (by decide))
  have H5 : Hid (∀ W mb, Live w W mb abc aw4 → Calls Try.prog 27 #[.pointer (some ⟨mb, 0, none⟩), .int .i64 0] W fun e w' => e = .returned (.int .i64 0) ∧ Live w w' mb abc aw5) := fun W mb h => live_down h 0 (by decide) _ _ _ aw5_ok.1 aw5_ok.2 rfl
  have H6 : Hid (∀ W mb, Live w W mb abc aw5 → Calls Try.prog 27 #[.pointer (some ⟨mb, 0, none⟩), .int .i64 0] W fun e w' => e = .returned (.int .i64 0) ∧ Live w w' mb abc aw6) := fun W mb h => live_down h 0 (by decide) _ _ _ aw6_ok.1 aw6_ok.2 rfl
  have H7 : Hid (∀ W mb, Live w W mb abc aw6 → Calls Try.prog 27 #[.pointer (some ⟨mb, 0, none⟩), .int .i64 1] W fun e w' => e = .returned (.int .i64 0) ∧ Live w w' mb abc aw7) := fun W mb h => live_down h 1 (by decide) _ _ _ aw7_ok.1 aw7_ok.2 rfl
  have H8 : Hid (∀ W mb, Live w W mb abc aw7 → Calls Try.prog 27 #[.pointer (some ⟨mb, 0, none⟩), .int .i64 1] W fun e w' => e = .returned (.int .i64 0) ∧ Live w w' mb abc aw8) := fun W mb h => live_down h 1 (by decide) _ _ _ aw8_ok.1 aw8_ok.2 rfl
  have T0 : Hid (∀ W mb, Live w W mb abc aw8 → Calls Try.prog 20 #[.pointer (some ⟨mb, 0, none⟩), .int .i64 0] W fun e w' => e = .returned (.tuple #[dstr [97, 120, 99], .int .i64 0]) ∧ W = w') := fun W mb h => live_text h 0 (by decide) _ aw_end.1
  have T1 : Hid (∀ W mb, Live w W mb abc aw8 → Calls Try.prog 20 #[.pointer (some ⟨mb, 0, none⟩), .int .i64 1] W fun e w' => e = .returned (.tuple #[dstr [97, 120, 99], .int .i64 0]) ∧ W = w') := fun W mb h => live_text h 1 (by decide) _ aw_end.2.1
  have T2 : Hid (∀ W mb, Live w W mb abc aw8 → Calls Try.prog 20 #[.pointer (some ⟨mb, 0, none⟩), .int .i64 (-1)] W fun e w' => e = .returned (.tuple #[dstr [97, 120, 99], .int .i64 0]) ∧ W = w') := fun W mb h => live_srv h _ aw_end.2.2
  have HT : Hid (∀ W, Calls Try.prog 15 #[.agg #[.int .i64 1, .int .i64 3, .int .i64 113, .int .i64 0], .agg #[.int .i64 2, .int .i64 1, .int .i64 0, .int .i64 0]] W fun e w' => e = .returned (.tuple #[.agg #[.int .i64 1, .int .i64 2, .int .i64 113, .int .i64 0], .agg #[.int .i64 2, .int .i64 1, .int .i64 0, .int .i64 0], .int .i64 0]) ∧ Below W.heap.size W w') := fun W => mootTurn_any ⟨1, 3, 113, 0⟩ ⟨2, 1, 0, 0⟩ W
  go_enter Try.func13, Try.ntmps13
  go_wp2_with fail
  refine (H0.out _).mono ?_
  rintro e w0 ⟨mb, rfl, l0⟩
  have L0 := hidP l0
  clear l0
  go_wp2_with fail
  refine (H1.out _ _ L0.out).mono ?_
  rintro e w1 ⟨rfl, l1⟩
  have L1 := hidP l1
  clear l1 H1 L0
  go_wp2_with fail
  refine (H2.out _ _ L1.out).mono ?_
  rintro e w2 ⟨rfl, l2⟩
  have L2 := hidP l2
  clear l2 H2 L1
  go_wp2_with fail
  refine (H3.out _ _ L2.out).mono ?_
  rintro e w3 ⟨rfl, l3⟩
  have L3 := hidP l3
  clear l3 H3 L2
  go_wp2_with fail
  refine (H4.out _ _ L3.out).mono ?_
  rintro e w4 ⟨rfl, l4⟩
  have L4 := hidP l4
  clear l4 H4 L3
  go_wp2_with fail
  refine (H5.out _ _ L4.out).mono ?_
  rintro e w5 ⟨rfl, l5⟩
  have L5 := hidP l5
  clear l5 H5 L4
  go_wp2_with fail
  refine (H6.out _ _ L5.out).mono ?_
  rintro e w6 ⟨rfl, l6⟩
  have L6 := hidP l6
  clear l6 H6 L5
  go_wp2_with fail
  refine (H7.out _ _ L6.out).mono ?_
  rintro e w7 ⟨rfl, l7⟩
  have L7 := hidP l7
  clear l7 H7 L6
  go_wp2_with fail
  refine (H8.out _ _ L7.out).mono ?_
  rintro e w8 ⟨rfl, l8⟩
  have L8 := hidP l8
  clear l8 H8 L7
  go_wp2_with fail
  refine (T0.out _ _ L8.out).mono ?_
  rintro e v0 ⟨rfl, rfl⟩
  clear T0
  go_wp2_with fail
  refine (T1.out _ _ L8.out).mono ?_
  rintro e v1 ⟨rfl, rfl⟩
  clear T1
  go_wp2_with fail
  refine (T2.out _ _ L8.out).mono ?_
  rintro e v2 ⟨rfl, rfl⟩
  clear T2
  go_wp2_with fail
  refine (HT.out _).mono ?_
  rintro e w9 ⟨rfl, hb9⟩
  have HB := hidP (bel_trans L8.out.bel hb9)
  clear hb9 L8 HT
  go_wp2
  all_goals go_ret
  all_goals exact ⟨rfl, bel_alloc (bel_alloc HB.out _) _⟩
end Go.Proofs.Ytabahmcbhapbiaa
