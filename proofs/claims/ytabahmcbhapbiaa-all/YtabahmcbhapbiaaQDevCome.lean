import Derived.Test.YtabahmcbhapbiaaQDevT
import Derived.Test.YtabahmcbhapbiaaQEndMeet
import Derived.Test.YtabahmcbhapbiaaQEndX
namespace Go.Proofs.Ytabahmcbhapbiaa
open Go.RowKit Go.Lib
set_option linter.unusedVariables false
set_option maxHeartbeats 2000000 in
theorem ccome_any (cb i : Nat) (x : Cli) (go gq : Option Nat) (μ : Msg) (r : List Msg) (t : List UInt8) (w : World) (h : CliMem w cb i x go gq) (hko : x.hk + x.ho.length = x.hs) (hk1 : x.hk ≤ μ.came) (hk2 : μ.came - x.hk ≤ x.ho.length) (hs : x.hs ≤ 1000000000000000000) (hc : x.hc ≤ 1000000000000000000) (hlen : x.ho.length ≤ 10000000000000) (ho : Bd 100000000000000 μ.o) (hl : ∀ y ∈ x.ho, Bd 100000000000000 y)
    (ha : app x.text (dnO x μ) = some t) (hw : Wf (dnO x μ)) (ht : x.text.length ≤ 1000) :
    Calls Try.prog 47 #[.pointer (some ⟨cb, 0, none⟩), .agg #[.int .i64 μ.o.k, .int .i64 μ.o.p, .int .i64 μ.o.b, .int .i64 μ.o.s, .int .i64 (μ.sent : Int), .int .i64 (μ.came : Int)]] w fun e w' => e = .returned (.tuple #[]) ∧ Hid (CliMem w' cb i { takeC x μ r t with dn := x.dn } go gq ∧ LocKept w w' cb go gq go gq) := by
  have hcame : μ.came = x.hs - x.ho.length + (μ.came - x.hk) := by omega
  have HMt : Hid (∀ W, Below w.heap.size w W → Calls Try.prog 69 #[.pointer (some ⟨cb, 0, none⟩), .agg #[.int .i64 μ.o.k, .int .i64 μ.o.p, .int .i64 μ.o.b, .int .i64 μ.o.s, .int .i64 (μ.sent : Int), .int .i64 (μ.came : Int)]] W fun e w' =>
      e = .returned (.agg #[.int .i64 (dnO x μ).k, .int .i64 (dnO x μ).p, .int .i64 (dnO x μ).b, .int .i64 (dnO x μ).s]) ∧ Hid (CliMem w' cb i { takeC x μ r x.text with dn := x.dn } go gq ∧ LocKept w w' cb go gq go gq)) := fun W hW => by
    obtain ⟨⟨vo, vq, he⟩, h4, h5⟩ := h.below hW
    have hm := emeet_any cb 0 x.hs x.hc vo vq x.ho x.up go gq μ.o μ.sent (μ.came - x.hk) W he (by omega) hs hk2 hc hlen ho hl
    rw [← hcame] at hm
    refine hm.mono ?_
    rintro e w' ⟨rfl, vo', he', hk'⟩
    exact ⟨rfl, ⟨⟨vo', vq, he'⟩, (hk'.ot 4 (by omega)).trans h4, (hk'.ot 5 (by omega)).trans h5⟩, (LocKept.of_below hW).trans (LocKept.of_end hk')⟩
  have HD : Hid (∀ W, Calls Try.prog 34 #[dstr x.text, .agg #[.int .i64 (dnO x μ).k, .int .i64 (dnO x μ).p, .int .i64 (dnO x μ).b, .int .i64 (dnO x μ).s]] W fun e w' => e = .returned (dstr t) ∧ Below W.heap.size W w') := fun W => opDo_app x.text t (dnO x μ) hw ha ht W
  generalize dnO x μ = z at *
  have lt := (h.en).choose_spec.choose_spec.lt
  have h5 := h.c5
  clear ha hw h hl ho hcame hko hk1 hk2
  go_enter Try.func47, Try.ntmps47
  have HFin : Hid (∀ w2 w3, CliMem w2 cb i { takeC x μ r x.text with dn := x.dn } go gq ∧ LocKept w w2 cb go gq go gq → Below w2.heap.size w2 w3 → (CliMem (w3.setCell ⟨cb, 5, none⟩ (dstr t)) cb i { takeC x μ r t with dn := x.dn } go gq ∧ LocKept w (w3.setCell ⟨cb, 5, none⟩ (dstr t)) cb go gq go gq) ∧ w3.cell? ⟨cb, 5, none⟩ = some (dstr x.text) ∧ w3.frozen? ⟨cb, 5, none⟩ = false) := fun w2 w3 h2 hb => by
    have h3 := h2.1.below hb
    obtain ⟨h4, h5⟩ := h3.setText t
    exact ⟨⟨h4, (h2.2.below hb).trans h5⟩, h3.c5, by obtain ⟨_, _, he⟩ := h3.en; exact he.fr 5⟩
  go_wp2_with fail
  go_region_with ((first | (go_at_call 69; refine (HMt.out _ (by repeat (first | exact Below.refl _ _ | apply Below.drew | refine bel_alloc ?_ _))).mono ?_; rintro e w2 ⟨rfl, hm2⟩; have t5 : w2.cell? ⟨cb, 5, none⟩ = some (dstr x.text) := hm2.1.c5; have HM2 : Hid (CliMem w2 cb i { takeC x μ r x.text with dn := x.dn } go gq ∧ LocKept w w2 cb go gq go gq) := hm2; clear hm2) | (go_at_call 34; refine (HD.out _).mono ?_; rintro e w3 ⟨rfl, hb3⟩; obtain ⟨hf3, q5, qf⟩ := HFin.out _ w3 HM2.out hb3; have HF3 : Hid (CliMem (w3.setCell ⟨cb, 5, none⟩ (dstr t)) cb i { takeC x μ r t with dn := x.dn } go gq ∧ LocKept w (w3.setCell ⟨cb, 5, none⟩ (dstr t)) cb go gq go gq) := hf3; clear hf3 hb3)))
  all_goals go_wp2
  all_goals simp [bodyPost, results, Try.results47, go_sem]
  all_goals exact HF3.out
end Go.Proofs.Ytabahmcbhapbiaa
