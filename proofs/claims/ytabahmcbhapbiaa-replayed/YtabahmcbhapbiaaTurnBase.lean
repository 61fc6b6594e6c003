import Derived.Test.YtabahmcbhapbiaaBase
namespace Go.Proofs.Ytabahmcbhapbiaa

/-- An op: its Kind, At, Byte and Site. -/
structure Op4 where
  k : Int
  p : Int
  b : Int
  s : Int

/-- Turning (the document's section Words). -/
def turn (a b : Op4) : Op4 × Op4 :=
  if a.k = 0 ∨ b.k = 0 then (a, b)
  else if a.k = 1 ∧ b.k = 1 then if a.p < b.p ∨ (a.p = b.p ∧ a.s ≤ b.s) then (a, ⟨b.k, b.p + 1, b.b, b.s⟩) else (⟨a.k, a.p + 1, a.b, a.s⟩, b)
  else if a.k = 1 then if a.p ≤ b.p then (a, ⟨b.k, b.p + 1, b.b, b.s⟩) else (⟨a.k, a.p - 1, a.b, a.s⟩, b)
  else if b.k = 1 then if b.p ≤ a.p then (⟨a.k, a.p + 1, a.b, a.s⟩, b) else (a, ⟨b.k, b.p - 1, b.b, b.s⟩)
  else if a.p = b.p then (⟨0, 0, 0, a.s⟩, ⟨0, 0, 0, b.s⟩)
  else if a.p < b.p then (a, ⟨b.k, b.p - 1, b.b, b.s⟩) else (⟨a.k, a.p - 1, a.b, a.s⟩, b)

/-- The answer of a turning, as values. -/
def turnV (x : Op4 × Op4) : Value := .tuple #[.agg #[.int .i64 x.1.k, .int .i64 x.1.p, .int .i64 x.1.b, .int .i64 x.1.s], .agg #[.int .i64 x.2.k, .int .i64 x.2.p, .int .i64 x.2.b, .int .i64 x.2.s]]
theorem turnV_eq {x : Op4 × Op4} {a b c d e f g h : Int} (hx : x = (⟨a, b, c, d⟩, ⟨e, f, g, h⟩)) :
    (.tuple #[.agg #[.int .i64 a, .int .i64 b, .int .i64 c, .int .i64 d], .agg #[.int .i64 e, .int .i64 f, .int .i64 g, .int .i64 h]] : Value) = turnV x := by
  rw [hx]; rfl
end Go.Proofs.Ytabahmcbhapbiaa
