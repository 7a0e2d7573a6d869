/- Events, states and amounts as values. -/
import Derived.Test.YtanndhoimpnhpaaDoorPrF
import Derived.Test.YtanndhoimpnhpaaDoorPrG
import Derived.Test.YtanndhoimpnhpaaDoorPrI
namespace Go.Proofs.YtanndhoimpnhpaaDoor
open Go.RowKit Cal

/-- Events that lie in memory, as a slice tells them. -/
def EvS (w : World) (v : Value) (l : List Ln.Ev) : Prop :=
  ∃ p cap, v = .slice p l.length cap ∧ (l = [] ∨ ∃ E o, p = some ⟨E, o, none⟩ ∧ ∀ j e, l[j]? = some e → w.cell? ⟨E, o + j * 4, none⟩ = some (.int .i64 e.d) ∧ w.cell? ⟨E, o + j * 4 + 1, none⟩ = some (.int .i64 e.k) ∧ w.cell? ⟨E, o + j * 4 + 2, none⟩ = some (.int .i64 e.s) ∧ w.cell? ⟨E, o + j * 4 + 3, none⟩ = some (.int .i64 e.a))
/-- A state as a value. -/
def stV (t : Ln.Terms) (g : Ln.St) (c i f : Int) : Value :=
  .agg #[.int .i64 c, .int .i64 g.pr, .int .i64 g.it, .int .i64 g.du, .int .i64 g.la, .int .i64 g.fi, .int .i64 (-g.cr), .int .i64 i, .int .i64 f, .int .i64 g.rt, .int .i64 g.fr, .int .u64 (g.ea % Ln.den t), .int .u64 (g.fn % Ln.den t)]
def tmV (t : Ln.Terms) : Value := .agg #[.int .i64 t.st, .int .i64 t.pr, .int .i64 t.rt, .int .i64 t.fi, .int .i64 t.ba, .int .i64 t.du]
def amV (am : Nat → Int) : Value := .agg #[.int .i64 (am 0), .int .i64 (am 1), .int .i64 (am 2), .int .i64 (am 3), .int .i64 (am 4), .int .i64 (am 5), .int .i64 (am 6), .int .i64 (am 7), .int .i64 (am 8), .int .i64 (am 9), .int .i64 (am 10), .int .i64 (am 11), .int .i64 (am 12)]

end Go.Proofs.YtanndhoimpnhpaaDoor
