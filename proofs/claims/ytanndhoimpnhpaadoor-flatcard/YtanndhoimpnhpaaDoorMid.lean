/- A piece of a block as a list: what both sides' Run want of it. -/
import Derived.Test.YtanndhoimpnhpaaDoorRow
import Derived.Test.YtanndhoimpnhpaaDoorLoan
namespace Go.Proofs.YtanndhoimpnhpaaDoor
open Go.RowKit

/-- A list with some places written over. -/
def setl : List Value → Nat → List Value → List Value
  | l, _, [] => l
  | l, o, v :: r => setl (l.set o v) (o + 1) r
theorem At.setCells {b : Nat} : ∀ (m : List Value) (o : Nat) (l : List Value) (w : World), At w b l → o + m.length ≤ l.length → At (w.setCells b o m) b (setl l o m)
  | [], _, _, _, h, _ => h
  | v :: r, o, l, w, h, hl => by
    have hl' : o + (r.length + 1) ≤ l.length := hl
    exact At.setCells r (o + 1) (l.set o v) _ (h.set o (by omega) v) (by rw [List.length_set]; omega)
theorem At.there_mid {w : World} {b : Nat} {l : List Value} (h : At w b l) (o n : Nat) (hn : o + n ≤ l.length) : w.there b o n := fun j hj => by
  obtain ⟨h1, h2⟩ := h (o + j) l[o + j] (List.getElem?_eq_getElem (by omega))
  exact ⟨by rw [h1]; rfl, h2⟩
/-- A loan's terms in memory. -/
def tl6 (t : Ln.Terms) : List Value := [.int .i64 t.st, .int .i64 t.pr, .int .i64 t.rt, .int .i64 t.fi, .int .i64 t.ba, .int .i64 t.du]
/-- A loan's balance in memory. -/
def bl8 (g : Ln.St) (day : Int) : List Value := [.int .i64 g.pr, .int .i64 g.it, .int .i64 g.du, .int .i64 g.la, .int .i64 g.fi, .int .i64 g.cr, .int .i64 g.rt, .int .i64 day]

end Go.Proofs.YtanndhoimpnhpaaDoor
