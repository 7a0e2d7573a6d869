/- A loan that is opened, and what Balance tells of a state. -/
import Derived.Test.YtanndhoimpnhpaaDoorPrJ0
import Derived.Test.YtanndhoimpnhpaaDoorRow
import Derived.Test.YtanndhoimpnhpaaDoorPrJ
namespace Go.Proofs.YtanndhoimpnhpaaDoor
open Go.RowKit Cal

/-- A balance as a value. -/
def blV (g : Ln.St) (day : Int) : Value := .agg #[.int .i64 g.pr, .int .i64 g.it, .int .i64 g.du, .int .i64 g.la, .int .i64 g.fi, .int .i64 g.cr, .int .i64 g.rt, .int .i64 day]
def bll (g : Ln.St) (day : Int) : List Value := [.int .i64 g.pr, .int .i64 g.it, .int .i64 g.du, .int .i64 g.la, .int .i64 g.fi, .int .i64 g.cr, .int .i64 g.rt, .int .i64 day]
theorem stV_start (t : Ln.Terms) : stV t (Ln.start t) 0 0 0 = .agg #[.int .i64 0, .int .i64 0, .int .i64 0, .int .i64 0, .int .i64 0, .int .i64 0, .int .i64 0, .int .i64 0, .int .i64 0, .int .i64 t.rt, .int .i64 0, .int .u64 0, .int .u64 0] := by
  simp [stV, Ln.start]

set_option maxRecDepth 10000 in
set_option maxHeartbeats 1000000 in
theorem first_any (t : Ln.Terms) (w : World) :
    Calls Tryd.prog 38 #[tmV t] w fun e w' => e = .returned (stV t (Ln.start t) 0 0 0) ∧ Below w.heap.size w w' := by
  rw [stV_start]
  unfold tmV
  go_enter Tryd.func38, Tryd.ntmps38
  go_wp2
  exact bodyPost_ret (v := .agg #[.int .i64 0, .int .i64 0, .int .i64 0, .int .i64 0, .int .i64 0, .int .i64 0, .int .i64 0, .int .i64 0, .int .i64 0, .int .i64 t.rt, .int .i64 0, .int .u64 0, .int .u64 0]) (by simp [results, Tryd.results38, go_sem]) rfl ⟨rfl, ((Below.refl _ _).alloc (Nat.le_refl _) _).alloc (by simp) _⟩

set_option maxRecDepth 10000 in
set_option maxHeartbeats 1000000 in
theorem balance_any (t : Ln.Terms) (g : Ln.St) (c i f day : Int) (w : World) (c0 : 0 ≤ g.cr) (c1 : g.cr ≤ 9000000000000000000) :
    Calls Tryd.prog 39 #[stV t g c i f, .int .i64 day] w fun e w' => e = .returned (blV g day) ∧ Below w.heap.size w w' := by
  unfold stV blV
  go_enter Tryd.func39, Tryd.ntmps39
  go_wp2
  exact bodyPost_ret (v := .agg #[.int .i64 g.pr, .int .i64 g.it, .int .i64 g.du, .int .i64 g.la, .int .i64 g.fi, .int .i64 g.cr, .int .i64 g.rt, .int .i64 day]) (by simp [results, Tryd.results39, go_sem]) rfl ⟨rfl, ((Below.refl _ _).alloc (Nat.le_refl _) _).alloc (by simp) _⟩
end Go.Proofs.YtanndhoimpnhpaaDoor
