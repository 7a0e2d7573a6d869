/- One day of the program is a day of the loan. -/
import Derived.Test.YtanndhoimpnhpaaDoorPrJ
namespace Go.Proofs.YtanndhoimpnhpaaDoor
open Go.RowKit Cal

theorem late_fn (t : Ln.Terms) (w : Int) (y : Ln.Dy) : (Ln.late t w y).g.fn = y.g.fn + y.g.la * (t.fi * w) := rfl
theorem pass_any (w : World) (t : Ln.Terms) (n : Int) (g : Ln.St) (c i f : Int) (l : List Ln.Ev) (p : Option Addr) (cap : Nat)
    (hev : ∀ k (hk : k < l.length), ∃ E o, p = some ⟨E, o, none⟩ ∧ E < w.heap.size ∧ w.cell? ⟨E, o + k * 4, none⟩ = some (.int .i64 l[k].d) ∧ w.cell? ⟨E, o + k * 4 + 1, none⟩ = some (.int .i64 l[k].k) ∧ w.cell? ⟨E, o + k * 4 + 2, none⟩ = some (.int .i64 l[k].s) ∧ w.cell? ⟨E, o + k * 4 + 3, none⟩ = some (.int .i64 l[k].a))
    (hll : l.length ≤ 1000000) (hm : Mv w) (hg : 1 < w.heap.size) (n0 : 0 ≤ n) (n1 : n ≤ 109572) (L : Int) (s : Nat) (hI : Ln.Inv t L s g) (ht : Ln.OkT t) (hl : ∀ e ∈ l, Ln.OkE t e) (hn : ∀ e ∈ l, e.d = n)
    (wt : Nat) (hwt : wtOf t.ba n = wt) (hw3 : wt ≤ 3) (hs : s + wt ≤ 4320) (hL : L + (if n = t.st then t.pr else 0) + Ln.lents n l ≤ 4100000000000) (hfn : (Ln.day t n (cdOf n) wt l g).g.fn / Ln.den t ≤ 8000000000000000000) :
    Calls Tryd.prog 44 #[stV t g c i f, tmV t, .int .i64 n, .slice p l.length cap] w fun e w' => (∃ c' i' f', e = .returned (.tuple #[stV t (Ln.day t n (cdOf n) wt l g).g c' i' f', amV (Ln.day t n (cdOf n) wt l g).am])) ∧ Below w.heap.size w w' := by
  have hd := Ln.den_bd t
  have hlen := Ln.lents_nn n l hl
  have hpr := ht.pr0
  have hL0 := hI.L0
  have hif : 0 ≤ (if n = t.st then t.pr else 0) := by split <;> omega
  have I0 := hI.early n (cdOf n) ht
  have A0 := Ln.Am.early (n := n) hI (by omega) (by omega) ht (cdOf n)
  have If := Ln.Inv.events n l I0 hl
  have fe := Ln.events_fn n l (Ln.early t n (cdOf n) g)
  rw [Ln.early_fn] at fe
  have hfn' : ((l.foldl (Ln.event n) (Ln.early t n (cdOf n) g)).g.fn + (l.foldl (Ln.event n) (Ln.early t n (cdOf n) g)).g.la * (t.fi * wt)) / Ln.den t ≤ 8000000000000000000 := hfn
  have hw0 : (0 : Int) ≤ wt := by omega
  have m2 : 0 ≤ (l.foldl (Ln.event n) (Ln.early t n (cdOf n) g)).g.la * (t.fi * wt) := Int.mul_nonneg If.la (Int.mul_nonneg ht.fi0 hw0)
  have hg0 : g.fn / Ln.den t ≤ 8000000000000000000 := Int.le_trans (Int.ediv_le_ediv (by omega) (by omega)) hfn'
  have Af := Ln.Am.events n l A0 I0 (by omega) (by rw [Ln.early_fn]; exact hg0) hL hl
  refine pass_core w t n g c i f l p cap (Ln.early t n (cdOf n) g) _ hev hll ?_ ?_ ?_
  · intro W P kW hP hp
    exact pbegin_any W P t n g n0 (by omega) hp (hm.keep kW (fun x => x)) (by omega) L s hI (by omega) (by omega) hg0 ht
  · intro W P k hk kW hP hp
    have hlk : ∀ e ∈ l.take k, Ln.OkE t e := fun e he => hl e (List.mem_of_mem_take he)
    have hmem : l[k] ∈ l := List.getElem_mem hk
    have e1 : Ln.lents n l = Ln.lents n (l.take k) + (Ln.lent n l[k] + Ln.lents n (l.drop (k + 1))) := by
      have : l = l.take k ++ (l[k] :: l.drop (k + 1)) := by rw [List.getElem_cons_drop, List.take_append_drop]
      conv => lhs; rw [this]
      rw [Ln.lents_append]
      rfl
    have e2 : Ln.lent n l[k] = l[k].a := by
      unfold Ln.lent
      rw [if_pos (hn _ hmem)]
    have e3 := Ln.lents_nn n (l.drop (k + 1)) (fun e he => hl e (List.mem_of_mem_drop he))
    have e4 := (hl _ hmem).a0
    have Ik := Ln.Inv.events n (l.take k) I0 hlk
    have fk := Ln.events_fn n (l.take k) (Ln.early t n (cdOf n) g)
    rw [Ln.early_fn] at fk
    have Ak := Ln.Am.events n (l.take k) A0 I0 (by omega) (by rw [Ln.early_fn]; exact hg0) (by omega) hlk
    rw [foldl_take n _ l k hk]
    exact happen_any W P t n _ hp (hm.keep kW (by omega)) (by omega) n0 (by omega) _ s l[k] Ik (by omega) (by omega) (by rw [fk]; exact hg0) Ak (hl _ hmem) (hn _ hmem)
  · intro W P kW hP hp
    exact pend_any W P t n _ hp (hm.keep kW (by omega)) (by omega) n0 n1 _ s If wt hwt hw3 hs hL hfn' ht Af
end Go.Proofs.YtanndhoimpnhpaaDoor
