/- Joined by program: Mvl, Liml, Ops. -/
import Derived.Test.YtanndhoimpnhpaaDoorM2
import Derived.Lib.LaidU8
import Derived.Test.YtanndhoimpnhpaaDoorM10
import Derived.Test.YtanndhoimpnhpaaDoorM21
import Derived.SizedLaws
/- The program's table of moves, out of what the row lists of it. -/
namespace Go.Proofs.YtanndhoimpnhpaaDoor
open Go.RowKit

def mvz : List (List Int) := [[0, 0], [1, 0], [4, 3], [3, 2], [1, 2], [0, 5], [0, 4], [0, 3], [0, 2], [0, 1], [0, 6], [2, 7], [5, 8]]
def mvData {H : Type} : DataW H := .agg (mvz.map fun zs => .agg (zs.map fun z => .lit (.int .i64 z)))
theorem gMoves : Tryd.prog.globalNamed "accrue/owed.moves" = some 1 := by kernel_rfl
theorem mvl_at : ∀ j, j < 26 → mvl[j]? = ((mvz.getD (j / 2) []).map fun z => Value.int .i64 z)[j % 2]? := by
  intro j hj
  match j, hj with
  | 0, _ => rfl
  | 1, _ => rfl
  | 2, _ => rfl
  | 3, _ => rfl
  | 4, _ => rfl
  | 5, _ => rfl
  | 6, _ => rfl
  | 7, _ => rfl
  | 8, _ => rfl
  | 9, _ => rfl
  | 10, _ => rfl
  | 11, _ => rfl
  | 12, _ => rfl
  | 13, _ => rfl
  | 14, _ => rfl
  | 15, _ => rfl
  | 16, _ => rfl
  | 17, _ => rfl
  | 18, _ => rfl
  | 19, _ => rfl
  | 20, _ => rfl
  | 21, _ => rfl
  | 22, _ => rfl
  | 23, _ => rfl
  | 24, _ => rfl
  | 25, _ => rfl
  | j + 26, h => exact absurd h (by omega)
theorem mv_of_reads {W : World} (h : Lib.VarReads Tryd.prog W "accrue/owed.moves" mvData) : Mv W ∧ 1 < W.heap.size := by
  obtain ⟨g, t, cs, fuel, p, hg, hty, hvar, hd⟩ := h
  obtain rfl := Option.some.inj (gMoves.symm.trans hg)
  obtain rfl := Option.some.inj ((show (Tryd.prog.globals[1]?).map (·.type) = some 139 by kernel_rfl).symm.trans hty)
  have c2 : Tryd.prog.cellsOf 138 = 2 := by kernel_rfl
  have key : ∀ i, i < 13 → (cs.toList.drop (i * 2)).take 2 = (mvz.getD i []).map fun z => Value.int .i64 z := by
    intro i hi
    obtain ⟨fuel', d, q, hds, htr⟩ := Lib.array_elem Tryd.underlying139 hd i hi
    rw [c2] at htr
    have hz : mvz[i]? = some (mvz.getD i []) := by
      rw [List.getD_eq_getElem?_getD, List.getElem?_eq_getElem (show i < mvz.length from hi)]
      rfl
    rw [List.getElem?_map, hz] at hds
    obtain rfl := Option.some.inj hds
    refine Lib.ints_of_struct Tryd.underlying138 ?_ c2 htr
    intro j f hf
    match j, hf with
    | 0, hf =>
      obtain rfl := Option.some.inj hf
      exact ⟨Tryd.underlying3, rfl, by kernel_rfl⟩
    | 1, hf =>
      obtain rfl := Option.some.inj hf
      exact ⟨Tryd.underlying3, rfl, by kernel_rfl⟩
    | j + 2, hf => exact absurd hf (by simp)
  have hcell : ∀ j, j < 26 → W.cell? ⟨1, j, none⟩ = mvl[j]? := by
    intro j hj
    have hv := World.var?_cell hg hvar j
    have hk := congrArg (fun l => l[j % 2]?) (key (j / 2) (by omega))
    simp only [List.getElem?_take, List.getElem?_drop, show j % 2 < 2 by omega, if_true] at hk
    rw [show j / 2 * 2 + j % 2 = j by omega] at hk
    rw [hv, mvl_at j hj, ← hk, Array.getElem?_toList]
  have hall : Mv W := by
    intro j v hj
    have hlt : j < 26 := by
      have := (List.getElem?_eq_some_iff.1 hj).1
      exact this
    rw [hcell j hlt, hj]
  exact ⟨hall, World.block_lt_of_cell? _ _ (hall 0 _ rfl)⟩
end Go.Proofs.YtanndhoimpnhpaaDoor

/- The program's table of limits, out of what the row lists of it. -/
namespace Go.Proofs.YtanndhoimpnhpaaDoor
open Go.RowKit

def lmz : List (List Int) := [[0, 0], [1, 100000000000], [0, 1000000], [1, 400], [0, 0], [1, 100000000000]]
def lmData {H : Type} : DataW H := .agg (lmz.map fun zs => .agg (zs.map fun z => .lit (.int .i64 z)))
theorem gLimits : Tryd.prog.globalNamed "accrue/accrue.amountLimits" = some 0 := by kernel_rfl
theorem liml_at : ∀ j, j < 12 → liml[j]? = ((lmz.getD (j / 2) []).map fun z => Value.int .i64 z)[j % 2]? := by
  intro j hj
  match j, hj with
  | 0, _ => rfl
  | 1, _ => rfl
  | 2, _ => rfl
  | 3, _ => rfl
  | 4, _ => rfl
  | 5, _ => rfl
  | 6, _ => rfl
  | 7, _ => rfl
  | 8, _ => rfl
  | 9, _ => rfl
  | 10, _ => rfl
  | 11, _ => rfl
  | j + 12, h => exact absurd h (by omega)
theorem lim_of_reads {W : World} (h : Lib.VarReads Tryd.prog W "accrue/accrue.amountLimits" lmData) : Lim W := by
  obtain ⟨g, t, cs, fuel, p, hg, hty, hvar, hd⟩ := h
  obtain rfl := Option.some.inj (gLimits.symm.trans hg)
  obtain rfl := Option.some.inj ((show (Tryd.prog.globals[0]?).map (·.type) = some 121 by kernel_rfl).symm.trans hty)
  have c2 : Tryd.prog.cellsOf 87 = 2 := by kernel_rfl
  have key : ∀ i, i < 6 → (cs.toList.drop (i * 2)).take 2 = (lmz.getD i []).map fun z => Value.int .i64 z := by
    intro i hi
    obtain ⟨fuel', d, q, hds, htr⟩ := Lib.array_elem Tryd.underlying121 hd i hi
    rw [c2] at htr
    have hz : lmz[i]? = some (lmz.getD i []) := by
      rw [List.getD_eq_getElem?_getD, List.getElem?_eq_getElem (show i < lmz.length from hi)]
      rfl
    rw [List.getElem?_map, hz] at hds
    obtain rfl := Option.some.inj hds
    refine Lib.ints_of_struct Tryd.underlying87 ?_ c2 htr
    intro j f hf
    match j, hf with
    | 0, hf =>
      obtain rfl := Option.some.inj hf
      exact ⟨Tryd.underlying3, rfl, by kernel_rfl⟩
    | 1, hf =>
      obtain rfl := Option.some.inj hf
      exact ⟨Tryd.underlying3, rfl, by kernel_rfl⟩
    | j + 2, hf => exact absurd hf (by simp)
  have hcell : ∀ j, j < 12 → W.cell? ⟨0, j, none⟩ = liml[j]? := by
    intro j hj
    have hv := World.var?_cell hg hvar j
    have hk := congrArg (fun l => l[j % 2]?) (key (j / 2) (by omega))
    simp only [List.getElem?_take, List.getElem?_drop, show j % 2 < 2 by omega, if_true] at hk
    rw [show j / 2 * 2 + j % 2 = j by omega] at hk
    rw [hv, liml_at j hj, ← hk, Array.getElem?_toList]
  intro j v hj
  have hlt : j < 12 := by
    have := (List.getElem?_eq_some_iff.1 hj).1
    exact this
  rw [hcell j hlt, hj]
end Go.Proofs.YtanndhoimpnhpaaDoor

/- A list of whole numbers as an argument, and how long it can be. -/
namespace Go.Proofs.YtanndhoimpnhpaaDoor
open Go.ChangeShapes Go.WideShapes Go.RowKit Go.Deep Cal

section
variable {H : Type} {enc : TypeId × Value → H}
set_option maxRecDepth 100000 in
theorem ints_data {W : World} {v : Value} {d : DataW H} {ps : List MemPlace} {zs : List Int} (h : DataW.Trod enc Tryd.prog W 0 (fun _ => true) true 47 v d ps) (hz : IntsV W v zs) : zs = [] ∨ ∃ es sp, d = .slice es sp ∧ es.length = zs.length := by
  obtain ⟨_, p, cap, rfl, _, _⟩ := hz
  obtain ⟨n, hn⟩ := h
  have hn2 : DataW.trod enc Tryd.prog W 0 (fun _ => true) true n 47 [.slice p zs.length cap] = some (d, ps) := hn
  rcases open_ints Tryd.underlying47 Tryd.underlying3 (by kernel_rfl) hn2 with ⟨hc, _⟩ | ⟨a, len', cap', ys, hc, _, hl, hm, hzl, hx, _, _⟩
  · simp only [List.cons.injEq, Value.slice.injEq, and_true] at hc
    exact .inl (List.length_eq_zero_iff.1 hc.2.1)
  · simp only [List.cons.injEq, Value.slice.injEq, and_true] at hc
    obtain ⟨rfl, hlen, rfl⟩ := hc
    simp only [Prod.mk.injEq] at hx
    simp only [if_true] at hzl
    refine .inr ⟨_, _, hx.1, ?_⟩
    simp [lits]
    omega
/-- No list of numbers that came in is as long as a number can be. -/
theorem ints_short {W : World} {v : Value} {d : DataW H} {ps : List MemPlace} {zs : List Int} {ts : List TypeId} {ds : List (DataW H)} {j : Nat} (h : DataW.Trod enc Tryd.prog W 0 (fun _ => true) true 47 v d ps) (hz : IntsV W v zs) (hs : (DataW.weightsEach Tryd.prog ts ds).all (· ≤ reachBytes) = true) (ht : ts[j]? = some 47) (hd : ds[j]? = some d) : zs.length < 9223372036854775807 := by
  rcases ints_data h hz with rfl | ⟨es, sp, rfl, hl⟩
  · simp
  · have h1 := sized_slice hs ht hd Tryd.underlying47
    rw [show Tryd.prog.bytesOf 3 = 8 by kernel_rfl] at h1
    have h2 := reachBytes_lt
    omega
end
end Go.Proofs.YtanndhoimpnhpaaDoor
