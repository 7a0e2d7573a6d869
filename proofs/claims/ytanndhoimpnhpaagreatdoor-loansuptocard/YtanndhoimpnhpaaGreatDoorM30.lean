/- Joined by program: Opm, Mvl, Liml. -/
import Derived.Test.YtanndhoimpnhpaaGreatDoorM29
import Derived.Test.YtanndhoimpnhpaaGreatDoorM6
import Derived.Lib.LaidU8
import Derived.Test.YtanndhoimpnhpaaGreatDoorM20
/- Arguments opened: a script. -/
namespace Go.Proofs.YtanndhoimpnhpaaGreatDoor
open Go.ChangeShapes Go.WideShapes Go.RowKit Go.Deep Cal

section
variable {H : Type} {enc : TypeId × Value → H}

set_option maxRecDepth 100000 in
theorem open_SpV {W : World} {b0 : Nat} {v : Value} {d : DataW H} {ps : List MemPlace} (hok : Value.okWide Tryz.prog W .any b0 24 v) (h : DataW.Trod enc Tryz.prog W 0 (fun _ => true) true 24 v d ps) :
    ∃ sc : List Sp, SpV W v sc ∧ (sc = [] ∨ ∃ es sp, d = .slice es sp ∧ sc.length ≤ es.length + sp.length) := by
  obtain ⟨a0, len, cap, rfl⟩ := okWide_slice Tryz.underlying24 hok
  obtain ⟨n, hn⟩ := h
  have hn2 : DataW.trod enc Tryz.prog W 0 (fun _ => true) true n 24 [.slice a0 len cap] = some (d, ps) := hn
  rcases open_slice Tryz.underlying24 hn2 with ⟨hc, _⟩ | ⟨a, len', cap', m, n', D, Pl, hc, _, hl, hm, hmm, hz, hx⟩
  · simp only [List.cons.injEq, Value.slice.injEq, and_true] at hc
    obtain ⟨rfl, rfl, rfl⟩ := hc
    exact ⟨[], ⟨none, 0, rfl, Nat.le_refl _, fun k hk => absurd hk (Nat.not_lt_zero k)⟩, .inl rfl⟩
  · simp only [List.cons.injEq, Value.slice.injEq, and_true] at hc
    obtain ⟨rfl, rfl, rfl⟩ := hc
    simp only [if_true] at hmm
    subst hmm
    have ce : Tryz.prog.cellsOf 60 = 8 := by kernel_rfl
    have each : ∀ i, i < len → ∃ r : Sp, (∀ j u, (spl r)[j]? = some u → W.cell? (a.add (i * 8 + j)) = some u) := fun i hi => by
      obtain ⟨cs', h1, h2⟩ := hx i (by omega)
      rw [ce] at h1
      obtain ⟨_, hlen, hcell⟩ := World.cells?_some h1
      obtain ⟨xs, k, hk, hxy, _, hxl, hf⟩ := DataW.trod_struct Tryz.underlying60 h2
      match xs, hxl, cs', hlen with
      | [y0, y1, y2, y3, y4], _, [u0, u1, u2, u3, u4, u5, u6, u7], _ =>
        have g0 := hf 0 _ rfl
        have g1 := hf 1 _ rfl
        have g2 := hf 2 _ rfl
        have g3 := hf 3 _ rfl
        have c1 : Tryz.prog.cellsOf 3 = 1 := by kernel_rfl
        have c4 : Tryz.prog.cellsOf 50 = 4 := by kernel_rfl
        simp [c1, c4] at g0 g1 g2 g3
        obtain ⟨z0, e0, _, w0⟩ := DataW.trod_int Tryz.underlying3 g0
        obtain ⟨z1, e1, _, w1⟩ := DataW.trod_int Tryz.underlying3 g1
        obtain ⟨z3, e3, _, w3⟩ := DataW.trod_int Tryz.underlying3 g3
        obtain ⟨ys, k2, hk2, hyy, _, hyl, hg⟩ := DataW.trod_struct Tryz.underlying50 g2
        match ys, hyl with
        | [x0, x1, x2, x3], _ =>
          have f0 := hg 0 _ rfl
          have f1 := hg 1 _ rfl
          have f2 := hg 2 _ rfl
          have f3 := hg 3 _ rfl
          simp [c1] at f0 f1 f2 f3
          obtain ⟨q0, i0, _, _⟩ := DataW.trod_int Tryz.underlying3 f0
          obtain ⟨q1, i1, _, _⟩ := DataW.trod_int Tryz.underlying3 f1
          obtain ⟨q2, i2, _, _⟩ := DataW.trod_int Tryz.underlying3 f2
          obtain ⟨q3, i3, _, _⟩ := DataW.trod_int Tryz.underlying3 f3
          simp only [List.cons.injEq, and_true] at e0 e1 e3 i0 i1 i2 i3
          subst e0 e1 e3 i0 i1 i2 i3
          refine ⟨⟨z0, z1, ⟨q0, q1, q2, q3⟩, z3, u7⟩, fun j u hu => ?_⟩
          have hj : j < 8 := (List.getElem?_eq_some_iff.1 hu).1
          have hc := hcell j (by simpa using hj)
          rw [add_add] at hc
          rw [hc]
          exact hu
    obtain ⟨R, hR⟩ := choose_lt each
    have hrl : ((List.range len).map R).length = len := by simp
    have hm2 : m ≤ 9223372036854775807 := hm
    refine ⟨(List.range len).map R, ⟨some a, m, by rw [hrl], by omega, fun k hk => ?_⟩, .inr ?_⟩
    · have hk2 : k < len := by omega
      have hRk := hR k hk2
      have e : ((List.range len).map R)[k] = R k := by simp
      rw [e]
      obtain ⟨ab, ao, asp⟩ := a
      have h0 := hRk 0 _ rfl
      have hsp : asp = none := by
        have := World.cell?_spot (hR 0 (by omega) 0 _ rfl)
        simpa [Addr.add] using this
      subst hsp
      rw [Addr.add_lit] at h0
      refine ⟨ab, ao, rfl, World.block_lt_of_cell? W ⟨ab, ao + (k * 8 + 0), none⟩ h0, fun j u hj => ?_⟩
      have := hRk j u hj
      rw [Addr.add_lit, ← Nat.add_assoc] at this
      exact this
    · simp only [Prod.mk.injEq] at hz
      exact ⟨_, _, hz.1, by simp⟩
end
end Go.Proofs.YtanndhoimpnhpaaGreatDoor

/- The program's table of moves, out of what the row lists of it. -/
namespace Go.Proofs.YtanndhoimpnhpaaGreatDoor
open Go.RowKit

def mvz : List (List Int) := [[0, 0], [1, 0], [4, 3], [3, 2], [1, 2], [0, 5], [0, 4], [0, 3], [0, 2], [0, 1], [0, 6], [2, 7], [5, 8]]
def mvData {H : Type} : DataW H := .agg (mvz.map fun zs => .agg (zs.map fun z => .lit (.int .i64 z)))
theorem gMoves : Tryz.prog.globalNamed "accrue/owed.moves" = some 1 := by kernel_rfl
theorem mvl_at : ∀ j, j < 26 → mvl[j]? = ((mvz.getD (j / 2) []).map fun z => Value.int .i64 z)[j % 2]? := by
  intro j hj
  match j, hj with
  | 0, _ => rfl
  | 1, _ => rfl
  | 2, _ => rfl
  | 3, _ => rfl
  | 4, _ => rfl
  | 5, _ => rfl
  | 6, _ => rfl
  | 7, _ => rfl
  | 8, _ => rfl
  | 9, _ => rfl
  | 10, _ => rfl
  | 11, _ => rfl
  | 12, _ => rfl
  | 13, _ => rfl
  | 14, _ => rfl
  | 15, _ => rfl
  | 16, _ => rfl
  | 17, _ => rfl
  | 18, _ => rfl
  | 19, _ => rfl
  | 20, _ => rfl
  | 21, _ => rfl
  | 22, _ => rfl
  | 23, _ => rfl
  | 24, _ => rfl
  | 25, _ => rfl
  | j + 26, h => exact absurd h (by omega)
theorem mv_of_reads {W : World} (h : Lib.VarReads Tryz.prog W "accrue/owed.moves" mvData) : Mv W ∧ 1 < W.heap.size := by
  obtain ⟨g, t, cs, fuel, p, hg, hty, hvar, hd⟩ := h
  obtain rfl := Option.some.inj (gMoves.symm.trans hg)
  obtain rfl := Option.some.inj ((show (Tryz.prog.globals[1]?).map (·.type) = some 203 by kernel_rfl).symm.trans hty)
  have c2 : Tryz.prog.cellsOf 202 = 2 := by kernel_rfl
  have key : ∀ i, i < 13 → (cs.toList.drop (i * 2)).take 2 = (mvz.getD i []).map fun z => Value.int .i64 z := by
    intro i hi
    obtain ⟨fuel', d, q, hds, htr⟩ := Lib.array_elem Tryz.underlying203 hd i hi
    rw [c2] at htr
    have hz : mvz[i]? = some (mvz.getD i []) := by
      rw [List.getD_eq_getElem?_getD, List.getElem?_eq_getElem (show i < mvz.length from hi)]
      rfl
    rw [List.getElem?_map, hz] at hds
    obtain rfl := Option.some.inj hds
    refine Lib.ints_of_struct Tryz.underlying202 ?_ c2 htr
    intro j f hf
    match j, hf with
    | 0, hf =>
      obtain rfl := Option.some.inj hf
      exact ⟨Tryz.underlying3, rfl, by kernel_rfl⟩
    | 1, hf =>
      obtain rfl := Option.some.inj hf
      exact ⟨Tryz.underlying3, rfl, by kernel_rfl⟩
    | j + 2, hf => exact absurd hf (by simp)
  have hcell : ∀ j, j < 26 → W.cell? ⟨1, j, none⟩ = mvl[j]? := by
    intro j hj
    have hv := World.var?_cell hg hvar j
    have hk := congrArg (fun l => l[j % 2]?) (key (j / 2) (by omega))
    simp only [List.getElem?_take, List.getElem?_drop, show j % 2 < 2 by omega, if_true] at hk
    rw [show j / 2 * 2 + j % 2 = j by omega] at hk
    rw [hv, mvl_at j hj, ← hk, Array.getElem?_toList]
  have hall : Mv W := by
    intro j v hj
    have hlt : j < 26 := by
      have := (List.getElem?_eq_some_iff.1 hj).1
      exact this
    rw [hcell j hlt, hj]
  exact ⟨hall, World.block_lt_of_cell? _ _ (hall 0 _ rfl)⟩
end Go.Proofs.YtanndhoimpnhpaaGreatDoor

/- The program's table of limits, out of what the row lists of it. -/
namespace Go.Proofs.YtanndhoimpnhpaaGreatDoor
open Go.RowKit

def lmz : List (List Int) := [[0, 0], [1, 100000000000], [0, 1000000], [1, 400], [0, 0], [1, 100000000000]]
def lmData {H : Type} : DataW H := .agg (lmz.map fun zs => .agg (zs.map fun z => .lit (.int .i64 z)))
theorem gLimits : Tryz.prog.globalNamed "accrue/accrue.amountLimits" = some 0 := by kernel_rfl
theorem liml_at : ∀ j, j < 12 → liml[j]? = ((lmz.getD (j / 2) []).map fun z => Value.int .i64 z)[j % 2]? := by
  intro j hj
  match j, hj with
  | 0, _ => rfl
  | 1, _ => rfl
  | 2, _ => rfl
  | 3, _ => rfl
  | 4, _ => rfl
  | 5, _ => rfl
  | 6, _ => rfl
  | 7, _ => rfl
  | 8, _ => rfl
  | 9, _ => rfl
  | 10, _ => rfl
  | 11, _ => rfl
  | j + 12, h => exact absurd h (by omega)
theorem lim_of_reads {W : World} (h : Lib.VarReads Tryz.prog W "accrue/accrue.amountLimits" lmData) : Lim W := by
  obtain ⟨g, t, cs, fuel, p, hg, hty, hvar, hd⟩ := h
  obtain rfl := Option.some.inj (gLimits.symm.trans hg)
  obtain rfl := Option.some.inj ((show (Tryz.prog.globals[0]?).map (·.type) = some 154 by kernel_rfl).symm.trans hty)
  have c2 : Tryz.prog.cellsOf 86 = 2 := by kernel_rfl
  have key : ∀ i, i < 6 → (cs.toList.drop (i * 2)).take 2 = (lmz.getD i []).map fun z => Value.int .i64 z := by
    intro i hi
    obtain ⟨fuel', d, q, hds, htr⟩ := Lib.array_elem Tryz.underlying154 hd i hi
    rw [c2] at htr
    have hz : lmz[i]? = some (lmz.getD i []) := by
      rw [List.getD_eq_getElem?_getD, List.getElem?_eq_getElem (show i < lmz.length from hi)]
      rfl
    rw [List.getElem?_map, hz] at hds
    obtain rfl := Option.some.inj hds
    refine Lib.ints_of_struct Tryz.underlying86 ?_ c2 htr
    intro j f hf
    match j, hf with
    | 0, hf =>
      obtain rfl := Option.some.inj hf
      exact ⟨Tryz.underlying3, rfl, by kernel_rfl⟩
    | 1, hf =>
      obtain rfl := Option.some.inj hf
      exact ⟨Tryz.underlying3, rfl, by kernel_rfl⟩
    | j + 2, hf => exact absurd hf (by simp)
  have hcell : ∀ j, j < 12 → W.cell? ⟨0, j, none⟩ = liml[j]? := by
    intro j hj
    have hv := World.var?_cell hg hvar j
    have hk := congrArg (fun l => l[j % 2]?) (key (j / 2) (by omega))
    simp only [List.getElem?_take, List.getElem?_drop, show j % 2 < 2 by omega, if_true] at hk
    rw [show j / 2 * 2 + j % 2 = j by omega] at hk
    rw [hv, liml_at j hj, ← hk, Array.getElem?_toList]
  intro j v hj
  have hlt : j < 12 := by
    have := (List.getElem?_eq_some_iff.1 hj).1
    exact this
  rw [hcell j hlt, hj]
end Go.Proofs.YtanndhoimpnhpaaGreatDoor
