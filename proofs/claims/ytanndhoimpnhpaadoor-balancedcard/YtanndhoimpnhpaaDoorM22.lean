/- Joined by program: Opn, Mvl, Liml, Ops. -/
import Derived.Test.YtanndhoimpnhpaaDoorM14
import Derived.Deep.Slices
import Derived.ChangeSame
import Derived.Test.YtanndhoimpnhpaaDoorM2
import Derived.Lib.LaidU8
import Derived.Test.YtanndhoimpnhpaaDoorM10
import Derived.SizedLaws
/- Arguments opened: lists of whole numbers, lists of raw events. -/
namespace Go.Proofs.YtanndhoimpnhpaaDoor
open Go.ChangeShapes Go.WideShapes Go.RowKit Go.Deep Cal

instance : Inhabited Ln.Ev := ⟨⟨0, 0, 0, 0⟩⟩
section
variable {H : Type} {enc : TypeId × Value → H}

set_option maxRecDepth 100000 in
theorem open_IntsV {W : World} {b0 : Nat} {v : Value} {d : DataW H} {ps : List MemPlace} (hok : Value.okWide Tryd.prog W .any b0 47 v) (h : DataW.Trod enc Tryd.prog W 0 (fun _ => true) true 47 v d ps) : ∃ zs, IntsV W v zs ∧ zs.length ≤ 9223372036854775807 := by
  obtain ⟨a0, len, cap, rfl⟩ := okWide_slice Tryd.underlying47 hok
  obtain ⟨n, hn⟩ := h
  have hn2 : DataW.trod enc Tryd.prog W 0 (fun _ => true) true n 47 [.slice a0 len cap] = some (d, ps) := hn
  rcases open_ints Tryd.underlying47 Tryd.underlying3 (by kernel_rfl) hn2 with ⟨hc, _⟩ | ⟨a, len', cap', zs, hc, _, hl, hm, hzl, _, hcell, hwf⟩
  · simp only [List.cons.injEq, Value.slice.injEq, and_true] at hc
    obtain ⟨rfl, rfl, rfl⟩ := hc
    exact ⟨[], ⟨fun z hz => by simp at hz, none, 0, rfl, Nat.le_refl _, fun k hk => absurd hk (Nat.not_lt_zero k)⟩, by simp⟩
  · simp only [List.cons.injEq, Value.slice.injEq, and_true] at hc
    obtain ⟨rfl, rfl, rfl⟩ := hc
    simp only [if_true] at hzl
    have hlen : (zs.take len).length = len := by rw [List.length_take]; omega
    have hm2 : cap ≤ 9223372036854775807 := hm
    refine ⟨zs.take len, ⟨fun z hz => hwf z (List.mem_of_mem_take hz), some a, cap, by rw [hlen], by omega, fun k hk => ?_⟩, by omega⟩
    have hk2 : k < zs.length := by omega
    have hc := hcell k hk2
    obtain ⟨ab, ao, asp⟩ := a
    have hsp : asp = none := by
      have := World.cell?_spot (hcell 0 (by omega))
      simpa [Addr.add] using this
    subst hsp
    rw [Addr.add_lit] at hc
    refine ⟨ab, ao, rfl, World.block_lt_of_cell? _ _ hc, ?_⟩
    rw [hc, List.getElem_take]
    simp [List.getD, List.getElem?_eq_getElem hk2]
set_option maxRecDepth 100000 in
theorem open_RawV {W : World} {b0 : Nat} {v : Value} {d : DataW H} {ps : List MemPlace} (hok : Value.okWide Tryd.prog W .any b0 48 v) (h : DataW.Trod enc Tryd.prog W 0 (fun _ => true) true 48 v d ps) :
    ∃ (Eb : Nat) (rs : List Ln.Ev), EvV W Eb v rs ∧ rs.length ≤ 9223372036854775807 ∧ ∀ r ∈ rs, (Lit.int .i64 r.d).wf = true ∧ (Lit.int .i64 r.k).wf = true ∧ (Lit.int .i64 r.s).wf = true ∧ (Lit.int .i64 r.a).wf = true := by
  obtain ⟨a0, len, cap, rfl⟩ := okWide_slice Tryd.underlying48 hok
  obtain ⟨n, hn⟩ := h
  have hn2 : DataW.trod enc Tryd.prog W 0 (fun _ => true) true n 48 [.slice a0 len cap] = some (d, ps) := hn
  rcases open_slice Tryd.underlying48 hn2 with ⟨hc, _⟩ | ⟨a, len', cap', m, n', D, Pl, hc, _, hl, hm, hmm, _, hx⟩
  · simp only [List.cons.injEq, Value.slice.injEq, and_true] at hc
    obtain ⟨rfl, rfl, rfl⟩ := hc
    exact ⟨0, [], ⟨none, 0, rfl, Nat.le_refl _, fun k hk => absurd hk (Nat.not_lt_zero k)⟩, by simp, fun r hr => by simp at hr⟩
  · simp only [List.cons.injEq, Value.slice.injEq, and_true] at hc
    obtain ⟨rfl, rfl, rfl⟩ := hc
    simp only [if_true] at hmm
    subst hmm
    have ce : Tryd.prog.cellsOf 96 = 4 := by kernel_rfl
    have each : ∀ i, i < len → ∃ r : Ln.Ev, (∀ j u, (evl r)[j]? = some u → W.cell? (a.add (i * 4 + j)) = some u) ∧ (Lit.int .i64 r.d).wf = true ∧ (Lit.int .i64 r.k).wf = true ∧ (Lit.int .i64 r.s).wf = true ∧ (Lit.int .i64 r.a).wf = true := fun i hi => by
      obtain ⟨cs', h1, h2⟩ := hx i (by omega)
      rw [ce] at h1
      obtain ⟨_, hlen, hcell⟩ := World.cells?_some h1
      obtain ⟨xs, k, hk, hxy, _, hxl, hf⟩ := DataW.trod_struct Tryd.underlying96 h2
      match xs, hxl, cs', hlen with
      | [y0, y1, y2, y3], _, [u0, u1, u2, u3], _ =>
        have g0 := hf 0 _ rfl
        have g1 := hf 1 _ rfl
        have g2 := hf 2 _ rfl
        have g3 := hf 3 _ rfl
        have c1 : Tryd.prog.cellsOf 3 = 1 := by kernel_rfl
        simp [c1] at g0 g1 g2 g3
        obtain ⟨z0, e0, _, w0⟩ := DataW.trod_int Tryd.underlying3 g0
        obtain ⟨z1, e1, _, w1⟩ := DataW.trod_int Tryd.underlying3 g1
        obtain ⟨z2, e2, _, w2⟩ := DataW.trod_int Tryd.underlying3 g2
        obtain ⟨z3, e3, _, w3⟩ := DataW.trod_int Tryd.underlying3 g3
        simp only [List.cons.injEq, and_true] at e0 e1 e2 e3
        subst e0 e1 e2 e3
        refine ⟨⟨z0, z1, z2, z3⟩, fun j u hu => ?_, w0, w1, w2, w3⟩
        have hj : j < 4 := (List.getElem?_eq_some_iff.1 hu).1
        have hc := hcell j (by simpa using hj)
        rw [add_add] at hc
        rw [hc]
        exact hu
    obtain ⟨R, hR⟩ := choose_lt each
    have hrl : ((List.range len).map R).length = len := by simp
    have hm2 : m ≤ 9223372036854775807 := hm
    refine ⟨a.block, (List.range len).map R, ⟨some a, m, by rw [hrl], by omega, fun k hk => ?_⟩, by omega, fun r hr => ?_⟩
    · have hk2 : k < len := by omega
      have hRk := (hR k hk2).1
      have e : ((List.range len).map R)[k] = R k := by simp
      rw [e]
      obtain ⟨ab, ao, asp⟩ := a
      have h0 := hRk 0 _ rfl
      have hsp : asp = none := by
        have := World.cell?_spot ((hR 0 (by omega)).1 0 _ rfl)
        simpa [Addr.add] using this
      subst hsp
      have h1 := hRk 1 _ rfl
      have h2 := hRk 2 _ rfl
      have h3 := hRk 3 _ rfl
      rw [Addr.add_lit] at h0 h1 h2 h3
      exact ⟨ao, rfl, World.block_lt_of_cell? W ⟨ab, ao + (k * 4 + 0), none⟩ h0, h0, by rw [Nat.add_assoc]; exact h1, by rw [Nat.add_assoc]; exact h2, by rw [Nat.add_assoc]; exact h3⟩
    · obtain ⟨k, hk, rfl⟩ := List.mem_map.1 hr
      exact (hR k (List.mem_range.1 hk)).2
end
end Go.Proofs.YtanndhoimpnhpaaDoor

/- The program's table of moves, out of what the row lists of it. -/
namespace Go.Proofs.YtanndhoimpnhpaaDoor
open Go.RowKit

def mvz : List (List Int) := [[0, 0], [1, 0], [4, 3], [3, 2], [1, 2], [0, 5], [0, 4], [0, 3], [0, 2], [0, 1], [0, 6], [2, 7], [5, 8]]
def mvData {H : Type} : DataW H := .agg (mvz.map fun zs => .agg (zs.map fun z => .lit (.int .i64 z)))
theorem gMoves : Tryd.prog.globalNamed "accrue/owed.moves" = some 1 := by kernel_rfl
theorem mvl_at : ∀ j, j < 26 → mvl[j]? = ((mvz.getD (j / 2) []).map fun z => Value.int .i64 z)[j % 2]? := by
  intro j hj
  match j, hj with
  | 0, _ => rfl
  | 1, _ => rfl
  | 2, _ => rfl
  | 3, _ => rfl
  | 4, _ => rfl
  | 5, _ => rfl
  | 6, _ => rfl
  | 7, _ => rfl
  | 8, _ => rfl
  | 9, _ => rfl
  | 10, _ => rfl
  | 11, _ => rfl
  | 12, _ => rfl
  | 13, _ => rfl
  | 14, _ => rfl
  | 15, _ => rfl
  | 16, _ => rfl
  | 17, _ => rfl
  | 18, _ => rfl
  | 19, _ => rfl
  | 20, _ => rfl
  | 21, _ => rfl
  | 22, _ => rfl
  | 23, _ => rfl
  | 24, _ => rfl
  | 25, _ => rfl
  | j + 26, h => exact absurd h (by omega)
theorem mv_of_reads {W : World} (h : Lib.VarReads Tryd.prog W "accrue/owed.moves" mvData) : Mv W ∧ 1 < W.heap.size := by
  obtain ⟨g, t, cs, fuel, p, hg, hty, hvar, hd⟩ := h
  obtain rfl := Option.some.inj (gMoves.symm.trans hg)
  obtain rfl := Option.some.inj ((show (Tryd.prog.globals[1]?).map (·.type) = some 139 by kernel_rfl).symm.trans hty)
  have c2 : Tryd.prog.cellsOf 138 = 2 := by kernel_rfl
  have key : ∀ i, i < 13 → (cs.toList.drop (i * 2)).take 2 = (mvz.getD i []).map fun z => Value.int .i64 z := by
    intro i hi
    obtain ⟨fuel', d, q, hds, htr⟩ := Lib.array_elem Tryd.underlying139 hd i hi
    rw [c2] at htr
    have hz : mvz[i]? = some (mvz.getD i []) := by
      rw [List.getD_eq_getElem?_getD, List.getElem?_eq_getElem (show i < mvz.length from hi)]
      rfl
    rw [List.getElem?_map, hz] at hds
    obtain rfl := Option.some.inj hds
    refine Lib.ints_of_struct Tryd.underlying138 ?_ c2 htr
    intro j f hf
    match j, hf with
    | 0, hf =>
      obtain rfl := Option.some.inj hf
      exact ⟨Tryd.underlying3, rfl, by kernel_rfl⟩
    | 1, hf =>
      obtain rfl := Option.some.inj hf
      exact ⟨Tryd.underlying3, rfl, by kernel_rfl⟩
    | j + 2, hf => exact absurd hf (by simp)
  have hcell : ∀ j, j < 26 → W.cell? ⟨1, j, none⟩ = mvl[j]? := by
    intro j hj
    have hv := World.var?_cell hg hvar j
    have hk := congrArg (fun l => l[j % 2]?) (key (j / 2) (by omega))
    simp only [List.getElem?_take, List.getElem?_drop, show j % 2 < 2 by omega, if_true] at hk
    rw [show j / 2 * 2 + j % 2 = j by omega] at hk
    rw [hv, mvl_at j hj, ← hk, Array.getElem?_toList]
  have hall : Mv W := by
    intro j v hj
    have hlt : j < 26 := by
      have := (List.getElem?_eq_some_iff.1 hj).1
      exact this
    rw [hcell j hlt, hj]
  exact ⟨hall, World.block_lt_of_cell? _ _ (hall 0 _ rfl)⟩
end Go.Proofs.YtanndhoimpnhpaaDoor

/- The program's table of limits, out of what the row lists of it. -/
namespace Go.Proofs.YtanndhoimpnhpaaDoor
open Go.RowKit

def lmz : List (List Int) := [[0, 0], [1, 100000000000], [0, 1000000], [1, 400], [0, 0], [1, 100000000000]]
def lmData {H : Type} : DataW H := .agg (lmz.map fun zs => .agg (zs.map fun z => .lit (.int .i64 z)))
theorem gLimits : Tryd.prog.globalNamed "accrue/accrue.amountLimits" = some 0 := by kernel_rfl
theorem liml_at : ∀ j, j < 12 → liml[j]? = ((lmz.getD (j / 2) []).map fun z => Value.int .i64 z)[j % 2]? := by
  intro j hj
  match j, hj with
  | 0, _ => rfl
  | 1, _ => rfl
  | 2, _ => rfl
  | 3, _ => rfl
  | 4, _ => rfl
  | 5, _ => rfl
  | 6, _ => rfl
  | 7, _ => rfl
  | 8, _ => rfl
  | 9, _ => rfl
  | 10, _ => rfl
  | 11, _ => rfl
  | j + 12, h => exact absurd h (by omega)
theorem lim_of_reads {W : World} (h : Lib.VarReads Tryd.prog W "accrue/accrue.amountLimits" lmData) : Lim W := by
  obtain ⟨g, t, cs, fuel, p, hg, hty, hvar, hd⟩ := h
  obtain rfl := Option.some.inj (gLimits.symm.trans hg)
  obtain rfl := Option.some.inj ((show (Tryd.prog.globals[0]?).map (·.type) = some 121 by kernel_rfl).symm.trans hty)
  have c2 : Tryd.prog.cellsOf 87 = 2 := by kernel_rfl
  have key : ∀ i, i < 6 → (cs.toList.drop (i * 2)).take 2 = (lmz.getD i []).map fun z => Value.int .i64 z := by
    intro i hi
    obtain ⟨fuel', d, q, hds, htr⟩ := Lib.array_elem Tryd.underlying121 hd i hi
    rw [c2] at htr
    have hz : lmz[i]? = some (lmz.getD i []) := by
      rw [List.getD_eq_getElem?_getD, List.getElem?_eq_getElem (show i < lmz.length from hi)]
      rfl
    rw [List.getElem?_map, hz] at hds
    obtain rfl := Option.some.inj hds
    refine Lib.ints_of_struct Tryd.underlying87 ?_ c2 htr
    intro j f hf
    match j, hf with
    | 0, hf =>
      obtain rfl := Option.some.inj hf
      exact ⟨Tryd.underlying3, rfl, by kernel_rfl⟩
    | 1, hf =>
      obtain rfl := Option.some.inj hf
      exact ⟨Tryd.underlying3, rfl, by kernel_rfl⟩
    | j + 2, hf => exact absurd hf (by simp)
  have hcell : ∀ j, j < 12 → W.cell? ⟨0, j, none⟩ = liml[j]? := by
    intro j hj
    have hv := World.var?_cell hg hvar j
    have hk := congrArg (fun l => l[j % 2]?) (key (j / 2) (by omega))
    simp only [List.getElem?_take, List.getElem?_drop, show j % 2 < 2 by omega, if_true] at hk
    rw [show j / 2 * 2 + j % 2 = j by omega] at hk
    rw [hv, liml_at j hj, ← hk, Array.getElem?_toList]
  intro j v hj
  have hlt : j < 12 := by
    have := (List.getElem?_eq_some_iff.1 hj).1
    exact this
  rw [hcell j hlt, hj]
end Go.Proofs.YtanndhoimpnhpaaDoor

/- A list of whole numbers as an argument, and how long it can be. -/
namespace Go.Proofs.YtanndhoimpnhpaaDoor
open Go.ChangeShapes Go.WideShapes Go.RowKit Go.Deep Cal

section
variable {H : Type} {enc : TypeId × Value → H}
set_option maxRecDepth 100000 in
theorem ints_data {W : World} {v : Value} {d : DataW H} {ps : List MemPlace} {zs : List Int} (h : DataW.Trod enc Tryd.prog W 0 (fun _ => true) true 47 v d ps) (hz : IntsV W v zs) : zs = [] ∨ ∃ es sp, d = .slice es sp ∧ es.length = zs.length := by
  obtain ⟨_, p, cap, rfl, _, _⟩ := hz
  obtain ⟨n, hn⟩ := h
  have hn2 : DataW.trod enc Tryd.prog W 0 (fun _ => true) true n 47 [.slice p zs.length cap] = some (d, ps) := hn
  rcases open_ints Tryd.underlying47 Tryd.underlying3 (by kernel_rfl) hn2 with ⟨hc, _⟩ | ⟨a, len', cap', ys, hc, _, hl, hm, hzl, hx, _, _⟩
  · simp only [List.cons.injEq, Value.slice.injEq, and_true] at hc
    exact .inl (List.length_eq_zero_iff.1 hc.2.1)
  · simp only [List.cons.injEq, Value.slice.injEq, and_true] at hc
    obtain ⟨rfl, hlen, rfl⟩ := hc
    simp only [Prod.mk.injEq] at hx
    simp only [if_true] at hzl
    refine .inr ⟨_, _, hx.1, ?_⟩
    simp [lits]
    omega
/-- No list of numbers that came in is as long as a number can be. -/
theorem ints_short {W : World} {v : Value} {d : DataW H} {ps : List MemPlace} {zs : List Int} {ts : List TypeId} {ds : List (DataW H)} {j : Nat} (h : DataW.Trod enc Tryd.prog W 0 (fun _ => true) true 47 v d ps) (hz : IntsV W v zs) (hs : (DataW.weightsEach Tryd.prog ts ds).all (· ≤ reachBytes) = true) (ht : ts[j]? = some 47) (hd : ds[j]? = some d) : zs.length < 9223372036854775807 := by
  rcases ints_data h hz with rfl | ⟨es, sp, rfl, hl⟩
  · simp
  · have h1 := sized_slice hs ht hd Tryd.underlying47
    rw [show Tryd.prog.bytesOf 3 = 8 by kernel_rfl] at h1
    have h2 := reachBytes_lt
    omega
end
end Go.Proofs.YtanndhoimpnhpaaDoor
