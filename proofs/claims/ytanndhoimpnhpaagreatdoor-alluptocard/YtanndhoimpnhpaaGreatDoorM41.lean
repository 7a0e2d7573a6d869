/- Joined by program: TzE, Opl, TyM0, Opw, Mvl, Liml. -/
import Derived.Test.YtanndhoimpnhpaaGreatDoorM40
import Derived.Test.YtanndhoimpnhpaaGreatDoorM39
import Derived.Deep.Slices
import Derived.ChangeSame
import Derived.Test.YtanndhoimpnhpaaGreatDoorM1
import Derived.WalkKit
import Derived.Test.YtanndhoimpnhpaaGreatDoorRows
import Derived.Test.YtanndhoimpnhpaaGreatDoorM2
import Derived.Test.YtanndhoimpnhpaaGreatDoorM3
import Derived.Lib.LaidU8
import Derived.Test.YtanndhoimpnhpaaGreatDoorM17
namespace Go.Proofs.YtanndhoimpnhpaaGreatDoor
open Go.ChangeShapes Go.WideShapes Go.ChangeAt Go.RowKit Go.WideMaps Go.Maps Lg Cal
def SpOk (s : Sp) : Prop := InR s.e.s ∧ ∃ st : List UInt8, s.sv = .string (bs st) ∧ st.length ≤ 1048576
set_option maxRecDepth 10000 in
set_option maxHeartbeats 4000000 in
theorem all_gen (w : World) (ta tb : Ln.Terms) (v : Value) (sc : List Sp) (hv : SpV w v sc) (hkn : ∀ wx : World, Below w.heap.size w wx → Calls Tryz.prog 8 #[.int .i64 8] wx fun e w' => e = .returned (.bool true) ∧ Below wx.heap.size wx w') (hpl : ∀ wx : World, Below w.heap.size w wx → Calls Tryz.prog 9 #[tmV ta, tmV tb, v, .int .i64 8] wx fun e w' => e = .returned (.bool true) ∧ Below wx.heap.size wx w') :
    Calls Tryz.prog 7 #[tmV ta, tmV tb, v] w fun e w' => e = .returned (.bool true) ∧ Below w.heap.size w w' := by
  have s1 : (w.alloc (.cells (tml ta).toArray 23)).heap.size = w.heap.size + 1 := Array.size_push _
  have b1 : Below w.heap.size w (w.alloc (.cells (tml ta).toArray 23)) := (Below.refl _ _).alloc (Nat.le_refl _) _
  have b2 : Below w.heap.size w ((w.alloc (.cells (tml ta).toArray 23)).alloc (.cells (tml tb).toArray 23)) := b1.alloc b1.size _
  have k12 : Below (w.alloc (.cells (tml ta).toArray 23)).heap.size (w.alloc (.cells (tml ta).toArray 23)) ((w.alloc (.cells (tml ta).toArray 23)).alloc (.cells (tml tb).toArray 23)) := (Below.refl _ _).alloc (Nat.le_refl _) _
  have HA : Hid (At ((w.alloc (.cells (tml ta).toArray 23)).alloc (.cells (tml tb).toArray 23)) w.heap.size (tml ta)) := At.keep (S := fun _ => False) (v := .int .i64 ta.st) (At.alloc w (tml ta) _) (Keep.below k12) (fun x => x)
  have HB : Hid (At ((w.alloc (.cells (tml ta).toArray 23)).alloc (.cells (tml tb).toArray 23)) (w.heap.size + 1) (tml tb)) := by
    have h := At.alloc (w.alloc (.cells (tml ta).toArray 23)) (tml tb) 23
    rw [s1] at h
    exact h
  have HBl : Hid (Below w.heap.size w ((w.alloc (.cells (tml ta).toArray 23)).alloc (.cells (tml tb).toArray 23))) := b2
  obtain ⟨sp, scap, rfl, _, _⟩ := hv
  have HKn : Hid (∀ wx : World, Below w.heap.size w wx → Calls Tryz.prog 8 #[.int .i64 8] wx fun e w' => e = .returned (.bool true) ∧ Below wx.heap.size wx w') := hkn
  have HPl : Hid (∀ wx : World, Below w.heap.size w wx → Calls Tryz.prog 9 #[tmV ta, tmV tb, .slice sp sc.length scap, .int .i64 8] wx fun e w' => e = .returned (.bool true) ∧ Below wx.heap.size wx w') := hpl
  clear s1 b1 b2 k12 hkn hpl
  unfold tmV
  go_enter Tryz.func7, Tryz.ntmps7
  go_upto_region 1 with fail
  change Code.wp _ _ _ _ ((w.alloc (.cells (tml ta).toArray 23)).alloc (.cells (tml tb).toArray 23))
  generalize (w.alloc (.cells (tml ta).toArray 23)).alloc (.cells (tml tb).toArray 23) = V0 at *
  have hK := HKn.out V0 HBl.out
  go_wp2_with fail
  refine hK.mono ?_
  rintro x w1 ⟨rfl, hb1⟩
  clear hK
  have HB1 : Hid (Below w.heap.size w w1) := HBl.out.trans (hb1.mono HBl.out.size)
  have ra : w1.rangeAt w.heap.size 0 (tml ta) := (At.keep (S := fun _ => False) (v := .int .i64 ta.st) HA.out (Keep.below hb1) (fun x => x)).range
  have rb : w1.rangeAt (w.heap.size + 1) 0 (tml tb) := (At.keep (S := fun _ => False) (v := .int .i64 tb.st) HB.out (Keep.below hb1) (fun x => x)).range
  have hP := HPl.out w1 HB1.out
  unfold tmV at hP
  clear hb1 HA HB HBl
  go_upto_region 2 with fail
  refine wp_region_lit ?_
  refine wpList_load_mid rfl 23 (.tmp 3) rfl _ 0 rfl (tml ta) _ ra Tryz.underlying23 rfl (by kernel_rfl) ?_
  simp only [Act.put, List.setIfInBounds_toArray, List.set_cons_zero, List.set_cons_succ]
  refine wpList_load_mid rfl 23 (.tmp 4) rfl _ 0 rfl (tml tb) _ rb Tryz.underlying23 rfl (by kernel_rfl) ?_
  simp only [Act.put, List.setIfInBounds_toArray, List.set_cons_zero, List.set_cons_succ]
  clear ra rb
  go_wp2_with fail
  refine hP.mono ?_
  rintro x w2 ⟨rfl, hb2⟩
  clear hP
  have HE : Hid (Below w.heap.size w w2) := HB1.out.trans (hb2.mono HB1.out.size)
  clear hb2 HB1
  go_wp2
  go_ret
  exact ⟨rfl, HE.out⟩
theorem step8 (w wr : World) (hmv : Mv w) (hlim : Lim w) (hgl : Gl w) (W n : Nat) (pv dv : Nat → Value) (G : Nat → Nat → Prop) (B : Bv) (c : Nat) (Q : Nat → Prop) (s : Sp) (hs : s.kind ≤ 8) (ho : SpOk s) (h : WlG w wr W n pv dv G B c Q) (hn1 : 1 ≤ n) (hn : n ≤ 110000) (hc : c ≤ 60000000) : Calls Tryz.prog 25 #[.pointer (some ⟨W, 0, none⟩), .agg (spl s).toArray] wr (StepTo w W n c) := by
  by_cases h6 : s.kind ≤ 6
  · exact step6 w wr hmv hlim W n pv dv G B c Q s h6 ho.1 h (by omega) hc
  · obtain ⟨kind, on, e, m, sv⟩ := s
    obtain ⟨_, st, rfl, hst⟩ := ho
    have hs : kind ≤ 8 := hs
    have h6 : ¬ kind ≤ 6 := h6
    exact step_text w wr W n pv dv G B c Q h hgl hlim hn1 hn kind on e m st hst (by omega)
theorem played8 (w : World) (ta tb : Ln.Terms) (v : Value) (sc : List Sp) (hv : SpV w v sc) (hsl : sc.length ≤ 109000) (hsc : ∀ s ∈ sc, SpOk s) (hmv : Mv w) (hlim : Lim w) (hgl : Gl w) :
    Calls Tryz.prog 9 #[tmV ta, tmV tb, v, .int .i64 8] w fun e w' => e = .returned (.bool true) ∧ Below w.heap.size w w' :=
  played_gen 8 (by omega) 2 w ta tb v sc hv (by omega) hmv (fun wr W n pv dv G B c Q s hsm hk hW hn0 hn hc => step8 w wr hmv hlim hgl W n pv dv G B c Q s hk (hsc s hsm) hW (by omega) (by omega) hc)
theorem ksc_ok : ∀ s ∈ ksc, SpOk s := by
  intro s hs
  refine ⟨ksc_in s hs, [], ?_, by decide⟩
  simp only [ksc, List.mem_cons, List.not_mem_nil, or_false] at hs
  rcases hs with rfl | rfl | rfl | rfl <;> rfl
theorem all_any (w : World) (ta tb : Ln.Terms) (v : Value) (sc : List Sp) (hv : SpV w v sc) (hsl : sc.length ≤ 109000) (hsc : ∀ s ∈ sc, SpOk s) (hmv : Mv w) (hlim : Lim w) (hgl : Gl w) :
    Calls Tryz.prog 7 #[tmV ta, tmV tb, v] w fun e w' => e = .returned (.bool true) ∧ Below w.heap.size w w' := by
  have hl : ∀ wx, Below w.heap.size w wx → Lim wx := fun wx hx => hlim.keep (S := fun _ => False) (Keep.below hx) (fun x => x)
  exact all_gen w ta tb v sc hv
    (fun wx hx => known_gen 8 wx (hmv.below hx) (fun wy va hs hy => played8 wy kt kt va ksc hs (by decide) ksc_ok (hmv.below (hx.trans (hy.mono hx.size))) (hl wy (hx.trans (hy.mono hx.size))) (hgl.below (hx.trans (hy.mono hx.size)))))
    (fun wx hx => played8 wx ta tb v sc (hv.below hx) hsl hsc (hmv.below hx) (hl wx hx) (hgl.below hx))
end Go.Proofs.YtanndhoimpnhpaaGreatDoor
namespace Go.Proofs.YtanndhoimpnhpaaGreatDoor
open Go.ChangeShapes Go.WideShapes Go.RowKit Go.Deep Cal
instance : Inhabited Sp := ⟨⟨0, 0, ⟨0, 0, 0, 0⟩, 0, .bool false⟩⟩
section
variable {H : Type} {enc : TypeId × Value → H}
set_option maxRecDepth 100000 in
theorem open_Terms {W : World} {b0 : Nat} {v : Value} {d : DataW H} {ps : List MemPlace} (hok : Value.okWide Tryz.prog W .any b0 23 v) (h : DataW.Trod enc Tryz.prog W 0 (fun _ => true) true 23 v d ps) : ∃ t : Ln.Terms, v = tmV t := by
  obtain ⟨cs, rfl, hsz⟩ := okWide_struct Tryz.underlying23 hok
  obtain ⟨n, hn⟩ := h
  have hn2 : DataW.trod enc Tryz.prog W 0 (fun _ => true) true n 23 cs.toList = some (d, ps) := hn
  rw [show Tryz.prog.cellsOf 23 = 6 by kernel_rfl] at hsz
  obtain ⟨xs, k, hk, hxy, _, hxl, hf⟩ := DataW.trod_struct Tryz.underlying23 hn2
  obtain ⟨l⟩ := cs
  match l, hsz with
  | [u0, u1, u2, u3, u4, u5], _ =>
    match xs, hxl with
    | [y0, y1, y2, y3, y4, y5], _ =>
      have g0 := hf 0 _ rfl
      have g1 := hf 1 _ rfl
      have g2 := hf 2 _ rfl
      have g3 := hf 3 _ rfl
      have g4 := hf 4 _ rfl
      have g5 := hf 5 _ rfl
      have c1 : Tryz.prog.cellsOf 3 = 1 := by kernel_rfl
      simp [c1] at g0 g1 g2 g3 g4 g5
      obtain ⟨z0, e0, _, w0⟩ := DataW.trod_int Tryz.underlying3 g0
      obtain ⟨z1, e1, _, w1⟩ := DataW.trod_int Tryz.underlying3 g1
      obtain ⟨z2, e2, _, w2⟩ := DataW.trod_int Tryz.underlying3 g2
      obtain ⟨z3, e3, _, w3⟩ := DataW.trod_int Tryz.underlying3 g3
      obtain ⟨z4, e4, _, w4⟩ := DataW.trod_int Tryz.underlying3 g4
      obtain ⟨z5, e5, _, w5⟩ := DataW.trod_int Tryz.underlying3 g5
      simp only [List.cons.injEq, and_true] at e0 e1 e2 e3 e4 e5
      subst e0 e1 e2 e3 e4 e5
      exact ⟨⟨z0, z1, z2, z3, z4, z5⟩, rfl⟩
end
end Go.Proofs.YtanndhoimpnhpaaGreatDoor
namespace Go.Proofs.YtanndhoimpnhpaaGreatDoor
theorem wf_in {n : Int} (h : (Lit.int .i64 n).wf = true) : InR n := by
  have h1 : IntKind.i64.min ≤ n ∧ n ≤ 9223372036854775807 := by simpa [Lit.wf] using h
  have h2 : IntKind.i64.min = -9223372036854775808 := by decide
  unfold InR
  omega
end Go.Proofs.YtanndhoimpnhpaaGreatDoor
namespace Go.Proofs.YtanndhoimpnhpaaGreatDoor
open Go.ChangeShapes Go.WideShapes Go.RowKit Go.Deep Cal
section
variable {H : Type} {enc : TypeId × Value → H}
theorem bulk_all2 (D : Nat → DataW H) (n : Nat) (h : ∀ i, i < n → 10 ≤ Rows.uptoBulk (D i)) : ∀ l : List Nat, (∀ i ∈ l, i < n) → 10 * l.length ≤ Rows.uptoBulkAll (l.map D)
  | [], _ => by simp
  | i :: l, hl => by
    have h1 := bulk_all2 D n h l (fun x hx => hl x (by simp [hx]))
    have h2 := h i (hl i (by simp))
    simp only [List.map_cons, Rows.uptoBulkAll, List.length_cons]
    omega
theorem bulk_one (D : Nat → DataW H) (k : Nat) : ∀ l : List Nat, k ∈ l → Rows.uptoBulk (D k) ≤ Rows.uptoBulkAll (l.map D)
  | [], h => by simp at h
  | i :: l, h => by
    simp only [List.map_cons, Rows.uptoBulkAll]
    rcases List.mem_cons.1 h with rfl | h
    · omega
    · have := bulk_one D k l h
      omega
set_option maxRecDepth 100000 in
theorem open_SpW {W : World} {b0 : Nat} {v : Value} {d : DataW H} {ps : List MemPlace} (hok : Value.okWide Tryz.prog W .any b0 24 v) (h : DataW.Trod enc Tryz.prog W 0 (fun _ => true) true 24 v d ps) :
    ∃ sc : List Sp, SpV W v sc ∧ (∀ s ∈ sc, InR s.e.s ∧ ∃ st : List UInt8, s.sv = .string (bs st) ∧ st.length ≤ Rows.uptoBulk d) ∧ 10 * sc.length ≤ Rows.uptoBulk d := by
  obtain ⟨a0, len, cap, rfl⟩ := okWide_slice Tryz.underlying24 hok
  obtain ⟨n, hn⟩ := h
  have hn2 : DataW.trod enc Tryz.prog W 0 (fun _ => true) true n 24 [.slice a0 len cap] = some (d, ps) := hn
  rcases open_slice Tryz.underlying24 hn2 with ⟨hc, _⟩ | ⟨a, len', cap', m, n', D, Pl, hc, _, hl, hm, hmm, hz, hx⟩
  · simp only [List.cons.injEq, Value.slice.injEq, and_true] at hc
    obtain ⟨rfl, rfl, rfl⟩ := hc
    exact ⟨[], ⟨none, 0, rfl, Nat.le_refl _, fun k hk => absurd hk (Nat.not_lt_zero k)⟩, fun s hs => by simp at hs, by simp⟩
  · simp only [List.cons.injEq, Value.slice.injEq, and_true] at hc
    obtain ⟨rfl, rfl, rfl⟩ := hc
    simp only [if_true] at hmm
    subst hmm
    have ce : Tryz.prog.cellsOf 60 = 8 := by kernel_rfl
    have each : ∀ i, i < len → ∃ r : Sp, (∀ j u, (spl r)[j]? = some u → W.cell? (a.add (i * 8 + j)) = some u) ∧ InR r.e.s ∧ ∃ st : List UInt8, r.sv = .string (bs st) ∧ st.length + 10 ≤ Rows.uptoBulk (D i) := fun i hi => by
      obtain ⟨cs', h1, h2⟩ := hx i (by omega)
      rw [ce] at h1
      obtain ⟨_, hlen, hcell⟩ := World.cells?_some h1
      obtain ⟨xs, k, hk, hxy, _, hxl, hf⟩ := DataW.trod_struct Tryz.underlying60 h2
      have hD : D i = .agg (xs.map (·.1)) := congrArg Prod.fst hxy
      match xs, hxl, cs', hlen, hD, hf, hcell with
      | [y0, y1, y2, y3, y4], _, [u0, u1, u2, u3, u4, u5, u6, u7], _, hD, hf, hcell =>
        have g0 := hf 0 _ rfl
        have g1 := hf 1 _ rfl
        have g2 := hf 2 _ rfl
        have g3 := hf 3 _ rfl
        have g4 := hf 4 _ rfl
        have c1 : Tryz.prog.cellsOf 3 = 1 := by kernel_rfl
        have c4 : Tryz.prog.cellsOf 50 = 4 := by kernel_rfl
        have c9 : Tryz.prog.cellsOf 9 = 1 := by kernel_rfl
        simp [c1, c4, c9] at g0 g1 g2 g3 g4
        obtain ⟨z0, e0, y0e, w0⟩ := DataW.trod_int Tryz.underlying3 g0
        obtain ⟨z1, e1, y1e, w1⟩ := DataW.trod_int Tryz.underlying3 g1
        obtain ⟨z3, e3, y3e, w3⟩ := DataW.trod_int Tryz.underlying3 g3
        obtain ⟨sb, e4, y4e, w4⟩ := DataW.trod_string Tryz.underlying9 g4
        obtain ⟨ys, k2, hk2, hyy, _, hyl, hg⟩ := DataW.trod_struct Tryz.underlying50 g2
        match ys, hyl, hyy, hg with
        | [x0, x1, x2, x3], _, hyy, hg =>
          have f0 := hg 0 _ rfl
          have f1 := hg 1 _ rfl
          have f2 := hg 2 _ rfl
          have f3 := hg 3 _ rfl
          simp [c1] at f0 f1 f2 f3
          obtain ⟨q0, i0, x0e, wf0⟩ := DataW.trod_int Tryz.underlying3 f0
          obtain ⟨q1, i1, x1e, wf1⟩ := DataW.trod_int Tryz.underlying3 f1
          obtain ⟨q2, i2, x2e, wf2⟩ := DataW.trod_int Tryz.underlying3 f2
          obtain ⟨q3, i3, x3e, wf3⟩ := DataW.trod_int Tryz.underlying3 f3
          simp only [List.cons.injEq, and_true] at e0 e1 e3 e4 i0 i1 i2 i3
          subst e0 e1 e3 e4 i0 i1 i2 i3
          refine ⟨⟨z0, z1, ⟨q0, q1, q2, q3⟩, z3, .string sb⟩, fun j u hu => ?_, wf_in wf2, sb.data.toList, by rw [show bs sb.data.toList = sb from by unfold bs; simp], ?_⟩
          rotate_left
          · rw [hD]
            have hy2 : y2.1 = .agg [x0.1, x1.1, x2.1, x3.1] := congrArg Prod.fst hyy
            simp only [List.map_cons, List.map_nil, Rows.uptoBulk, Rows.uptoBulkAll, hy2, y0e, y1e, y3e, y4e, x0e, x1e, x2e, x3e]
            omega
          have hj : j < 8 := (List.getElem?_eq_some_iff.1 hu).1
          have hc := hcell j (by simpa using hj)
          rw [add_add] at hc
          rw [hc]
          exact hu
    obtain ⟨R, hR0⟩ := choose_lt each
    have hR := fun i hi => (hR0 i hi).1
    have hd : d = .slice ((List.range len).map D) ((List.range (m - len)).map fun j => D (len + j)) := congrArg Prod.fst hz
    have hbk : ∀ i, i < len → 10 ≤ Rows.uptoBulk (D i) := fun i hi => by obtain ⟨_, _, st, _, h3⟩ := hR0 i hi; omega
    have hrl : ((List.range len).map R).length = len := by simp
    have hm2 : m ≤ 9223372036854775807 := hm
    refine ⟨(List.range len).map R, ⟨some a, m, by rw [hrl], by omega, fun k hk => ?_⟩, fun s hs => ?_, ?_⟩
    · have hk2 : k < len := by omega
      have hRk := hR k hk2
      have e : ((List.range len).map R)[k] = R k := by simp
      rw [e]
      obtain ⟨ab, ao, asp⟩ := a
      have h0 := hRk 0 _ rfl
      have hsp : asp = none := by
        have := World.cell?_spot (hR 0 (by omega) 0 _ rfl)
        simpa [Addr.add] using this
      subst hsp
      rw [Addr.add_lit] at h0
      refine ⟨ab, ao, rfl, World.block_lt_of_cell? W ⟨ab, ao + (k * 8 + 0), none⟩ h0, fun j u hj => ?_⟩
      have := hRk j u hj
      rw [Addr.add_lit, ← Nat.add_assoc] at this
      exact this
    · obtain ⟨k, hk, rfl⟩ := List.mem_map.1 hs
      obtain ⟨_, h1, st, h2, h3⟩ := hR0 k (List.mem_range.1 hk)
      refine ⟨h1, st, h2, ?_⟩
      have h4 := bulk_one D k (List.range len) hk
      rw [hd]
      simp only [Rows.uptoBulk]
      omega
    · have h4 := bulk_all2 D len hbk (List.range len) (fun i hi => List.mem_range.1 hi)
      rw [hd]
      simp only [Rows.uptoBulk, List.length_map]
      omega
end
end Go.Proofs.YtanndhoimpnhpaaGreatDoor
namespace Go.Proofs.YtanndhoimpnhpaaGreatDoor
open Go.RowKit
def mvz : List (List Int) := [[0, 0], [1, 0], [4, 3], [3, 2], [1, 2], [0, 5], [0, 4], [0, 3], [0, 2], [0, 1], [0, 6], [2, 7], [5, 8]]
def mvData {H : Type} : DataW H := .agg (mvz.map fun zs => .agg (zs.map fun z => .lit (.int .i64 z)))
theorem gMoves : Tryz.prog.globalNamed "accrue/owed.moves" = some 1 := by kernel_rfl
theorem mvl_at : ∀ j, j < 26 → mvl[j]? = ((mvz.getD (j / 2) []).map fun z => Value.int .i64 z)[j % 2]? := by
  intro j hj
  match j, hj with
  | 0, _ => rfl
  | 1, _ => rfl
  | 2, _ => rfl
  | 3, _ => rfl
  | 4, _ => rfl
  | 5, _ => rfl
  | 6, _ => rfl
  | 7, _ => rfl
  | 8, _ => rfl
  | 9, _ => rfl
  | 10, _ => rfl
  | 11, _ => rfl
  | 12, _ => rfl
  | 13, _ => rfl
  | 14, _ => rfl
  | 15, _ => rfl
  | 16, _ => rfl
  | 17, _ => rfl
  | 18, _ => rfl
  | 19, _ => rfl
  | 20, _ => rfl
  | 21, _ => rfl
  | 22, _ => rfl
  | 23, _ => rfl
  | 24, _ => rfl
  | 25, _ => rfl
  | j + 26, h => exact absurd h (by omega)
theorem mv_of_reads {W : World} (h : Lib.VarReads Tryz.prog W "accrue/owed.moves" mvData) : Mv W ∧ 1 < W.heap.size := by
  obtain ⟨g, t, cs, fuel, p, hg, hty, hvar, hd⟩ := h
  obtain rfl := Option.some.inj (gMoves.symm.trans hg)
  obtain rfl := Option.some.inj ((show (Tryz.prog.globals[1]?).map (·.type) = some 203 by kernel_rfl).symm.trans hty)
  have c2 : Tryz.prog.cellsOf 202 = 2 := by kernel_rfl
  have key : ∀ i, i < 13 → (cs.toList.drop (i * 2)).take 2 = (mvz.getD i []).map fun z => Value.int .i64 z := by
    intro i hi
    obtain ⟨fuel', d, q, hds, htr⟩ := Lib.array_elem Tryz.underlying203 hd i hi
    rw [c2] at htr
    have hz : mvz[i]? = some (mvz.getD i []) := by
      rw [List.getD_eq_getElem?_getD, List.getElem?_eq_getElem (show i < mvz.length from hi)]
      rfl
    rw [List.getElem?_map, hz] at hds
    obtain rfl := Option.some.inj hds
    refine Lib.ints_of_struct Tryz.underlying202 ?_ c2 htr
    intro j f hf
    match j, hf with
    | 0, hf =>
      obtain rfl := Option.some.inj hf
      exact ⟨Tryz.underlying3, rfl, by kernel_rfl⟩
    | 1, hf =>
      obtain rfl := Option.some.inj hf
      exact ⟨Tryz.underlying3, rfl, by kernel_rfl⟩
    | j + 2, hf => exact absurd hf (by simp)
  have hcell : ∀ j, j < 26 → W.cell? ⟨1, j, none⟩ = mvl[j]? := by
    intro j hj
    have hv := World.var?_cell hg hvar j
    have hk := congrArg (fun l => l[j % 2]?) (key (j / 2) (by omega))
    simp only [List.getElem?_take, List.getElem?_drop, show j % 2 < 2 by omega, if_true] at hk
    rw [show j / 2 * 2 + j % 2 = j by omega] at hk
    rw [hv, mvl_at j hj, ← hk, Array.getElem?_toList]
  have hall : Mv W := by
    intro j v hj
    have hlt : j < 26 := by
      have := (List.getElem?_eq_some_iff.1 hj).1
      exact this
    rw [hcell j hlt, hj]
  exact ⟨hall, World.block_lt_of_cell? _ _ (hall 0 _ rfl)⟩
end Go.Proofs.YtanndhoimpnhpaaGreatDoor
namespace Go.Proofs.YtanndhoimpnhpaaGreatDoor
open Go.RowKit
def lmz : List (List Int) := [[0, 0], [1, 100000000000], [0, 1000000], [1, 400], [0, 0], [1, 100000000000]]
def lmData {H : Type} : DataW H := .agg (lmz.map fun zs => .agg (zs.map fun z => .lit (.int .i64 z)))
theorem gLimits : Tryz.prog.globalNamed "accrue/accrue.amountLimits" = some 0 := by kernel_rfl
theorem liml_at : ∀ j, j < 12 → liml[j]? = ((lmz.getD (j / 2) []).map fun z => Value.int .i64 z)[j % 2]? := by
  intro j hj
  match j, hj with
  | 0, _ => rfl
  | 1, _ => rfl
  | 2, _ => rfl
  | 3, _ => rfl
  | 4, _ => rfl
  | 5, _ => rfl
  | 6, _ => rfl
  | 7, _ => rfl
  | 8, _ => rfl
  | 9, _ => rfl
  | 10, _ => rfl
  | 11, _ => rfl
  | j + 12, h => exact absurd h (by omega)
theorem lim_of_reads {W : World} (h : Lib.VarReads Tryz.prog W "accrue/accrue.amountLimits" lmData) : Lim W := by
  obtain ⟨g, t, cs, fuel, p, hg, hty, hvar, hd⟩ := h
  obtain rfl := Option.some.inj (gLimits.symm.trans hg)
  obtain rfl := Option.some.inj ((show (Tryz.prog.globals[0]?).map (·.type) = some 154 by kernel_rfl).symm.trans hty)
  have c2 : Tryz.prog.cellsOf 86 = 2 := by kernel_rfl
  have key : ∀ i, i < 6 → (cs.toList.drop (i * 2)).take 2 = (lmz.getD i []).map fun z => Value.int .i64 z := by
    intro i hi
    obtain ⟨fuel', d, q, hds, htr⟩ := Lib.array_elem Tryz.underlying154 hd i hi
    rw [c2] at htr
    have hz : lmz[i]? = some (lmz.getD i []) := by
      rw [List.getD_eq_getElem?_getD, List.getElem?_eq_getElem (show i < lmz.length from hi)]
      rfl
    rw [List.getElem?_map, hz] at hds
    obtain rfl := Option.some.inj hds
    refine Lib.ints_of_struct Tryz.underlying86 ?_ c2 htr
    intro j f hf
    match j, hf with
    | 0, hf =>
      obtain rfl := Option.some.inj hf
      exact ⟨Tryz.underlying3, rfl, by kernel_rfl⟩
    | 1, hf =>
      obtain rfl := Option.some.inj hf
      exact ⟨Tryz.underlying3, rfl, by kernel_rfl⟩
    | j + 2, hf => exact absurd hf (by simp)
  have hcell : ∀ j, j < 12 → W.cell? ⟨0, j, none⟩ = liml[j]? := by
    intro j hj
    have hv := World.var?_cell hg hvar j
    have hk := congrArg (fun l => l[j % 2]?) (key (j / 2) (by omega))
    simp only [List.getElem?_take, List.getElem?_drop, show j % 2 < 2 by omega, if_true] at hk
    rw [show j / 2 * 2 + j % 2 = j by omega] at hk
    rw [hv, liml_at j hj, ← hk, Array.getElem?_toList]
  intro j v hj
  have hlt : j < 12 := by
    have := (List.getElem?_eq_some_iff.1 hj).1
    exact this
  rw [hcell j hlt, hj]
end Go.Proofs.YtanndhoimpnhpaaGreatDoor
