/- Joined by program: LwB, Bo, LwC, LwD. -/
import Derived.Test.YtanndhoimpnhpaaGreatDoorM26
import Derived.Deep.MidRow
import Derived.Test.YtanndhoimpnhpaaGreatDoorM25
import Derived.Test.YtanndhoimpnhpaaGreatDoorM23
import Derived.Laws.MakeOwn
/- The statements' own functions: num, opened. -/
namespace Go.Proofs.YtanndhoimpnhpaaGreatDoor
open Go.ChangeShapes Go.WideShapes Go.ChangeAt Go.RowKit Go.WideMaps Go.Maps Lg Cal

theorem num_any (n : Int) (w : World) : Calls Tryz.prog 32 #[.int .i64 n] w fun e w' => e = .returned (.int .i64 n) ∧ w' = w := by
  go_enter Tryz.func32, Tryz.ntmps32
  go_wp2
  go_ret
  exact ⟨rfl, rfl⟩
/-- What opened answers. -/
def OpPost (w : World) (t : Ln.Terms) (e : Ending) (w' : World) : Prop :=
  Below w.heap.size w w' ∧ ((rtB t = false ∧ e = .returned (.tuple #[.agg #[.pointer none, .pointer none], .bool true])) ∨
    (rtB t = true ∧ ∃ B D F1 F2, e = .returned (.tuple #[.agg #[.pointer (some ⟨B, 0, none⟩), .pointer (some ⟨D, 0, none⟩)], .bool true]) ∧ TwX w' B D t [] [] (Ln.start t) t.st [] F1 F2 ∧ (∀ b, F1 b → w.heap.size ≤ b) ∧ (∀ b, F2 b → w.heap.size ≤ b)))
set_option maxRecDepth 10000 in
set_option maxHeartbeats 2000000 in
theorem opened_any (t : Ln.Terms) (w : World) : Calls Tryz.prog 24 #[tmV t] w (OpPost w t) := by
  have hb1 : Below w.heap.size w (w.alloc (.cells (tml t).toArray 23)) := (Below.refl _ _).alloc (Nat.le_refl _) _
  have hs1 : (w.alloc (.cells (tml t).toArray 23)).heap.size = w.heap.size + 1 := Array.size_push _
  have a0 : At ((w.alloc (.cells (tml t).toArray 23)).alloc (.cells #[.pointer none, .pointer none] 31)) w.heap.size (tml t) := At.keep (S := fun _ => False) (v := .int .i64 t.st) (At.alloc w (tml t) _) (Keep.below ((Below.refl _ _).alloc (Nat.le_refl _) _)) (fun x => x)
  have a1 : At ((w.alloc (.cells (tml t).toArray 23)).alloc (.cells #[.pointer none, .pointer none] 31)) (w.heap.size + 1) [.pointer none, .pointer none] := by
    have h := At.alloc (w.alloc (.cells (tml t).toArray 23)) [.pointer none, .pointer none] 31
    rw [hs1] at h
    exact h
  have b0 : Below w.heap.size w ((w.alloc (.cells (tml t).toArray 23)).alloc (.cells #[.pointer none, .pointer none] 31)) := hb1.alloc hb1.size _
  have s0 : ((w.alloc (.cells (tml t).toArray 23)).alloc (.cells #[.pointer none, .pointer none] 31)).heap.size = w.heap.size + 2 := (Array.size_push _).trans (by rw [hs1])
  have A0 : Hid (At ((w.alloc (.cells (tml t).toArray 23)).alloc (.cells #[.pointer none, .pointer none] 31)) w.heap.size (tml t)) := a0
  have A1 : Hid (At ((w.alloc (.cells (tml t).toArray 23)).alloc (.cells #[.pointer none, .pointer none] 31)) (w.heap.size + 1) [.pointer none, .pointer none]) := a1
  have B0 : Hid (Below w.heap.size w ((w.alloc (.cells (tml t).toArray 23)).alloc (.cells #[.pointer none, .pointer none] 31))) := b0
  have S0 : Hid (((w.alloc (.cells (tml t).toArray 23)).alloc (.cells #[.pointer none, .pointer none] 31)).heap.size = w.heap.size + 2) := s0
  clear hb1 hs1 a0 a1 b0 s0
  unfold tmV
  go_enter Tryz.func24, Tryz.ntmps24
  go_upto_region 1 with fail
  have hN1 : (w.alloc (.cells (tml t).toArray 23)).heap.size = w.heap.size + 1 := Array.size_push _
  change Code.wp _ _ _ _ ((w.alloc (.cells (tml t).toArray 23)).alloc (.cells #[.pointer none, .pointer none] 31))
  generalize (w.alloc (.cells (tml t).toArray 23)).alloc (.cells #[.pointer none, .pointer none] 31) = V0 at *
  refine wp_region_lit ?_
  refine wpList_load_mid rfl 23 (.tmp 1) rfl _ 0 rfl (tml t) _ A0.out.range Tryz.underlying23 rfl (by kernel_rfl) ?_
  simp only [Act.put, List.setIfInBounds_toArray, List.set_cons_zero, List.set_cons_succ]
  cases hr : rtB t with
  | true =>
    have hO := openL t V0 hr
    unfold tmV at hO
    go_wp2_with fail
    refine hO.mono ?_
    rintro x w1 ⟨B, rfl, hLo, hb1⟩
    clear hO
    have hR := refopenD t w1 hr
    unfold tmV at hR
    have a1 : At w1 w.heap.size (tml t) := At.keep (S := fun _ => False) (v := .int .i64 t.st) A0.out (Keep.below hb1) (fun x => x)
    have HLo : Hid (Lo w1 B t [] (Ln.start t) t.st [] (Wd (fun _ => False) V0 w1) ∧ Below V0.heap.size V0 w1) := ⟨hLo, hb1⟩
    clear hLo hb1
    go_upto_region 2 with fail
    refine wp_region_lit ?_
    refine wpList_load_mid rfl 23 (.tmp 1) rfl _ 0 rfl (tml t) _ a1.range Tryz.underlying23 rfl (by kernel_rfl) ?_
    simp only [Act.put, List.setIfInBounds_toArray, List.set_cons_zero, List.set_cons_succ]
    clear a1
    go_wp2_with fail
    refine hR.mono ?_
    rintro x w2 ⟨D, rfl, hDc, hb2⟩
    clear hR
    have HDc : Hid (Dc w2 D t [] (Ln.start t) t.st [] (Wd (fun _ => False) w1 w2) ∧ Below w1.heap.size w1 w2) := ⟨hDc, hb2⟩
    clear hDc hb2
    go_wp2_with fail
    refine (num_any 0 w2).mono ?_
    rintro x w' ⟨rfl, hw'⟩
    obtain rfl := hw'.symm
    clear hw'
    go_upto_region 5 with fail
    have hbV2 : Below V0.heap.size V0 w2 := HLo.out.2.trans (HDc.out.2.mono HLo.out.2.size)
    have a2 : At w2 (w.heap.size + 1) [.pointer none, .pointer none] := At.keep (S := fun _ => False) (v := .pointer none) A1.out (Keep.below hbV2) (fun x => x)
    have a3 : At (w2.setCells (w.heap.size + 1) 0 [.pointer (some ⟨B, 0, none⟩), .pointer (some ⟨D, 0, none⟩)]) (w.heap.size + 1) [.pointer (some ⟨B, 0, none⟩), .pointer (some ⟨D, 0, none⟩)] := a2.setCells_same rfl
    have HE : Hid (OpPost w t (.returned (.tuple #[.agg #[.pointer (some ⟨B, 0, none⟩), .pointer (some ⟨D, 0, none⟩)], .bool true])) (w2.setCells (w.heap.size + 1) 0 [.pointer (some ⟨B, 0, none⟩), .pointer (some ⟨D, 0, none⟩)])) := by
      have kS : Keep (fun b => b = w.heap.size + 1) w2 (w2.setCells (w.heap.size + 1) 0 [.pointer (some ⟨B, 0, none⟩), .pointer (some ⟨D, 0, none⟩)]) := Keep.setCells (S := fun b => b = w.heap.size + 1) rfl _ _ _ (Keep.refl _ _)
      have hbw2 : Below w.heap.size w w2 := B0.out.trans (hbV2.mono B0.out.size)
      have hs := S0.out
      have hz := HLo.out.2.size
      refine ⟨dfresh hbw2 kS (fun b hb => by omega) hbw2.size, .inr ⟨hr, B, D, Wd (fun _ => False) V0 w1, Wd (fun _ => False) w1 w2, rfl, TwX.keep ⟨HLo.out.1.below HDc.out.2, HDc.out.1, List.Perm.refl _, ?_, ?_, ?_⟩ kS ?_ ?_, ?_, ?_⟩⟩
      · rintro b (x | x) (y | y)
        · exact x
        · exact x
        · exact y
        · omega
      · rintro b (x | x)
        · exact x.elim
        · have := HDc.out.2.size; omega
      · rintro b (x | x)
        · exact x.elim
        · exact x.2
      · rintro b (x | x)
        · exact x.elim
        · omega
      · rintro b (x | x)
        · exact x.elim
        · omega
      · rintro b (x | x)
        · exact x.elim
        · omega
      · rintro b (x | x)
        · exact x.elim
        · omega
    refine wp_region_lit ?_
    refine wpList_val (.pointer (some ⟨B, 0, none⟩)) w2 rfl rfl ?_
    simp only [Act.put, List.setIfInBounds_toArray, List.set_cons_zero, List.set_cons_succ]
    refine wpList_val (.pointer (some ⟨D, 0, none⟩)) w2 rfl rfl ?_
    simp only [Act.put, List.setIfInBounds_toArray, List.set_cons_zero, List.set_cons_succ]
    refine wpList_val (.agg #[.pointer (some ⟨B, 0, none⟩), .pointer (some ⟨D, 0, none⟩)]) w2 rfl (by kernel_rfl) ?_
    simp only [Act.put, List.setIfInBounds_toArray, List.set_cons_zero, List.set_cons_succ]
    refine wpList_store_mid rfl 31 (.tmp 2) (.tmp 32) rfl (w.heap.size + 1) 0 #[.pointer (some ⟨B, 0, none⟩), .pointer (some ⟨D, 0, none⟩)] rfl rfl (a2.there 2 rfl) (by kernel_rfl) (by kernel_rfl) ?_
    change wpList _ _ _ _ _ (w2.setCells (w.heap.size + 1) 0 [.pointer (some ⟨B, 0, none⟩), .pointer (some ⟨D, 0, none⟩)])
    generalize w2.setCells (w.heap.size + 1) 0 [.pointer (some ⟨B, 0, none⟩), .pointer (some ⟨D, 0, none⟩)] = W9 at *
    have c0 : W9.cell? ⟨w.heap.size + 1, 0, none⟩ = some (.pointer (some ⟨B, 0, none⟩)) := a3.cell 0 rfl
    have c1 : W9.cell? ⟨w.heap.size + 1, 1, none⟩ = some (.pointer (some ⟨D, 0, none⟩)) := a3.cell 1 rfl
    clear a2 a3 hbV2
    go_wp2
    exact bodyPost_ret (v := .tuple #[.agg #[.pointer (some ⟨B, 0, none⟩), .pointer (some ⟨D, 0, none⟩)], .bool true]) (by simp [results, Tryz.results24, go_sem, c0, c1]) rfl HE.out
  | false =>
    have hO := open_bad t V0 hr
    unfold tmV at hO
    go_wp2_with fail
    refine hO.mono ?_
    rintro x w1 ⟨rfl, hb1⟩
    clear hO
    have hR := refopen_bad t w1 hr
    unfold tmV at hR
    have a1 : At w1 w.heap.size (tml t) := At.keep (S := fun _ => False) (v := .int .i64 t.st) A0.out (Keep.below hb1) (fun x => x)
    have HB1 : Hid (Below V0.heap.size V0 w1) := hb1
    clear hb1
    go_upto_region 2 with fail
    refine wp_region_lit ?_
    refine wpList_load_mid rfl 23 (.tmp 1) rfl _ 0 rfl (tml t) _ a1.range Tryz.underlying23 rfl (by kernel_rfl) ?_
    simp only [Act.put, List.setIfInBounds_toArray, List.set_cons_zero, List.set_cons_succ]
    clear a1
    go_wp2_with fail
    refine hR.mono ?_
    rintro x w2 ⟨rfl, hb2⟩
    clear hR
    have HB2 : Hid (Below w1.heap.size w1 w2) := hb2
    clear hb2
    go_wp2_with fail
    refine (num_any 3 w2).mono ?_
    rintro x w' ⟨rfl, hw'⟩
    obtain rfl := hw'.symm
    clear hw'
    go_upto_region 5 with fail
    have hbV2 : Below V0.heap.size V0 w2 := HB1.out.trans (HB2.out.mono HB1.out.size)
    have a2 : At w2 (w.heap.size + 1) [.pointer none, .pointer none] := At.keep (S := fun _ => False) (v := .pointer none) A1.out (Keep.below hbV2) (fun x => x)
    have a3 : At (w2.setCells (w.heap.size + 1) 0 [.pointer none, .pointer none]) (w.heap.size + 1) [.pointer none, .pointer none] := a2.setCells_same rfl
    have HE : Hid (OpPost w t (.returned (.tuple #[.agg #[.pointer none, .pointer none], .bool true])) (w2.setCells (w.heap.size + 1) 0 [.pointer none, .pointer none])) := by
      have kS : Keep (fun b => b = w.heap.size + 1) w2 (w2.setCells (w.heap.size + 1) 0 [.pointer none, .pointer none]) := Keep.setCells (S := fun b => b = w.heap.size + 1) rfl _ _ _ (Keep.refl _ _)
      have hbw2 : Below w.heap.size w w2 := B0.out.trans (hbV2.mono B0.out.size)
      exact ⟨dfresh hbw2 kS (fun b hb => by omega) hbw2.size, .inl ⟨hr, rfl⟩⟩
    refine wp_region_lit ?_
    refine wpList_val (.pointer none) w2 rfl rfl ?_
    simp only [Act.put, List.setIfInBounds_toArray, List.set_cons_zero, List.set_cons_succ]
    refine wpList_val (.pointer none) w2 rfl rfl ?_
    simp only [Act.put, List.setIfInBounds_toArray, List.set_cons_zero, List.set_cons_succ]
    refine wpList_val (.agg #[.pointer none, .pointer none]) w2 rfl (by kernel_rfl) ?_
    simp only [Act.put, List.setIfInBounds_toArray, List.set_cons_zero, List.set_cons_succ]
    refine wpList_store_mid rfl 31 (.tmp 2) (.tmp 32) rfl (w.heap.size + 1) 0 #[.pointer none, .pointer none] rfl rfl (a2.there 2 rfl) (by kernel_rfl) (by kernel_rfl) ?_
    change wpList _ _ _ _ _ (w2.setCells (w.heap.size + 1) 0 [.pointer none, .pointer none])
    generalize w2.setCells (w.heap.size + 1) 0 [.pointer none, .pointer none] = W9 at *
    have c0 : W9.cell? ⟨w.heap.size + 1, 0, none⟩ = some (.pointer none) := a3.cell 0 rfl
    have c1 : W9.cell? ⟨w.heap.size + 1, 1, none⟩ = some (.pointer none) := a3.cell 1 rfl
    clear a2 a3 hbV2
    go_wp2
    exact bodyPost_ret (v := .tuple #[.agg #[.pointer none, .pointer none], .bool true]) (by simp [results, Tryz.results24, go_sem, c0, c1]) rfl HE.out
end Go.Proofs.YtanndhoimpnhpaaGreatDoor

/- What the book tells: the program's From, Book. -/
namespace Go.Proofs.YtanndhoimpnhpaaGreatDoor
open Go.ChangeShapes Go.WideShapes Go.RowKit Go.WideMaps Go.Maps Cal

theorem sizeEnp : (Tryz.prog.info? 114).map (·.size) = some 3 := by kernel_rfl
theorem ens_cell1 : ∀ (l : List En) (v : Value), v ∈ ens l → v.oneCell' = true
  | [], _, h => by simp [ens] at h
  | e :: r, v, h => by
    simp only [ens, List.mem_cons] at h
    rcases h with rfl | rfl | rfl | h
    · rfl
    · rfl
    · rfl
    · exact ens_cell1 r v h
theorem ens_drop (l : List En) (i : Nat) (h : i ≤ l.length) : (ens l).drop (i * 3) = ens (l.drop i) := by
  have : ens l = ens (l.take i) ++ ens (l.drop i) := by rw [← ens_append, List.take_append_drop]
  have hl : (ens (l.take i)).length = i * 3 := by rw [ens_len, List.length_take]; omega
  rw [this, ← hl, List.drop_left]
/-- From which entry on. -/
def kf (x : Int) (n : Nat) : Nat := min (max x 0).toNat n
theorem kf_le (x : Int) (n : Nat) : kf x n ≤ n := Nat.min_le_right _ _
theorem bslice_from (p : Option Addr) (n cap k : Nat) (hk : k ≤ n) (W : World) :
    ∃ q, (Instr.sliceAt 54 (.slice p n cap) (some (.int .i64 (k : Int))) none none).run Tryz.prog W = .ok (.slice q (n - k) (cap - k)) W ∧ q = (if cap = k then p else p.map (·.add (k * 3))) := by
  refine ⟨_, ?_, rfl⟩
  simp [Instr.sliceAt, run_underlying Tryz.underlying54, Instr.slice, Instr.sliceBounds, Instr.sliceBound, asIntOf, Result.andThen, hk]

set_option maxRecDepth 10000 in
set_option maxHeartbeats 4000000 in
theorem from_any (w : World) (P : Nat) (bkv : Value) (Mb : Nat) (L : List En) (h : BkIs w P bkv Mb L) (hL : L.length ≤ 4000000000000) (x : Int) :
    Calls Tryz.prog 46 #[.pointer (some ⟨P, 0, none⟩), .int .i64 x] w fun r w' => ∃ v, r = .returned v ∧ w'.ownsRow w.heap.size 114 3 v (L.length - kf x L.length) (ens (L.drop (kf x L.length))) ∧ Below w.heap.size w w' := by
  obtain ⟨bp, bcap, rfl⟩ := own_slice h.ow
  obtain ⟨i0, hi0, hz0, hz1, hz2⟩ := info_parts infoEntry
  have hk := kf_le x L.length
  obtain ⟨x1, hx1⟩ : ∃ x1, x1 = max x 0 := ⟨_, rfl⟩
  obtain ⟨k, hkk⟩ : ∃ k, k = kf x L.length := ⟨_, rfl⟩
  rw [← hkk] at hk ⊢
  obtain ⟨m, hm⟩ : ∃ m, m = L.length - k := ⟨_, rfl⟩
  rw [← hm]
  have hk2 : (k : Int) = min x1 L.length := by
    rw [hkk, hx1]
    unfold kf
    omega
  have HK2 : Hid ((k : Int) = min x1 L.length) := hk2
  have HX1 : Hid (x1 = max x 0) := hx1
  have HS : Hid (∀ W : World, ∃ q, (Instr.sliceAt 54 (.slice bp L.length bcap) (some (.int .i64 (k : Int))) none none).run Tryz.prog W = .ok (.slice q m (bcap - k)) W ∧ q = (if bcap = k then bp else bp.map (·.add (k * 3)))) := fun W => by rw [hm]; exact bslice_from bp L.length bcap k hk W
  have c0 : w.drew.cell? ⟨P, 0, none⟩ = some (.slice bp L.length bcap) := h.pl.cell 0 rfl
  have hcells : ∀ j u, (ens (L.drop k))[j]? = some u → ∀ a, (if bcap = k then bp else bp.map (·.add (k * 3))) = some a → w.cell? (a.add j) = some u := fun j u hj a ha => by
    obtain ⟨hl, ⟨hn, hz⟩ | ⟨gg, cap, cur, hv, hg1, hg2, hg3, hg4, hg5, hg6⟩⟩ := id h.ow
    · have : L = [] := List.length_eq_zero_iff.1 hz
      subst this
      simp [ens] at hj
    · injection hv with e1 e2 e3
      subst e1 e3
      have hjl := (List.getElem?_eq_some_iff.1 hj).1
      rw [ens_len, List.length_drop] at hjl
      rw [← ens_drop L k hk, List.getElem?_drop] at hj
      rw [if_neg (by omega)] at ha
      have hc := h.ow.cellAt (k * 3 + j) (by omega)
      rw [hj] at hc
      simp only [Option.map_some, Option.some.injEq] at ha
      subst ha
      rw [Addr.add_lit, Addr.add_lit, Nat.zero_add]
      exact hc
  have HN : Hid (∀ a, (if bcap = k then bp else bp.map (·.add (k * 3))) = some a → ∀ j u, (ens (L.drop k))[j]? = some u → w.cell? (a.add j) = some u) := fun a ha j u hj => hcells j u hj a ha
  have HE : Hid ((if bcap = k then bp else bp.map (·.add (k * 3))) = none → m = 0) := fun hn => by
    obtain ⟨hl, ⟨hn', hz⟩ | ⟨gg, cap, cur, hv, hg⟩⟩ := h.ow
    · omega
    · injection hv with e1 e2 e3
      subst e1
      split at hn <;> simp at hn
  generalize hq0 : (if bcap = k then bp else bp.map (·.add (k * 3))) = q at *
  clear hq0 hcells hx1 hkk hk2
  have HC : Hid (w.drew.cell? ⟨P, 0, none⟩ = some (.slice bp L.length bcap)) := c0
  clear h c0
  have hmk := run_make (P := Tryz.prog) w.drew 54 114 i0 _ Tryz.underlying54 hi0 hz0 .i64 .i64 (m : Int) (m : Int) (by omega) (Int.le_refl _) (by rw [hz2]; omega) (by omega)
  obtain ⟨ROW, hROW⟩ : ∃ ROW, ROW = madeCells (Value.agg #[.int .i64 0, .int .i64 0, .int .i64 0]).cells ((m : Int).toNat * i0.size) := ⟨_, rfl⟩
  have hRs : ROW.size = m * 3 := by rw [hROW, hz1]; simp [madeCells]
  rw [← hROW] at hmk
  simp only [Int.toNat_natCast] at hmk
  obtain ⟨W1, hW1⟩ : ∃ W1, W1 = w.drew.alloc (.cells ROW 114) := ⟨_, rfl⟩
  have hb1 : Below w.heap.size w W1 := by rw [hW1]; exact (Below.refl _ _).drew.alloc (Nat.le_refl _) _
  have hrow : W1.heap[w.heap.size]? = some (.cells ROW 114 (0, 0)) := by
    rw [hW1]
    show (w.heap.push (.cells ROW 114))[w.heap.size]? = _
    simp
  have hdl : (ens (L.drop k)).length = m * 3 := by rw [ens_len, List.length_drop, hm]
  have hmx : m ≤ maxLen := by unfold maxLen; omega
  have hcp : ∃ r W', (∀ ty, (Builtin.copy_ #[54, 54] ty #[.slice (some ⟨w.heap.size, 0, none⟩) m m, .slice q m (bcap - k)]).run Tryz.prog W1 = .ok r W') ∧ W'.ownsRow w.heap.size 114 3 (.slice (some ⟨w.heap.size, 0, none⟩) m m) m (ens (L.drop k)) ∧ Below w.heap.size w W' := by
    by_cases hm0 : m = 0
    · have hnil : L.drop k = [] := List.drop_eq_nil_of_le (by omega)
      refine ⟨_, _, fun ty => run_copy_noneK W1 _ _ ty 114 3 _ _ _ _ _ _ Tryz.underlying54 sizeEnp (by rw [hm0]; rfl), ⟨hdl, .inr ⟨w.heap.size, m, ROW, rfl, Nat.le_refl _, hrow, Nat.le_refl _, hmx, hRs, ?_⟩⟩, hb1⟩
      rw [hm0, hnil]
      rfl
    · cases q with
      | none => exact absurd (HE.out rfl) hm0
      | some a =>
        have hmin : Nat.min m m = m := Nat.min_self m
        refine ⟨_, _, fun ty => run_copy_rowK W1 _ _ ty 114 3 w.heap.size 0 m m a m (bcap - k) ROW 114 (ens (L.drop k)) Tryz.underlying54 sizeEnp hrow (by rw [hdl, hmin]) (fun j u hj => ?_) (by rw [hdl, hRs]; omega) (fun v hv => ens_cell1 _ v hv), ⟨hdl, .inr ⟨w.heap.size, m, _, rfl, Nat.le_refl _, setRow_row hrow _, Nat.le_refl _, hmx, ?_, ?_⟩⟩, ?_⟩
        · have hc := HN.out a rfl j u hj
          have hab : (a.add j).block < w.heap.size := World.block_lt_of_cell? _ _ hc
          exact (World.cell?_of_block (w := w) (a := a.add j) (hb1.block _ hab)).trans hc
        · simp [hdl, hRs]
        · have : ROW.toList.drop (0 + (ens (L.drop k)).length) = [] := List.drop_eq_nil_of_le (by rw [hdl, Array.length_toList, hRs]; omega)
          rw [this]
          simp
          exact List.take_of_length_le (by omega)
        · have kk := keep_setRow W1 w.heap.size (ROW.toList.take 0 ++ ens (L.drop k) ++ ROW.toList.drop (0 + (ens (L.drop k)).length)).toArray
          exact ⟨kk.os.trans hb1.os, kk.tape.trans hb1.tape, kk.output.trans hb1.output, Nat.le_trans hb1.size kk.size, fun b hb => (kk.block b (Nat.lt_of_lt_of_le hb hb1.size) (by omega)).trans (hb1.block b hb)⟩
  obtain ⟨r, W', hr, ho, hbW⟩ := hcp
  have HR : Hid (∀ ty, (Builtin.copy_ #[54, 54] ty #[.slice (some ⟨w.heap.size, 0, none⟩) m m, .slice q m (bcap - k)]).run Tryz.prog W1 = .ok r W') := hr
  have HEnd : Hid (∃ v, Ending.returned (.slice (some ⟨w.heap.size, 0, none⟩) m m) = .returned v ∧ W'.ownsRow w.heap.size 114 3 v m (ens (L.drop k)) ∧ Below w.heap.size w W') := ⟨_, rfl, ho, hbW⟩
  rw [← hW1] at hmk
  have HMK : Hid ((Instr.makeSlice 54 (.int .i64 (m : Int)) (.int .i64 (m : Int))).run Tryz.prog w.drew = .ok (.slice (some ⟨w.heap.size, 0, none⟩) m m) W1) := hmk
  clear hr ho hbW hmk hW1 hb1 hrow hdl hROW hRs hz1 hz2 hi0 hz0 HN HE hm hmx
  have z1 : (0 : Int) ≤ (L.length : Int) := by omega
  go_enter Tryz.func46, Tryz.ntmps46
  go_upto_region 1 with fail
  refine wp_region_held_drew (S := fun wx => wx.cell? ⟨P, 0, none⟩ = some (.slice bp L.length bcap)) (by kernel_rfl) HC.out (fun hHeld => ?_)
  refine wpAnyH_take (i := 0) (v := (.pointer (some ⟨P, 0, none⟩))) rfl (by kernel_rfl) (by kernel_rfl) (by kernel_rfl) (fun _ _ _ h => h) (Or.inl ⟨by rfl, fun wx hSw => by kernel_rfl⟩) (by assumption) ?_
  simp only [Act.put, List.getElem_toArray, List.getElem_cons_zero, List.setIfInBounds_toArray, List.set_cons_zero, List.set_cons_succ]
  refine wpAnyH_take (i := 1) (v := (.pointer (some ⟨P, 0, none⟩))) rfl (by kernel_rfl) (by kernel_rfl) (by kernel_rfl) (fun _ _ _ h => h) (Or.inl ⟨by rfl, fun wx hSw => by kernel_rfl⟩) (by assumption) ?_
  simp only [Act.put, List.getElem_toArray, List.getElem_cons_succ, List.getElem_cons_zero, List.setIfInBounds_toArray, List.set_cons_zero, List.set_cons_succ]
  refine wpAnyH_take (i := 2) (v := (.pointer (some ⟨P, 0, none⟩))) rfl (by kernel_rfl) (by kernel_rfl) (by kernel_rfl) (fun _ _ _ h => h) (Or.inl ⟨by rfl, fun wx hSw => by kernel_rfl⟩) (by assumption) ?_
  simp only [Act.put, List.getElem_toArray, List.getElem_cons_succ, List.getElem_cons_zero, List.setIfInBounds_toArray, List.set_cons_zero, List.set_cons_succ]
  refine wpAnyH_take (i := 3) (v := (.slice bp L.length bcap)) rfl (by kernel_rfl) (by kernel_rfl) (by kernel_rfl) (fun _ _ _ h => h) (Or.inl ⟨by rfl, fun wx hSw => by ((try dsimp only at hSw); go_simp)⟩) (by assumption) ?_
  simp only [Act.put, List.getElem_toArray, List.getElem_cons_succ, List.getElem_cons_zero, List.setIfInBounds_toArray, List.set_cons_zero, List.set_cons_succ]
  refine wpAnyH_take (i := 4) (v := (.int .i64 x)) rfl (by kernel_rfl) (by kernel_rfl) (by kernel_rfl) (fun _ _ _ h => h) (Or.inl ⟨by rfl, fun wx hSw => by kernel_rfl⟩) (by assumption) ?_
  simp only [Act.put, List.getElem_toArray, List.getElem_cons_succ, List.getElem_cons_zero, List.setIfInBounds_toArray, List.set_cons_zero, List.set_cons_succ]
  refine wpAnyH_take (i := 5) (v := (.int .i64 x1)) rfl (by kernel_rfl) (by kernel_rfl) (by kernel_rfl) (fun _ _ _ h => h) (Or.inl ⟨by rfl, fun wx hSw => by (go_simp; have := HX1.out; omega)⟩) (by assumption) ?_
  simp only [Act.put, List.getElem_toArray, List.getElem_cons_succ, List.getElem_cons_zero, List.setIfInBounds_toArray, List.set_cons_zero, List.set_cons_succ]
  refine wpAnyH_take (i := 6) (v := (.pointer (some ⟨P, 0, none⟩))) rfl (by kernel_rfl) (by kernel_rfl) (by kernel_rfl) (fun _ _ _ h => h) (Or.inl ⟨by rfl, fun wx hSw => by kernel_rfl⟩) (by assumption) ?_
  simp only [Act.put, List.getElem_toArray, List.getElem_cons_succ, List.getElem_cons_zero, List.setIfInBounds_toArray, List.set_cons_zero, List.set_cons_succ]
  refine wpAnyH_take (i := 7) (v := (.pointer (some ⟨P, 0, none⟩))) rfl (by kernel_rfl) (by kernel_rfl) (by kernel_rfl) (fun _ _ _ h => h) (Or.inl ⟨by rfl, fun wx hSw => by kernel_rfl⟩) (by assumption) ?_
  simp only [Act.put, List.getElem_toArray, List.getElem_cons_succ, List.getElem_cons_zero, List.setIfInBounds_toArray, List.set_cons_zero, List.set_cons_succ]
  refine wpAnyH_take (i := 8) (v := (.pointer (some ⟨P, 0, none⟩))) rfl (by kernel_rfl) (by kernel_rfl) (by kernel_rfl) (fun _ _ _ h => h) (Or.inl ⟨by rfl, fun wx hSw => by kernel_rfl⟩) (by assumption) ?_
  simp only [Act.put, List.getElem_toArray, List.getElem_cons_succ, List.getElem_cons_zero, List.setIfInBounds_toArray, List.set_cons_zero, List.set_cons_succ]
  refine wpAnyH_take (i := 9) (v := (.slice bp L.length bcap)) rfl (by kernel_rfl) (by kernel_rfl) (by kernel_rfl) (fun _ _ _ h => h) (Or.inl ⟨by rfl, fun wx hSw => by ((try dsimp only at hSw); go_simp)⟩) (by assumption) ?_
  simp only [Act.put, List.getElem_toArray, List.getElem_cons_succ, List.getElem_cons_zero, List.setIfInBounds_toArray, List.set_cons_zero, List.set_cons_succ]
  refine wpAnyH_take (i := 10) (v := (.int .i64 L.length)) rfl (by kernel_rfl) (by kernel_rfl) (by kernel_rfl) (fun _ _ _ h => h) (Or.inl ⟨by rfl, fun wx hSw => by ((try dsimp only at hSw); go_simp)⟩) (by assumption) ?_
  simp only [Act.put, List.getElem_toArray, List.getElem_cons_succ, List.getElem_cons_zero, List.setIfInBounds_toArray, List.set_cons_zero, List.set_cons_succ]
  refine wpAnyH_take (i := 11) (v := (.int .i64 k)) rfl (by kernel_rfl) (by kernel_rfl) (by kernel_rfl) (fun _ _ _ h => h) (Or.inl ⟨by rfl, fun wx hSw => by (go_simp; have := HK2.out; omega)⟩) (by assumption) ?_
  simp only [Act.put, List.getElem_toArray, List.getElem_cons_succ, List.getElem_cons_zero, List.setIfInBounds_toArray, List.set_cons_zero, List.set_cons_succ]
  refine wpAnyH_take (i := 12) (v := (.slice q m (bcap - k))) rfl (by kernel_rfl) (by kernel_rfl) (by kernel_rfl) (fun _ _ _ h => h) (Or.inl ⟨by rfl, fun wx hSw => by (obtain ⟨q', hq1, rfl⟩ := HS.out wx; go_simp)⟩) (by assumption) ?_
  simp only [Act.put, List.getElem_toArray, List.getElem_cons_succ, List.getElem_cons_zero, List.setIfInBounds_toArray, List.set_cons_zero, List.set_cons_succ]
  refine wpAnyH_take (i := 13) (v := (.slice q m (bcap - k))) rfl (by kernel_rfl) (by kernel_rfl) (by kernel_rfl) (fun _ _ _ h => h) (Or.inl ⟨by rfl, fun wx hSw => by kernel_rfl⟩) (by assumption) ?_
  simp only [Act.put, List.getElem_toArray, List.getElem_cons_succ, List.getElem_cons_zero, List.setIfInBounds_toArray, List.set_cons_zero, List.set_cons_succ]
  refine wpAnyH_done (by kernel_rfl) ?_ _
  clear hHeld HS HK2 HX1 HC
  go_upto_region 2 with fail
  refine wp_region_lit ?_
  refine wpList_val (.slice q m (bcap - k)) w.drew rfl rfl ?_
  simp only [Act.put, List.setIfInBounds_toArray, List.set_cons_zero, List.set_cons_succ]
  refine wpList_val (.int .i64 m) w.drew rfl (by go_simp) ?_
  simp only [Act.put, List.setIfInBounds_toArray, List.set_cons_zero, List.set_cons_succ]
  refine wpList_val (.slice (some ⟨w.heap.size, 0, none⟩) m m) W1 rfl (by have h := HMK.out; simp only [execOp, Act.eval]; simp [h, Result.andThen, go_sem]) ?_
  simp only [Act.put, List.setIfInBounds_toArray, List.set_cons_zero, List.set_cons_succ]
  clear HMK
  go_upto_region 3 with fail
  refine wp_region_lit ?_
  refine wpList_val (.slice (some ⟨w.heap.size, 0, none⟩) m m) W1 rfl rfl ?_
  simp only [Act.put, List.setIfInBounds_toArray, List.set_cons_zero, List.set_cons_succ]
  refine wpList_val (.slice q m (bcap - k)) W1 rfl rfl ?_
  simp only [Act.put, List.setIfInBounds_toArray, List.set_cons_zero, List.set_cons_succ]
  refine wpList_copy_at W1 rfl (.tmp 23) (.tmp 24) 54 54 rfl _ _ rfl rfl (HR.out _) ?_
  simp only [Act.put, List.setIfInBounds_toArray, List.set_cons_zero, List.set_cons_succ]
  clear HR
  go_wp2
  go_ret
  exact HEnd.out

set_option maxHeartbeats 1000000 in
theorem bookL (w : World) (B : Nat) (t : Ln.Terms) (E : List Ln.Ev) (g : Ln.St) (day : Int) (L : List En) (F : Nat → Prop) (h : Lo w B t E g day L F) (hL : L.length ≤ 4000000000000) (x : Int) :
    Calls Tryz.prog 21 #[.pointer (some ⟨B, 0, none⟩), .int .i64 x] w fun r w' => ∃ v, r = .returned v ∧ w'.ownsRow w.heap.size 114 3 v (L.length - kf x L.length) (ens (L.drop (kf x L.length))) ∧ Below w.heap.size w w' := by
  obtain ⟨P, Mb, evv, bkv, h1, _⟩ := h
  have c15 : w.cell? ⟨B, 15, none⟩ = some (.pointer (some ⟨P, 0, none⟩)) := h1.ln.cell 15 rfl
  have hF := from_any w P bkv Mb L h1.bk hL x
  clear h1
  go_enter Tryz.func21, Tryz.ntmps21
  go_wp2_with fail
  refine hF.mono ?_
  rintro r w' ⟨v, rfl, ho, hb⟩
  obtain ⟨p, cap, rfl⟩ := own_slice ho
  clear hF
  have HE : Hid (∃ v, Ending.returned (.slice p (L.length - kf x L.length) cap) = .returned v ∧ w'.ownsRow w.heap.size 114 3 v (L.length - kf x L.length) (ens (L.drop (kf x L.length))) ∧ Below w.heap.size w w') := ⟨_, rfl, ho, hb⟩
  clear ho hb
  go_wp2
  go_ret
  exact HE.out
set_option maxRecDepth 10000 in
theorem loanBal_any (w : World) (B : Nat) (t : Ln.Terms) (v : Value) (g : Ln.St) (day : Int) (bk : Value) (h : At w B (ll t v g day bk)) :
    Calls Tryz.prog 20 #[.pointer (some ⟨B, 0, none⟩)] w fun e w' => e = .returned (blV g day) ∧ Below w.heap.size w w' := by
  have c7 : w.cell? ⟨B, 7, none⟩ = some (.int .i64 g.pr) := h.cell 7 rfl
  have c8 : w.cell? ⟨B, 8, none⟩ = some (.int .i64 g.it) := h.cell 8 rfl
  have c9 : w.cell? ⟨B, 9, none⟩ = some (.int .i64 g.du) := h.cell 9 rfl
  have c10 : w.cell? ⟨B, 10, none⟩ = some (.int .i64 g.la) := h.cell 10 rfl
  have c11 : w.cell? ⟨B, 11, none⟩ = some (.int .i64 g.fi) := h.cell 11 rfl
  have c12 : w.cell? ⟨B, 12, none⟩ = some (.int .i64 g.cr) := h.cell 12 rfl
  have c13 : w.cell? ⟨B, 13, none⟩ = some (.int .i64 g.rt) := h.cell 13 rfl
  have c14 : w.cell? ⟨B, 14, none⟩ = some (.int .i64 day) := h.cell 14 rfl
  have hl : B < w.heap.size := At.lt (v := .int .i64 t.st) h
  have hne : ¬ w.heap.size = B := by omega
  clear h
  unfold blV
  go_enter Tryz.func20, Tryz.ntmps20
  go_wp2
  exact bodyPost_ret (v := .agg #[.int .i64 g.pr, .int .i64 g.it, .int .i64 g.du, .int .i64 g.la, .int .i64 g.fi, .int .i64 g.cr, .int .i64 g.rt, .int .i64 day]) (by simp [results, Tryz.results20, go_sem]) rfl ⟨rfl, (Below.refl _ _).alloc (Nat.le_refl _) _⟩
theorem balanceL (w : World) (B : Nat) (t : Ln.Terms) (E : List Ln.Ev) (g : Ln.St) (day : Int) (L : List En) (F : Nat → Prop) (h : Lo w B t E g day L F) :
    Calls Tryz.prog 20 #[.pointer (some ⟨B, 0, none⟩)] w fun r w' => r = .returned (blV g day) ∧ Below w.heap.size w w' := by
  obtain ⟨P, Mb, evv, bkv, h1, _⟩ := h
  exact loanBal_any w B t evv g day _ h1.ln
end Go.Proofs.YtanndhoimpnhpaaGreatDoor

/- The statements' own functions: balanced; settle, looks of a book in which nothing waits. -/
namespace Go.Proofs.YtanndhoimpnhpaaGreatDoor
open Go.ChangeShapes Go.WideShapes Go.ChangeAt Go.RowKit Go.WideMaps Go.Maps Lg Cal

theorem dl_bal (t : Ln.Terms) (ev : Value) (g : Ln.St) (day : Int) (bk : Value) : ∀ j u, (bll g day)[j]? = some u → (dl t ev g day bk)[7 + j]? = some u := by
  intro j u h
  match j, h with
  | 0, h => exact h
  | 1, h => exact h
  | 2, h => exact h
  | 3, h => exact h
  | 4, h => exact h
  | 5, h => exact h
  | 6, h => exact h
  | 7, h => exact h
set_option maxRecDepth 10000 in
set_option maxHeartbeats 2000000 in
theorem lawbal_any (w : World) (B D : Nat) (t : Ln.Terms) (E l : List Ln.Ev) (g : Ln.St) (day : Int) (L : List En) (F1 F2 : Nat → Prop) (h : TwX w B D t E l g day L F1 F2) :
    Calls Tryz.prog 28 #[.agg #[.pointer (some ⟨B, 0, none⟩), .pointer (some ⟨D, 0, none⟩)]] w fun e w' => e = .returned (.bool true) ∧ Below w.heap.size w w' := by
  have b0 : Below w.heap.size w (w.alloc (.cells #[.pointer (some ⟨B, 0, none⟩), .pointer (some ⟨D, 0, none⟩)] 31)) := (Below.refl _ _).alloc (Nat.le_refl _) _
  have a0 : At (w.alloc (.cells #[.pointer (some ⟨B, 0, none⟩), .pointer (some ⟨D, 0, none⟩)] 31)) w.heap.size [.pointer (some ⟨B, 0, none⟩), .pointer (some ⟨D, 0, none⟩)] := At.alloc w [.pointer (some ⟨B, 0, none⟩), .pointer (some ⟨D, 0, none⟩)] _
  have hB := balanceL _ B t E g day L F1 (h.below b0).pr
  obtain ⟨evv, bkv, hD, _⟩ := (h.below b0).dc
  have HD : Hid (At (w.alloc (.cells #[.pointer (some ⟨B, 0, none⟩), .pointer (some ⟨D, 0, none⟩)] 31)) D (dl t evv g day bkv)) := hD.ln
  have c0 : (w.alloc (.cells #[.pointer (some ⟨B, 0, none⟩), .pointer (some ⟨D, 0, none⟩)] 31)).cell? ⟨w.heap.size, 0, none⟩ = some (.pointer (some ⟨B, 0, none⟩)) := a0.cell 0 rfl
  have HA0 : Hid (At (w.alloc (.cells #[.pointer (some ⟨B, 0, none⟩), .pointer (some ⟨D, 0, none⟩)] 31)) w.heap.size [.pointer (some ⟨B, 0, none⟩), .pointer (some ⟨D, 0, none⟩)]) := a0
  have HB0 : Hid (Below w.heap.size w (w.alloc (.cells #[.pointer (some ⟨B, 0, none⟩), .pointer (some ⟨D, 0, none⟩)] 31))) := b0
  clear hD a0 b0 h
  go_enter Tryz.func28, Tryz.ntmps28
  go_wp2_with fail
  generalize w.alloc (.cells #[.pointer (some ⟨B, 0, none⟩), .pointer (some ⟨D, 0, none⟩)] 31) = V0 at *
  refine hB.mono ?_
  rintro x w1 ⟨rfl, hb1⟩
  clear hB c0
  unfold blV
  have hb2 : Below V0.heap.size V0 (w1.alloc (.cells (bll g day).toArray 52)) := hb1.alloc hb1.size _
  have HS : Hid (At (w1.alloc (.cells (bll g day).toArray 52)) w1.heap.size (bll g day) ∧ At (w1.alloc (.cells (bll g day).toArray 52)) w.heap.size [.pointer (some ⟨B, 0, none⟩), .pointer (some ⟨D, 0, none⟩)] ∧ At (w1.alloc (.cells (bll g day).toArray 52)) D (dl t evv g day bkv) ∧ Below w.heap.size w (w1.alloc (.cells (bll g day).toArray 52))) :=
    ⟨At.alloc w1 _ _, At.keep (S := fun _ => False) (v := .pointer (some ⟨B, 0, none⟩)) HA0.out (Keep.below hb2) (fun x => x), At.keep (S := fun _ => False) (v := .int .i64 t.st) HD.out (Keep.below hb2) (fun x => x), HB0.out.trans (hb2.mono HB0.out.size)⟩
  clear HA0 HD HB0 hb1 hb2
  go_wp2_with (first | (refine wpList_store_new rfl 52 (.tmp 3) (.tmp 6) rfl (bll g day).toArray _ rfl rfl (by kernel_rfl) rfl (by kernel_rfl) ?_) | fail)
  generalize w1.alloc (.cells (bll g day).toArray 52) = V1 at *
  generalize w1.heap.size = N3 at *
  go_upto_region 2 with fail
  refine wp_region_held_drew (S := fun wx => At wx N3 (bll g day) ∧ At wx w.heap.size [.pointer (some ⟨B, 0, none⟩), .pointer (some ⟨D, 0, none⟩)] ∧ At wx D (dl t evv g day bkv) ∧ Below w.heap.size w wx) (by kernel_rfl) ⟨HS.out.1.drew, HS.out.2.1.drew, HS.out.2.2.1.drew, HS.out.2.2.2.drew⟩ (fun hHeld => ?_)
  clear HS
  generalize V1.drew = V2 at *
  refine wpAnyH_take (i := 0) (v := (.agg (bll g day).toArray)) rfl (by kernel_rfl) (by kernel_rfl) (by kernel_rfl) (fun _ _ _ h => h) (yieldsIf_load_mid (by rfl) 52 (.tmp 3) rfl _ _ rfl _ _ (fun _ h => h.1.range) Tryz.underlying52 rfl (by kernel_rfl)) (by assumption) ?_
  simp only [Act.put, List.getElem_toArray, List.getElem_cons_zero, List.setIfInBounds_toArray, List.set_cons_zero, List.set_cons_succ]
  refine wpAnyH_take (i := 1) (v := (.pointer (some ⟨w.heap.size, 1, none⟩))) rfl (by kernel_rfl) (by kernel_rfl) (by kernel_rfl) (fun _ _ _ h => h) (Or.inl ⟨by rfl, fun wx hSw => by kernel_rfl⟩) (by assumption) ?_
  simp only [Act.put, List.getElem_toArray, List.getElem_cons_succ, List.getElem_cons_zero, List.setIfInBounds_toArray, List.set_cons_zero, List.set_cons_succ]
  refine wpAnyH_take (i := 2) (v := (.pointer (some ⟨D, 0, none⟩))) rfl (by kernel_rfl) (by kernel_rfl) (by kernel_rfl) (fun _ _ _ h => h) (Or.inl ⟨by rfl, fun wx hSw => by (have hc : wx.cell? ⟨w.heap.size, 1, none⟩ = some (.pointer (some ⟨D, 0, none⟩)) := hSw.2.1.cell 1 rfl; go_simp)⟩) (by assumption) ?_
  simp only [Act.put, List.getElem_toArray, List.getElem_cons_succ, List.getElem_cons_zero, List.setIfInBounds_toArray, List.set_cons_zero, List.set_cons_succ]
  refine wpAnyH_take (i := 3) (v := (.pointer (some ⟨D, 0, none⟩))) rfl (by kernel_rfl) (by kernel_rfl) (by kernel_rfl) (fun _ _ _ h => h) (Or.inl ⟨by rfl, fun wx hSw => by kernel_rfl⟩) (by assumption) ?_
  simp only [Act.put, List.getElem_toArray, List.getElem_cons_succ, List.getElem_cons_zero, List.setIfInBounds_toArray, List.set_cons_zero, List.set_cons_succ]
  refine wpAnyH_take (i := 4) (v := (.pointer (some ⟨D, 7, none⟩))) rfl (by kernel_rfl) (by kernel_rfl) (by kernel_rfl) (fun _ _ _ h => h) (Or.inl ⟨by rfl, fun wx hSw => by kernel_rfl⟩) (by assumption) ?_
  simp only [Act.put, List.getElem_toArray, List.getElem_cons_succ, List.getElem_cons_zero, List.setIfInBounds_toArray, List.set_cons_zero, List.set_cons_succ]
  refine wpAnyH_take (i := 5) (v := (.agg (bll g day).toArray)) rfl (by kernel_rfl) (by kernel_rfl) (by kernel_rfl) (fun _ _ _ h => h) (yieldsIf_load_mid (by rfl) 52 (.tmp 11) rfl _ _ rfl _ _ (fun _ h => h.2.2.1.mid 7 _ (dl_bal t _ g day _)) Tryz.underlying52 rfl (by kernel_rfl)) (by assumption) ?_
  simp only [Act.put, List.getElem_toArray, List.getElem_cons_succ, List.getElem_cons_zero, List.setIfInBounds_toArray, List.set_cons_zero, List.set_cons_succ]
  refine wpAnyH_take (i := 6) (v := (.bool true)) rfl (by kernel_rfl) (by kernel_rfl) (by kernel_rfl) (fun _ _ _ h => h) (Or.inl ⟨by rfl, fun wx hSw => by (unfold bll; go_simp)⟩) (by assumption) ?_
  simp only [Act.put, List.getElem_toArray, List.getElem_cons_succ, List.getElem_cons_zero, List.setIfInBounds_toArray, List.set_cons_zero, List.set_cons_succ]
  refine wpAnyH_take (i := 7) (v := (.bool true)) rfl (by kernel_rfl) (by kernel_rfl) (by kernel_rfl) (fun _ _ _ h => h) (Or.inl ⟨by rfl, fun wx hSw => by kernel_rfl⟩) (by assumption) ?_
  simp only [Act.put, List.getElem_toArray, List.getElem_cons_succ, List.getElem_cons_zero, List.setIfInBounds_toArray, List.set_cons_zero, List.set_cons_succ]
  refine wpAnyH_done (by kernel_rfl) ?_ _
  have HB : Hid (Below w.heap.size w V2) := hHeld.2.2.2
  clear hHeld
  go_wp2
  go_ret
  exact ⟨rfl, HB.out⟩
end Go.Proofs.YtanndhoimpnhpaaGreatDoor

/- The statements' own functions: settle, looks of a book in which nothing waits. -/
namespace Go.Proofs.YtanndhoimpnhpaaGreatDoor
open Go.ChangeShapes Go.WideShapes Go.ChangeAt Go.RowKit Go.WideMaps Go.Maps Lg Cal

/-- The cells of the statements' world: six empty lists, two pairs of loans. -/
def wl (p0 d0 p1 d1 : Value) : List Value := [.slice none 0 0, .slice none 0 0, .slice none 0 0, .slice none 0 0, .slice none 0 0, .slice none 0 0, p0, d0, p1, d1]
set_option maxRecDepth 10000 in
set_option maxHeartbeats 2000000 in
theorem settle0 (w : World) (W : Nat) (p0 d0 p1 d1 : Value) (h : At w W (wl p0 d0 p1 d1)) :
    Calls Tryz.prog 26 #[.pointer (some ⟨W, 0, none⟩)] w fun e w' => e = .returned (.bool true) ∧ At w' W (wl p0 d0 p1 d1) ∧ Keep (fun b => b = W) w w' := by
  have c2 : w.cell? ⟨W, 2, none⟩ = some (.slice none 0 0) := h.cell 2 rfl
  have c3 : w.cell? ⟨W, 3, none⟩ = some (.slice none 0 0) := h.cell 3 rfl
  have c4 : w.cell? ⟨W, 4, none⟩ = some (.slice none 0 0) := h.cell 4 rfl
  have c5 : w.cell? ⟨W, 5, none⟩ = some (.slice none 0 0) := h.cell 5 rfl
  have z2 : w.frozen? ⟨W, 2, none⟩ = false := h.free 2 rfl
  have z3 : w.frozen? ⟨W, 3, none⟩ = false := h.free 3 rfl
  have z4 : w.frozen? ⟨W, 4, none⟩ = false := h.free 4 rfl
  have z5 : w.frozen? ⟨W, 5, none⟩ = false := h.free 5 rfl
  have HA : Hid (At ((((w.setCell ⟨W, 2, none⟩ (.slice none 0 0)).setCell ⟨W, 3, none⟩ (.slice none 0 0)).setCell ⟨W, 4, none⟩ (.slice none 0 0)).setCell ⟨W, 5, none⟩ (.slice none 0 0)) W (wl p0 d0 p1 d1)) :=
    (((h.set 2 (show 2 < 10 by decide) _).set 3 (show 3 < 10 by decide) _).set 4 (show 4 < 10 by decide) _).set 5 (show 5 < 10 by decide) _
  have HK : Hid (Keep (fun b => b = W) w ((((w.setCell ⟨W, 2, none⟩ (.slice none 0 0)).setCell ⟨W, 3, none⟩ (.slice none 0 0)).setCell ⟨W, 4, none⟩ (.slice none 0 0)).setCell ⟨W, 5, none⟩ (.slice none 0 0))) :=
    ((((Keep.refl _ _).set (S := fun b => b = W) rfl 2 _).set (S := fun b => b = W) rfl 3 _).set (S := fun b => b = W) rfl 4 _).set (S := fun b => b = W) rfl 5 _
  clear h
  go_enter Tryz.func26, Tryz.ntmps26
  go_wp2
  go_loop [3, 4, 5] (fun s3 s4 _ => s3 = .bool true ∧ s4 = .int .i64 0) (fun _ _ _ => 0)
  case atStart => exact ⟨rfl, rfl⟩
  case round =>
    obtain ⟨rfl, rfl⟩ := hrel
    go_wp2
    go_loop [3, 6, 7] (fun s3 s6 _ => s3 = .bool true ∧ s6 = .int .i64 0) (fun _ _ _ => 0)
    case atStart => exact ⟨rfl, rfl⟩
    case round =>
      obtain ⟨rfl, rfl⟩ := hrel
      go_wp2
      go_loop [8] (fun s8 => s8 = .int .i64 0) (fun _ => 0)
      case atStart => exact rfl
      case round =>
        obtain rfl := hrel
        go_wp2
        go_loop [9] (fun s9 => s9 = .int .i64 0) (fun _ => 0)
        case atStart => exact rfl
        case round =>
          obtain rfl := hrel
          go_wp2
          go_ret
          exact ⟨rfl, HA.out, HK.out⟩
set_option maxRecDepth 10000 in
set_option maxHeartbeats 2000000 in
theorem looks0 (w : World) (W : Nat) (p0 d0 p1 d1 : Value) (h : At w W (wl p0 d0 p1 d1)) :
    Calls Tryz.prog 27 #[.pointer (some ⟨W, 0, none⟩)] w fun e w' => e = .returned (.bool true) ∧ w' = w := by
  have c0 : w.cell? ⟨W, 0, none⟩ = some (.slice none 0 0) := h.cell 0 rfl
  have c1 : w.cell? ⟨W, 1, none⟩ = some (.slice none 0 0) := h.cell 1 rfl
  clear h
  go_enter Tryz.func27, Tryz.ntmps27
  go_wp2
  go_loop [3, 4] (fun s3 _ => s3 = .int .i64 0) (fun _ _ => 0)
  case atStart => exact rfl
  case round =>
    obtain rfl := hrel
    go_wp2
    go_loop [5, 6] (fun s5 _ => s5 = .int .i64 0) (fun _ _ => 0)
    case atStart => exact rfl
    case round =>
      obtain rfl := hrel
      go_wp2
      go_ret
      exact ⟨rfl, rfl⟩
end Go.Proofs.YtanndhoimpnhpaaGreatDoor
