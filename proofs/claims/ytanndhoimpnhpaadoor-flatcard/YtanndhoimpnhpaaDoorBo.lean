/- What the book tells: the program's From, Book. -/
import Derived.Test.YtanndhoimpnhpaaDoorLo
import Derived.Test.YtanndhoimpnhpaaDoorCr
import Derived.Laws.MakeOwn
namespace Go.Proofs.YtanndhoimpnhpaaDoor
open Go.ChangeShapes Go.WideShapes Go.RowKit Go.WideMaps Go.Maps Cal

theorem sizeEnp : (Tryd.prog.info? 98).map (·.size) = some 3 := by kernel_rfl
theorem ens_cell1 : ∀ (l : List En) (v : Value), v ∈ ens l → v.oneCell' = true
  | [], _, h => by simp [ens] at h
  | e :: r, v, h => by
    simp only [ens, List.mem_cons] at h
    rcases h with rfl | rfl | rfl | h
    · rfl
    · rfl
    · rfl
    · exact ens_cell1 r v h
theorem ens_drop (l : List En) (i : Nat) (h : i ≤ l.length) : (ens l).drop (i * 3) = ens (l.drop i) := by
  have : ens l = ens (l.take i) ++ ens (l.drop i) := by rw [← ens_append, List.take_append_drop]
  have hl : (ens (l.take i)).length = i * 3 := by rw [ens_len, List.length_take]; omega
  rw [this, ← hl, List.drop_left]
/-- From which entry on. -/
def kf (x : Int) (n : Nat) : Nat := min (max x 0).toNat n
theorem kf_le (x : Int) (n : Nat) : kf x n ≤ n := Nat.min_le_right _ _
theorem bslice_from (p : Option Addr) (n cap k : Nat) (hk : k ≤ n) (W : World) :
    ∃ q, (Instr.sliceAt 55 (.slice p n cap) (some (.int .i64 (k : Int))) none none).run Tryd.prog W = .ok (.slice q (n - k) (cap - k)) W ∧ q = (if cap = k then p else p.map (·.add (k * 3))) := by
  refine ⟨_, ?_, rfl⟩
  simp [Instr.sliceAt, run_underlying Tryd.underlying55, Instr.slice, Instr.sliceBounds, Instr.sliceBound, asIntOf, Result.andThen, hk]

set_option maxRecDepth 10000 in
set_option maxHeartbeats 4000000 in
theorem from_any (w : World) (P : Nat) (bkv : Value) (Mb : Nat) (L : List En) (h : BkIs w P bkv Mb L) (hL : L.length ≤ 4000000000000) (x : Int) :
    Calls Tryd.prog 46 #[.pointer (some ⟨P, 0, none⟩), .int .i64 x] w fun r w' => ∃ v, r = .returned v ∧ w'.ownsRow w.heap.size 98 3 v (L.length - kf x L.length) (ens (L.drop (kf x L.length))) ∧ Below w.heap.size w w' := by
  obtain ⟨bp, bcap, rfl⟩ := own_slice h.ow
  obtain ⟨i0, hi0, hz0, hz1, hz2⟩ := info_parts infoEntry
  have hk := kf_le x L.length
  obtain ⟨x1, hx1⟩ : ∃ x1, x1 = max x 0 := ⟨_, rfl⟩
  obtain ⟨k, hkk⟩ : ∃ k, k = kf x L.length := ⟨_, rfl⟩
  rw [← hkk] at hk ⊢
  obtain ⟨m, hm⟩ : ∃ m, m = L.length - k := ⟨_, rfl⟩
  rw [← hm]
  have hk2 : (k : Int) = min x1 L.length := by
    rw [hkk, hx1]
    unfold kf
    omega
  have HK2 : Hid ((k : Int) = min x1 L.length) := hk2
  have HX1 : Hid (x1 = max x 0) := hx1
  have HS : Hid (∀ W : World, ∃ q, (Instr.sliceAt 55 (.slice bp L.length bcap) (some (.int .i64 (k : Int))) none none).run Tryd.prog W = .ok (.slice q m (bcap - k)) W ∧ q = (if bcap = k then bp else bp.map (·.add (k * 3)))) := fun W => by rw [hm]; exact bslice_from bp L.length bcap k hk W
  have c0 : w.drew.cell? ⟨P, 0, none⟩ = some (.slice bp L.length bcap) := h.pl.cell 0 rfl
  have hcells : ∀ j u, (ens (L.drop k))[j]? = some u → ∀ a, (if bcap = k then bp else bp.map (·.add (k * 3))) = some a → w.cell? (a.add j) = some u := fun j u hj a ha => by
    obtain ⟨hl, ⟨hn, hz⟩ | ⟨gg, cap, cur, hv, hg1, hg2, hg3, hg4, hg5, hg6⟩⟩ := id h.ow
    · have : L = [] := List.length_eq_zero_iff.1 hz
      subst this
      simp [ens] at hj
    · injection hv with e1 e2 e3
      subst e1 e3
      have hjl := (List.getElem?_eq_some_iff.1 hj).1
      rw [ens_len, List.length_drop] at hjl
      rw [← ens_drop L k hk, List.getElem?_drop] at hj
      rw [if_neg (by omega)] at ha
      have hc := h.ow.cellAt (k * 3 + j) (by omega)
      rw [hj] at hc
      simp only [Option.map_some, Option.some.injEq] at ha
      subst ha
      rw [Addr.add_lit, Addr.add_lit, Nat.zero_add]
      exact hc
  have HN : Hid (∀ a, (if bcap = k then bp else bp.map (·.add (k * 3))) = some a → ∀ j u, (ens (L.drop k))[j]? = some u → w.cell? (a.add j) = some u) := fun a ha j u hj => hcells j u hj a ha
  have HE : Hid ((if bcap = k then bp else bp.map (·.add (k * 3))) = none → m = 0) := fun hn => by
    obtain ⟨hl, ⟨hn', hz⟩ | ⟨gg, cap, cur, hv, hg⟩⟩ := h.ow
    · omega
    · injection hv with e1 e2 e3
      subst e1
      split at hn <;> simp at hn
  generalize hq0 : (if bcap = k then bp else bp.map (·.add (k * 3))) = q at *
  clear hq0 hcells hx1 hkk hk2
  have HC : Hid (w.drew.cell? ⟨P, 0, none⟩ = some (.slice bp L.length bcap)) := c0
  clear h c0
  have hmk := run_make (P := Tryd.prog) w.drew 55 98 i0 _ Tryd.underlying55 hi0 hz0 .i64 .i64 (m : Int) (m : Int) (by omega) (Int.le_refl _) (by rw [hz2]; omega) (by omega)
  obtain ⟨ROW, hROW⟩ : ∃ ROW, ROW = madeCells (Value.agg #[.int .i64 0, .int .i64 0, .int .i64 0]).cells ((m : Int).toNat * i0.size) := ⟨_, rfl⟩
  have hRs : ROW.size = m * 3 := by rw [hROW, hz1]; simp [madeCells]
  rw [← hROW] at hmk
  simp only [Int.toNat_natCast] at hmk
  obtain ⟨W1, hW1⟩ : ∃ W1, W1 = w.drew.alloc (.cells ROW 98) := ⟨_, rfl⟩
  have hb1 : Below w.heap.size w W1 := by rw [hW1]; exact (Below.refl _ _).drew.alloc (Nat.le_refl _) _
  have hrow : W1.heap[w.heap.size]? = some (.cells ROW 98 (0, 0)) := by
    rw [hW1]
    show (w.heap.push (.cells ROW 98))[w.heap.size]? = _
    simp
  have hdl : (ens (L.drop k)).length = m * 3 := by rw [ens_len, List.length_drop, hm]
  have hmx : m ≤ maxLen := by unfold maxLen; omega
  have hcp : ∃ r W', (∀ ty, (Builtin.copy_ #[55, 55] ty #[.slice (some ⟨w.heap.size, 0, none⟩) m m, .slice q m (bcap - k)]).run Tryd.prog W1 = .ok r W') ∧ W'.ownsRow w.heap.size 98 3 (.slice (some ⟨w.heap.size, 0, none⟩) m m) m (ens (L.drop k)) ∧ Below w.heap.size w W' := by
    by_cases hm0 : m = 0
    · have hnil : L.drop k = [] := List.drop_eq_nil_of_le (by omega)
      refine ⟨_, _, fun ty => run_copy_noneK W1 _ _ ty 98 3 _ _ _ _ _ _ Tryd.underlying55 sizeEnp (by rw [hm0]; rfl), ⟨hdl, .inr ⟨w.heap.size, m, ROW, rfl, Nat.le_refl _, hrow, Nat.le_refl _, hmx, hRs, ?_⟩⟩, hb1⟩
      rw [hm0, hnil]
      rfl
    · cases q with
      | none => exact absurd (HE.out rfl) hm0
      | some a =>
        have hmin : Nat.min m m = m := Nat.min_self m
        refine ⟨_, _, fun ty => run_copy_rowK W1 _ _ ty 98 3 w.heap.size 0 m m a m (bcap - k) ROW 98 (ens (L.drop k)) Tryd.underlying55 sizeEnp hrow (by rw [hdl, hmin]) (fun j u hj => ?_) (by rw [hdl, hRs]; omega) (fun v hv => ens_cell1 _ v hv), ⟨hdl, .inr ⟨w.heap.size, m, _, rfl, Nat.le_refl _, setRow_row hrow _, Nat.le_refl _, hmx, ?_, ?_⟩⟩, ?_⟩
        · have hc := HN.out a rfl j u hj
          have hab : (a.add j).block < w.heap.size := World.block_lt_of_cell? _ _ hc
          exact (World.cell?_of_block (w := w) (a := a.add j) (hb1.block _ hab)).trans hc
        · simp [hdl, hRs]
        · have : ROW.toList.drop (0 + (ens (L.drop k)).length) = [] := List.drop_eq_nil_of_le (by rw [hdl, Array.length_toList, hRs]; omega)
          rw [this]
          simp
          exact List.take_of_length_le (by omega)
        · have kk := keep_setRow W1 w.heap.size (ROW.toList.take 0 ++ ens (L.drop k) ++ ROW.toList.drop (0 + (ens (L.drop k)).length)).toArray
          exact ⟨kk.os.trans hb1.os, kk.tape.trans hb1.tape, kk.output.trans hb1.output, Nat.le_trans hb1.size kk.size, fun b hb => (kk.block b (Nat.lt_of_lt_of_le hb hb1.size) (by omega)).trans (hb1.block b hb)⟩
  obtain ⟨r, W', hr, ho, hbW⟩ := hcp
  have HR : Hid (∀ ty, (Builtin.copy_ #[55, 55] ty #[.slice (some ⟨w.heap.size, 0, none⟩) m m, .slice q m (bcap - k)]).run Tryd.prog W1 = .ok r W') := hr
  have HEnd : Hid (∃ v, Ending.returned (.slice (some ⟨w.heap.size, 0, none⟩) m m) = .returned v ∧ W'.ownsRow w.heap.size 98 3 v m (ens (L.drop k)) ∧ Below w.heap.size w W') := ⟨_, rfl, ho, hbW⟩
  rw [← hW1] at hmk
  have HMK : Hid ((Instr.makeSlice 55 (.int .i64 (m : Int)) (.int .i64 (m : Int))).run Tryd.prog w.drew = .ok (.slice (some ⟨w.heap.size, 0, none⟩) m m) W1) := hmk
  clear hr ho hbW hmk hW1 hb1 hrow hdl hROW hRs hz1 hz2 hi0 hz0 HN HE hm hmx
  have z1 : (0 : Int) ≤ (L.length : Int) := by omega
  go_enter Tryd.func46, Tryd.ntmps46
  go_upto_region 1 with fail
  refine wp_region_held_drew (S := fun wx => wx.cell? ⟨P, 0, none⟩ = some (.slice bp L.length bcap)) (by kernel_rfl) HC.out (fun hHeld => ?_)
  refine wpAnyH_take (i := 0) (v := (.pointer (some ⟨P, 0, none⟩))) rfl (by kernel_rfl) (by kernel_rfl) (by kernel_rfl) (fun _ _ _ h => h) (Or.inl ⟨by rfl, fun wx hSw => by kernel_rfl⟩) (by assumption) ?_
  simp only [Act.put, List.getElem_toArray, List.getElem_cons_zero, List.setIfInBounds_toArray, List.set_cons_zero, List.set_cons_succ]
  refine wpAnyH_take (i := 1) (v := (.pointer (some ⟨P, 0, none⟩))) rfl (by kernel_rfl) (by kernel_rfl) (by kernel_rfl) (fun _ _ _ h => h) (Or.inl ⟨by rfl, fun wx hSw => by kernel_rfl⟩) (by assumption) ?_
  simp only [Act.put, List.getElem_toArray, List.getElem_cons_succ, List.getElem_cons_zero, List.setIfInBounds_toArray, List.set_cons_zero, List.set_cons_succ]
  refine wpAnyH_take (i := 2) (v := (.pointer (some ⟨P, 0, none⟩))) rfl (by kernel_rfl) (by kernel_rfl) (by kernel_rfl) (fun _ _ _ h => h) (Or.inl ⟨by rfl, fun wx hSw => by kernel_rfl⟩) (by assumption) ?_
  simp only [Act.put, List.getElem_toArray, List.getElem_cons_succ, List.getElem_cons_zero, List.setIfInBounds_toArray, List.set_cons_zero, List.set_cons_succ]
  refine wpAnyH_take (i := 3) (v := (.slice bp L.length bcap)) rfl (by kernel_rfl) (by kernel_rfl) (by kernel_rfl) (fun _ _ _ h => h) (Or.inl ⟨by rfl, fun wx hSw => by ((try dsimp only at hSw); go_simp)⟩) (by assumption) ?_
  simp only [Act.put, List.getElem_toArray, List.getElem_cons_succ, List.getElem_cons_zero, List.setIfInBounds_toArray, List.set_cons_zero, List.set_cons_succ]
  refine wpAnyH_take (i := 4) (v := (.int .i64 x)) rfl (by kernel_rfl) (by kernel_rfl) (by kernel_rfl) (fun _ _ _ h => h) (Or.inl ⟨by rfl, fun wx hSw => by kernel_rfl⟩) (by assumption) ?_
  simp only [Act.put, List.getElem_toArray, List.getElem_cons_succ, List.getElem_cons_zero, List.setIfInBounds_toArray, List.set_cons_zero, List.set_cons_succ]
  refine wpAnyH_take (i := 5) (v := (.int .i64 x1)) rfl (by kernel_rfl) (by kernel_rfl) (by kernel_rfl) (fun _ _ _ h => h) (Or.inl ⟨by rfl, fun wx hSw => by (go_simp; have := HX1.out; omega)⟩) (by assumption) ?_
  simp only [Act.put, List.getElem_toArray, List.getElem_cons_succ, List.getElem_cons_zero, List.setIfInBounds_toArray, List.set_cons_zero, List.set_cons_succ]
  refine wpAnyH_take (i := 6) (v := (.pointer (some ⟨P, 0, none⟩))) rfl (by kernel_rfl) (by kernel_rfl) (by kernel_rfl) (fun _ _ _ h => h) (Or.inl ⟨by rfl, fun wx hSw => by kernel_rfl⟩) (by assumption) ?_
  simp only [Act.put, List.getElem_toArray, List.getElem_cons_succ, List.getElem_cons_zero, List.setIfInBounds_toArray, List.set_cons_zero, List.set_cons_succ]
  refine wpAnyH_take (i := 7) (v := (.pointer (some ⟨P, 0, none⟩))) rfl (by kernel_rfl) (by kernel_rfl) (by kernel_rfl) (fun _ _ _ h => h) (Or.inl ⟨by rfl, fun wx hSw => by kernel_rfl⟩) (by assumption) ?_
  simp only [Act.put, List.getElem_toArray, List.getElem_cons_succ, List.getElem_cons_zero, List.setIfInBounds_toArray, List.set_cons_zero, List.set_cons_succ]
  refine wpAnyH_take (i := 8) (v := (.pointer (some ⟨P, 0, none⟩))) rfl (by kernel_rfl) (by kernel_rfl) (by kernel_rfl) (fun _ _ _ h => h) (Or.inl ⟨by rfl, fun wx hSw => by kernel_rfl⟩) (by assumption) ?_
  simp only [Act.put, List.getElem_toArray, List.getElem_cons_succ, List.getElem_cons_zero, List.setIfInBounds_toArray, List.set_cons_zero, List.set_cons_succ]
  refine wpAnyH_take (i := 9) (v := (.slice bp L.length bcap)) rfl (by kernel_rfl) (by kernel_rfl) (by kernel_rfl) (fun _ _ _ h => h) (Or.inl ⟨by rfl, fun wx hSw => by ((try dsimp only at hSw); go_simp)⟩) (by assumption) ?_
  simp only [Act.put, List.getElem_toArray, List.getElem_cons_succ, List.getElem_cons_zero, List.setIfInBounds_toArray, List.set_cons_zero, List.set_cons_succ]
  refine wpAnyH_take (i := 10) (v := (.int .i64 L.length)) rfl (by kernel_rfl) (by kernel_rfl) (by kernel_rfl) (fun _ _ _ h => h) (Or.inl ⟨by rfl, fun wx hSw => by ((try dsimp only at hSw); go_simp)⟩) (by assumption) ?_
  simp only [Act.put, List.getElem_toArray, List.getElem_cons_succ, List.getElem_cons_zero, List.setIfInBounds_toArray, List.set_cons_zero, List.set_cons_succ]
  refine wpAnyH_take (i := 11) (v := (.int .i64 k)) rfl (by kernel_rfl) (by kernel_rfl) (by kernel_rfl) (fun _ _ _ h => h) (Or.inl ⟨by rfl, fun wx hSw => by (go_simp; have := HK2.out; omega)⟩) (by assumption) ?_
  simp only [Act.put, List.getElem_toArray, List.getElem_cons_succ, List.getElem_cons_zero, List.setIfInBounds_toArray, List.set_cons_zero, List.set_cons_succ]
  refine wpAnyH_take (i := 12) (v := (.slice q m (bcap - k))) rfl (by kernel_rfl) (by kernel_rfl) (by kernel_rfl) (fun _ _ _ h => h) (Or.inl ⟨by rfl, fun wx hSw => by (obtain ⟨q', hq1, rfl⟩ := HS.out wx; go_simp)⟩) (by assumption) ?_
  simp only [Act.put, List.getElem_toArray, List.getElem_cons_succ, List.getElem_cons_zero, List.setIfInBounds_toArray, List.set_cons_zero, List.set_cons_succ]
  refine wpAnyH_take (i := 13) (v := (.slice q m (bcap - k))) rfl (by kernel_rfl) (by kernel_rfl) (by kernel_rfl) (fun _ _ _ h => h) (Or.inl ⟨by rfl, fun wx hSw => by kernel_rfl⟩) (by assumption) ?_
  simp only [Act.put, List.getElem_toArray, List.getElem_cons_succ, List.getElem_cons_zero, List.setIfInBounds_toArray, List.set_cons_zero, List.set_cons_succ]
  refine wpAnyH_done (by kernel_rfl) ?_ _
  clear hHeld HS HK2 HX1 HC
  go_upto_region 2 with fail
  refine wp_region_lit ?_
  refine wpList_val (.slice q m (bcap - k)) w.drew rfl rfl ?_
  simp only [Act.put, List.setIfInBounds_toArray, List.set_cons_zero, List.set_cons_succ]
  refine wpList_val (.int .i64 m) w.drew rfl (by go_simp) ?_
  simp only [Act.put, List.setIfInBounds_toArray, List.set_cons_zero, List.set_cons_succ]
  refine wpList_val (.slice (some ⟨w.heap.size, 0, none⟩) m m) W1 rfl (by have h := HMK.out; simp only [execOp, Act.eval]; simp [h, Result.andThen, go_sem]) ?_
  simp only [Act.put, List.setIfInBounds_toArray, List.set_cons_zero, List.set_cons_succ]
  clear HMK
  go_upto_region 3 with fail
  refine wp_region_lit ?_
  refine wpList_val (.slice (some ⟨w.heap.size, 0, none⟩) m m) W1 rfl rfl ?_
  simp only [Act.put, List.setIfInBounds_toArray, List.set_cons_zero, List.set_cons_succ]
  refine wpList_val (.slice q m (bcap - k)) W1 rfl rfl ?_
  simp only [Act.put, List.setIfInBounds_toArray, List.set_cons_zero, List.set_cons_succ]
  refine wpList_copy_at W1 rfl (.tmp 23) (.tmp 24) 55 55 rfl _ _ rfl rfl (HR.out _) ?_
  simp only [Act.put, List.setIfInBounds_toArray, List.set_cons_zero, List.set_cons_succ]
  clear HR
  go_wp2
  go_ret
  exact HEnd.out

set_option maxHeartbeats 1000000 in
theorem bookL (w : World) (B : Nat) (t : Ln.Terms) (E : List Ln.Ev) (g : Ln.St) (day : Int) (L : List En) (F : Nat → Prop) (h : Lo w B t E g day L F) (hL : L.length ≤ 4000000000000) (x : Int) :
    Calls Tryd.prog 23 #[.pointer (some ⟨B, 0, none⟩), .int .i64 x] w fun r w' => ∃ v, r = .returned v ∧ w'.ownsRow w.heap.size 98 3 v (L.length - kf x L.length) (ens (L.drop (kf x L.length))) ∧ Below w.heap.size w w' := by
  obtain ⟨P, Mb, evv, bkv, h1, _⟩ := h
  have c15 : w.cell? ⟨B, 15, none⟩ = some (.pointer (some ⟨P, 0, none⟩)) := h1.ln.cell 15 rfl
  have hF := from_any w P bkv Mb L h1.bk hL x
  clear h1
  go_enter Tryd.func23, Tryd.ntmps23
  go_wp2_with fail
  refine hF.mono ?_
  rintro r w' ⟨v, rfl, ho, hb⟩
  obtain ⟨p, cap, rfl⟩ := own_slice ho
  clear hF
  have HE : Hid (∃ v, Ending.returned (.slice p (L.length - kf x L.length) cap) = .returned v ∧ w'.ownsRow w.heap.size 98 3 v (L.length - kf x L.length) (ens (L.drop (kf x L.length))) ∧ Below w.heap.size w w') := ⟨_, rfl, ho, hb⟩
  clear ho hb
  go_wp2
  go_ret
  exact HE.out
set_option maxRecDepth 10000 in
theorem loanBal_any (w : World) (B : Nat) (t : Ln.Terms) (v : Value) (g : Ln.St) (day : Int) (bk : Value) (h : At w B (ll t v g day bk)) :
    Calls Tryd.prog 19 #[.pointer (some ⟨B, 0, none⟩)] w fun e w' => e = .returned (blV g day) ∧ Below w.heap.size w w' := by
  have c7 : w.cell? ⟨B, 7, none⟩ = some (.int .i64 g.pr) := h.cell 7 rfl
  have c8 : w.cell? ⟨B, 8, none⟩ = some (.int .i64 g.it) := h.cell 8 rfl
  have c9 : w.cell? ⟨B, 9, none⟩ = some (.int .i64 g.du) := h.cell 9 rfl
  have c10 : w.cell? ⟨B, 10, none⟩ = some (.int .i64 g.la) := h.cell 10 rfl
  have c11 : w.cell? ⟨B, 11, none⟩ = some (.int .i64 g.fi) := h.cell 11 rfl
  have c12 : w.cell? ⟨B, 12, none⟩ = some (.int .i64 g.cr) := h.cell 12 rfl
  have c13 : w.cell? ⟨B, 13, none⟩ = some (.int .i64 g.rt) := h.cell 13 rfl
  have c14 : w.cell? ⟨B, 14, none⟩ = some (.int .i64 day) := h.cell 14 rfl
  have hl : B < w.heap.size := At.lt (v := .int .i64 t.st) h
  have hne : ¬ w.heap.size = B := by omega
  clear h
  unfold blV
  go_enter Tryd.func19, Tryd.ntmps19
  go_wp2
  exact bodyPost_ret (v := .agg #[.int .i64 g.pr, .int .i64 g.it, .int .i64 g.du, .int .i64 g.la, .int .i64 g.fi, .int .i64 g.cr, .int .i64 g.rt, .int .i64 day]) (by simp [results, Tryd.results19, go_sem]) rfl ⟨rfl, (Below.refl _ _).alloc (Nat.le_refl _) _⟩
theorem balanceL (w : World) (B : Nat) (t : Ln.Terms) (E : List Ln.Ev) (g : Ln.St) (day : Int) (L : List En) (F : Nat → Prop) (h : Lo w B t E g day L F) :
    Calls Tryd.prog 19 #[.pointer (some ⟨B, 0, none⟩)] w fun r w' => r = .returned (blV g day) ∧ Below w.heap.size w w' := by
  obtain ⟨P, Mb, evv, bkv, h1, _⟩ := h
  exact loanBal_any w B t evv g day _ h1.ln
end Go.Proofs.YtanndhoimpnhpaaDoor
