/- Joined by program: AdJ, AdK, RnG, Bo, Env. -/
import Derived.Test.YtanndhoimpnhpaaGreatDoorM28
import Derived.Test.YtanndhoimpnhpaaGreatDoorM25
import Derived.Test.YtanndhoimpnhpaaGreatDoorM9
import Derived.Test.YtanndhoimpnhpaaGreatDoorM8
import Derived.Test.YtanndhoimpnhpaaGreatDoorM18
import Derived.Laws.MakeOwn
namespace Go.Proofs.YtanndhoimpnhpaaGreatDoor
open Go.ChangeShapes Go.WideShapes Go.RowKit Go.WideMaps Go.Maps Cal
theorem zeroEvp (w : World) : (zeroValue 50).run Tryz.prog w = .ok (.agg #[.int .i64 0, .int .i64 0, .int .i64 0, .int .i64 0]) w := by kernel_rfl
theorem zcells1 : (Builtin.zeroCells (Value.agg #[.int .i64 0, .int .i64 0, .int .i64 0, .int .i64 0]).cells 1).toList = evl ⟨0, 0, 0, 0⟩ := by kernel_rfl
theorem del_list (cur : List Value) (l : List Ln.Ev) (i : Nat) (hi : i < l.length) (hx : cur.take (l.length * 4) = evs l) (hc : l.length * 4 ≤ cur.length) (z : List Value) :
    (laid (laid cur (i * 4) (evs (l.drop (i + 1)))) ((l.length - 1) * 4) z).take ((l.length - 1) * 4) = evs (l.eraseIdx i) := by
  have hd : (evs (l.drop (i + 1))).length = (l.length - 1 - i) * 4 := by rw [So.evs_len, List.length_drop]; omega
  have e0 : cur.take (i * 4) = evs (l.take i) := by
    have := congrArg (List.take (i * 4)) hx
    rw [List.take_take, Nat.min_eq_left (by omega), evs_take] at this
    exact this
  have ht : (evs (l.take i)).length = i * 4 := by rw [So.evs_len, List.length_take]; omega
  have h1 : (laid cur (i * 4) (evs (l.drop (i + 1)))).take ((l.length - 1) * 4) = evs (l.eraseIdx i) := by
    unfold laid
    rw [e0, List.eraseIdx_eq_take_drop_succ, So.evs_append]
    have hl : (evs (l.take i) ++ evs (l.drop (i + 1))).length = (l.length - 1) * 4 := by rw [List.length_append, hd, ht]; omega
    rw [← hl, List.take_left]
  have hll : ((laid cur (i * 4) (evs (l.drop (i + 1)))).take ((l.length - 1) * 4)).length = (l.length - 1) * 4 := by
    rw [List.length_take, laid_len _ _ _ (by rw [hd]; omega)]
    omega
  generalize laid cur (i * 4) (evs (l.drop (i + 1))) = R at *
  unfold laid
  rw [List.append_assoc, List.take_append_of_le_length (by omega), List.take_of_length_le (by omega), h1]
set_option maxRecDepth 10000 in
set_option maxHeartbeats 4000000 in
theorem delete_any (w : World) (g cap : Nat) (cur : Array Value) (l : List Ln.Ev) (i : Nat) (hg : w.heap[g]? = some (.cells cur 50 (0, 0))) (hsz : cur.size = cap * 4) (hxs : cur.toList.take (l.length * 4) = evs l) (hnc : l.length ≤ cap) (hm : cap ≤ maxLen) (hi : i < l.length) (hl : l.length ≤ 1000000) :
    Calls Tryz.prog 92 #[.slice (some ⟨g, 0, none⟩) l.length cap, .int .i64 i, .int .i64 ((i : Int) + 1)] w fun e w' => e = .returned (.slice (some ⟨g, 0, none⟩) (l.length - 1) cap) ∧ w'.ownsRow 0 50 4 (.slice (some ⟨g, 0, none⟩) (l.length - 1) cap) (l.length - 1) (evs (l.eraseIdx i)) ∧ Keep (fun b => b = g) w w' := by
  obtain ⟨i0, hi0, hz0, hz1, hz2⟩ := info_parts infoEvp
  have hcl : cur.toList.length = cap * 4 := by rw [Array.length_toList]; exact hsz
  obtain ⟨R1, hR1⟩ : ∃ R1, R1 = (laid cur.toList (i * 4) (evs (l.drop (i + 1)))).toArray := ⟨_, rfl⟩
  obtain ⟨R2, hR2⟩ : ∃ R2, R2 = (laid R1.toList ((l.length - 1) * 4) (evl ⟨0, 0, 0, 0⟩)).toArray := ⟨_, rfl⟩
  have hdl : (evs (l.drop (i + 1))).length = (l.length - (i + 1)) * 4 := by rw [So.evs_len, List.length_drop]
  have l1 : R1.toList.length = cap * 4 := by rw [hR1]; show (laid _ _ _).length = _; rw [laid_len _ _ _ (by omega), hcl]
  have l2 : R2.size = cap * 4 := by rw [← Array.length_toList, hR2]; show (laid _ _ _).length = _; rw [laid_len _ _ _ (by rw [l1]; show (l.length - 1) * 4 + 4 ≤ _; omega), l1]
  have hfin : R2.toList.take ((l.length - 1) * 4) = evs (l.eraseIdx i) := by
    rw [hR2, hR1]
    exact del_list cur.toList l i hi hxs (by omega) _
  obtain ⟨A, hA⟩ : ∃ A : Addr, A = (if cap = i + 1 then (⟨g, 0, none⟩ : Addr) else ⟨g, (i + 1) * 4, none⟩) := ⟨_, rfl⟩
  have hcell : ∀ j v, (evs (l.drop (i + 1)))[j]? = some v → w.cell? (A.add j) = some v := fun j v hj => by
    have hjl := (List.getElem?_eq_some_iff.1 hj).1
    rw [hdl] at hjl
    rw [hA, if_neg (by omega), Addr.add_lit]
    rw [← evs_drop, List.getElem?_drop] at hj
    have hj2 : (evs l)[(i + 1) * 4 + j]? = cur.toList[(i + 1) * 4 + j]? := by
      rw [← hxs, List.getElem?_take_of_lt (by omega)]
    rw [hj2, Array.getElem?_toList] at hj
    simp [World.cell?, hg, hj]
  have hap : ∀ ty c, (Builtin.append_ #[42, 42] ty #[.slice (some ⟨g, 0, none⟩) i cap, .slice (some A) (l.length - (i + 1)) c]).run Tryz.prog w.drew = .ok (.slice (some ⟨g, 0, none⟩) (i + (l.length - (i + 1))) cap) (w.drew.setRow g R1) := fun ty c => by
    have h := run_append_room (P := Tryz.prog) w.drew 42 ty 50 i0 Tryz.underlying42 hi0 g i cap cur hg A (l.length - (i + 1)) c (evs (l.drop (i + 1))) (by rw [hz1, hdl]) hcell (fun u hu => evs_cell1 _ u hu) (by omega) (by rw [hz1, hdl]; omega)
    rw [hz1] at h
    rw [hR1]
    exact h
  have hrow1 : (w.drew.setRow g R1).heap[g]? = some (.cells R1 50 (0, 0)) := setRow_row (w := w.drew) hg R1
  have hclr : ∀ ty c, (Builtin.clear_ #[42] ty #[.slice (some ⟨g, (l.length - 1) * 4, none⟩) 1 c]).run Tryz.prog (w.drew.setRow g R1) = .ok (.tuple #[]) ((w.drew.setRow g R1).setRow g R2) := fun ty c => by
    have h := run_clear_rowK (P := Tryz.prog) (w.drew.setRow g R1) 42 50 ty _ Tryz.underlying42 zeroEvp g ((l.length - 1) * 4) 1 c (by omega) R1 50 hrow1 (by rw [zcells1, ← Array.length_toList, l1]; show (l.length - 1) * 4 + 4 ≤ _; omega) (by rw [zcells1]; exact fun v hv => evs_cell1 [⟨0, 0, 0, 0⟩] v hv)
    rw [zcells1] at h
    rw [hR2]
    exact h
  have HEnd : Hid (((w.drew.setRow g R1).setRow g R2).ownsRow 0 50 4 (.slice (some ⟨g, 0, none⟩) (l.length - 1) cap) (l.length - 1) (evs (l.eraseIdx i)) ∧ Keep (fun b => b = g) w ((w.drew.setRow g R1).setRow g R2)) := by
    refine ⟨⟨by rw [So.evs_len, List.length_eraseIdx_of_lt hi], .inr ⟨g, cap, R2, rfl, Nat.zero_le _, setRow_row hrow1 R2, by omega, hm, l2, hfin⟩⟩, ?_⟩
    exact ((Keep.refl _ _).drew.trans (keep_setRow w.drew g R1)).trans (keep_setRow _ g R2)
  obtain ⟨vx, s0⟩ : ∃ vx, ∀ W : World, (Instr.sliceAt 42 (.slice (some ⟨g, 0, none⟩) l.length cap) (some (.int .i64 (i : Int))) (some (.int .i64 ((i : Int) + 1))) (some (.int .i64 (l.length : Int)))).run Tryz.prog W = .ok vx W := by
    obtain ⟨q, hq⟩ : ∃ q, q = i + 1 := ⟨_, rfl⟩
    have hx1 : (i : Int) + 1 = (q : Int) := by omega
    have hql : q ≤ l.length := by omega
    have hiq : i ≤ q := by omega
    refine ⟨.slice (if l.length = i then some ⟨g, 0, none⟩ else some (if i * 4 = 0 then ⟨g, 0, none⟩ else ⟨g, i * 4, none⟩)) (q - i) (l.length - i), fun W => ?_⟩
    rw [hx1]
    simp [Instr.sliceAt, run_underlying Tryz.underlying42, Instr.slice, Instr.sliceBounds, Instr.sliceBound, asIntOf, Result.andThen, hnc, hql, hiq, Addr.add]
  have s1 := fun W => slice_to (some ⟨g, 0, none⟩) l.length cap (i : Int) i rfl (by omega) W
  have s2 : ∀ W : World, (Instr.sliceAt 42 (.slice (some ⟨g, 0, none⟩) l.length cap) (some (.int .i64 ((i : Int) + 1))) none none).run Tryz.prog W = .ok (.slice (some A) (l.length - (i + 1)) (cap - (i + 1))) W := fun W => by
    obtain ⟨q, hq⟩ : ∃ q, q = i + 1 := ⟨_, rfl⟩
    have hx1 : (i : Int) + 1 = (q : Int) := by omega
    have hql : q ≤ l.length := by omega
    have hA2 : (if cap = q then some (⟨g, 0, none⟩ : Addr) else some (if q * 4 = 0 then ⟨g, 0, none⟩ else ⟨g, q * 4, none⟩)) = some A := by
      rw [hA, ← hq]
      by_cases hcq : cap = q
      · rw [if_pos hcq, if_pos hcq]
      · rw [if_neg hcq, if_neg hcq, if_neg (by omega)]
    rw [hx1, ← hq]
    simp [Instr.sliceAt, run_underlying Tryz.underlying42, Instr.slice, Instr.sliceBounds, Instr.sliceBound, asIntOf, Result.andThen, Addr.add, hql]
    exact hA2
  have s3 : ∀ W : World, (Instr.sliceAt 42 (.slice (some ⟨g, 0, none⟩) (l.length - 1) cap) (some (.int .i64 ((l.length - 1 : Nat) : Int))) (some (.int .i64 (l.length : Int))) none).run Tryz.prog W = .ok (.slice (some ⟨g, (l.length - 1) * 4, none⟩) 1 (cap - (l.length - 1))) W := fun W => by
    obtain ⟨q, hq⟩ : ∃ q, q = l.length - 1 := ⟨_, rfl⟩
    obtain ⟨n, hn⟩ : ∃ n, n = l.length := ⟨_, rfl⟩
    have hqn : q ≤ n := by omega
    have hnc2 : n ≤ cap := by omega
    have h1' : n - q = 1 := by omega
    have hA2 : (if cap = q then some (⟨g, 0, none⟩ : Addr) else some (if q * 4 = 0 then ⟨g, 0, none⟩ else ⟨g, q * 4, none⟩)) = some ⟨g, q * 4, none⟩ := by
      rw [if_neg (by omega)]
      split
      · rename_i h; rw [h]
      · rfl
    rw [← hq, ← hn, ← h1']
    simp [Instr.sliceAt, run_underlying Tryz.underlying42, Instr.slice, Instr.sliceBounds, Instr.sliceBound, asIntOf, Result.andThen, Addr.add, hnc2, hqn]
    exact hA2
  have HAp : Hid (∀ ty c, (Builtin.append_ #[42, 42] ty #[.slice (some ⟨g, 0, none⟩) i cap, .slice (some A) (l.length - (i + 1)) c]).run Tryz.prog w.drew = .ok (.slice (some ⟨g, 0, none⟩) (i + (l.length - (i + 1))) cap) (w.drew.setRow g R1)) := hap
  have HCl : Hid (∀ ty c, (Builtin.clear_ #[42] ty #[.slice (some ⟨g, (l.length - 1) * 4, none⟩) 1 c]).run Tryz.prog (w.drew.setRow g R1) = .ok (.tuple #[]) ((w.drew.setRow g R1).setRow g R2)) := hclr
  have hne : ((i : Int) == (i : Int) + 1) = false := by simp; omega
  clear hap hclr hg hsz hxs hcl hR1 hR2 hdl l1 l2 hfin hcell hrow1 hi0 hz0 hz1 hz2 hA
  go_enter Tryz.func92, Tryz.ntmps92
  go_upto_region 5 with fail
  clear s0
  refine wp_region_held_drew (S := fun _ => True) (by kernel_rfl) trivial (fun hHeld => ?_)
  refine wpAnyH_take (i := 0) (v := (.slice (some ⟨g, 0, none⟩) l.length cap)) rfl (by kernel_rfl) (by kernel_rfl) (by kernel_rfl) (fun _ _ _ h => h) (Or.inl ⟨by rfl, fun wx hSw => by kernel_rfl⟩) (by assumption) ?_
  simp only [Act.put, List.getElem_toArray, List.getElem_cons_zero, List.setIfInBounds_toArray, List.set_cons_zero, List.set_cons_succ]
  refine wpAnyH_take (i := 1) (v := (.int .i64 i)) rfl (by kernel_rfl) (by kernel_rfl) (by kernel_rfl) (fun _ _ _ h => h) (Or.inl ⟨by rfl, fun wx hSw => by kernel_rfl⟩) (by assumption) ?_
  simp only [Act.put, List.getElem_toArray, List.getElem_cons_succ, List.getElem_cons_zero, List.setIfInBounds_toArray, List.set_cons_zero, List.set_cons_succ]
  refine wpAnyH_take (i := 2) (v := (.slice (some ⟨g, 0, none⟩) i cap)) rfl (by kernel_rfl) (by kernel_rfl) (by kernel_rfl) (fun _ _ _ h => h) (Or.inl ⟨by rfl, fun wx hSw => by ((try dsimp only at hSw); go_simp)⟩) (by assumption) ?_
  simp only [Act.put, List.getElem_toArray, List.getElem_cons_succ, List.getElem_cons_zero, List.setIfInBounds_toArray, List.set_cons_zero, List.set_cons_succ]
  refine wpAnyH_take (i := 3) (v := (.slice (some ⟨g, 0, none⟩) l.length cap)) rfl (by kernel_rfl) (by kernel_rfl) (by kernel_rfl) (fun _ _ _ h => h) (Or.inl ⟨by rfl, fun wx hSw => by kernel_rfl⟩) (by assumption) ?_
  simp only [Act.put, List.getElem_toArray, List.getElem_cons_succ, List.getElem_cons_zero, List.setIfInBounds_toArray, List.set_cons_zero, List.set_cons_succ]
  refine wpAnyH_take (i := 4) (v := (.int .i64 ((i : Int) + 1))) rfl (by kernel_rfl) (by kernel_rfl) (by kernel_rfl) (fun _ _ _ h => h) (Or.inl ⟨by rfl, fun wx hSw => by kernel_rfl⟩) (by assumption) ?_
  simp only [Act.put, List.getElem_toArray, List.getElem_cons_succ, List.getElem_cons_zero, List.setIfInBounds_toArray, List.set_cons_zero, List.set_cons_succ]
  refine wpAnyH_take (i := 5) (v := (.slice (some A) (l.length - (i + 1)) (cap - (i + 1)))) rfl (by kernel_rfl) (by kernel_rfl) (by kernel_rfl) (fun _ _ _ h => h) (Or.inl ⟨by rfl, fun wx hSw => by ((try dsimp only at hSw); go_simp)⟩) (by assumption) ?_
  simp only [Act.put, List.getElem_toArray, List.getElem_cons_succ, List.getElem_cons_zero, List.setIfInBounds_toArray, List.set_cons_zero, List.set_cons_succ]
  refine wpAnyH_ready (rs := [6]) (by kernel_rfl) (by simp) ?_
  refine AllReadyH.cons rfl (fun K hK => ?_) AllReadyH.nil
  rw [if_pos (by rfl)]
  refine Lib.wp_append_run _ (.tmp 22) (.tmp 25) 42 42 rfl _ _ rfl rfl _ _ (HAp.out _ _) ?_
  refine hK.out _ _ trivial (fun _ => ?_)
  clear hK K HAp s1 s2
  rw [show i + (l.length - (i + 1)) = l.length - 1 by omega]
  try simp only [Act.put, List.getElem_toArray, List.getElem_cons_succ, List.getElem_cons_zero, List.setIfInBounds_toArray, List.set_cons_zero, List.set_cons_succ]
  refine wpAnyH_take (i := 7) (v := (.slice (some ⟨g, 0, none⟩) (l.length - 1) cap)) rfl (by kernel_rfl) (by kernel_rfl) (by kernel_rfl) (fun _ _ _ h => h) (Or.inl ⟨by rfl, fun wx hSw => by kernel_rfl⟩) (by assumption) ?_
  simp only [Act.put, List.getElem_toArray, List.getElem_cons_succ, List.getElem_cons_zero, List.setIfInBounds_toArray, List.set_cons_zero]
  refine wpAnyH_done (by kernel_rfl) ?_ _
  clear hHeld
  go_upto_region 6 with fail
  refine wp_region_lit ?_
  refine wpList_val (.slice (some ⟨g, 0, none⟩) (l.length - 1) cap) (w.drew.setRow g R1) rfl rfl ?_
  simp only [Act.put, List.setIfInBounds_toArray, List.set_cons_zero, List.set_cons_succ]
  refine wpList_val (.slice (some ⟨g, 0, none⟩) (l.length - 1) cap) (w.drew.setRow g R1) rfl rfl ?_
  simp only [Act.put, List.setIfInBounds_toArray, List.set_cons_zero, List.set_cons_succ]
  refine wpList_val (.int .i64 ((l.length - 1 : Nat) : Int)) (w.drew.setRow g R1) rfl (by go_simp) ?_
  simp only [Act.put, List.setIfInBounds_toArray, List.set_cons_zero, List.set_cons_succ]
  refine wpList_val (.int .i64 (l.length : Int)) (w.drew.setRow g R1) rfl rfl ?_
  simp only [Act.put, List.setIfInBounds_toArray, List.set_cons_zero, List.set_cons_succ]
  refine wpList_val (.slice (some ⟨g, (l.length - 1) * 4, none⟩) 1 (cap - (l.length - 1))) (w.drew.setRow g R1) rfl (by go_simp) ?_
  simp only [Act.put, List.setIfInBounds_toArray, List.set_cons_zero, List.set_cons_succ]
  refine wpList_clear_at _ rfl (.tmp 31) 42 rfl _ rfl (HCl.out _ _) ?_
  simp only [Act.put]
  clear HCl s3
  generalize (w.drew.setRow g R1).setRow g R2 = V at *
  go_wp2
  go_ret
  exact ⟨rfl, HEnd.out⟩
end Go.Proofs.YtanndhoimpnhpaaGreatDoor
namespace Go.Proofs.YtanndhoimpnhpaaGreatDoor
open Go.ChangeShapes Go.WideShapes Go.RowKit Go.WideMaps Go.Maps Cal
theorem pos_get (q : Int) (l : List Ln.Ev) (h : hasS q l = true) : ∃ (i : Nat) (hi : i < l.length), posOf q l = i ∧ l[i].s = q := by
  unfold posOf
  unfold hasS at h
  cases hf : l.findIdx? (fun e => e.s == q) with
  | none =>
    rw [List.findIdx?_eq_none_iff] at hf
    obtain ⟨x, hx, hq⟩ := List.any_eq_true.1 h
    rw [hf x hx] at hq
    cases hq
  | some i =>
    obtain ⟨hi, hq, _⟩ := List.findIdx?_eq_some_iff_getElem.1 hf
    exact ⟨i, hi, rfl, by simpa using hq⟩
def CanPost (w : World) (B : Nat) (t : Ln.Terms) (E : List Ln.Ev) (g : Ln.St) (day : Int) (L : List En) (F : Nat → Prop) (q : Int) (x : Ending) (w' : World) : Prop :=
  Keep F w w' ∧ ((hasS q E = false ∧ x = .returned (.int .i64 9) ∧ Lo w' B t E g day L (Wd F w w')) ∨
    (x = .returned (.int .i64 0) ∧ ∃ (i : Nat) (hi : i < E.length), posOf q E = i ∧ E[i].s = q ∧ Lo w' B t (E.eraseIdx i) g day L (Wd F w w')))
set_option maxRecDepth 10000 in
set_option maxHeartbeats 1000000 in
theorem cancelL (w : World) (B : Nat) (t : Ln.Terms) (E : List Ln.Ev) (g : Ln.St) (day : Int) (L : List En) (F : Nat → Prop) (h : Lo w B t E g day L F) (q : Int) :
    Calls Tryz.prog 58 #[.pointer (some ⟨B, 0, none⟩), .int .i64 q] w (CanPost w B t E g day L F q) := by
  obtain ⟨P, Mb, evv, bkv, h1, h2⟩ := h
  obtain ⟨Eb, hev, _⟩ := evs_evv h1.ev
  have hEl := h1.le
  have hPl := placeOfSeq_any w Eb evv E hev (by omega) q
  have c6 : w.cell? ⟨B, 6, none⟩ = some evv := h1.ln.cell 6 rfl
  clear hev
  cases hs : hasS q E with
  | false =>
    have hpos : posOf q E < 0 := by
      have := (pos_has q E).1
      rw [hs] at this
      simp at this
      exact this
    have HP : Hid (∀ w', Below w.heap.size w w' → CanPost w B t E g day L F q (.returned (.int .i64 9)) w') := fun w' hb => ⟨Keep.below hb, .inl ⟨hs, rfl, P, Mb, evv, bkv, h1.keep (S := fun _ => False) (Keep.below hb) (fun _ _ x => x), fun b hb => .inl (h2 b hb)⟩⟩
    obtain ⟨ep, ecap, rfl⟩ := own_slice h1.ev
    clear h1 h2 hs
    generalize posOf q E = pos at *
    go_enter Tryz.func58, Tryz.ntmps58
    go_wp2_with fail
    refine hPl.mono ?_
    rintro e w2 ⟨rfl, hb2⟩
    clear hPl c6
    have HP2 := HP.out w2 hb2
    clear HP hb2
    go_wp2
    go_ret
    exact HP2
  | true =>
    obtain ⟨i, hi, hpi, hsi⟩ := pos_get q E hs
    rw [hpi] at hPl
    have hBl : B < w.heap.size := At.lt (v := .int .i64 t.st) h1.ln
    obtain ⟨hl, hn | ⟨ge, cap, cur, rfl, hg1, hg2, hg3, hg4, hg5, hg6⟩⟩ := id h1.ev
    · exact absurd hn.2 (by omega)
    have hneB : ¬ ge = B := (h1.ne ge rfl).1
    have hgl : ge < w.heap.size := (own_base h1.ev (b := ge) rfl).2
    have hle : (E.eraseIdx i).length = E.length - 1 := List.length_eraseIdx_of_lt hi
    have HDel : Hid (∀ W, Below w.heap.size w W → Calls Tryz.prog 92 #[.slice (some ⟨ge, 0, none⟩) E.length cap, .int .i64 i, .int .i64 ((i : Int) + 1)] W fun e w' => e = .returned (.slice (some ⟨ge, 0, none⟩) (E.length - 1) cap) ∧ w'.ownsRow 0 50 4 (.slice (some ⟨ge, 0, none⟩) (E.length - 1) cap) (E.length - 1) (evs (E.eraseIdx i)) ∧ Keep (fun b => b = ge) W w') := fun W hW =>
      delete_any W ge cap cur E i ((hW.block ge hgl).trans hg2) hg5 hg6 hg3 hg4 hi (by omega)
    have HLn : Hid (∀ W, Keep (fun b => b = ge) w W → At W B (ll t (.slice (some ⟨ge, 0, none⟩) E.length cap) g day (.pointer (some ⟨P, 0, none⟩)))) := fun W hW => At.keep (v := .int .i64 t.st) h1.ln hW (fun x => hneB x.symm)
    have HP : Hid (∀ W W', Keep (fun b => b = ge) w W → W.ownsRow 0 50 4 (.slice (some ⟨ge, 0, none⟩) (E.length - 1) cap) (E.length - 1) (evs (E.eraseIdx i)) → W' = W.setCell ⟨B, 6, none⟩ (.slice (some ⟨ge, 0, none⟩) (E.length - 1) cap) → CanPost w B t E g day L F q (.returned (.int .i64 0)) W') := by
      rintro W W' hk ho rfl
      have kS : Keep (fun b => b = B) W (W.setCell ⟨B, 6, none⟩ (.slice (some ⟨ge, 0, none⟩) (E.length - 1) cap)) := (Keep.refl _ _).set (S := fun b => b = B) rfl 6 _
      have hkk : Keep (fun b => b = ge ∨ b = B) w (W.setCell ⟨B, 6, none⟩ (.slice (some ⟨ge, 0, none⟩) (E.length - 1) cap)) := (hk.mono (fun _ _ h => .inl h)).trans (kS.mono (fun _ _ h => .inr h))
      refine ⟨hkk.mono (fun b _ hb => hb.elim (fun e => h2 b (.inr (.inr (by rw [e]; rfl)))) (fun e => h2 b (.inl e))), .inr ⟨rfl, i, hi, hpi, hsi, P, Mb, .slice (some ⟨ge, 0, none⟩) (E.length - 1) cap, bkv, ⟨(HLn.out W hk).set 6 (show 6 < 16 by decide) _, h1.bk.keep hkk (fun b hb hx => ?_), ?_, h1.nb, h1.ne, h1.so.sublist (List.eraseIdx_sublist E i), fun e he => h1.ok e ((List.eraseIdx_sublist E i).subset he), by omega, h1.ot⟩, ?_⟩⟩
      · rcases hx with rfl | rfl
        · exact (h1.ne b rfl).2 hb
        · exact h1.nb hb
      · rw [hle]
        exact own_keep ho kS (fun b hb => by cases hb; exact hneB)
      · rintro b (hb | hb | hb)
        · exact .inl (h2 _ (.inl hb))
        · exact .inl (h2 _ (.inr (.inl hb)))
        · exact .inl (h2 _ (.inr (.inr hb)))
    clear h1 h2 hs hl hg1 hg2 hg3 hg4 hg5 hg6 hpi hsi hle
    have yw : IntKind.i64.wrap ((i : Int) + 1) = (i : Int) + 1 := by rw [IntKind.wrap_i64]; omega
    go_enter Tryz.func58, Tryz.ntmps58
    go_wp2_with fail
    refine hPl.mono ?_
    rintro e w2 ⟨rfl, hb2⟩
    clear hPl c6
    have hD := HDel.out w2 hb2
    have c62 : w2.cell? ⟨B, 6, none⟩ = some (.slice (some ⟨ge, 0, none⟩) E.length cap) := (HLn.out w2 (Keep.below hb2)).cell 6 rfl
    have zi : ¬ (i : Int) < 0 := by omega
    clear HDel
    go_wp2_with fail
    refine hD.mono ?_
    rintro e w3 ⟨rfl, ho3, hk3⟩
    clear hD c62
    have hkw : Keep (fun b => b = ge) w w3 := (Keep.below hb2).trans hk3
    have y6 : w3.cell? ⟨B, 6, none⟩ = some (.slice (some ⟨ge, 0, none⟩) E.length cap) := (HLn.out w3 hkw).cell 6 rfl
    have y7 : w3.frozen? ⟨B, 6, none⟩ = false := (HLn.out w3 hkw).free 6 rfl
    have HP3 : Hid (∀ W', W' = w3.setCell ⟨B, 6, none⟩ (.slice (some ⟨ge, 0, none⟩) (E.length - 1) cap) → CanPost w B t E g day L F q (.returned (.int .i64 0)) W') := fun W' hW' => HP.out w3 W' hkw ho3 hW'
    clear HP HLn hkw ho3 hk3 hb2
    go_wp2
    go_ret
    exact HP3.out _ rfl
end Go.Proofs.YtanndhoimpnhpaaGreatDoor
namespace Go.Proofs.YtanndhoimpnhpaaGreatDoor
open Go.ChangeShapes Go.WideShapes Go.ChangeAt Go.RowKit Lg Cal
theorem own_less {w : World} {base : Nat} {T : TypeId} {size : Nat} {v : Value} {n : Nat} {xs : List Value} (h : w.ownsRow base T size v n xs) (b : Nat) (hb : b ≤ base) : w.ownsRow b T size v n xs := by
  obtain ⟨h1, h2 | ⟨g, cap, cur, h3, h4, h5⟩⟩ := h
  · exact ⟨h1, .inl h2⟩
  · exact ⟨h1, .inr ⟨g, cap, cur, h3, Nat.le_trans hb h4, h5⟩⟩
theorem own_new {w w' : World} {F : Nat → Prop} {v v' : Value} {base : Nat} {T : TypeId} {size n : Nat} {xs : List Value} (h : OwnNew w v v') (hF : ∀ b, v.ownBlock = some b → F b) (ho : w'.ownsRow base T size v' n xs) : ∀ b, v'.ownBlock = some b → Wd F w w' b :=
  h.mine hF (own_less ho 0 (Nat.zero_le _))
def Dc (w : World) (B : Nat) (t : Ln.Terms) (l : List Ln.Ev) (g : Ln.St) (day : Int) (L : List En) (F : Nat → Prop) : Prop :=
  ∃ evv bkv, DcX w B t l g day L evv bkv ∧ F B ∧ (∀ b, evv.ownBlock = some b → F b) ∧ (∀ b, bkv.ownBlock = some b → F b)
theorem DcX.keep {S : Nat → Prop} {w w' : World} {B : Nat} {t : Ln.Terms} {l : List Ln.Ev} {g : Ln.St} {day : Int} {L : List En} {evv bkv : Value} (h : DcX w B t l g day L evv bkv) (hk : Keep S w w') (h0 : ¬ S B) (h1 : ∀ b, evv.ownBlock = some b → ¬ S b) (h2 : ∀ b, bkv.ownBlock = some b → ¬ S b) : DcX w' B t l g day L evv bkv :=
  ⟨At.keep (v := .int .i64 t.st) h.ln hk h0, own_keep h.ev hk h1, own_keep h.bk hk h2, h.ap, h.ds, h.ok, h.le, h.ot, h.inl, h.d0, h.d1⟩
theorem Dc.keep {S F : Nat → Prop} {w w' : World} {B : Nat} {t : Ln.Terms} {l : List Ln.Ev} {g : Ln.St} {day : Int} {L : List En} (h : Dc w B t l g day L F) (hk : Keep S w w') (hs : ∀ b, F b → ¬ S b) : Dc w' B t l g day L F := by
  obtain ⟨evv, bkv, h1, h2, h3, h4⟩ := h
  exact ⟨evv, bkv, h1.keep hk (hs B h2) (fun b hb => hs b (h3 b hb)) (fun b hb => hs b (h4 b hb)), h2, h3, h4⟩
theorem Dc.mono {F G : Nat → Prop} {w : World} {B : Nat} {t : Ln.Terms} {l : List Ln.Ev} {g : Ln.St} {day : Int} {L : List En} (h : Dc w B t l g day L F) (hs : ∀ b, F b → G b) : Dc w B t l g day L G := by
  obtain ⟨evv, bkv, h1, h2, h3, h4⟩ := h
  exact ⟨evv, bkv, h1, hs B h2, fun b hb => hs b (h3 b hb), fun b hb => hs b (h4 b hb)⟩
theorem refopenD (t : Ln.Terms) (w : World) (h : rtB t = true) :
    Calls Tryz.prog 56 #[tmV t] w fun e w' => ∃ B, e = .returned (.tuple #[.pointer (some ⟨B, 0, none⟩), .int .i64 0]) ∧ Dc w' B t [] (Ln.start t) t.st [] (Wd (fun _ => False) w w') ∧ Below w.heap.size w w' := by
  refine (refopen_good t w h).mono ?_
  rintro e w' ⟨⟨B, rfl, hB, hA⟩, hb⟩
  have hBl := At.lt (v := .int .i64 t.st) hA
  have ho := rt_ok h
  exact ⟨B, rfl, ⟨.slice none 0 0, .slice none 0 0, ⟨hA, World.ownsRow_nil _ _ _ _, World.ownsRow_nil _ _ _ _, fun b hb => (by cases hb), List.Pairwise.nil, fun e he => (by simp at he), (by simp), ho, fun e he => (by simp at he), Int.le_refl _, by omega⟩, .inr ⟨hB, hBl⟩, fun b hb => (by cases hb), fun b hb => (by cases hb)⟩, hb⟩
theorem addC_ok {t : Ln.Terms} {l : List Ln.Ev} {e : Ln.Ev} (h : addC t l e = 0) : Ln.OkE t e ∧ l.length < 40 ∧ hasS e.s l = false := by
  rw [addC_eq] at h
  have hf : evF t e = 0 := by
    by_cases hz : evF t e = 0
    · exact hz
    · rw [if_pos hz] at h; exact absurd h hz
  rw [if_neg (by simp [hf])] at h
  have h40 : ¬ 40 ≤ l.length := fun hz => by rw [if_pos hz] at h; cases h
  rw [if_neg h40] at h
  refine ⟨evF_ok hf, by omega, ?_⟩
  cases hz : hasS e.s l with
  | false => rfl
  | true => rw [hz] at h; cases h
theorem hasS_none {q : Int} {l : List Ln.Ev} (h : hasS q l = false) : ∀ x ∈ l, ¬ x.s = q := fun x hx he => by
  have : hasS q l = true := List.any_eq_true.2 ⟨x, hx, by simp [he]⟩
  rw [h] at this
  cases this
def DcAdd (w : World) (B : Nat) (t : Ln.Terms) (l : List Ln.Ev) (g : Ln.St) (day : Int) (L : List En) (F : Nat → Prop) (e : Ln.Ev) (x : Ending) (w' : World) : Prop :=
  x = .returned (.int .i64 (addC t l e)) ∧ Keep F w w' ∧ ((¬ addC t l e = 0 ∧ Dc w' B t l g day L (Wd F w w')) ∨ (addC t l e = 0 ∧ Dc w' B t (l ++ [e]) g day L (Wd F w w')))
theorem refaddD (w : World) (B : Nat) (t : Ln.Terms) (l : List Ln.Ev) (g : Ln.St) (day : Int) (L : List En) (F : Nat → Prop) (h : Dc w B t l g day L F) (e : Ln.Ev) :
    Calls Tryz.prog 57 #[.pointer (some ⟨B, 0, none⟩), evc e] w (DcAdd w B t l g day L F e) := by
  obtain ⟨evv, bkv, h1, h2, h3, h4⟩ := h
  obtain ⟨pa, ecap, rfl⟩ := own_slice h1.ev
  refine (refadd_core w B t g day bkv pa ecap l e h1.le h1.ot.st0 h1.ot.st1 h1.ln h1.ev).mono ?_
  rintro x w' ⟨rfl, ⟨hc, hb⟩ | ⟨hc, v, ho, hon, hA, hk⟩⟩
  · exact ⟨rfl, Keep.below hb, .inl ⟨hc, (Dc.keep (S := fun _ => False) ⟨_, bkv, h1, h2, h3, h4⟩ (Keep.below hb) (fun _ _ x => x)).mono (fun b hb => .inl hb)⟩⟩
  · have hpa : ∀ b, pa.map (·.block) = some b → (Value.slice pa l.length ecap).ownBlock = some b := fun b hb => by
      cases pa with
      | none => cases hb
      | some a => exact hb
    obtain ⟨hok, h40, hns⟩ := addC_ok hc
    refine ⟨rfl, hk.mono (fun b _ hb => hb.elim (fun x => by rw [x]; exact h2) (fun x => h3 b (hpa b x))), .inr ⟨hc, v, bkv, ⟨hA, ?_, own_keep h1.bk hk ?_, ?_, ?_, ?_, ?_, h1.ot, h1.inl, h1.d0, h1.d1⟩, .inl h2, own_new hon h3 ho, fun b hb => .inl (h4 b hb)⟩⟩
    · rw [List.length_append]
      exact ho
    · rintro b hb (x | x)
      · have := (own_base h1.bk hb).1
        omega
      · exact h1.ap b (hpa b x) hb
    · intro b hb hx
      rcases hon with y | ⟨c, y1, y2⟩
      · exact h1.ap b (y.symm.trans hb) hx
      · have : c = b := by rw [y1] at hb; exact Option.some.inj hb
        have := (own_base h1.bk hx).2
        omega
    · refine List.pairwise_append.2 ⟨h1.ds, by simp, fun a ha b hb => ?_⟩
      rw [List.mem_singleton.1 hb]
      exact hasS_none hns a ha
    · intro x hx
      rcases List.mem_append.1 hx with hx | hx
      · exact h1.ok x hx
      · rw [List.mem_singleton.1 hx]; exact hok
    · rw [List.length_append]
      show l.length + 1 ≤ 40
      omega
theorem wo_len {q : Int} {l : List Ln.Ev} : (wo q l).length = l.length ↔ hasS q l = false := by
  unfold wo
  rw [List.length_filter_eq_length_iff]
  constructor
  · intro h
    cases hz : hasS q l with
    | false => rfl
    | true =>
      obtain ⟨x, hx, hq⟩ := List.any_eq_true.1 hz
      have := h x hx
      rw [hq] at this
      cases this
  · intro h x hx
    have := hasS_none h x hx
    simp [this]
def DcCan (w : World) (B : Nat) (t : Ln.Terms) (l : List Ln.Ev) (g : Ln.St) (day : Int) (L : List En) (F : Nat → Prop) (q : Int) (x : Ending) (w' : World) : Prop :=
  Keep F w w' ∧ ((hasS q l = false ∧ x = .returned (.int .i64 9) ∧ Dc w' B t l g day L (Wd F w w')) ∨ (hasS q l = true ∧ x = .returned (.int .i64 0) ∧ Dc w' B t (wo q l) g day L (Wd F w w')))
theorem refcancelD (w : World) (B : Nat) (t : Ln.Terms) (l : List Ln.Ev) (g : Ln.St) (day : Int) (L : List En) (F : Nat → Prop) (h : Dc w B t l g day L F) (q : Int) :
    Calls Tryz.prog 59 #[.pointer (some ⟨B, 0, none⟩), .int .i64 q] w (DcCan w B t l g day L F q) := by
  obtain ⟨evv, bkv, h1, h2, h3, h4⟩ := h
  obtain ⟨pa, ecap, rfl⟩ := own_slice h1.ev
  obtain ⟨E0, hE0⟩ : ∃ E0, l ≠ [] → pa = some ⟨E0, 0, none⟩ ∧ At w E0 (evs l) := by
    by_cases hne : l = []
    · exact ⟨0, fun x => absurd hne x⟩
    · obtain ⟨x, r, hxr⟩ := List.exists_cons_of_ne_nil hne
      obtain ⟨ge, cape, he, _, _⟩ := h1.ev.form (by rw [hxr]; simp)
      injection he with e1 _ _
      subst e1
      exact ⟨ge, fun _ => ⟨rfl, own_at h1.ev⟩⟩
  have hBl := At.lt (v := .int .i64 t.st) h1.ln
  refine (refcancel_core w B t g day q bkv pa ecap E0 l h1.le h1.ln hE0).mono ?_
  rintro x w' (⟨hw, rfl, hb⟩ | ⟨hw, rfl, v, ho, hA, hk⟩)
  · exact ⟨Keep.below hb, .inl ⟨wo_len.1 hw, rfl, (Dc.keep (S := fun _ => False) ⟨_, bkv, h1, h2, h3, h4⟩ (Keep.below hb) (fun _ _ x => x)).mono (fun b hb => .inl hb)⟩⟩
  · have hs : hasS q l = true := by
      cases hz : hasS q l with
      | false => exact absurd (wo_len.2 hz) hw
      | true => rfl
    have hsub : (wo q l).Sublist l := List.filter_sublist
    refine ⟨hk.mono (fun b _ hb => by rw [hb]; exact h2), .inr ⟨hs, rfl, v, bkv, ⟨hA, own_less ho (B + 1) (by omega), own_keep h1.bk hk (fun b hb hx => ?_), ?_, h1.ds.sublist hsub, fun e he => h1.ok e (hsub.subset he), Nat.le_trans hsub.length_le h1.le, h1.ot, h1.inl, h1.d0, h1.d1⟩, .inl h2, ?_, fun b hb => .inl (h4 b hb)⟩⟩
    · have := (own_base h1.bk hb).1
      omega
    · intro b hb hx
      have := (own_base ho hb).1
      have := (own_base h1.bk hx).2
      omega
    · intro b hb
      exact .inr (own_base ho hb)
def DcRunD (w : World) (B : Nat) (t : Ln.Terms) (l : List Ln.Ev) (L : List En) (m : Nat) (F : Nat → Prop) (e : Ending) (w' : World) : Prop :=
  e = .returned (.int .i64 0) ∧ Keep F w w' ∧ ∃ R, R.Perm l ∧ R.Pairwise So.Ah ∧ Dc w' B t l (Ln.run t cdOf (wtOf t.ba) R m) (t.st + m) (bkP t.st (fun k => (yOf t R k).am) L m) (Wd F w w')
theorem refrunD (w : World) (B : Nat) (t : Ln.Terms) (l : List Ln.Ev) (g : Ln.St) (day : Int) (L : List En) (F : Nat → Prop) (h : Dc w B t l g day L F) (hL : L.length ≤ 4000000000000) (m : Nat) (hd : day ≤ t.st + m) (hm : m ≤ 3700) :
    Calls Tryz.prog 60 #[.pointer (some ⟨B, 0, none⟩), .int .i64 (t.st + m)] w (DcRunD w B t l L m F) := by
  obtain ⟨evv, bkv, h1, h2, h3, h4⟩ := h
  refine (refrun_any w B t l g day L evv bkv h1 hL m hd hm).mono ?_
  rintro e w' ⟨rfl, R, bkv', hp, hs, hD, hon, hk⟩
  exact ⟨rfl, hk.mono (fun b _ hb => hb.elim (fun x => by rw [x]; exact h2) (fun x => h4 b x)), R, hp, hs, evv, bkv', hD, .inl h2, fun b hb => .inl (h3 b hb), own_new hon h4 hD.bk⟩
end Go.Proofs.YtanndhoimpnhpaaGreatDoor
namespace Go.Proofs.YtanndhoimpnhpaaGreatDoor
open Go.ChangeShapes Go.WideShapes Go.RowKit Go.WideMaps Go.Maps Cal
theorem sizeEnp : (Tryz.prog.info? 114).map (·.size) = some 3 := by kernel_rfl
theorem ens_cell1 : ∀ (l : List En) (v : Value), v ∈ ens l → v.oneCell' = true
  | [], _, h => by simp [ens] at h
  | e :: r, v, h => by
    simp only [ens, List.mem_cons] at h
    rcases h with rfl | rfl | rfl | h
    · rfl
    · rfl
    · rfl
    · exact ens_cell1 r v h
theorem ens_drop (l : List En) (i : Nat) (h : i ≤ l.length) : (ens l).drop (i * 3) = ens (l.drop i) := by
  have : ens l = ens (l.take i) ++ ens (l.drop i) := by rw [← ens_append, List.take_append_drop]
  have hl : (ens (l.take i)).length = i * 3 := by rw [ens_len, List.length_take]; omega
  rw [this, ← hl, List.drop_left]
def kf (x : Int) (n : Nat) : Nat := min (max x 0).toNat n
theorem kf_le (x : Int) (n : Nat) : kf x n ≤ n := Nat.min_le_right _ _
theorem bslice_from (p : Option Addr) (n cap k : Nat) (hk : k ≤ n) (W : World) :
    ∃ q, (Instr.sliceAt 54 (.slice p n cap) (some (.int .i64 (k : Int))) none none).run Tryz.prog W = .ok (.slice q (n - k) (cap - k)) W ∧ q = (if cap = k then p else p.map (·.add (k * 3))) := by
  refine ⟨_, ?_, rfl⟩
  simp [Instr.sliceAt, run_underlying Tryz.underlying54, Instr.slice, Instr.sliceBounds, Instr.sliceBound, asIntOf, Result.andThen, hk]
set_option maxRecDepth 10000 in
set_option maxHeartbeats 4000000 in
theorem from_any (w : World) (P : Nat) (bkv : Value) (Mb : Nat) (L : List En) (h : BkIs w P bkv Mb L) (hL : L.length ≤ 4000000000000) (x : Int) :
    Calls Tryz.prog 46 #[.pointer (some ⟨P, 0, none⟩), .int .i64 x] w fun r w' => ∃ v, r = .returned v ∧ w'.ownsRow w.heap.size 114 3 v (L.length - kf x L.length) (ens (L.drop (kf x L.length))) ∧ Below w.heap.size w w' := by
  obtain ⟨bp, bcap, rfl⟩ := own_slice h.ow
  obtain ⟨i0, hi0, hz0, hz1, hz2⟩ := info_parts infoEntry
  have hk := kf_le x L.length
  obtain ⟨x1, hx1⟩ : ∃ x1, x1 = max x 0 := ⟨_, rfl⟩
  obtain ⟨k, hkk⟩ : ∃ k, k = kf x L.length := ⟨_, rfl⟩
  rw [← hkk] at hk ⊢
  obtain ⟨m, hm⟩ : ∃ m, m = L.length - k := ⟨_, rfl⟩
  rw [← hm]
  have hk2 : (k : Int) = min x1 L.length := by
    rw [hkk, hx1]
    unfold kf
    omega
  have HK2 : Hid ((k : Int) = min x1 L.length) := hk2
  have HX1 : Hid (x1 = max x 0) := hx1
  have HS : Hid (∀ W : World, ∃ q, (Instr.sliceAt 54 (.slice bp L.length bcap) (some (.int .i64 (k : Int))) none none).run Tryz.prog W = .ok (.slice q m (bcap - k)) W ∧ q = (if bcap = k then bp else bp.map (·.add (k * 3)))) := fun W => by rw [hm]; exact bslice_from bp L.length bcap k hk W
  have c0 : w.drew.cell? ⟨P, 0, none⟩ = some (.slice bp L.length bcap) := h.pl.cell 0 rfl
  have hcells : ∀ j u, (ens (L.drop k))[j]? = some u → ∀ a, (if bcap = k then bp else bp.map (·.add (k * 3))) = some a → w.cell? (a.add j) = some u := fun j u hj a ha => by
    obtain ⟨hl, ⟨hn, hz⟩ | ⟨gg, cap, cur, hv, hg1, hg2, hg3, hg4, hg5, hg6⟩⟩ := id h.ow
    · have : L = [] := List.length_eq_zero_iff.1 hz
      subst this
      simp [ens] at hj
    · injection hv with e1 e2 e3
      subst e1 e3
      have hjl := (List.getElem?_eq_some_iff.1 hj).1
      rw [ens_len, List.length_drop] at hjl
      rw [← ens_drop L k hk, List.getElem?_drop] at hj
      rw [if_neg (by omega)] at ha
      have hc := h.ow.cellAt (k * 3 + j) (by omega)
      rw [hj] at hc
      simp only [Option.map_some, Option.some.injEq] at ha
      subst ha
      rw [Addr.add_lit, Addr.add_lit, Nat.zero_add]
      exact hc
  have HN : Hid (∀ a, (if bcap = k then bp else bp.map (·.add (k * 3))) = some a → ∀ j u, (ens (L.drop k))[j]? = some u → w.cell? (a.add j) = some u) := fun a ha j u hj => hcells j u hj a ha
  have HE : Hid ((if bcap = k then bp else bp.map (·.add (k * 3))) = none → m = 0) := fun hn => by
    obtain ⟨hl, ⟨hn', hz⟩ | ⟨gg, cap, cur, hv, hg⟩⟩ := h.ow
    · omega
    · injection hv with e1 e2 e3
      subst e1
      split at hn <;> simp at hn
  generalize hq0 : (if bcap = k then bp else bp.map (·.add (k * 3))) = q at *
  clear hq0 hcells hx1 hkk hk2
  have HC : Hid (w.drew.cell? ⟨P, 0, none⟩ = some (.slice bp L.length bcap)) := c0
  clear h c0
  have hmk := run_make (P := Tryz.prog) w.drew 54 114 i0 _ Tryz.underlying54 hi0 hz0 .i64 .i64 (m : Int) (m : Int) (by omega) (Int.le_refl _) (by rw [hz2]; omega) (by omega)
  obtain ⟨ROW, hROW⟩ : ∃ ROW, ROW = madeCells (Value.agg #[.int .i64 0, .int .i64 0, .int .i64 0]).cells ((m : Int).toNat * i0.size) := ⟨_, rfl⟩
  have hRs : ROW.size = m * 3 := by rw [hROW, hz1]; simp [madeCells]
  rw [← hROW] at hmk
  simp only [Int.toNat_natCast] at hmk
  obtain ⟨W1, hW1⟩ : ∃ W1, W1 = w.drew.alloc (.cells ROW 114) := ⟨_, rfl⟩
  have hb1 : Below w.heap.size w W1 := by rw [hW1]; exact (Below.refl _ _).drew.alloc (Nat.le_refl _) _
  have hrow : W1.heap[w.heap.size]? = some (.cells ROW 114 (0, 0)) := by
    rw [hW1]
    show (w.heap.push (.cells ROW 114))[w.heap.size]? = _
    simp
  have hdl : (ens (L.drop k)).length = m * 3 := by rw [ens_len, List.length_drop, hm]
  have hmx : m ≤ maxLen := by unfold maxLen; omega
  have hcp : ∃ r W', (∀ ty, (Builtin.copy_ #[54, 54] ty #[.slice (some ⟨w.heap.size, 0, none⟩) m m, .slice q m (bcap - k)]).run Tryz.prog W1 = .ok r W') ∧ W'.ownsRow w.heap.size 114 3 (.slice (some ⟨w.heap.size, 0, none⟩) m m) m (ens (L.drop k)) ∧ Below w.heap.size w W' := by
    by_cases hm0 : m = 0
    · have hnil : L.drop k = [] := List.drop_eq_nil_of_le (by omega)
      refine ⟨_, _, fun ty => run_copy_noneK W1 _ _ ty 114 3 _ _ _ _ _ _ Tryz.underlying54 sizeEnp (by rw [hm0]; rfl), ⟨hdl, .inr ⟨w.heap.size, m, ROW, rfl, Nat.le_refl _, hrow, Nat.le_refl _, hmx, hRs, ?_⟩⟩, hb1⟩
      rw [hm0, hnil]
      rfl
    · cases q with
      | none => exact absurd (HE.out rfl) hm0
      | some a =>
        have hmin : Nat.min m m = m := Nat.min_self m
        refine ⟨_, _, fun ty => run_copy_rowK W1 _ _ ty 114 3 w.heap.size 0 m m a m (bcap - k) ROW 114 (ens (L.drop k)) Tryz.underlying54 sizeEnp hrow (by rw [hdl, hmin]) (fun j u hj => ?_) (by rw [hdl, hRs]; omega) (fun v hv => ens_cell1 _ v hv), ⟨hdl, .inr ⟨w.heap.size, m, _, rfl, Nat.le_refl _, setRow_row hrow _, Nat.le_refl _, hmx, ?_, ?_⟩⟩, ?_⟩
        · have hc := HN.out a rfl j u hj
          have hab : (a.add j).block < w.heap.size := World.block_lt_of_cell? _ _ hc
          exact (World.cell?_of_block (w := w) (a := a.add j) (hb1.block _ hab)).trans hc
        · simp [hdl, hRs]
        · have : ROW.toList.drop (0 + (ens (L.drop k)).length) = [] := List.drop_eq_nil_of_le (by rw [hdl, Array.length_toList, hRs]; omega)
          rw [this]
          simp
          exact List.take_of_length_le (by omega)
        · have kk := keep_setRow W1 w.heap.size (ROW.toList.take 0 ++ ens (L.drop k) ++ ROW.toList.drop (0 + (ens (L.drop k)).length)).toArray
          exact ⟨kk.os.trans hb1.os, kk.tape.trans hb1.tape, kk.output.trans hb1.output, Nat.le_trans hb1.size kk.size, fun b hb => (kk.block b (Nat.lt_of_lt_of_le hb hb1.size) (by omega)).trans (hb1.block b hb)⟩
  obtain ⟨r, W', hr, ho, hbW⟩ := hcp
  have HR : Hid (∀ ty, (Builtin.copy_ #[54, 54] ty #[.slice (some ⟨w.heap.size, 0, none⟩) m m, .slice q m (bcap - k)]).run Tryz.prog W1 = .ok r W') := hr
  have HEnd : Hid (∃ v, Ending.returned (.slice (some ⟨w.heap.size, 0, none⟩) m m) = .returned v ∧ W'.ownsRow w.heap.size 114 3 v m (ens (L.drop k)) ∧ Below w.heap.size w W') := ⟨_, rfl, ho, hbW⟩
  rw [← hW1] at hmk
  have HMK : Hid ((Instr.makeSlice 54 (.int .i64 (m : Int)) (.int .i64 (m : Int))).run Tryz.prog w.drew = .ok (.slice (some ⟨w.heap.size, 0, none⟩) m m) W1) := hmk
  clear hr ho hbW hmk hW1 hb1 hrow hdl hROW hRs hz1 hz2 hi0 hz0 HN HE hm hmx
  have z1 : (0 : Int) ≤ (L.length : Int) := by omega
  go_enter Tryz.func46, Tryz.ntmps46
  go_upto_region 1 with fail
  refine wp_region_held_drew (S := fun wx => wx.cell? ⟨P, 0, none⟩ = some (.slice bp L.length bcap)) (by kernel_rfl) HC.out (fun hHeld => ?_)
  refine wpAnyH_take (i := 0) (v := (.pointer (some ⟨P, 0, none⟩))) rfl (by kernel_rfl) (by kernel_rfl) (by kernel_rfl) (fun _ _ _ h => h) (Or.inl ⟨by rfl, fun wx hSw => by kernel_rfl⟩) (by assumption) ?_
  simp only [Act.put, List.getElem_toArray, List.getElem_cons_zero, List.setIfInBounds_toArray, List.set_cons_zero, List.set_cons_succ]
  refine wpAnyH_take (i := 1) (v := (.pointer (some ⟨P, 0, none⟩))) rfl (by kernel_rfl) (by kernel_rfl) (by kernel_rfl) (fun _ _ _ h => h) (Or.inl ⟨by rfl, fun wx hSw => by kernel_rfl⟩) (by assumption) ?_
  simp only [Act.put, List.getElem_toArray, List.getElem_cons_succ, List.getElem_cons_zero, List.setIfInBounds_toArray, List.set_cons_zero, List.set_cons_succ]
  refine wpAnyH_take (i := 2) (v := (.pointer (some ⟨P, 0, none⟩))) rfl (by kernel_rfl) (by kernel_rfl) (by kernel_rfl) (fun _ _ _ h => h) (Or.inl ⟨by rfl, fun wx hSw => by kernel_rfl⟩) (by assumption) ?_
  simp only [Act.put, List.getElem_toArray, List.getElem_cons_succ, List.getElem_cons_zero, List.setIfInBounds_toArray, List.set_cons_zero, List.set_cons_succ]
  refine wpAnyH_take (i := 3) (v := (.slice bp L.length bcap)) rfl (by kernel_rfl) (by kernel_rfl) (by kernel_rfl) (fun _ _ _ h => h) (Or.inl ⟨by rfl, fun wx hSw => by ((try dsimp only at hSw); go_simp)⟩) (by assumption) ?_
  simp only [Act.put, List.getElem_toArray, List.getElem_cons_succ, List.getElem_cons_zero, List.setIfInBounds_toArray, List.set_cons_zero, List.set_cons_succ]
  refine wpAnyH_take (i := 4) (v := (.int .i64 x)) rfl (by kernel_rfl) (by kernel_rfl) (by kernel_rfl) (fun _ _ _ h => h) (Or.inl ⟨by rfl, fun wx hSw => by kernel_rfl⟩) (by assumption) ?_
  simp only [Act.put, List.getElem_toArray, List.getElem_cons_succ, List.getElem_cons_zero, List.setIfInBounds_toArray, List.set_cons_zero, List.set_cons_succ]
  refine wpAnyH_take (i := 5) (v := (.int .i64 x1)) rfl (by kernel_rfl) (by kernel_rfl) (by kernel_rfl) (fun _ _ _ h => h) (Or.inl ⟨by rfl, fun wx hSw => by (go_simp; have := HX1.out; omega)⟩) (by assumption) ?_
  simp only [Act.put, List.getElem_toArray, List.getElem_cons_succ, List.getElem_cons_zero, List.setIfInBounds_toArray, List.set_cons_zero, List.set_cons_succ]
  refine wpAnyH_take (i := 6) (v := (.pointer (some ⟨P, 0, none⟩))) rfl (by kernel_rfl) (by kernel_rfl) (by kernel_rfl) (fun _ _ _ h => h) (Or.inl ⟨by rfl, fun wx hSw => by kernel_rfl⟩) (by assumption) ?_
  simp only [Act.put, List.getElem_toArray, List.getElem_cons_succ, List.getElem_cons_zero, List.setIfInBounds_toArray, List.set_cons_zero, List.set_cons_succ]
  refine wpAnyH_take (i := 7) (v := (.pointer (some ⟨P, 0, none⟩))) rfl (by kernel_rfl) (by kernel_rfl) (by kernel_rfl) (fun _ _ _ h => h) (Or.inl ⟨by rfl, fun wx hSw => by kernel_rfl⟩) (by assumption) ?_
  simp only [Act.put, List.getElem_toArray, List.getElem_cons_succ, List.getElem_cons_zero, List.setIfInBounds_toArray, List.set_cons_zero, List.set_cons_succ]
  refine wpAnyH_take (i := 8) (v := (.pointer (some ⟨P, 0, none⟩))) rfl (by kernel_rfl) (by kernel_rfl) (by kernel_rfl) (fun _ _ _ h => h) (Or.inl ⟨by rfl, fun wx hSw => by kernel_rfl⟩) (by assumption) ?_
  simp only [Act.put, List.getElem_toArray, List.getElem_cons_succ, List.getElem_cons_zero, List.setIfInBounds_toArray, List.set_cons_zero, List.set_cons_succ]
  refine wpAnyH_take (i := 9) (v := (.slice bp L.length bcap)) rfl (by kernel_rfl) (by kernel_rfl) (by kernel_rfl) (fun _ _ _ h => h) (Or.inl ⟨by rfl, fun wx hSw => by ((try dsimp only at hSw); go_simp)⟩) (by assumption) ?_
  simp only [Act.put, List.getElem_toArray, List.getElem_cons_succ, List.getElem_cons_zero, List.setIfInBounds_toArray, List.set_cons_zero, List.set_cons_succ]
  refine wpAnyH_take (i := 10) (v := (.int .i64 L.length)) rfl (by kernel_rfl) (by kernel_rfl) (by kernel_rfl) (fun _ _ _ h => h) (Or.inl ⟨by rfl, fun wx hSw => by ((try dsimp only at hSw); go_simp)⟩) (by assumption) ?_
  simp only [Act.put, List.getElem_toArray, List.getElem_cons_succ, List.getElem_cons_zero, List.setIfInBounds_toArray, List.set_cons_zero, List.set_cons_succ]
  refine wpAnyH_take (i := 11) (v := (.int .i64 k)) rfl (by kernel_rfl) (by kernel_rfl) (by kernel_rfl) (fun _ _ _ h => h) (Or.inl ⟨by rfl, fun wx hSw => by (go_simp; have := HK2.out; omega)⟩) (by assumption) ?_
  simp only [Act.put, List.getElem_toArray, List.getElem_cons_succ, List.getElem_cons_zero, List.setIfInBounds_toArray, List.set_cons_zero, List.set_cons_succ]
  refine wpAnyH_take (i := 12) (v := (.slice q m (bcap - k))) rfl (by kernel_rfl) (by kernel_rfl) (by kernel_rfl) (fun _ _ _ h => h) (Or.inl ⟨by rfl, fun wx hSw => by (obtain ⟨q', hq1, rfl⟩ := HS.out wx; go_simp)⟩) (by assumption) ?_
  simp only [Act.put, List.getElem_toArray, List.getElem_cons_succ, List.getElem_cons_zero, List.setIfInBounds_toArray, List.set_cons_zero, List.set_cons_succ]
  refine wpAnyH_take (i := 13) (v := (.slice q m (bcap - k))) rfl (by kernel_rfl) (by kernel_rfl) (by kernel_rfl) (fun _ _ _ h => h) (Or.inl ⟨by rfl, fun wx hSw => by kernel_rfl⟩) (by assumption) ?_
  simp only [Act.put, List.getElem_toArray, List.getElem_cons_succ, List.getElem_cons_zero, List.setIfInBounds_toArray, List.set_cons_zero, List.set_cons_succ]
  refine wpAnyH_done (by kernel_rfl) ?_ _
  clear hHeld HS HK2 HX1 HC
  go_upto_region 2 with fail
  refine wp_region_lit ?_
  refine wpList_val (.slice q m (bcap - k)) w.drew rfl rfl ?_
  simp only [Act.put, List.setIfInBounds_toArray, List.set_cons_zero, List.set_cons_succ]
  refine wpList_val (.int .i64 m) w.drew rfl (by go_simp) ?_
  simp only [Act.put, List.setIfInBounds_toArray, List.set_cons_zero, List.set_cons_succ]
  refine wpList_val (.slice (some ⟨w.heap.size, 0, none⟩) m m) W1 rfl (by have h := HMK.out; simp only [execOp, Act.eval]; simp [h, Result.andThen, go_sem]) ?_
  simp only [Act.put, List.setIfInBounds_toArray, List.set_cons_zero, List.set_cons_succ]
  clear HMK
  go_upto_region 3 with fail
  refine wp_region_lit ?_
  refine wpList_val (.slice (some ⟨w.heap.size, 0, none⟩) m m) W1 rfl rfl ?_
  simp only [Act.put, List.setIfInBounds_toArray, List.set_cons_zero, List.set_cons_succ]
  refine wpList_val (.slice q m (bcap - k)) W1 rfl rfl ?_
  simp only [Act.put, List.setIfInBounds_toArray, List.set_cons_zero, List.set_cons_succ]
  refine wpList_copy_at W1 rfl (.tmp 23) (.tmp 24) 54 54 rfl _ _ rfl rfl (HR.out _) ?_
  simp only [Act.put, List.setIfInBounds_toArray, List.set_cons_zero, List.set_cons_succ]
  clear HR
  go_wp2
  go_ret
  exact HEnd.out
set_option maxHeartbeats 1000000 in
theorem bookL (w : World) (B : Nat) (t : Ln.Terms) (E : List Ln.Ev) (g : Ln.St) (day : Int) (L : List En) (F : Nat → Prop) (h : Lo w B t E g day L F) (hL : L.length ≤ 4000000000000) (x : Int) :
    Calls Tryz.prog 21 #[.pointer (some ⟨B, 0, none⟩), .int .i64 x] w fun r w' => ∃ v, r = .returned v ∧ w'.ownsRow w.heap.size 114 3 v (L.length - kf x L.length) (ens (L.drop (kf x L.length))) ∧ Below w.heap.size w w' := by
  obtain ⟨P, Mb, evv, bkv, h1, _⟩ := h
  have c15 : w.cell? ⟨B, 15, none⟩ = some (.pointer (some ⟨P, 0, none⟩)) := h1.ln.cell 15 rfl
  have hF := from_any w P bkv Mb L h1.bk hL x
  clear h1
  go_enter Tryz.func21, Tryz.ntmps21
  go_wp2_with fail
  refine hF.mono ?_
  rintro r w' ⟨v, rfl, ho, hb⟩
  obtain ⟨p, cap, rfl⟩ := own_slice ho
  clear hF
  have HE : Hid (∃ v, Ending.returned (.slice p (L.length - kf x L.length) cap) = .returned v ∧ w'.ownsRow w.heap.size 114 3 v (L.length - kf x L.length) (ens (L.drop (kf x L.length))) ∧ Below w.heap.size w w') := ⟨_, rfl, ho, hb⟩
  clear ho hb
  go_wp2
  go_ret
  exact HE.out
set_option maxRecDepth 10000 in
theorem loanBal_any (w : World) (B : Nat) (t : Ln.Terms) (v : Value) (g : Ln.St) (day : Int) (bk : Value) (h : At w B (ll t v g day bk)) :
    Calls Tryz.prog 20 #[.pointer (some ⟨B, 0, none⟩)] w fun e w' => e = .returned (blV g day) ∧ Below w.heap.size w w' := by
  have c7 : w.cell? ⟨B, 7, none⟩ = some (.int .i64 g.pr) := h.cell 7 rfl
  have c8 : w.cell? ⟨B, 8, none⟩ = some (.int .i64 g.it) := h.cell 8 rfl
  have c9 : w.cell? ⟨B, 9, none⟩ = some (.int .i64 g.du) := h.cell 9 rfl
  have c10 : w.cell? ⟨B, 10, none⟩ = some (.int .i64 g.la) := h.cell 10 rfl
  have c11 : w.cell? ⟨B, 11, none⟩ = some (.int .i64 g.fi) := h.cell 11 rfl
  have c12 : w.cell? ⟨B, 12, none⟩ = some (.int .i64 g.cr) := h.cell 12 rfl
  have c13 : w.cell? ⟨B, 13, none⟩ = some (.int .i64 g.rt) := h.cell 13 rfl
  have c14 : w.cell? ⟨B, 14, none⟩ = some (.int .i64 day) := h.cell 14 rfl
  have hl : B < w.heap.size := At.lt (v := .int .i64 t.st) h
  have hne : ¬ w.heap.size = B := by omega
  clear h
  unfold blV
  go_enter Tryz.func20, Tryz.ntmps20
  go_wp2
  exact bodyPost_ret (v := .agg #[.int .i64 g.pr, .int .i64 g.it, .int .i64 g.du, .int .i64 g.la, .int .i64 g.fi, .int .i64 g.cr, .int .i64 g.rt, .int .i64 day]) (by simp [results, Tryz.results20, go_sem]) rfl ⟨rfl, (Below.refl _ _).alloc (Nat.le_refl _) _⟩
theorem balanceL (w : World) (B : Nat) (t : Ln.Terms) (E : List Ln.Ev) (g : Ln.St) (day : Int) (L : List En) (F : Nat → Prop) (h : Lo w B t E g day L F) :
    Calls Tryz.prog 20 #[.pointer (some ⟨B, 0, none⟩)] w fun r w' => r = .returned (blV g day) ∧ Below w.heap.size w w' := by
  obtain ⟨P, Mb, evv, bkv, h1, _⟩ := h
  exact loanBal_any w B t evv g day _ h1.ln
end Go.Proofs.YtanndhoimpnhpaaGreatDoor
namespace Go.Proofs.YtanndhoimpnhpaaGreatDoor
open Go.ChangeShapes Go.WideShapes Go.RowKit Go.WideMaps Go.Maps Cal
theorem own_low {w : World} {base : Nat} {T : TypeId} {size : Nat} {v : Value} {n : Nat} {xs : List Value} (h : w.ownsRow base T size v n xs) : w.ownsRow 0 T size v n xs := by
  obtain ⟨h1, h2 | ⟨g, cap, cur, h3, _, h5⟩⟩ := h
  · exact ⟨h1, .inl h2⟩
  · exact ⟨h1, .inr ⟨g, cap, cur, h3, Nat.zero_le _, h5⟩⟩
def enl (e : En) : List Value := [.int .i64 e.d, .int .i64 e.k, .int .i64 e.a]
def EnV (w : World) (v : Value) (L : List En) : Prop :=
  ∃ p cap, v = .slice p L.length cap ∧ L.length ≤ cap ∧ ∀ k (hk : k < L.length), ∃ b o, p = some ⟨b, o, none⟩ ∧ b < w.heap.size ∧ w.rangeAt b (o + k * 3) (enl L[k])
theorem EnV.below {w w' : World} {v : Value} {L : List En} (h : EnV w v L) (hb : Below w.heap.size w w') : EnV w' v L := by
  obtain ⟨p, cap, h1, h2, h3⟩ := h
  refine ⟨p, cap, h1, h2, fun k hk => ?_⟩
  obtain ⟨b, o, h4, h5, h6⟩ := h3 k hk
  exact ⟨b, o, h4, Nat.lt_of_lt_of_le h5 hb.size, fun j u hu => (World.cell?_of_block (w := w) (a := ⟨b, o + k * 3 + j, none⟩) (hb.block b h5)).trans (h6 j u hu)⟩
theorem own_en {w : World} {base : Nat} {v : Value} {L : List En} (h : w.ownsRow base 114 3 v L.length (ens L)) : EnV w v L := by
  obtain ⟨hl, hn | ⟨g, cap, cur, rfl, hg⟩⟩ := id h
  · obtain ⟨rfl, hz⟩ := hn
    have hE : L = [] := List.length_eq_zero_iff.1 hz
    subst hE
    exact ⟨none, 0, rfl, Nat.le_refl _, fun k hk => absurd hk (Nat.not_lt_zero k)⟩
  · have hlt := (own_base h (b := g) rfl).2
    refine ⟨some ⟨g, 0, none⟩, cap, rfl, hg.2.2.1, fun k hk => ⟨g, 0, rfl, hlt, ?_⟩⟩
    obtain ⟨q0, q1, q2⟩ := en_range h rfl k hk
    intro j u hu
    rw [Nat.zero_add]
    match j, hu with
    | 0, hu => cases hu; exact q0
    | 1, hu => cases hu; exact q1
    | 2, hu => cases hu; exact q2
end Go.Proofs.YtanndhoimpnhpaaGreatDoor
