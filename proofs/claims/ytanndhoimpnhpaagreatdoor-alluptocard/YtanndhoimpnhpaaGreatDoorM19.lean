/- Joined by program: AdE, AdG. -/
import Derived.Test.YtanndhoimpnhpaaGreatDoorM18
import Derived.Laws.NewBlocks
namespace Go.Proofs.YtanndhoimpnhpaaGreatDoor
open Go.RowKit Cal
theorem infoEvp : (Tryz.prog.info? 50).map (fun i => (i.zero, i.size, i.bytes)) = some (some (.agg #[.int .i64 0, .int .i64 0, .int .i64 0, .int .i64 0]), 4, 32) := by kernel_rfl
theorem sizeEvp : (Tryz.prog.info? 50).map (·.size) = some 4 := by kernel_rfl
theorem insAt_evs (e : Ln.Ev) (l : List Ln.Ev) (i : Nat) : evs (So.insAt e l i) = evs (l.take i) ++ evl e ++ evs (l.drop i) := by
  unfold So.insAt
  rw [So.evs_append, List.append_assoc]
  rfl
def InsPost (w : World) (v : Value) (n : Nat) (xs : List Value) (x : Ending) (w' : World) : Prop :=
  ∃ v', x = .returned v' ∧ w'.ownsRow 0 50 4 v' n xs ∧ OwnNew w v v' ∧ Keep (fun b => v.ownBlock = some b) w w'
set_option maxRecDepth 10000 in
set_option maxHeartbeats 2000000 in
theorem insert_end (w : World) (v : Value) (l : List Ln.Ev) (e : Ln.Ev) (N : Nat) (hown : w.ownsRow 0 50 4 v l.length (evs l)) (hv : At w N (evl e)) (hl : l.length ≤ 1000000) :
    Calls Tryz.prog 53 #[v, .int .i64 l.length, .slice (some ⟨N, 0, none⟩) 1 1] w (InsPost w v (l.length + 1) (evs (l ++ [e]))) := by
  obtain ⟨i0, hi, hz0, hz1, hz2⟩ := info_parts infoEvp
  obtain ⟨p, cap, rfl⟩ := own_slice hown
  have hcap : l.length ≤ cap := by
    obtain ⟨_, ⟨h1, h2⟩ | ⟨g, c, cur, h1, _, _, h4, _⟩⟩ := hown
    · injection h1 with _ h1 h3
      omega
    · injection h1 with _ _ h3
      omega
  have HO : Hid (w.ownsRow 0 50 4 (.slice p l.length cap) l.length (evs l)) := hown
  have HV : Hid (At w N (evl e)) := hv
  clear hown hv
  have q1 : ((l.length : Int) == (l.length : Int)) = true := by simp
  obtain ⟨vx, s0⟩ : ∃ vx, ∀ W : World, (Instr.sliceAt 42 (.slice p l.length cap) (some (.int .i64 (l.length : Int))) none none).run Tryz.prog W = .ok vx W := by
    refine ⟨.slice (if cap = l.length then p else p.map (·.add (l.length * 4))) 0 (cap - l.length), fun W => ?_⟩
    simp [Instr.sliceAt, run_underlying Tryz.underlying42, Instr.slice, Instr.sliceBounds, Instr.sliceBound, asIntOf, Result.andThen]
  go_enter Tryz.func53, Tryz.ntmps53
  go_upto_region 7 with fail
  refine wp_region_lit ?_
  refine wpList_val (.slice p l.length cap) w rfl rfl ?_
  simp only [Act.put, List.setIfInBounds_toArray, List.set_cons_zero, List.set_cons_succ]
  refine wpList_val (.slice (some ⟨N, 0, none⟩) 1 1) w rfl rfl ?_
  simp only [Act.put, List.setIfInBounds_toArray, List.set_cons_zero, List.set_cons_succ]
  refine wpList_plain rfl fun K hK => ?_
  refine wp_append_at w (.tmp 23) (.tmp 24) 42 rfl 0 50 i0 _ 4 32 Tryz.underlying42 hi hz0 hz1 hz2 (by rfl) (by omega) (.slice p l.length cap) l.length (evs l) rfl HO.out ⟨N, 0, none⟩ 1 1 (evl e) rfl rfl (fun j u hu => ?_) (fun u hu => evs_cell1 [e] u hu) (by unfold maxLen; omega) (by omega) (Nat.zero_le _) ?_
  · have := (HV.out j u hu).1
    rw [Addr.add_lit, Nat.zero_add]
    exact this
  · intro v' w' h1 h2 h3
    refine hK _ _ ?_
    have HE : Hid (InsPost w (.slice p l.length cap) (l.length + 1) (evs (l ++ [e])) (.returned v') w') := by
      refine ⟨v', rfl, ?_, ?_, ?_⟩
      · rw [So.evs_append]
        exact h1
      · rcases h3 with h3 | h3
        · exact .inl h3
        · exact .inr ⟨_, h3, Nat.le_refl _⟩
      · refine ⟨h2.os, h2.tape, h2.output, h2.size, fun b hb hs => h2.block b hb (fun x => hs x.symm)⟩
    clear h1 h2 h3 HO HV
    simp only [Act.put, List.setIfInBounds_toArray, List.set_cons_zero, List.set_cons_succ]
    go_wp2
    go_ret
    exact HE.out
theorem slice_from (g n cap : Nat) (x : Int) (i : Nat) (hx : x = i) (hi : i ≤ n) (hne : ¬ cap = i) (W : World) :
    (Instr.sliceAt 42 (.slice (some ⟨g, 0, none⟩) n cap) (some (.int .i64 x)) none none).run Tryz.prog W = .ok (.slice (some ⟨g, i * 4, none⟩) (n - i) (cap - i)) W := by
  subst hx
  have e1 : (if cap = i then some (⟨g, 0, none⟩ : Addr) else some (if i * 4 = 0 then ⟨g, 0, none⟩ else ⟨g, i * 4, none⟩)) = some ⟨g, i * 4, none⟩ := by
    rw [if_neg hne]
    split
    · rename_i h
      rw [h]
    · rfl
  simp [Instr.sliceAt, run_underlying Tryz.underlying42, Instr.slice, Instr.sliceBounds, Instr.sliceBound, asIntOf, Result.andThen, hi, Addr.add]
  exact e1
theorem slice_to (p : Option Addr) (n cap : Nat) (x : Int) (j : Nat) (hx : x = j) (hc : j ≤ cap) (W : World) :
    (Instr.sliceAt 42 (.slice p n cap) none (some (.int .i64 x)) none).run Tryz.prog W = .ok (.slice p j cap) W := by
  subst hx
  have hp : (if cap = 0 then p else Option.map (fun x => x.add 0) p) = p := by
    split
    · rfl
    · cases p <;> simp [Addr.add]
  simp [Instr.sliceAt, run_underlying Tryz.underlying42, Instr.slice, Instr.sliceBounds, Instr.sliceBound, asIntOf, Result.andThen, hc, hp]
theorem shift_list (cur : List Value) (l : List Ln.Ev) (e : Ln.Ev) (i : Nat) (hi : i < l.length) (hx : cur.take (l.length * 4) = evs l) (hc : (l.length + 1) * 4 ≤ cur.length) :
    (laid (laid cur ((i + 1) * 4) (evs (l.drop i))) (i * 4) (evl e)).take ((l.length + 1) * 4) = evs (So.insAt e l i) := by
  have hd : (evs (l.drop i)).length = (l.length - i) * 4 := by rw [So.evs_len, List.length_drop]
  have e0 : cur.take (i * 4) = evs (l.take i) := by
    have := congrArg (List.take (i * 4)) hx
    rw [List.take_take, Nat.min_eq_left (by omega), evs_take] at this
    exact this
  have hle : (evl e).length = 4 := rfl
  have h1 : (laid cur ((i + 1) * 4) (evs (l.drop i))).take (i * 4) = evs (l.take i) := by
    unfold laid
    rw [List.append_assoc, List.take_append_of_le_length (by rw [List.length_take]; omega), List.take_take, Nat.min_eq_left (by omega), e0]
  have h2 : (laid cur ((i + 1) * 4) (evs (l.drop i))).drop (i * 4 + 4) = evs (l.drop i) ++ cur.drop ((l.length + 1) * 4) := by
    unfold laid
    have hl : (cur.take ((i + 1) * 4)).length = i * 4 + 4 := by rw [List.length_take]; omega
    rw [List.append_assoc, ← hl, List.drop_left]
    congr 2
    omega
  rw [insAt_evs]
  unfold laid at h1 h2 ⊢
  rw [h1, hle, h2, ← List.append_assoc]
  have hl : (evs (l.take i) ++ evl e ++ evs (l.drop i)).length = (l.length + 1) * 4 := by
    rw [List.length_append, List.length_append, hd, So.evs_len, List.length_take, hle]
    omega
  rw [← hl, List.take_left]
set_option maxRecDepth 10000 in
set_option maxHeartbeats 4000000 in
theorem insert_shift (w : World) (g cap : Nat) (cur : Array Value) (l : List Ln.Ev) (e : Ln.Ev) (i N : Nat) (hg : w.heap[g]? = some (.cells cur 50 (0, 0))) (hsz : cur.size = cap * 4) (hxs : cur.toList.take (l.length * 4) = evs l) (hroom : l.length + 1 ≤ cap) (hm : cap ≤ maxLen) (hi : i < l.length) (hl : l.length ≤ 1000000)
    (hN : w.heap[N]? = some (.cells (evl e).toArray 50 (0, 0))) (hne : ¬ N = g) :
    Calls Tryz.prog 53 #[.slice (some ⟨g, 0, none⟩) l.length cap, .int .i64 i, .slice (some ⟨N, 0, none⟩) 1 1] w (InsPost w (.slice (some ⟨g, 0, none⟩) l.length cap) (l.length + 1) (evs (So.insAt e l i))) := by
  have hcl : cur.toList.length = cap * 4 := by rw [Array.length_toList]; exact hsz
  obtain ⟨R1, hR1⟩ : ∃ R1, R1 = (laid cur.toList ((i + 1) * 4) (evs (l.drop i))).toArray := ⟨_, rfl⟩
  obtain ⟨R2, hR2⟩ : ∃ R2, R2 = (laid R1.toList (i * 4) (evl e)).toArray := ⟨_, rfl⟩
  have hdl : (evs (l.drop i)).length = (l.length - i) * 4 := by rw [So.evs_len, List.length_drop]
  have l1 : R1.toList.length = cap * 4 := by rw [hR1]; show (laid _ _ _).length = _; rw [laid_len _ _ _ (by omega), hcl]
  have l2 : R2.size = cap * 4 := by rw [← Array.length_toList, hR2]; show (laid _ _ _).length = _; rw [laid_len _ _ _ (by rw [l1]; show i * 4 + 4 ≤ _; omega), l1]
  have hfin : R2.toList.take ((l.length + 1) * 4) = evs (So.insAt e l i) := by
    rw [hR2, hR1]
    exact shift_list cur.toList l e i hi hxs (by omega)
  have hcell : ∀ j v, (evs (l.drop i))[j]? = some v → w.cell? ⟨g, i * 4 + j, none⟩ = some v := fun j v hj => by
    rw [← evs_drop, List.getElem?_drop] at hj
    have hj2 : (evs l)[i * 4 + j]? = cur.toList[i * 4 + j]? := by
      rw [← hxs, List.getElem?_take_of_lt]
      have := (List.getElem?_eq_some_iff.1 hj).1
      rw [So.evs_len] at this
      omega
    rw [hj2, Array.getElem?_toList] at hj
    simp [World.cell?, hg, hj]
  have hcp1 : ∀ ty dc sc, (Builtin.copy_ #[42, 42] ty #[.slice (some ⟨g, (i + 1) * 4, none⟩) (l.length + 1 - (i + 1)) dc, .slice (some ⟨g, i * 4, none⟩) (l.length + 1 - i) sc]).run Tryz.prog w.drew = .ok (goInt (Nat.min (l.length + 1 - i) (l.length + 1 - (i + 1)))) (w.drew.setRow g R1) := fun ty dc sc => by
    have hmin : Nat.min (l.length + 1 - i) (l.length + 1 - (i + 1)) = l.length - i := by simp only [Nat.min_def]; split <;> omega
    rw [hR1]
    exact run_copy_rowK w.drew _ _ ty 50 4 g ((i + 1) * 4) _ dc ⟨g, i * 4, none⟩ _ sc cur 50 (evs (l.drop i)) Tryz.underlying42 sizeEvp hg (by rw [hdl, hmin]) (fun j v hj => by rw [Addr.add_lit]; exact hcell j v hj) (by rw [hdl]; omega) (fun v hv => evs_cell1 _ v hv)
  have hrow1 : (w.drew.setRow g R1).heap[g]? = some (.cells R1 50 (0, 0)) := setRow_row (w := w.drew) hg R1
  have hN1 : ∀ j v, (evl e)[j]? = some v → (w.drew.setRow g R1).cell? ⟨N, 0 + j, none⟩ = some v := fun j v hj => by
    rw [cell_setRow_other _ _ _ _ hne, Nat.zero_add]
    have : (evl e).toArray[j]? = some v := by simpa using hj
    show w.cell? _ = _
    simp [World.cell?, hN, this]
  have hcp2 : ∀ W : World, W.heap = (w.drew.setRow g R1).heap → ∀ ty dc, (Builtin.copy_ #[42, 42] ty #[.slice (some ⟨g, i * 4, none⟩) (l.length + 1 - i) dc, .slice (some ⟨N, 0, none⟩) 1 1]).run Tryz.prog W = .ok (goInt (Nat.min 1 (l.length + 1 - i))) (W.setRow g R2) := fun W hW ty dc => by
    have hmin : Nat.min 1 (l.length + 1 - i) = 1 := by simp only [Nat.min_def]; split <;> omega
    rw [hR2]
    refine run_copy_rowK W _ _ ty 50 4 g (i * 4) _ dc ⟨N, 0, none⟩ _ 1 R1 50 (evl e) Tryz.underlying42 sizeEvp (by rw [hW]; exact hrow1) (by rw [hmin]; rfl) (fun j v hj => ?_) ?_ (fun v hv => evs_cell1 [e] v hv)
    · rw [Addr.add_lit]
      have := hN1 j v hj
      unfold World.cell? at this ⊢
      rw [hW]
      exact this
    · rw [← Array.length_toList, l1]
      show i * 4 + 4 ≤ _
      omega
  have hov : ∀ lb cb, (callFunc 87 #[.slice (some ⟨N, 0, none⟩) 1 1, .slice (some ⟨g, (i + 1) * 4, none⟩) lb cb]).run Tryz.prog w = .ok (.value (.bool false)) w := fun lb cb => by
    rw [run_callFunc_extern Tryz.func87 (by kernel_rfl) (by kernel_rfl) (by kernel_rfl) (e := Extern.SlicesOverlaps.overlaps #[42, 42] #[4]) (by kernel_rfl),
      Lib.run_overlaps_apart w 42 4 50 Tryz.underlying42 4 Tryz.sizeOf50 ⟨N, 0, none⟩ ⟨g, (i + 1) * 4, none⟩ 1 1 lb cb hne 50 50 4 (cap * 4) (by simp [World.shape?, hN, evl]) (by simp [World.shape?, hg, hsz]) (by omega) (by simp [World.frozen?, hN]) (by simp [World.frozen?, hN])]
    rfl
  have s1 := fun W => slice_to (some ⟨g, 0, none⟩) l.length cap ((l.length : Int) + 1) (l.length + 1) (by omega) hroom W
  have s2 := fun W => slice_from g (l.length + 1) cap ((i : Int) + 1) (i + 1) (by omega) (by omega) (by omega) W
  have s3 := fun W => slice_from g (l.length + 1) cap (i : Int) i rfl (by omega) (by omega) W
  have s0 := fun W => slice_from g l.length cap (i : Int) i rfl (by omega) (by omega) W
  have HFin : Hid (∀ W : World, W.heap = ((w.drew.setRow g R1).setRow g R2).heap → W.os = w.os → W.tape = w.tape → W.output = w.output → InsPost w (.slice (some ⟨g, 0, none⟩) l.length cap) (l.length + 1) (evs (So.insAt e l i)) (.returned (.slice (some ⟨g, 0, none⟩) (l.length + 1) cap)) W) := fun W hW h1 h2 h3 => by
    have hrow2 := setRow_row (w := w.drew.setRow g R1) hrow1 R2
    refine ⟨_, rfl, ⟨by rw [So.evs_len, So.insAt_len _ _ _ (by omega)], .inr ⟨g, cap, R2, rfl, Nat.zero_le _, by rw [hW]; exact hrow2, hroom, hm, l2, hfin⟩⟩, .inl rfl, ?_⟩
    have k1 := keep_setRow w.drew g R1
    have k2 := keep_setRow (w.drew.setRow g R1) g R2
    refine ⟨h1, h2, h3, by rw [hW]; exact Nat.le_trans k1.size k2.size, fun b hb hs => ?_⟩
    have hbg : ¬ b = g := fun e => hs (by rw [e]; rfl)
    rw [hW, k2.block b (Nat.lt_of_lt_of_le hb k1.size) hbg, k1.block b hb hbg]
    rfl
  have f1 : ((i : Int) == (l.length : Int)) = false := by simp; omega
  have f2 : decide ((l.length : Int) + 1 > (cap : Int)) = false := by simp; omega
  have f3 : ¬ (cap : Int) < (l.length : Int) + 1 := by omega
  have hmx : cap ≤ 9223372036854775807 := hm
  have hw1 : IntKind.i64.wrap ((i : Int) + 1) = (i : Int) + 1 := by rw [IntKind.wrap_i64]; omega
  have HC1 : Hid (∀ ty dc sc, (Builtin.copy_ #[42, 42] ty #[.slice (some ⟨g, (i + 1) * 4, none⟩) (l.length + 1 - (i + 1)) dc, .slice (some ⟨g, i * 4, none⟩) (l.length + 1 - i) sc]).run Tryz.prog w.drew = .ok (goInt (Nat.min (l.length + 1 - i) (l.length + 1 - (i + 1)))) (w.drew.setRow g R1)) := hcp1
  have HC2 : Hid (∀ W : World, W.heap = (w.drew.setRow g R1).heap → ∀ ty dc, (Builtin.copy_ #[42, 42] ty #[.slice (some ⟨g, i * 4, none⟩) (l.length + 1 - i) dc, .slice (some ⟨N, 0, none⟩) 1 1]).run Tryz.prog W = .ok (goInt (Nat.min 1 (l.length + 1 - i))) (W.setRow g R2)) := hcp2
  clear hcp1 hcp2 hg hsz hxs hm hN hcl hR1 hR2 hdl l1 l2 hfin hcell hrow1 hN1
  go_enter Tryz.func53, Tryz.ntmps53
  go_upto_region 15 with (simp only [hov])
  refine wp_region_held_drew (S := fun _ => True) (by kernel_rfl) trivial (fun hHeld => ?_)
  clear s0 s1 hov
  refine wpAnyH_take (i := 0) (v := (.slice (some ⟨g, 0, none⟩) (l.length + 1) cap)) rfl (by kernel_rfl) (by kernel_rfl) (by kernel_rfl) (fun _ _ _ h => h) (Or.inl ⟨by rfl, fun wx hSw => by kernel_rfl⟩) (by assumption) ?_
  simp only [Act.put, List.getElem_toArray, List.getElem_cons_zero, List.setIfInBounds_toArray, List.set_cons_zero, List.set_cons_succ]
  refine wpAnyH_take (i := 1) (v := (.int .i64 i)) rfl (by kernel_rfl) (by kernel_rfl) (by kernel_rfl) (fun _ _ _ h => h) (Or.inl ⟨by rfl, fun wx hSw => by kernel_rfl⟩) (by assumption) ?_
  simp only [Act.put, List.getElem_toArray, List.getElem_cons_succ, List.getElem_cons_zero, List.setIfInBounds_toArray, List.set_cons_zero, List.set_cons_succ]
  refine wpAnyH_take (i := 2) (v := (.int .i64 1)) rfl (by kernel_rfl) (by kernel_rfl) (by kernel_rfl) (fun _ _ _ h => h) (Or.inl ⟨by rfl, fun wx hSw => by kernel_rfl⟩) (by assumption) ?_
  simp only [Act.put, List.getElem_toArray, List.getElem_cons_succ, List.getElem_cons_zero, List.setIfInBounds_toArray, List.set_cons_zero, List.set_cons_succ]
  refine wpAnyH_take (i := 3) (v := (.int .i64 ((i : Int) + 1))) rfl (by kernel_rfl) (by kernel_rfl) (by kernel_rfl) (fun _ _ _ h => h) (Or.inl ⟨by rfl, fun wx hSw => by ((try dsimp only at hSw); go_simp)⟩) (by assumption) ?_
  simp only [Act.put, List.getElem_toArray, List.getElem_cons_succ, List.getElem_cons_zero, List.setIfInBounds_toArray, List.set_cons_zero, List.set_cons_succ]
  refine wpAnyH_take (i := 4) (v := (.slice (some ⟨g, (i + 1) * 4, none⟩) (l.length + 1 - (i + 1)) (cap - (i + 1)))) rfl (by kernel_rfl) (by kernel_rfl) (by kernel_rfl) (fun _ _ _ h => h) (Or.inl ⟨by rfl, fun wx hSw => by ((try dsimp only at hSw); go_simp)⟩) (by assumption) ?_
  simp only [Act.put, List.getElem_toArray, List.getElem_cons_succ, List.getElem_cons_zero, List.setIfInBounds_toArray, List.set_cons_zero, List.set_cons_succ]
  refine wpAnyH_take (i := 5) (v := (.slice (some ⟨g, 0, none⟩) (l.length + 1) cap)) rfl (by kernel_rfl) (by kernel_rfl) (by kernel_rfl) (fun _ _ _ h => h) (Or.inl ⟨by rfl, fun wx hSw => by kernel_rfl⟩) (by assumption) ?_
  simp only [Act.put, List.getElem_toArray, List.getElem_cons_succ, List.getElem_cons_zero, List.setIfInBounds_toArray, List.set_cons_zero, List.set_cons_succ]
  refine wpAnyH_take (i := 6) (v := (.int .i64 i)) rfl (by kernel_rfl) (by kernel_rfl) (by kernel_rfl) (fun _ _ _ h => h) (Or.inl ⟨by rfl, fun wx hSw => by kernel_rfl⟩) (by assumption) ?_
  simp only [Act.put, List.getElem_toArray, List.getElem_cons_succ, List.getElem_cons_zero, List.setIfInBounds_toArray, List.set_cons_zero, List.set_cons_succ]
  refine wpAnyH_take (i := 7) (v := (.slice (some ⟨g, i * 4, none⟩) (l.length + 1 - i) (cap - i))) rfl (by kernel_rfl) (by kernel_rfl) (by kernel_rfl) (fun _ _ _ h => h) (Or.inl ⟨by rfl, fun wx hSw => by ((try dsimp only at hSw); go_simp)⟩) (by assumption) ?_
  simp only [Act.put, List.getElem_toArray, List.getElem_cons_succ, List.getElem_cons_zero, List.setIfInBounds_toArray, List.set_cons_zero, List.set_cons_succ]
  refine wpAnyH_ready (rs := [8]) (by kernel_rfl) (by simp) ?_
  refine AllReadyH.cons rfl (fun K hK => ?_) AllReadyH.nil
  rw [if_pos (by rfl)]
  refine wp_copy_at _ (.tmp 73) (.tmp 76) 42 42 rfl _ _ rfl rfl (HC1.out _ _ _) ?_
  refine hK.out _ _ trivial (fun _ => ?_)
  clear hK K
  try simp only [Act.put, List.getElem_toArray, List.getElem_cons_succ, List.getElem_cons_zero, List.setIfInBounds_toArray, List.set_cons_zero, List.set_cons_succ]
  refine wpAnyH_done (by kernel_rfl) ?_ _
  generalize hwd : w.drew.setRow g R1 = V at *
  have HV : Hid (V.os = w.os ∧ V.tape = w.tape ∧ V.output = w.output) := by subst hwd; exact ⟨rfl, rfl, rfl⟩
  clear hwd hHeld
  go_upto_region 16 with fail
  refine wp_region_lit ?_
  refine wpList_val (.slice (some ⟨g, 0, none⟩) (l.length + 1) cap) V rfl rfl ?_
  simp only [Act.put, List.setIfInBounds_toArray, List.set_cons_zero, List.set_cons_succ]
  refine wpList_val (.int .i64 i) V rfl rfl ?_
  simp only [Act.put, List.setIfInBounds_toArray, List.set_cons_zero, List.set_cons_succ]
  refine wpList_val (.slice (some ⟨g, i * 4, none⟩) (l.length + 1 - i) (cap - i)) V rfl (by go_simp) ?_
  simp only [Act.put, List.setIfInBounds_toArray, List.set_cons_zero, List.set_cons_succ]
  refine wpList_val (.slice (some ⟨N, 0, none⟩) 1 1) V rfl rfl ?_
  simp only [Act.put, List.setIfInBounds_toArray, List.set_cons_zero, List.set_cons_succ]
  refine wpList_copy_at V rfl (.tmp 80) (.tmp 81) 42 42 rfl _ _ rfl rfl (HC2.out V rfl _ _) ?_
  simp only [Act.put, List.setIfInBounds_toArray, List.set_cons_zero, List.set_cons_succ]
  have HW : Hid (InsPost w (.slice (some ⟨g, 0, none⟩) l.length cap) (l.length + 1) (evs (So.insAt e l i)) (.returned (.slice (some ⟨g, 0, none⟩) (l.length + 1) cap)) (V.setRow g R2)) := by
    exact HFin.out _ rfl HV.out.1 HV.out.2.1 HV.out.2.2
  clear HFin HC1 HC2 s2 s3
  go_wp2
  go_ret
  exact HW.out
end Go.Proofs.YtanndhoimpnhpaaGreatDoor
namespace Go.Proofs.YtanndhoimpnhpaaGreatDoor
open Go.RowKit Cal
theorem grow_list (row : List Value) (l : List Ln.Ev) (e : Ln.Ev) (i : Nat) (hi : i < l.length) (hx : row.take (i * 4) = evs (l.take i)) :
    (laid (laid row (i * 4) (evl e)) ((i + 1) * 4) (evs (l.drop i))).take ((l.length + 1) * 4) = evs (So.insAt e l i) := by
  have hd : (evs (l.drop i)).length = (l.length - i) * 4 := by rw [So.evs_len, List.length_drop]
  have hle : (evl e).length = 4 := rfl
  have ht : (evs (l.take i)).length = i * 4 := by rw [So.evs_len, List.length_take]; omega
  have h1 : (laid row (i * 4) (evl e)).take ((i + 1) * 4) = evs (l.take i) ++ evl e := by
    unfold laid
    rw [hx]
    have hl : (evs (l.take i) ++ evl e).length = (i + 1) * 4 := by rw [List.length_append, ht, hle]; omega
    rw [← hl, List.take_left]
  rw [insAt_evs]
  unfold laid at h1 ⊢
  rw [h1]
  have hl : (evs (l.take i) ++ evl e ++ evs (l.drop i)).length = (l.length + 1) * 4 := by
    rw [List.length_append, List.length_append, hd, ht, hle]
    omega
  rw [← hl, List.take_left]
set_option maxRecDepth 10000 in
set_option maxHeartbeats 4000000 in
theorem insert_grow (w : World) (g cap : Nat) (cur : Array Value) (l : List Ln.Ev) (e : Ln.Ev) (i N : Nat) (hg : w.heap[g]? = some (.cells cur 50 (0, 0))) (hxs : cur.toList.take (l.length * 4) = evs l) (hnc : l.length ≤ cap) (hroom : cap < l.length + 1) (hi : i < l.length) (hl : l.length ≤ 1000000)
    (hN : w.heap[N]? = some (.cells (evl e).toArray 50 (0, 0))) :
    Calls Tryz.prog 53 #[.slice (some ⟨g, 0, none⟩) l.length cap, .int .i64 i, .slice (some ⟨N, 0, none⟩) 1 1] w (InsPost w (.slice (some ⟨g, 0, none⟩) l.length cap) (l.length + 1) (evs (So.insAt e l i))) := by
  obtain ⟨i0, hi0, hz0, hz1, hz2⟩ := info_parts infoEvp
  have hgl : g < w.heap.size := (Array.getElem?_eq_some_iff.1 hg).1
  have hNl : N < w.heap.size := (Array.getElem?_eq_some_iff.1 hN).1
  have hcell : ∀ q j v, (evs (l.drop q))[j]? = some v → w.cell? ⟨g, q * 4 + j, none⟩ = some v := fun q j v hj => by
    rw [← evs_drop, List.getElem?_drop] at hj
    have hj2 : (evs l)[q * 4 + j]? = cur.toList[q * 4 + j]? := by
      rw [← hxs, List.getElem?_take_of_lt]
      have := (List.getElem?_eq_some_iff.1 hj).1
      rw [So.evs_len] at this
      omega
    rw [hj2, Array.getElem?_toList] at hj
    simp [World.cell?, hg, hj]
  have hold : (Builtin.firstCells i0.size i (.slice (some ⟨g, 0, none⟩) i cap)).run Tryz.prog w.drew = .ok (evs (l.take i)).toArray w.drew := by
    rw [hz1]
    refine run_firstCells_some w.drew 4 i ⟨g, 0, none⟩ i cap (evs (l.take i)) (by rw [So.evs_len, List.length_take]; omega) (fun j v hj => ?_)
    rw [Addr.add_lit]
    rw [← evs_take, List.getElem?_take] at hj
    split at hj
    · have := hcell 0 j v (by rw [List.drop_zero]; exact hj)
      rw [Nat.zero_mul] at this
      exact this
    · cases hj
  obtain ⟨C, hC⟩ : ∃ C, C = grownCap w (l.length + 1) cap 50 := ⟨_, rfl⟩
  have hCn : l.length + 1 ≤ C := by rw [hC]; exact grownCap_ge w _ _ _
  have hCm : C ≤ maxLen := by rw [hC]; exact grownCap_le_maxLen w (l.length + 1) cap 50 (by unfold maxLen; omega)
  obtain ⟨ROW, hROW⟩ : ∃ ROW : Array Value, ROW = (evs (l.take i)).toArray ++ Builtin.zeroCells (Value.agg #[.int .i64 0, .int .i64 0, .int .i64 0, .int .i64 0]).cells (l.length + 1 - i) ++ Builtin.zeroCells (Value.agg #[.int .i64 0, .int .i64 0, .int .i64 0, .int .i64 0]).cells (C - (l.length + 1)) := ⟨_, rfl⟩
  have hkk : (l.length : Int) + 1 - (i : Int) = ((l.length + 1 - i : Nat) : Int) := by omega
  have hik : i + (l.length + 1 - i) = l.length + 1 := by omega
  have hrz : ∀ ty, (Builtin.append_ #[42, 3] ty #[.slice (some ⟨g, 0, none⟩) i cap, .int .i64 ((l.length : Int) + 1 - (i : Int))]).run Tryz.prog w = .ok (.slice (some ⟨w.heap.size, 0, none⟩) (l.length + 1) C) (w.drew.alloc (.cells ROW 50)) := fun ty => by
    have h := Lib.run_append_grow_zeros w 42 3 ty 50 i0 _ .i64 .i64 Tryz.underlying42 Tryz.underlying3 hi0 hz0 (some ⟨g, 0, none⟩) i cap (evs (l.take i)) hold (l.length + 1 - i) (by omega) (by omega) (by omega) (by omega) (by rw [hz2]; omega) (by rw [hz2, hik]; exact growslice_fits hroom (by omega))
    rw [hik, ← hC, ← hROW] at h
    rw [hkk]
    exact h
  have htl : (evs (l.take i)).length = i * 4 := by rw [So.evs_len, List.length_take]; omega
  have hzl : ∀ n : Nat, (Builtin.zeroCells (Value.agg #[.int .i64 0, .int .i64 0, .int .i64 0, .int .i64 0]).cells n).size = n * 4 := fun n => by
    have e4 : (Value.agg #[.int .i64 0, .int .i64 0, .int .i64 0, .int .i64 0]).cells.size = 4 := rfl
    unfold Builtin.zeroCells
    rw [Array.size_map, Array.size_range, e4]
  have hRs : ROW.size = C * 4 := by
    rw [hROW, Array.size_append, Array.size_append, hzl, hzl, List.size_toArray, htl]
    omega
  have hRt : ROW.toList.take (i * 4) = evs (l.take i) := by
    rw [hROW, Array.toList_append, Array.toList_append, List.append_assoc, ← htl, List.take_left]
  obtain ⟨R1, hR1⟩ : ∃ R1, R1 = (laid ROW.toList (i * 4) (evl e)).toArray := ⟨_, rfl⟩
  obtain ⟨R2, hR2⟩ : ∃ R2, R2 = (laid R1.toList ((i + 1) * 4) (evs (l.drop i))).toArray := ⟨_, rfl⟩
  have hdl : (evs (l.drop i)).length = (l.length - i) * 4 := by rw [So.evs_len, List.length_drop]
  have lR : ROW.toList.length = C * 4 := by rw [Array.length_toList]; exact hRs
  have l1 : R1.toList.length = C * 4 := by rw [hR1]; show (laid _ _ _).length = _; rw [laid_len _ _ _ (by rw [lR]; show i * 4 + 4 ≤ _; omega), lR]
  have l2 : R2.size = C * 4 := by rw [← Array.length_toList, hR2]; show (laid _ _ _).length = _; rw [laid_len _ _ _ (by omega), l1]
  have hfin : R2.toList.take ((l.length + 1) * 4) = evs (So.insAt e l i) := by
    rw [hR2, hR1]
    exact grow_list ROW.toList l e i hi hRt
  obtain ⟨W1, hW1⟩ : ∃ W1, W1 = w.drew.alloc (.cells ROW 50) := ⟨_, rfl⟩
  have hrow0 : W1.heap[w.heap.size]? = some (.cells ROW 50 (0, 0)) := by
    rw [hW1]
    show (w.heap.push (.cells ROW 50))[w.heap.size]? = _
    simp
  have hold1 : ∀ b, b < w.heap.size → W1.heap[b]? = w.heap[b]? := fun b hb => by
    rw [hW1]
    exact ((Below.refl w.heap.size w.drew).alloc (Nat.le_refl _) (.cells ROW 50)).block b hb
  have hN1 : ∀ j v, (evl e)[j]? = some v → W1.cell? ⟨N, 0 + j, none⟩ = some v := fun j v hj => by
    have : (evl e).toArray[j]? = some v := by simpa using hj
    rw [Nat.zero_add]
    simp [World.cell?, hold1 N hNl, hN, this]
  have hcp1 : ∀ ty dc, (Builtin.copy_ #[42, 42] ty #[.slice (some ⟨w.heap.size, i * 4, none⟩) (l.length + 1 - i) dc, .slice (some ⟨N, 0, none⟩) 1 1]).run Tryz.prog W1 = .ok (goInt (Nat.min 1 (l.length + 1 - i))) (W1.setRow w.heap.size R1) := fun ty dc => by
    have hmin : Nat.min 1 (l.length + 1 - i) = 1 := by simp only [Nat.min_def]; split <;> omega
    rw [hR1]
    refine run_copy_rowK W1 _ _ ty 50 4 w.heap.size (i * 4) _ dc ⟨N, 0, none⟩ _ 1 ROW 50 (evl e) Tryz.underlying42 sizeEvp hrow0 (by rw [hmin]; rfl) (fun j v hj => ?_) ?_ (fun v hv => evs_cell1 [e] v hv)
    · rw [Addr.add_lit]
      exact hN1 j v hj
    · rw [hRs]
      show i * 4 + 4 ≤ _
      omega
  have hrow1 : (W1.setRow w.heap.size R1).heap[w.heap.size]? = some (.cells R1 50 (0, 0)) := setRow_row hrow0 R1
  have hcp2 : ∀ W : World, W.heap = (W1.setRow w.heap.size R1).heap → ∀ ty dc sc, (Builtin.copy_ #[42, 42] ty #[.slice (some ⟨w.heap.size, (i + 1) * 4, none⟩) (l.length + 1 - (i + 1)) dc, .slice (some ⟨g, i * 4, none⟩) (l.length - i) sc]).run Tryz.prog W = .ok (goInt (Nat.min (l.length - i) (l.length + 1 - (i + 1)))) (W.setRow w.heap.size R2) := fun W hW ty dc sc => by
    have hmin : Nat.min (l.length - i) (l.length + 1 - (i + 1)) = l.length - i := by simp only [Nat.min_def]; split <;> omega
    rw [hR2]
    refine run_copy_rowK W _ _ ty 50 4 w.heap.size ((i + 1) * 4) _ dc ⟨g, i * 4, none⟩ _ sc R1 50 (evs (l.drop i)) Tryz.underlying42 sizeEvp (by rw [hW]; exact hrow1) (by rw [hdl, hmin]) (fun j v hj => ?_) (by rw [hdl, ← Array.length_toList, l1]; omega) (fun v hv => evs_cell1 _ v hv)
    rw [Addr.add_lit]
    have h1 := hcell i j v hj
    have h2 : (W1.setRow w.heap.size R1).cell? ⟨g, i * 4 + j, none⟩ = w.cell? ⟨g, i * 4 + j, none⟩ := by
      rw [cell_setRow_other _ _ _ _ (by show ¬ g = w.heap.size; omega)]
      simp [World.cell?, hold1 g hgl]
    rw [← h2] at h1
    unfold World.cell? at h1 ⊢
    rw [hW]
    exact h1
  have HFin : Hid (∀ W : World, W.heap = ((W1.setRow w.heap.size R1).setRow w.heap.size R2).heap → W.os = w.os → W.tape = w.tape → W.output = w.output → InsPost w (.slice (some ⟨g, 0, none⟩) l.length cap) (l.length + 1) (evs (So.insAt e l i)) (.returned (.slice (some ⟨w.heap.size, 0, none⟩) (l.length + 1) C)) W) := fun W hW h1 h2 h3 => by
    have hrow2 := setRow_row hrow1 R2
    refine ⟨_, rfl, ⟨by rw [So.evs_len, So.insAt_len _ _ _ (by omega)], .inr ⟨w.heap.size, C, R2, rfl, Nat.zero_le _, by rw [hW]; exact hrow2, hCn, hCm, l2, hfin⟩⟩, .inr ⟨w.heap.size, rfl, Nat.le_refl _⟩, ?_⟩
    have k1 := keep_setRow W1 w.heap.size R1
    have k2 := keep_setRow (W1.setRow w.heap.size R1) w.heap.size R2
    have hs1 : w.heap.size ≤ W1.heap.size := by rw [hW1]; simp [World.alloc]
    refine ⟨h1, h2, h3, by rw [hW]; exact Nat.le_trans hs1 (Nat.le_trans k1.size k2.size), fun b hb hs => ?_⟩
    have hbg : ¬ b = w.heap.size := by omega
    rw [hW, k2.block b (Nat.lt_of_lt_of_le hb (Nat.le_trans hs1 k1.size)) hbg, k1.block b (Nat.lt_of_lt_of_le hb hs1) hbg, hold1 b hb]
  have HE1 : Hid (W1.os = w.os ∧ W1.tape = w.tape ∧ W1.output = w.output) := by rw [hW1]; exact ⟨rfl, rfl, rfl⟩
  rw [← hW1] at hrz
  have hmx : cap ≤ 9223372036854775807 := by omega
  have hCx : C ≤ 9223372036854775807 := hCm
  have hw1 : IntKind.i64.wrap ((i : Int) + 1) = (i : Int) + 1 := by rw [IntKind.wrap_i64]; omega
  have hw2 : IntKind.i64.wrap ((l.length : Int) + 1) = (l.length : Int) + 1 := by rw [IntKind.wrap_i64]; omega
  have hw3 : IntKind.i64.wrap ((l.length : Int) + 1 - (i : Int)) = (l.length : Int) + 1 - (i : Int) := by rw [IntKind.wrap_i64]; omega
  have s0 := fun W => slice_from g l.length cap (i : Int) i rfl (by omega) (by omega) W
  have s1 := fun W => slice_to (some ⟨g, 0, none⟩) l.length cap (i : Int) i rfl (by omega) W
  have s2 := fun W => slice_from w.heap.size (l.length + 1) C (i : Int) i rfl (by omega) (by omega) W
  have s3 := fun W => slice_from w.heap.size (l.length + 1) C ((i : Int) + 1) (i + 1) (by omega) (by omega) (by omega) W
  have f1 : ((i : Int) == (l.length : Int)) = false := by simp; omega
  have f3 : (cap : Int) < (l.length : Int) + 1 := by omega
  have HRZ : Hid (∀ ty, (Builtin.append_ #[42, 3] ty #[.slice (some ⟨g, 0, none⟩) i cap, .int .i64 ((l.length : Int) + 1 - (i : Int))]).run Tryz.prog w = .ok (.slice (some ⟨w.heap.size, 0, none⟩) (l.length + 1) C) W1) := hrz
  have HC1 : Hid (∀ ty dc, (Builtin.copy_ #[42, 42] ty #[.slice (some ⟨w.heap.size, i * 4, none⟩) (l.length + 1 - i) dc, .slice (some ⟨N, 0, none⟩) 1 1]).run Tryz.prog W1 = .ok (goInt (Nat.min 1 (l.length + 1 - i))) (W1.setRow w.heap.size R1)) := hcp1
  have HC2 : Hid (∀ W : World, W.heap = (W1.setRow w.heap.size R1).heap → ∀ ty dc sc, (Builtin.copy_ #[42, 42] ty #[.slice (some ⟨w.heap.size, (i + 1) * 4, none⟩) (l.length + 1 - (i + 1)) dc, .slice (some ⟨g, i * 4, none⟩) (l.length - i) sc]).run Tryz.prog W = .ok (goInt (Nat.min (l.length - i) (l.length + 1 - (i + 1)))) (W.setRow w.heap.size R2)) := hcp2
  clear hrz hcp1 hcp2 hg hxs hN hcell hold hC hCm hROW hkk hik htl hzl hRs hRt hR1 hR2 hdl lR l1 l2 hfin hrow0 hold1 hN1 hrow1 hW1 hgl hNl hi0 hz0 hz1 hz2
  go_enter Tryz.func53, Tryz.ntmps53
  go_upto_region 9 with fail
  refine wp_region_lit ?_
  refine wpList_val (.slice (some ⟨g, 0, none⟩) l.length cap) w rfl rfl ?_
  simp only [Act.put, List.setIfInBounds_toArray, List.set_cons_zero, List.set_cons_succ]
  refine wpList_val (.int .i64 i) w rfl rfl ?_
  simp only [Act.put, List.setIfInBounds_toArray, List.set_cons_zero, List.set_cons_succ]
  refine wpList_val (.slice (some ⟨g, 0, none⟩) i cap) w rfl (by go_simp) ?_
  simp only [Act.put, List.setIfInBounds_toArray, List.set_cons_zero, List.set_cons_succ]
  refine wpList_val (.int .i64 l.length) w rfl rfl ?_
  simp only [Act.put, List.setIfInBounds_toArray, List.set_cons_zero, List.set_cons_succ]
  refine wpList_val (.int .i64 1) w rfl rfl ?_
  simp only [Act.put, List.setIfInBounds_toArray, List.set_cons_zero, List.set_cons_succ]
  refine wpList_val (.int .i64 ((l.length : Int) + 1)) w rfl (by go_simp) ?_
  simp only [Act.put, List.setIfInBounds_toArray, List.set_cons_zero, List.set_cons_succ]
  refine wpList_val (.int .i64 i) w rfl rfl ?_
  simp only [Act.put, List.setIfInBounds_toArray, List.set_cons_zero, List.set_cons_succ]
  refine wpList_val (.int .i64 ((l.length : Int) + 1 - (i : Int))) w rfl (by go_simp) ?_
  simp only [Act.put, List.setIfInBounds_toArray, List.set_cons_zero, List.set_cons_succ]
  refine wpList_append_to w rfl (.tmp 34) (.tmp 39) 42 3 rfl _ _ rfl rfl (HRZ.out _) ?_
  simp only [Act.put, List.setIfInBounds_toArray, List.set_cons_zero, List.set_cons_succ]
  clear HRZ s1
  go_upto_region 10 with fail
  refine wp_region_lit ?_
  refine wpList_val (.slice (some ⟨w.heap.size, 0, none⟩) (l.length + 1) C) W1 rfl rfl ?_
  simp only [Act.put, List.setIfInBounds_toArray, List.set_cons_zero, List.set_cons_succ]
  refine wpList_val (.int .i64 i) W1 rfl rfl ?_
  simp only [Act.put, List.setIfInBounds_toArray, List.set_cons_zero, List.set_cons_succ]
  refine wpList_val (.slice (some ⟨w.heap.size, i * 4, none⟩) (l.length + 1 - i) (C - i)) W1 rfl (by go_simp) ?_
  simp only [Act.put, List.setIfInBounds_toArray, List.set_cons_zero, List.set_cons_succ]
  refine wpList_val (.slice (some ⟨N, 0, none⟩) 1 1) W1 rfl rfl ?_
  simp only [Act.put, List.setIfInBounds_toArray, List.set_cons_zero, List.set_cons_succ]
  refine wpList_copy_at W1 rfl (.tmp 43) (.tmp 44) 42 42 rfl _ _ rfl rfl (HC1.out _ _) ?_
  simp only [Act.put, List.setIfInBounds_toArray, List.set_cons_zero, List.set_cons_succ]
  clear HC1 s2
  generalize hwd : W1.setRow w.heap.size R1 = V at *
  have HV : Hid (V.os = w.os ∧ V.tape = w.tape ∧ V.output = w.output) := by subst hwd; exact HE1.out
  clear hwd HE1
  go_upto_region 11 with fail
  refine wp_region_held_drew (S := fun _ => True) (by kernel_rfl) trivial (fun hHeld => ?_)
  refine wpAnyH_take (i := 0) (v := (.slice (some ⟨w.heap.size, 0, none⟩) (l.length + 1) C)) rfl (by kernel_rfl) (by kernel_rfl) (by kernel_rfl) (fun _ _ _ h => h) (Or.inl ⟨by rfl, fun wx hSw => by kernel_rfl⟩) (by assumption) ?_
  simp only [Act.put, List.getElem_toArray, List.getElem_cons_zero, List.setIfInBounds_toArray, List.set_cons_zero, List.set_cons_succ]
  refine wpAnyH_take (i := 1) (v := (.int .i64 i)) rfl (by kernel_rfl) (by kernel_rfl) (by kernel_rfl) (fun _ _ _ h => h) (Or.inl ⟨by rfl, fun wx hSw => by kernel_rfl⟩) (by assumption) ?_
  simp only [Act.put, List.getElem_toArray, List.getElem_cons_succ, List.getElem_cons_zero, List.setIfInBounds_toArray, List.set_cons_zero, List.set_cons_succ]
  refine wpAnyH_take (i := 2) (v := (.int .i64 1)) rfl (by kernel_rfl) (by kernel_rfl) (by kernel_rfl) (fun _ _ _ h => h) (Or.inl ⟨by rfl, fun wx hSw => by kernel_rfl⟩) (by assumption) ?_
  simp only [Act.put, List.getElem_toArray, List.getElem_cons_succ, List.getElem_cons_zero, List.setIfInBounds_toArray, List.set_cons_zero, List.set_cons_succ]
  refine wpAnyH_take (i := 3) (v := (.int .i64 ((i : Int) + 1))) rfl (by kernel_rfl) (by kernel_rfl) (by kernel_rfl) (fun _ _ _ h => h) (Or.inl ⟨by rfl, fun wx hSw => by ((try dsimp only at hSw); go_simp)⟩) (by assumption) ?_
  simp only [Act.put, List.getElem_toArray, List.getElem_cons_succ, List.getElem_cons_zero, List.setIfInBounds_toArray, List.set_cons_zero, List.set_cons_succ]
  refine wpAnyH_take (i := 4) (v := (.slice (some ⟨w.heap.size, (i + 1) * 4, none⟩) (l.length + 1 - (i + 1)) (C - (i + 1)))) rfl (by kernel_rfl) (by kernel_rfl) (by kernel_rfl) (fun _ _ _ h => h) (Or.inl ⟨by rfl, fun wx hSw => by ((try dsimp only at hSw); go_simp)⟩) (by assumption) ?_
  simp only [Act.put, List.getElem_toArray, List.getElem_cons_succ, List.getElem_cons_zero, List.setIfInBounds_toArray, List.set_cons_zero, List.set_cons_succ]
  refine wpAnyH_take (i := 5) (v := (.slice (some ⟨g, 0, none⟩) l.length cap)) rfl (by kernel_rfl) (by kernel_rfl) (by kernel_rfl) (fun _ _ _ h => h) (Or.inl ⟨by rfl, fun wx hSw => by kernel_rfl⟩) (by assumption) ?_
  simp only [Act.put, List.getElem_toArray, List.getElem_cons_succ, List.getElem_cons_zero, List.setIfInBounds_toArray, List.set_cons_zero, List.set_cons_succ]
  refine wpAnyH_take (i := 6) (v := (.int .i64 i)) rfl (by kernel_rfl) (by kernel_rfl) (by kernel_rfl) (fun _ _ _ h => h) (Or.inl ⟨by rfl, fun wx hSw => by kernel_rfl⟩) (by assumption) ?_
  simp only [Act.put, List.getElem_toArray, List.getElem_cons_succ, List.getElem_cons_zero, List.setIfInBounds_toArray, List.set_cons_zero, List.set_cons_succ]
  refine wpAnyH_take (i := 7) (v := (.slice (some ⟨g, i * 4, none⟩) (l.length - i) (cap - i))) rfl (by kernel_rfl) (by kernel_rfl) (by kernel_rfl) (fun _ _ _ h => h) (Or.inl ⟨by rfl, fun wx hSw => by ((try dsimp only at hSw); go_simp)⟩) (by assumption) ?_
  simp only [Act.put, List.getElem_toArray, List.getElem_cons_succ, List.getElem_cons_zero, List.setIfInBounds_toArray, List.set_cons_zero, List.set_cons_succ]
  refine wpAnyH_ready (rs := [8]) (by kernel_rfl) (by simp) ?_
  refine AllReadyH.cons rfl (fun K hK => ?_) AllReadyH.nil
  rw [if_pos (by rfl)]
  refine wp_copy_at _ (.tmp 50) (.tmp 53) 42 42 rfl _ _ rfl rfl (HC2.out V.drew rfl _ _ _) ?_
  refine hK.out _ _ trivial (fun _ => ?_)
  clear hK K
  try simp only [Act.put, List.getElem_toArray, List.getElem_cons_succ, List.getElem_cons_zero, List.setIfInBounds_toArray, List.set_cons_zero, List.set_cons_succ]
  refine wpAnyH_done (by kernel_rfl) ?_ _
  have HW : Hid (InsPost w (.slice (some ⟨g, 0, none⟩) l.length cap) (l.length + 1) (evs (So.insAt e l i)) (.returned (.slice (some ⟨w.heap.size, 0, none⟩) (l.length + 1) C)) (V.drew.setRow w.heap.size R2)) := HFin.out _ rfl HV.out.1 HV.out.2.1 HV.out.2.2
  clear HFin HC2 s0 s3 hHeld
  go_wp2
  go_ret
  exact HW.out
theorem insert_any (w : World) (v : Value) (l : List Ln.Ev) (e : Ln.Ev) (i N : Nat) (hown : w.ownsRow 0 50 4 v l.length (evs l)) (hN : w.heap[N]? = some (.cells (evl e).toArray 50 (0, 0))) (hne : ∀ b, v.ownBlock = some b → ¬ N = b) (hi : i ≤ l.length) (hl : l.length ≤ 1000000) :
    Calls Tryz.prog 53 #[v, .int .i64 i, .slice (some ⟨N, 0, none⟩) 1 1] w (InsPost w v (l.length + 1) (evs (So.insAt e l i))) := by
  by_cases h : i = l.length
  · subst h
    rw [So.insAt_end]
    refine insert_end w v l e N hown (fun j u hj => ?_) hl
    have : (evl e).toArray[j]? = some u := by simpa using hj
    exact ⟨by simp [World.cell?, hN, this], by simp [World.frozen?, hN]⟩
  · obtain ⟨_, ⟨h1, h2⟩ | ⟨g, cap, cur, rfl, _, hg, hnc, hm, hsz, hxs⟩⟩ := hown
    · omega
    · by_cases hr : l.length + 1 ≤ cap
      · exact insert_shift w g cap cur l e i N hg hsz hxs hr hm (by omega) hl hN (hne g rfl)
      · exact insert_grow w g cap cur l e i N hg hxs hnc (by omega) (by omega) hl hN
end Go.Proofs.YtanndhoimpnhpaaGreatDoor
