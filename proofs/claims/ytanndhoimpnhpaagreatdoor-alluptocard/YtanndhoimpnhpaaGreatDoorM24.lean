import Derived.Test.YtanndhoimpnhpaaGreatDoorM23
import Derived.Test.YtanndhoimpnhpaaGreatDoorM22
import Derived.Deep.RegionHeld3
namespace Go.Proofs.YtanndhoimpnhpaaGreatDoor
open Go.ChangeShapes Go.WideShapes Go.ChangeAt Go.RowKit Cal
theorem wp_skipD {Pr : Program} {o : Oper} {a : Act} {w : World} {K : Act → World → Prop} {Q : Exit → Act → World → Prop} (w' : World) (hrun : (execOp a.eval o).run Pr w = .ok .skip w') (h : K (a.put o.dst undef) w') : Oper.wp Pr o a w K Q := by
  unfold Oper.wp
  rw [hrun]
  exact h
def CamePost (w : World) (TS : TypeId) (sz W : Nat) (pre X : List Value) (wv rv : Value) (Ws Rs : List Value) (v : Value) (n : Nat) (xs : List Value) (e : Ending) (w' : World) : Prop :=
  e = .returned (.tuple #[]) ∧ ∃ wv' rv' r, At w' W (pre ++ wv' :: rv' :: X) ∧ CameTo w TS sz W wv rv Ws Rs v n xs wv' rv' r w'
set_option maxRecDepth 10000 in
set_option maxHeartbeats 4000000 in
theorem came_core (w : World) (W : Nat) (X : List Value) (b0 b1 wv rv l : Value) (Ws Rs : List Value) (n : Nat) (xs : List Value) (hX : At w W (b0 :: b1 :: wv :: rv :: X)) (how : w.ownsRow 0 38 1 wv Ws.length Ws) (hor : w.ownsRow 0 38 1 rv Ws.length Rs) (hl : OwT w 1 l n xs) (h1c : ∀ u ∈ xs, u.oneCell' = true) (hWs : Ws.length ≤ 1000000000) (hn : n ≤ 4000000000000) (a1 : ∀ b, wv.ownBlock = some b → ¬ b = W ∧ ¬ rv.ownBlock = some b) (a2 : ∀ b, rv.ownBlock = some b → ¬ b = W) (a3 : ∀ b, l.ownBlock = some b → ¬ b = W ∧ ¬ wv.ownBlock = some b) :
    Calls Tryz.prog 70 #[.pointer (some ⟨W, 0, none⟩), l] w (CamePost w 38 1 W [b0, b1] X wv rv Ws Rs l n xs) := by
  obtain ⟨i0, hi0, hz0, hz1, hz2⟩ := info_parts bsI
  obtain ⟨i1, hi1, hy0, hy1, hy2⟩ := info_parts bsIs
  have hrl : Rs.length = Ws.length := by have := hor.1; omega
  obtain ⟨wp, wcap, rfl⟩ := own_slice how
  obtain ⟨rp, rcap, rfl⟩ := own_slice hor
  have hWl : W < w.heap.size := At.lt hX
  have HX : Hid (At w W (b0 :: b1 :: .slice wp Ws.length wcap :: .slice rp Ws.length rcap :: X)) := hX
  have HOw : Hid (w.ownsRow 0 38 1 (.slice wp Ws.length wcap) Ws.length Ws) := how
  have HOr : Hid (w.ownsRow 0 38 1 (.slice rp Ws.length rcap) Ws.length Rs) := hor
  have HL : Hid (OwT w 1 l n xs) := hl
  have HH1 : Hid (∀ u ∈ xs, u.oneCell' = true) := h1c
  have HA1 : Hid (∀ b, (Value.slice wp Ws.length wcap).ownBlock = some b → ¬ b = W ∧ ¬ (Value.slice rp Ws.length rcap).ownBlock = some b) := a1
  have HA2 : Hid (∀ b, (Value.slice rp Ws.length rcap).ownBlock = some b → ¬ b = W) := a2
  have HA3 : Hid (∀ b, l.ownBlock = some b → ¬ b = W ∧ ¬ (Value.slice wp Ws.length wcap).ownBlock = some b) := a3
  obtain ⟨p, cap, rfl⟩ := hl.slice
  have c2 : w.cell? ⟨W, 2, none⟩ = some (.slice wp Ws.length wcap) := hX.cell 2 rfl
  have hB1 : Below w.heap.size w (w.alloc (.cells #[.slice p n cap] 38)) := (Below.refl _ _).alloc (Nat.le_refl _) _
  have hO1 : (w.alloc (.cells #[.slice p n cap] 38)).ownsRow 0 38 1 (.slice wp Ws.length wcap) Ws.length Ws := own_keep (S := fun _ => False) how (Keep.below hB1) (fun _ _ x => x)
  have hA1 : At (w.alloc (.cells #[.slice p n cap] 38)) W (b0 :: b1 :: .slice wp Ws.length wcap :: .slice rp Ws.length rcap :: X) := At.keep (S := fun _ => False) hX (Keep.below hB1) (fun x => x)
  have hne1 : ∀ j u, [Value.slice p n cap][j]? = some u → (w.alloc (.cells #[.slice p n cap] 38)).cell? ((⟨w.heap.size, 0, none⟩ : Addr).add j) = some u := fun j u hu => by
    have := (At.alloc w [.slice p n cap] 38 j u hu).1
    rw [Addr.add_lit, Nat.zero_add]
    exact this
  clear hX how hor hl h1c a1 a2 a3
  go_enter Tryz.func70, Tryz.ntmps70
  go_upto_region 0 with fail
  refine wp_region_lit ?_
  refine wpList_val (.pointer (some ⟨W, 0, none⟩)) w rfl rfl ?_
  simp only [Act.put, List.setIfInBounds_toArray, List.set_cons_zero, List.set_cons_succ]
  refine wpList_val (.pointer (some ⟨W, 0, none⟩)) w rfl rfl ?_
  simp only [Act.put, List.setIfInBounds_toArray, List.set_cons_zero, List.set_cons_succ]
  refine wpList_val (.pointer (some ⟨W, 0, none⟩)) w rfl (by go_simp) ?_
  simp only [Act.put, List.setIfInBounds_toArray, List.set_cons_zero, List.set_cons_succ]
  refine wpList_val (.pointer (some ⟨W, 2, none⟩)) w rfl (by go_simp) ?_
  simp only [Act.put, List.setIfInBounds_toArray, List.set_cons_zero, List.set_cons_succ]
  refine wpList_val (.slice wp Ws.length wcap) w rfl (by go_simp) ?_
  simp only [Act.put, List.setIfInBounds_toArray, List.set_cons_zero, List.set_cons_succ]
  refine wpList_val (.slice p n cap) w rfl rfl ?_
  simp only [Act.put, List.setIfInBounds_toArray, List.set_cons_zero, List.set_cons_succ]
  refine wpList_val (.slice (some ⟨w.heap.size, 0, none⟩) 1 1) (w.alloc (.cells #[.slice p n cap] 38)) rfl (by kernel_rfl) ?_
  simp only [Act.put, List.setIfInBounds_toArray, List.set_cons_zero, List.set_cons_succ]
  refine wpList_append_own_at _ rfl (.tmp 8) (.tmp 10) 62 rfl 0 38 i1 _ 1 24 Tryz.underlying62 hi1 hy0 hy1 hy2 rfl (by omega) _ Ws.length Ws rfl hO1 ⟨w.heap.size, 0, none⟩ 1 1 _ rfl rfl hne1 (fun u hu => ?_) (by unfold maxLen; omega) (by omega) (Nat.zero_le _) ?_
  · rw [List.mem_singleton] at hu
    subst hu
    rfl
  intro wv' w1 ho1 hg1 _ hat1
  have hA2 : At w1 W (b0 :: b1 :: .slice wp Ws.length wcap :: .slice rp Ws.length rcap :: X) := At.keep (S := fun b => (Value.slice wp Ws.length wcap).ownBlock = some b) hA1 ⟨hg1.os, hg1.tape, hg1.output, hg1.size, fun b hb hs => hg1.block b hb (fun e => hs e.symm)⟩ (fun e => (HA1.out W e).1 rfl)
  obtain ⟨wg, wcap', rfl, _, _⟩ := ho1.form (by omega)
  have c2 : w1.cell? ⟨W, 2, none⟩ = some (.slice wp Ws.length wcap) := hA2.cell 2 rfl
  have f2 : w1.frozen? ⟨W, 2, none⟩ = false := hA2.free 2 rfl
  have HR : Hid (RowTo w 38 W (.slice wp Ws.length wcap) Ws (.slice p n cap) (.slice (some ⟨wg, 0, none⟩) (Ws.length + 1) wcap') (w1.setCell ⟨W, 2, none⟩ (.slice (some ⟨wg, 0, none⟩) (Ws.length + 1) wcap'))) := row_to hB1 (fun b hb => (HA1.out b hb).1) hWl ho1 hg1 hat1 2 _
  have HA3w : Hid (At (w1.setCell ⟨W, 2, none⟩ (.slice (some ⟨wg, 0, none⟩) (Ws.length + 1) wcap')) W (b0 :: b1 :: .slice (some ⟨wg, 0, none⟩) (Ws.length + 1) wcap' :: .slice rp Ws.length rcap :: X)) := hA2.set 2 (by simp) _
  clear hA2 hA1 hO1 hne1 hB1 ho1 hg1 hat1
  simp only [Act.put, List.setIfInBounds_toArray, List.set_cons_zero, List.set_cons_succ]
  go_upto_region 1 with fail
  clear c2 f2
  generalize w1.setCell ⟨W, 2, none⟩ (.slice (some ⟨wg, 0, none⟩) (Ws.length + 1) wcap') = w2 at *
  have hc3 : w2.cell? ⟨W, 3, none⟩ = some (.slice rp Ws.length rcap) := HA3w.out.cell 3 rfl
  have hL2 : OwT w2 1 (.slice p n cap) n xs := HL.out.keep HR.out.kp (fun b hb hx => by
    rcases hx with hx | hx
    · exact (HA3.out b hb).1 hx
    · exact (HA3.out b hb).2 hx)
  refine wp_region_held_drew (S := fun _ => True) (by kernel_rfl) trivial (fun hHeld => ?_)
  refine wpAnyH_take (i := 0) (v := (.pointer (some ⟨W, 0, none⟩))) rfl (by kernel_rfl) (by kernel_rfl) (by kernel_rfl) (fun _ _ _ h => h) (Or.inl ⟨by rfl, fun wx hSw => by kernel_rfl⟩) (by assumption) ?_
  simp only [Act.put, List.getElem_toArray, List.getElem_cons_zero, List.setIfInBounds_toArray, List.set_cons_zero, List.set_cons_succ]
  refine wpAnyH_take (i := 1) (v := (.pointer (some ⟨W, 0, none⟩))) rfl (by kernel_rfl) (by kernel_rfl) (by kernel_rfl) (fun _ _ _ h => h) (Or.inl ⟨by rfl, fun wx hSw => by kernel_rfl⟩) (by assumption) ?_
  simp only [Act.put, List.getElem_toArray, List.getElem_cons_succ, List.getElem_cons_zero, List.setIfInBounds_toArray, List.set_cons_zero, List.set_cons_succ]
  refine wpAnyH_take (i := 2) (v := (.pointer (some ⟨W, 0, none⟩))) rfl (by kernel_rfl) (by kernel_rfl) (by kernel_rfl) (fun _ _ _ h => h) (Or.inl ⟨by rfl, fun wx hSw => by ((try dsimp only at hSw); go_simp)⟩) (by assumption) ?_
  simp only [Act.put, List.getElem_toArray, List.getElem_cons_succ, List.getElem_cons_zero, List.setIfInBounds_toArray, List.set_cons_zero, List.set_cons_succ]
  refine wpAnyH_take (i := 3) (v := (.pointer (some ⟨W, 3, none⟩))) rfl (by kernel_rfl) (by kernel_rfl) (by kernel_rfl) (fun _ _ _ h => h) (Or.inl ⟨by rfl, fun wx hSw => by ((try dsimp only at hSw); go_simp)⟩) (by assumption) ?_
  simp only [Act.put, List.getElem_toArray, List.getElem_cons_succ, List.getElem_cons_zero, List.setIfInBounds_toArray, List.set_cons_zero, List.set_cons_succ]
  refine wpAnyH_take (i := 5) (v := (.slice p n cap)) rfl (by kernel_rfl) (by kernel_rfl) (by kernel_rfl) (fun _ _ _ h => h) (Or.inl ⟨by rfl, fun wx hSw => by kernel_rfl⟩) (by assumption) ?_
  simp only [Act.put, List.getElem_toArray, List.getElem_cons_succ, List.getElem_cons_zero, List.setIfInBounds_toArray, List.set_cons_zero, List.set_cons_succ]
  have hc3d : w2.drew.cell? ⟨W, 3, none⟩ = some (.slice rp Ws.length rcap) := hc3
  refine wpAnyH_ready (rs := [4, 6]) (by kernel_rfl) (by simp) ?_
  refine AllReadyH.cons rfl (fun K hK => ?_) (AllReadyH.cons rfl (fun K hK => ?_) AllReadyH.nil)
  · rw [if_pos (by rfl)]
    refine wp_valD (.slice rp Ws.length rcap) w2.drew (by go_simp) ?_
    refine hK.out _ _ trivial (fun _ => ?_)
    clear hK K
    try simp only [Act.put, List.getElem_toArray, List.getElem_cons_succ, List.getElem_cons_zero, List.setIfInBounds_toArray, List.set_cons_zero, List.set_cons_succ]
    refine wpAnyH_ready (rs := [6]) (by kernel_rfl) (by simp) ?_
    refine AllReadyH.cons rfl (fun K hK => ?_) AllReadyH.nil
    rw [if_pos (by rfl)]
    refine wp_append_copy w2.drew (.const (.slice none 0 0)) (.tmp 19) 38 rfl 3 i0 _ 1 8 Tryz.underlying38 hi0 hz0 hz1 hz2 rfl (by omega) (.slice p n cap) n xs rfl rfl hL2 HH1.out (by unfold maxLen; omega) (by omega) ?_
    intro r w3 hr3 hb3 hrb3
    have hb3 : Below w2.heap.size w2 w3 := (Below.refl w2.heap.size w2).drew.trans hb3
    have hrb3 : ∀ b, r.ownBlock = some b → w2.heap.size ≤ b := fun b hb => Nat.le_of_eq (hrb3 b hb).symm
    have hA3 : At w3 W (b0 :: b1 :: .slice (some ⟨wg, 0, none⟩) (Ws.length + 1) wcap' :: .slice rp Ws.length rcap :: X) := At.keep (S := fun _ => False) HA3w.out (Keep.below hb3) (fun x => x)
    have hO3 : w3.ownsRow 0 38 1 (.slice rp Ws.length rcap) Ws.length Rs := own_keep (S := fun _ => False) (own_keep HOr.out HR.out.kp (fun b hb hx => by
      rcases hx with hx | hx
      · exact HA2.out b hb hx
      · exact (HA1.out b hx).2 hb)) (Keep.below hb3) (fun _ _ x => x)
    refine hK.out _ _ trivial (fun _ => ?_)
    clear hK K hc3 hL2 hc3d
    try simp only [Act.put, List.getElem_toArray, List.getElem_cons_succ, List.getElem_cons_zero, List.setIfInBounds_toArray, List.set_cons_zero, List.set_cons_succ]
    obtain ⟨rq, rqc, rfl⟩ := hr3.slice
    refine wpAnyH_ready (rs := [7]) (by kernel_rfl) (by simp) ?_
    refine AllReadyH.cons rfl (fun K hK => ?_) AllReadyH.nil
    rw [if_pos (by rfl)]
    have hB4 : Below w3.heap.size w3 (w3.alloc (.cells #[.slice rq n rqc] 38)) := (Below.refl _ _).alloc (Nat.le_refl _) _
    refine wp_valD (.slice (some ⟨w3.heap.size, 0, none⟩) 1 1) (w3.alloc (.cells #[.slice rq n rqc] 38)) (by kernel_rfl) ?_
    have hA4 : At (w3.alloc (.cells #[.slice rq n rqc] 38)) W (b0 :: b1 :: .slice (some ⟨wg, 0, none⟩) (Ws.length + 1) wcap' :: .slice rp Ws.length rcap :: X) := At.keep (S := fun _ => False) hA3 (Keep.below hB4) (fun x => x)
    have hO4 : (w3.alloc (.cells #[.slice rq n rqc] 38)).ownsRow 0 38 1 (.slice rp Ws.length rcap) Ws.length Rs := own_keep (S := fun _ => False) hO3 (Keep.below hB4) (fun _ _ x => x)
    have hne4 : ∀ j u, [Value.slice rq n rqc][j]? = some u → (w3.alloc (.cells #[.slice rq n rqc] 38)).cell? ((⟨w3.heap.size, 0, none⟩ : Addr).add j) = some u := fun j u hu => by
      have := (At.alloc w3 [.slice rq n rqc] 38 j u hu).1
      rw [Addr.add_lit, Nat.zero_add]
      exact this
    refine hK.out _ _ trivial (fun _ => ?_)
    clear hK K hA3 hO3
    try simp only [Act.put, List.getElem_toArray, List.getElem_cons_succ, List.getElem_cons_zero, List.setIfInBounds_toArray, List.set_cons_zero, List.set_cons_succ]
    refine wpAnyH_ready (rs := [8]) (by kernel_rfl) (by simp) ?_
    refine AllReadyH.cons rfl (fun K hK => ?_) AllReadyH.nil
    rw [if_pos (by rfl)]
    refine wp_append_at (w3.alloc (.cells #[.slice rq n rqc] 38)) (.tmp 18) (.tmp 21) 62 rfl 0 38 i1 _ 1 24 Tryz.underlying62 hi1 hy0 hy1 hy2 rfl (by omega) (.slice rp Ws.length rcap) Ws.length Rs rfl hO4 ⟨w3.heap.size, 0, none⟩ 1 1 _ rfl rfl hne4 (fun u hu => ?_) (by unfold maxLen; omega) (by omega) (Nat.zero_le _) ?_
    · rw [List.mem_singleton] at hu
      subst hu
      rfl
    intro rv' w4 ho4 hg4 hat4
    have hA5 : At w4 W (b0 :: b1 :: .slice (some ⟨wg, 0, none⟩) (Ws.length + 1) wcap' :: .slice rp Ws.length rcap :: X) := At.keep (S := fun b => (Value.slice rp Ws.length rcap).ownBlock = some b) hA4 ⟨hg4.os, hg4.tape, hg4.output, hg4.size, fun b hb hs => hg4.block b hb (fun e => hs e.symm)⟩ (fun e => HA2.out W e rfl)
    refine hK.out _ _ trivial (fun _ => ?_)
    clear hK K hA4 hO4 hne4
    try simp only [Act.put, List.getElem_toArray, List.getElem_cons_succ, List.getElem_cons_zero, List.setIfInBounds_toArray, List.set_cons_zero, List.set_cons_succ]
    obtain ⟨rg, rcap', rfl, _, _⟩ := ho4.form (by omega)
    refine wpAnyH_take (i := 9) (v := (.pointer (some ⟨W, 0, none⟩))) rfl (by kernel_rfl) (by kernel_rfl) (by kernel_rfl) (fun _ _ _ h => h) (Or.inl ⟨by rfl, fun wx hSw => by ((try dsimp only at hSw); go_simp)⟩) (by assumption) ?_
    simp only [Act.put, List.getElem_toArray, List.getElem_cons_succ, List.getElem_cons_zero, List.setIfInBounds_toArray, List.set_cons_zero, List.set_cons_succ]
    refine wpAnyH_take (i := 10) (v := (.pointer (some ⟨W, 3, none⟩))) rfl (by kernel_rfl) (by kernel_rfl) (by kernel_rfl) (fun _ _ _ h => h) (Or.inl ⟨by rfl, fun wx hSw => by ((try dsimp only at hSw); go_simp)⟩) (by assumption) ?_
    simp only [Act.put, List.getElem_toArray, List.getElem_cons_succ, List.getElem_cons_zero, List.setIfInBounds_toArray, List.set_cons_zero, List.set_cons_succ]
    have c3 : w4.cell? ⟨W, 3, none⟩ = some (.slice rp Ws.length rcap) := hA5.cell 3 rfl
    have f3 : w4.frozen? ⟨W, 3, none⟩ = false := hA5.free 3 rfl
    have hWl3 : W < w3.heap.size := by have := HR.out.kp.size; have := hb3.size; omega
    have ho5 : w4.ownsRow 0 38 1 (.slice (some ⟨rg, 0, none⟩) (Ws.length + 1) rcap') (Rs.length + 1) (Rs ++ [.slice rq n rqc]) := by rw [hrl]; exact ho4
    have HE : Hid (CamePost w 38 1 W [b0, b1] X (.slice wp Ws.length wcap) (.slice rp Ws.length rcap) Ws Rs (.slice p n cap) n xs (.returned (.tuple #[])) (w4.setCell ⟨W, 3, none⟩ (.slice (some ⟨rg, 0, none⟩) (Ws.length + 1) rcap'))) :=
      ⟨rfl, _, _, _, hA5.set 3 (by simp) _, came_make hrl hWl HOw.out HOr.out HA1.out HR.out hb3 hr3 hrb3 (row_to hB4 HA2.out hWl3 ho5 hg4 hat4 3 _)⟩
    refine wpAnyH_ready (rs := [11]) (by kernel_rfl) (by simp) ?_
    refine AllReadyH.cons rfl (fun K hK => ?_) AllReadyH.nil
    rw [if_pos (by rfl)]
    refine wp_skipD (w4.setCell ⟨W, 3, none⟩ (.slice (some ⟨rg, 0, none⟩) (Ws.length + 1) rcap')) (by go_simp) ?_
    refine hK.out _ _ trivial (fun _ => ?_)
    clear hK K hA5 ho4 ho5 hg4 hat4 c3 f3 hr3 hb3 hrb3 hB4 HOw HOr HL HH1 HA1 HA2 HA3 HX HR HA3w
    refine wpAnyH_done (by kernel_rfl) ?_ _
    go_wp2
    go_end0
    exact HE.out
  · rw [if_pos (by rfl)]
    refine wp_append_copy w2.drew (.const (.slice none 0 0)) (.tmp 19) 38 rfl 3 i0 _ 1 8 Tryz.underlying38 hi0 hz0 hz1 hz2 rfl (by omega) (.slice p n cap) n xs rfl rfl hL2 HH1.out (by unfold maxLen; omega) (by omega) ?_
    intro r w3 hr3 hb3 hrb3
    have hb3 : Below w2.heap.size w2 w3 := (Below.refl w2.heap.size w2).drew.trans hb3
    have hrb3 : ∀ b, r.ownBlock = some b → w2.heap.size ≤ b := fun b hb => Nat.le_of_eq (hrb3 b hb).symm
    have hA3 : At w3 W (b0 :: b1 :: .slice (some ⟨wg, 0, none⟩) (Ws.length + 1) wcap' :: .slice rp Ws.length rcap :: X) := At.keep (S := fun _ => False) HA3w.out (Keep.below hb3) (fun x => x)
    have hO3 : w3.ownsRow 0 38 1 (.slice rp Ws.length rcap) Ws.length Rs := own_keep (S := fun _ => False) (own_keep HOr.out HR.out.kp (fun b hb hx => by
      rcases hx with hx | hx
      · exact HA2.out b hb hx
      · exact (HA1.out b hx).2 hb)) (Keep.below hb3) (fun _ _ x => x)
    refine hK.out _ _ trivial (fun _ => ?_)
    clear hK K hc3 hL2 hc3d
    try simp only [Act.put, List.getElem_toArray, List.getElem_cons_succ, List.getElem_cons_zero, List.setIfInBounds_toArray, List.set_cons_zero, List.set_cons_succ]
    obtain ⟨rq, rqc, rfl⟩ := hr3.slice
    refine wpAnyH_ready (rs := [4, 7]) (by kernel_rfl) (by simp) ?_
    refine AllReadyH.cons rfl (fun K hK => ?_) (AllReadyH.cons rfl (fun K hK => ?_) AllReadyH.nil)
    · have hc4 : w3.cell? ⟨W, 3, none⟩ = some (.slice rp Ws.length rcap) := hA3.cell 3 rfl
      rw [if_pos (by rfl)]
      refine wp_valD (.slice rp Ws.length rcap) w3 (by go_simp) ?_
      refine hK.out _ _ trivial (fun _ => ?_)
      clear hK K hc4
      try simp only [Act.put, List.getElem_toArray, List.getElem_cons_succ, List.getElem_cons_zero, List.setIfInBounds_toArray, List.set_cons_zero, List.set_cons_succ]
      refine wpAnyH_ready (rs := [7]) (by kernel_rfl) (by simp) ?_
      refine AllReadyH.cons rfl (fun K hK => ?_) AllReadyH.nil
      rw [if_pos (by rfl)]
      have hB4 : Below w3.heap.size w3 (w3.alloc (.cells #[.slice rq n rqc] 38)) := (Below.refl _ _).alloc (Nat.le_refl _) _
      refine wp_valD (.slice (some ⟨w3.heap.size, 0, none⟩) 1 1) (w3.alloc (.cells #[.slice rq n rqc] 38)) (by kernel_rfl) ?_
      have hA4 : At (w3.alloc (.cells #[.slice rq n rqc] 38)) W (b0 :: b1 :: .slice (some ⟨wg, 0, none⟩) (Ws.length + 1) wcap' :: .slice rp Ws.length rcap :: X) := At.keep (S := fun _ => False) hA3 (Keep.below hB4) (fun x => x)
      have hO4 : (w3.alloc (.cells #[.slice rq n rqc] 38)).ownsRow 0 38 1 (.slice rp Ws.length rcap) Ws.length Rs := own_keep (S := fun _ => False) hO3 (Keep.below hB4) (fun _ _ x => x)
      have hne4 : ∀ j u, [Value.slice rq n rqc][j]? = some u → (w3.alloc (.cells #[.slice rq n rqc] 38)).cell? ((⟨w3.heap.size, 0, none⟩ : Addr).add j) = some u := fun j u hu => by
        have := (At.alloc w3 [.slice rq n rqc] 38 j u hu).1
        rw [Addr.add_lit, Nat.zero_add]
        exact this
      refine hK.out _ _ trivial (fun _ => ?_)
      clear hK K hA3 hO3
      try simp only [Act.put, List.getElem_toArray, List.getElem_cons_succ, List.getElem_cons_zero, List.setIfInBounds_toArray, List.set_cons_zero, List.set_cons_succ]
      refine wpAnyH_ready (rs := [8]) (by kernel_rfl) (by simp) ?_
      refine AllReadyH.cons rfl (fun K hK => ?_) AllReadyH.nil
      rw [if_pos (by rfl)]
      refine wp_append_at (w3.alloc (.cells #[.slice rq n rqc] 38)) (.tmp 18) (.tmp 21) 62 rfl 0 38 i1 _ 1 24 Tryz.underlying62 hi1 hy0 hy1 hy2 rfl (by omega) (.slice rp Ws.length rcap) Ws.length Rs rfl hO4 ⟨w3.heap.size, 0, none⟩ 1 1 _ rfl rfl hne4 (fun u hu => ?_) (by unfold maxLen; omega) (by omega) (Nat.zero_le _) ?_
      · rw [List.mem_singleton] at hu
        subst hu
        rfl
      intro rv' w4 ho4 hg4 hat4
      have hA5 : At w4 W (b0 :: b1 :: .slice (some ⟨wg, 0, none⟩) (Ws.length + 1) wcap' :: .slice rp Ws.length rcap :: X) := At.keep (S := fun b => (Value.slice rp Ws.length rcap).ownBlock = some b) hA4 ⟨hg4.os, hg4.tape, hg4.output, hg4.size, fun b hb hs => hg4.block b hb (fun e => hs e.symm)⟩ (fun e => HA2.out W e rfl)
      refine hK.out _ _ trivial (fun _ => ?_)
      clear hK K hA4 hO4 hne4
      try simp only [Act.put, List.getElem_toArray, List.getElem_cons_succ, List.getElem_cons_zero, List.setIfInBounds_toArray, List.set_cons_zero, List.set_cons_succ]
      obtain ⟨rg, rcap', rfl, _, _⟩ := ho4.form (by omega)
      refine wpAnyH_take (i := 9) (v := (.pointer (some ⟨W, 0, none⟩))) rfl (by kernel_rfl) (by kernel_rfl) (by kernel_rfl) (fun _ _ _ h => h) (Or.inl ⟨by rfl, fun wx hSw => by ((try dsimp only at hSw); go_simp)⟩) (by assumption) ?_
      simp only [Act.put, List.getElem_toArray, List.getElem_cons_succ, List.getElem_cons_zero, List.setIfInBounds_toArray, List.set_cons_zero, List.set_cons_succ]
      refine wpAnyH_take (i := 10) (v := (.pointer (some ⟨W, 3, none⟩))) rfl (by kernel_rfl) (by kernel_rfl) (by kernel_rfl) (fun _ _ _ h => h) (Or.inl ⟨by rfl, fun wx hSw => by ((try dsimp only at hSw); go_simp)⟩) (by assumption) ?_
      simp only [Act.put, List.getElem_toArray, List.getElem_cons_succ, List.getElem_cons_zero, List.setIfInBounds_toArray, List.set_cons_zero, List.set_cons_succ]
      have c3 : w4.cell? ⟨W, 3, none⟩ = some (.slice rp Ws.length rcap) := hA5.cell 3 rfl
      have f3 : w4.frozen? ⟨W, 3, none⟩ = false := hA5.free 3 rfl
      have hWl3 : W < w3.heap.size := by have := HR.out.kp.size; have := hb3.size; omega
      have ho5 : w4.ownsRow 0 38 1 (.slice (some ⟨rg, 0, none⟩) (Ws.length + 1) rcap') (Rs.length + 1) (Rs ++ [.slice rq n rqc]) := by rw [hrl]; exact ho4
      have HE : Hid (CamePost w 38 1 W [b0, b1] X (.slice wp Ws.length wcap) (.slice rp Ws.length rcap) Ws Rs (.slice p n cap) n xs (.returned (.tuple #[])) (w4.setCell ⟨W, 3, none⟩ (.slice (some ⟨rg, 0, none⟩) (Ws.length + 1) rcap'))) :=
        ⟨rfl, _, _, _, hA5.set 3 (by simp) _, came_make hrl hWl HOw.out HOr.out HA1.out HR.out hb3 hr3 hrb3 (row_to hB4 HA2.out hWl3 ho5 hg4 hat4 3 _)⟩
      refine wpAnyH_ready (rs := [11]) (by kernel_rfl) (by simp) ?_
      refine AllReadyH.cons rfl (fun K hK => ?_) AllReadyH.nil
      rw [if_pos (by rfl)]
      refine wp_skipD (w4.setCell ⟨W, 3, none⟩ (.slice (some ⟨rg, 0, none⟩) (Ws.length + 1) rcap')) (by go_simp) ?_
      refine hK.out _ _ trivial (fun _ => ?_)
      clear hK K hA5 ho4 ho5 hg4 hat4 c3 f3 hr3 hb3 hrb3 hB4 HOw HOr HL HH1 HA1 HA2 HA3 HX HR HA3w
      refine wpAnyH_done (by kernel_rfl) ?_ _
      go_wp2
      go_end0
      exact HE.out
    · rw [if_pos (by rfl)]
      have hB4 : Below w3.heap.size w3 (w3.alloc (.cells #[.slice rq n rqc] 38)) := (Below.refl _ _).alloc (Nat.le_refl _) _
      refine wp_valD (.slice (some ⟨w3.heap.size, 0, none⟩) 1 1) (w3.alloc (.cells #[.slice rq n rqc] 38)) (by kernel_rfl) ?_
      have hA4 : At (w3.alloc (.cells #[.slice rq n rqc] 38)) W (b0 :: b1 :: .slice (some ⟨wg, 0, none⟩) (Ws.length + 1) wcap' :: .slice rp Ws.length rcap :: X) := At.keep (S := fun _ => False) hA3 (Keep.below hB4) (fun x => x)
      have hO4 : (w3.alloc (.cells #[.slice rq n rqc] 38)).ownsRow 0 38 1 (.slice rp Ws.length rcap) Ws.length Rs := own_keep (S := fun _ => False) hO3 (Keep.below hB4) (fun _ _ x => x)
      have hne4 : ∀ j u, [Value.slice rq n rqc][j]? = some u → (w3.alloc (.cells #[.slice rq n rqc] 38)).cell? ((⟨w3.heap.size, 0, none⟩ : Addr).add j) = some u := fun j u hu => by
        have := (At.alloc w3 [.slice rq n rqc] 38 j u hu).1
        rw [Addr.add_lit, Nat.zero_add]
        exact this
      refine hK.out _ _ trivial (fun _ => ?_)
      clear hK K hA3 hO3
      try simp only [Act.put, List.getElem_toArray, List.getElem_cons_succ, List.getElem_cons_zero, List.setIfInBounds_toArray, List.set_cons_zero, List.set_cons_succ]
      have hc5 : (w3.alloc (.cells #[.slice rq n rqc] 38)).cell? ⟨W, 3, none⟩ = some (.slice rp Ws.length rcap) := hA4.cell 3 rfl
      refine wpAnyH_ready (rs := [4]) (by kernel_rfl) (by simp) ?_
      refine AllReadyH.cons rfl (fun K hK => ?_) AllReadyH.nil
      rw [if_pos (by rfl)]
      refine wp_valD (.slice rp Ws.length rcap) (w3.alloc (.cells #[.slice rq n rqc] 38)) (by go_simp) ?_
      refine hK.out _ _ trivial (fun _ => ?_)
      clear hK K hc5
      try simp only [Act.put, List.getElem_toArray, List.getElem_cons_succ, List.getElem_cons_zero, List.setIfInBounds_toArray, List.set_cons_zero, List.set_cons_succ]
      refine wpAnyH_ready (rs := [8]) (by kernel_rfl) (by simp) ?_
      refine AllReadyH.cons rfl (fun K hK => ?_) AllReadyH.nil
      rw [if_pos (by rfl)]
      refine wp_append_at (w3.alloc (.cells #[.slice rq n rqc] 38)) (.tmp 18) (.tmp 21) 62 rfl 0 38 i1 _ 1 24 Tryz.underlying62 hi1 hy0 hy1 hy2 rfl (by omega) (.slice rp Ws.length rcap) Ws.length Rs rfl hO4 ⟨w3.heap.size, 0, none⟩ 1 1 _ rfl rfl hne4 (fun u hu => ?_) (by unfold maxLen; omega) (by omega) (Nat.zero_le _) ?_
      · rw [List.mem_singleton] at hu
        subst hu
        rfl
      intro rv' w4 ho4 hg4 hat4
      have hA5 : At w4 W (b0 :: b1 :: .slice (some ⟨wg, 0, none⟩) (Ws.length + 1) wcap' :: .slice rp Ws.length rcap :: X) := At.keep (S := fun b => (Value.slice rp Ws.length rcap).ownBlock = some b) hA4 ⟨hg4.os, hg4.tape, hg4.output, hg4.size, fun b hb hs => hg4.block b hb (fun e => hs e.symm)⟩ (fun e => HA2.out W e rfl)
      refine hK.out _ _ trivial (fun _ => ?_)
      clear hK K hA4 hO4 hne4
      try simp only [Act.put, List.getElem_toArray, List.getElem_cons_succ, List.getElem_cons_zero, List.setIfInBounds_toArray, List.set_cons_zero, List.set_cons_succ]
      obtain ⟨rg, rcap', rfl, _, _⟩ := ho4.form (by omega)
      refine wpAnyH_take (i := 9) (v := (.pointer (some ⟨W, 0, none⟩))) rfl (by kernel_rfl) (by kernel_rfl) (by kernel_rfl) (fun _ _ _ h => h) (Or.inl ⟨by rfl, fun wx hSw => by ((try dsimp only at hSw); go_simp)⟩) (by assumption) ?_
      simp only [Act.put, List.getElem_toArray, List.getElem_cons_succ, List.getElem_cons_zero, List.setIfInBounds_toArray, List.set_cons_zero, List.set_cons_succ]
      refine wpAnyH_take (i := 10) (v := (.pointer (some ⟨W, 3, none⟩))) rfl (by kernel_rfl) (by kernel_rfl) (by kernel_rfl) (fun _ _ _ h => h) (Or.inl ⟨by rfl, fun wx hSw => by ((try dsimp only at hSw); go_simp)⟩) (by assumption) ?_
      simp only [Act.put, List.getElem_toArray, List.getElem_cons_succ, List.getElem_cons_zero, List.setIfInBounds_toArray, List.set_cons_zero, List.set_cons_succ]
      have c3 : w4.cell? ⟨W, 3, none⟩ = some (.slice rp Ws.length rcap) := hA5.cell 3 rfl
      have f3 : w4.frozen? ⟨W, 3, none⟩ = false := hA5.free 3 rfl
      have hWl3 : W < w3.heap.size := by have := HR.out.kp.size; have := hb3.size; omega
      have ho5 : w4.ownsRow 0 38 1 (.slice (some ⟨rg, 0, none⟩) (Ws.length + 1) rcap') (Rs.length + 1) (Rs ++ [.slice rq n rqc]) := by rw [hrl]; exact ho4
      have HE : Hid (CamePost w 38 1 W [b0, b1] X (.slice wp Ws.length wcap) (.slice rp Ws.length rcap) Ws Rs (.slice p n cap) n xs (.returned (.tuple #[])) (w4.setCell ⟨W, 3, none⟩ (.slice (some ⟨rg, 0, none⟩) (Ws.length + 1) rcap'))) :=
        ⟨rfl, _, _, _, hA5.set 3 (by simp) _, came_make hrl hWl HOw.out HOr.out HA1.out HR.out hb3 hr3 hrb3 (row_to hB4 HA2.out hWl3 ho5 hg4 hat4 3 _)⟩
      refine wpAnyH_ready (rs := [11]) (by kernel_rfl) (by simp) ?_
      refine AllReadyH.cons rfl (fun K hK => ?_) AllReadyH.nil
      rw [if_pos (by rfl)]
      refine wp_skipD (w4.setCell ⟨W, 3, none⟩ (.slice (some ⟨rg, 0, none⟩) (Ws.length + 1) rcap')) (by go_simp) ?_
      refine hK.out _ _ trivial (fun _ => ?_)
      clear hK K hA5 ho4 ho5 hg4 hat4 c3 f3 hr3 hb3 hrb3 hB4 HOw HOr HL HH1 HA1 HA2 HA3 HX HR HA3w
      refine wpAnyH_done (by kernel_rfl) ?_ _
      go_wp2
      go_end0
      exact HE.out
set_option maxRecDepth 10000 in
set_option maxHeartbeats 4000000 in
theorem told_core (w : World) (W : Nat) (X : List Value) (b0 b1 b2 b3 wv rv l : Value) (Ws Rs : List Value) (n : Nat) (xs : List Value) (hX : At w W (b0 :: b1 :: b2 :: b3 :: wv :: rv :: X)) (how : w.ownsRow 0 54 1 wv Ws.length Ws) (hor : w.ownsRow 0 54 1 rv Ws.length Rs) (hl : OwT w 3 l n xs) (h1c : ∀ u ∈ xs, u.oneCell' = true) (hWs : Ws.length ≤ 1000000000) (hn : n ≤ 4000000000000) (a1 : ∀ b, wv.ownBlock = some b → ¬ b = W ∧ ¬ rv.ownBlock = some b) (a2 : ∀ b, rv.ownBlock = some b → ¬ b = W) (a3 : ∀ b, l.ownBlock = some b → ¬ b = W ∧ ¬ wv.ownBlock = some b) :
    Calls Tryz.prog 67 #[.pointer (some ⟨W, 0, none⟩), l] w (CamePost w 54 3 W [b0, b1, b2, b3] X wv rv Ws Rs l n xs) := by
  obtain ⟨i0, hi0, hz0, hz1, hz2⟩ := info_parts bsE
  obtain ⟨i1, hi1, hy0, hy1, hy2⟩ := info_parts bsEs
  have hrl : Rs.length = Ws.length := by have := hor.1; omega
  obtain ⟨wp, wcap, rfl⟩ := own_slice how
  obtain ⟨rp, rcap, rfl⟩ := own_slice hor
  have hWl : W < w.heap.size := At.lt hX
  have HX : Hid (At w W (b0 :: b1 :: b2 :: b3 :: .slice wp Ws.length wcap :: .slice rp Ws.length rcap :: X)) := hX
  have HOw : Hid (w.ownsRow 0 54 1 (.slice wp Ws.length wcap) Ws.length Ws) := how
  have HOr : Hid (w.ownsRow 0 54 1 (.slice rp Ws.length rcap) Ws.length Rs) := hor
  have HL : Hid (OwT w 3 l n xs) := hl
  have HH1 : Hid (∀ u ∈ xs, u.oneCell' = true) := h1c
  have HA1 : Hid (∀ b, (Value.slice wp Ws.length wcap).ownBlock = some b → ¬ b = W ∧ ¬ (Value.slice rp Ws.length rcap).ownBlock = some b) := a1
  have HA2 : Hid (∀ b, (Value.slice rp Ws.length rcap).ownBlock = some b → ¬ b = W) := a2
  have HA3 : Hid (∀ b, l.ownBlock = some b → ¬ b = W ∧ ¬ (Value.slice wp Ws.length wcap).ownBlock = some b) := a3
  obtain ⟨p, cap, rfl⟩ := hl.slice
  have c2 : w.cell? ⟨W, 4, none⟩ = some (.slice wp Ws.length wcap) := hX.cell 4 rfl
  have hB1 : Below w.heap.size w (w.alloc (.cells #[.slice p n cap] 54)) := (Below.refl _ _).alloc (Nat.le_refl _) _
  have hO1 : (w.alloc (.cells #[.slice p n cap] 54)).ownsRow 0 54 1 (.slice wp Ws.length wcap) Ws.length Ws := own_keep (S := fun _ => False) how (Keep.below hB1) (fun _ _ x => x)
  have hA1 : At (w.alloc (.cells #[.slice p n cap] 54)) W (b0 :: b1 :: b2 :: b3 :: .slice wp Ws.length wcap :: .slice rp Ws.length rcap :: X) := At.keep (S := fun _ => False) hX (Keep.below hB1) (fun x => x)
  have hne1 : ∀ j u, [Value.slice p n cap][j]? = some u → (w.alloc (.cells #[.slice p n cap] 54)).cell? ((⟨w.heap.size, 0, none⟩ : Addr).add j) = some u := fun j u hu => by
    have := (At.alloc w [.slice p n cap] 54 j u hu).1
    rw [Addr.add_lit, Nat.zero_add]
    exact this
  clear hX how hor hl h1c a1 a2 a3
  go_enter Tryz.func67, Tryz.ntmps67
  go_upto_region 0 with fail
  refine wp_region_lit ?_
  refine wpList_val (.pointer (some ⟨W, 0, none⟩)) w rfl rfl ?_
  simp only [Act.put, List.setIfInBounds_toArray, List.set_cons_zero, List.set_cons_succ]
  refine wpList_val (.pointer (some ⟨W, 0, none⟩)) w rfl rfl ?_
  simp only [Act.put, List.setIfInBounds_toArray, List.set_cons_zero, List.set_cons_succ]
  refine wpList_val (.pointer (some ⟨W, 0, none⟩)) w rfl (by go_simp) ?_
  simp only [Act.put, List.setIfInBounds_toArray, List.set_cons_zero, List.set_cons_succ]
  refine wpList_val (.pointer (some ⟨W, 4, none⟩)) w rfl (by go_simp) ?_
  simp only [Act.put, List.setIfInBounds_toArray, List.set_cons_zero, List.set_cons_succ]
  refine wpList_val (.slice wp Ws.length wcap) w rfl (by go_simp) ?_
  simp only [Act.put, List.setIfInBounds_toArray, List.set_cons_zero, List.set_cons_succ]
  refine wpList_val (.slice p n cap) w rfl rfl ?_
  simp only [Act.put, List.setIfInBounds_toArray, List.set_cons_zero, List.set_cons_succ]
  refine wpList_val (.slice (some ⟨w.heap.size, 0, none⟩) 1 1) (w.alloc (.cells #[.slice p n cap] 54)) rfl (by kernel_rfl) ?_
  simp only [Act.put, List.setIfInBounds_toArray, List.set_cons_zero, List.set_cons_succ]
  refine wpList_append_own_at _ rfl (.tmp 8) (.tmp 10) 63 rfl 0 54 i1 _ 1 24 Tryz.underlying63 hi1 hy0 hy1 hy2 rfl (by omega) _ Ws.length Ws rfl hO1 ⟨w.heap.size, 0, none⟩ 1 1 _ rfl rfl hne1 (fun u hu => ?_) (by unfold maxLen; omega) (by omega) (Nat.zero_le _) ?_
  · rw [List.mem_singleton] at hu
    subst hu
    rfl
  intro wv' w1 ho1 hg1 _ hat1
  have hA2 : At w1 W (b0 :: b1 :: b2 :: b3 :: .slice wp Ws.length wcap :: .slice rp Ws.length rcap :: X) := At.keep (S := fun b => (Value.slice wp Ws.length wcap).ownBlock = some b) hA1 ⟨hg1.os, hg1.tape, hg1.output, hg1.size, fun b hb hs => hg1.block b hb (fun e => hs e.symm)⟩ (fun e => (HA1.out W e).1 rfl)
  obtain ⟨wg, wcap', rfl, _, _⟩ := ho1.form (by omega)
  have c2 : w1.cell? ⟨W, 4, none⟩ = some (.slice wp Ws.length wcap) := hA2.cell 4 rfl
  have f2 : w1.frozen? ⟨W, 4, none⟩ = false := hA2.free 4 rfl
  have HR : Hid (RowTo w 54 W (.slice wp Ws.length wcap) Ws (.slice p n cap) (.slice (some ⟨wg, 0, none⟩) (Ws.length + 1) wcap') (w1.setCell ⟨W, 4, none⟩ (.slice (some ⟨wg, 0, none⟩) (Ws.length + 1) wcap'))) := row_to hB1 (fun b hb => (HA1.out b hb).1) hWl ho1 hg1 hat1 4 _
  have HA3w : Hid (At (w1.setCell ⟨W, 4, none⟩ (.slice (some ⟨wg, 0, none⟩) (Ws.length + 1) wcap')) W (b0 :: b1 :: b2 :: b3 :: .slice (some ⟨wg, 0, none⟩) (Ws.length + 1) wcap' :: .slice rp Ws.length rcap :: X)) := hA2.set 4 (by simp) _
  clear hA2 hA1 hO1 hne1 hB1 ho1 hg1 hat1
  simp only [Act.put, List.setIfInBounds_toArray, List.set_cons_zero, List.set_cons_succ]
  go_upto_region 1 with fail
  clear c2 f2
  generalize w1.setCell ⟨W, 4, none⟩ (.slice (some ⟨wg, 0, none⟩) (Ws.length + 1) wcap') = w2 at *
  have hc3 : w2.cell? ⟨W, 5, none⟩ = some (.slice rp Ws.length rcap) := HA3w.out.cell 5 rfl
  have hL2 : OwT w2 3 (.slice p n cap) n xs := HL.out.keep HR.out.kp (fun b hb hx => by
    rcases hx with hx | hx
    · exact (HA3.out b hb).1 hx
    · exact (HA3.out b hb).2 hx)
  refine wp_region_held_drew (S := fun _ => True) (by kernel_rfl) trivial (fun hHeld => ?_)
  refine wpAnyH_take (i := 0) (v := (.pointer (some ⟨W, 0, none⟩))) rfl (by kernel_rfl) (by kernel_rfl) (by kernel_rfl) (fun _ _ _ h => h) (Or.inl ⟨by rfl, fun wx hSw => by kernel_rfl⟩) (by assumption) ?_
  simp only [Act.put, List.getElem_toArray, List.getElem_cons_zero, List.setIfInBounds_toArray, List.set_cons_zero, List.set_cons_succ]
  refine wpAnyH_take (i := 1) (v := (.pointer (some ⟨W, 0, none⟩))) rfl (by kernel_rfl) (by kernel_rfl) (by kernel_rfl) (fun _ _ _ h => h) (Or.inl ⟨by rfl, fun wx hSw => by kernel_rfl⟩) (by assumption) ?_
  simp only [Act.put, List.getElem_toArray, List.getElem_cons_succ, List.getElem_cons_zero, List.setIfInBounds_toArray, List.set_cons_zero, List.set_cons_succ]
  refine wpAnyH_take (i := 2) (v := (.pointer (some ⟨W, 0, none⟩))) rfl (by kernel_rfl) (by kernel_rfl) (by kernel_rfl) (fun _ _ _ h => h) (Or.inl ⟨by rfl, fun wx hSw => by ((try dsimp only at hSw); go_simp)⟩) (by assumption) ?_
  simp only [Act.put, List.getElem_toArray, List.getElem_cons_succ, List.getElem_cons_zero, List.setIfInBounds_toArray, List.set_cons_zero, List.set_cons_succ]
  refine wpAnyH_take (i := 3) (v := (.pointer (some ⟨W, 5, none⟩))) rfl (by kernel_rfl) (by kernel_rfl) (by kernel_rfl) (fun _ _ _ h => h) (Or.inl ⟨by rfl, fun wx hSw => by ((try dsimp only at hSw); go_simp)⟩) (by assumption) ?_
  simp only [Act.put, List.getElem_toArray, List.getElem_cons_succ, List.getElem_cons_zero, List.setIfInBounds_toArray, List.set_cons_zero, List.set_cons_succ]
  refine wpAnyH_take (i := 5) (v := (.slice p n cap)) rfl (by kernel_rfl) (by kernel_rfl) (by kernel_rfl) (fun _ _ _ h => h) (Or.inl ⟨by rfl, fun wx hSw => by kernel_rfl⟩) (by assumption) ?_
  simp only [Act.put, List.getElem_toArray, List.getElem_cons_succ, List.getElem_cons_zero, List.setIfInBounds_toArray, List.set_cons_zero, List.set_cons_succ]
  have hc3d : w2.drew.cell? ⟨W, 5, none⟩ = some (.slice rp Ws.length rcap) := hc3
  refine wpAnyH_ready (rs := [4, 6]) (by kernel_rfl) (by simp) ?_
  refine AllReadyH.cons rfl (fun K hK => ?_) (AllReadyH.cons rfl (fun K hK => ?_) AllReadyH.nil)
  · rw [if_pos (by rfl)]
    refine wp_valD (.slice rp Ws.length rcap) w2.drew (by go_simp) ?_
    refine hK.out _ _ trivial (fun _ => ?_)
    clear hK K
    try simp only [Act.put, List.getElem_toArray, List.getElem_cons_succ, List.getElem_cons_zero, List.setIfInBounds_toArray, List.set_cons_zero, List.set_cons_succ]
    refine wpAnyH_ready (rs := [6]) (by kernel_rfl) (by simp) ?_
    refine AllReadyH.cons rfl (fun K hK => ?_) AllReadyH.nil
    rw [if_pos (by rfl)]
    refine wp_append_copy w2.drew (.const (.slice none 0 0)) (.tmp 19) 54 rfl 114 i0 _ 3 24 Tryz.underlying54 hi0 hz0 hz1 hz2 rfl (by omega) (.slice p n cap) n xs rfl rfl hL2 HH1.out (by unfold maxLen; omega) (by omega) ?_
    intro r w3 hr3 hb3 hrb3
    have hb3 : Below w2.heap.size w2 w3 := (Below.refl w2.heap.size w2).drew.trans hb3
    have hrb3 : ∀ b, r.ownBlock = some b → w2.heap.size ≤ b := fun b hb => Nat.le_of_eq (hrb3 b hb).symm
    have hA3 : At w3 W (b0 :: b1 :: b2 :: b3 :: .slice (some ⟨wg, 0, none⟩) (Ws.length + 1) wcap' :: .slice rp Ws.length rcap :: X) := At.keep (S := fun _ => False) HA3w.out (Keep.below hb3) (fun x => x)
    have hO3 : w3.ownsRow 0 54 1 (.slice rp Ws.length rcap) Ws.length Rs := own_keep (S := fun _ => False) (own_keep HOr.out HR.out.kp (fun b hb hx => by
      rcases hx with hx | hx
      · exact HA2.out b hb hx
      · exact (HA1.out b hx).2 hb)) (Keep.below hb3) (fun _ _ x => x)
    refine hK.out _ _ trivial (fun _ => ?_)
    clear hK K hc3 hL2 hc3d
    try simp only [Act.put, List.getElem_toArray, List.getElem_cons_succ, List.getElem_cons_zero, List.setIfInBounds_toArray, List.set_cons_zero, List.set_cons_succ]
    obtain ⟨rq, rqc, rfl⟩ := hr3.slice
    refine wpAnyH_ready (rs := [7]) (by kernel_rfl) (by simp) ?_
    refine AllReadyH.cons rfl (fun K hK => ?_) AllReadyH.nil
    rw [if_pos (by rfl)]
    have hB4 : Below w3.heap.size w3 (w3.alloc (.cells #[.slice rq n rqc] 54)) := (Below.refl _ _).alloc (Nat.le_refl _) _
    refine wp_valD (.slice (some ⟨w3.heap.size, 0, none⟩) 1 1) (w3.alloc (.cells #[.slice rq n rqc] 54)) (by kernel_rfl) ?_
    have hA4 : At (w3.alloc (.cells #[.slice rq n rqc] 54)) W (b0 :: b1 :: b2 :: b3 :: .slice (some ⟨wg, 0, none⟩) (Ws.length + 1) wcap' :: .slice rp Ws.length rcap :: X) := At.keep (S := fun _ => False) hA3 (Keep.below hB4) (fun x => x)
    have hO4 : (w3.alloc (.cells #[.slice rq n rqc] 54)).ownsRow 0 54 1 (.slice rp Ws.length rcap) Ws.length Rs := own_keep (S := fun _ => False) hO3 (Keep.below hB4) (fun _ _ x => x)
    have hne4 : ∀ j u, [Value.slice rq n rqc][j]? = some u → (w3.alloc (.cells #[.slice rq n rqc] 54)).cell? ((⟨w3.heap.size, 0, none⟩ : Addr).add j) = some u := fun j u hu => by
      have := (At.alloc w3 [.slice rq n rqc] 54 j u hu).1
      rw [Addr.add_lit, Nat.zero_add]
      exact this
    refine hK.out _ _ trivial (fun _ => ?_)
    clear hK K hA3 hO3
    try simp only [Act.put, List.getElem_toArray, List.getElem_cons_succ, List.getElem_cons_zero, List.setIfInBounds_toArray, List.set_cons_zero, List.set_cons_succ]
    refine wpAnyH_ready (rs := [8]) (by kernel_rfl) (by simp) ?_
    refine AllReadyH.cons rfl (fun K hK => ?_) AllReadyH.nil
    rw [if_pos (by rfl)]
    refine wp_append_at (w3.alloc (.cells #[.slice rq n rqc] 54)) (.tmp 18) (.tmp 21) 63 rfl 0 54 i1 _ 1 24 Tryz.underlying63 hi1 hy0 hy1 hy2 rfl (by omega) (.slice rp Ws.length rcap) Ws.length Rs rfl hO4 ⟨w3.heap.size, 0, none⟩ 1 1 _ rfl rfl hne4 (fun u hu => ?_) (by unfold maxLen; omega) (by omega) (Nat.zero_le _) ?_
    · rw [List.mem_singleton] at hu
      subst hu
      rfl
    intro rv' w4 ho4 hg4 hat4
    have hA5 : At w4 W (b0 :: b1 :: b2 :: b3 :: .slice (some ⟨wg, 0, none⟩) (Ws.length + 1) wcap' :: .slice rp Ws.length rcap :: X) := At.keep (S := fun b => (Value.slice rp Ws.length rcap).ownBlock = some b) hA4 ⟨hg4.os, hg4.tape, hg4.output, hg4.size, fun b hb hs => hg4.block b hb (fun e => hs e.symm)⟩ (fun e => HA2.out W e rfl)
    refine hK.out _ _ trivial (fun _ => ?_)
    clear hK K hA4 hO4 hne4
    try simp only [Act.put, List.getElem_toArray, List.getElem_cons_succ, List.getElem_cons_zero, List.setIfInBounds_toArray, List.set_cons_zero, List.set_cons_succ]
    obtain ⟨rg, rcap', rfl, _, _⟩ := ho4.form (by omega)
    refine wpAnyH_take (i := 9) (v := (.pointer (some ⟨W, 0, none⟩))) rfl (by kernel_rfl) (by kernel_rfl) (by kernel_rfl) (fun _ _ _ h => h) (Or.inl ⟨by rfl, fun wx hSw => by ((try dsimp only at hSw); go_simp)⟩) (by assumption) ?_
    simp only [Act.put, List.getElem_toArray, List.getElem_cons_succ, List.getElem_cons_zero, List.setIfInBounds_toArray, List.set_cons_zero, List.set_cons_succ]
    refine wpAnyH_take (i := 10) (v := (.pointer (some ⟨W, 5, none⟩))) rfl (by kernel_rfl) (by kernel_rfl) (by kernel_rfl) (fun _ _ _ h => h) (Or.inl ⟨by rfl, fun wx hSw => by ((try dsimp only at hSw); go_simp)⟩) (by assumption) ?_
    simp only [Act.put, List.getElem_toArray, List.getElem_cons_succ, List.getElem_cons_zero, List.setIfInBounds_toArray, List.set_cons_zero, List.set_cons_succ]
    have c3 : w4.cell? ⟨W, 5, none⟩ = some (.slice rp Ws.length rcap) := hA5.cell 5 rfl
    have f3 : w4.frozen? ⟨W, 5, none⟩ = false := hA5.free 5 rfl
    have hWl3 : W < w3.heap.size := by have := HR.out.kp.size; have := hb3.size; omega
    have ho5 : w4.ownsRow 0 54 1 (.slice (some ⟨rg, 0, none⟩) (Ws.length + 1) rcap') (Rs.length + 1) (Rs ++ [.slice rq n rqc]) := by rw [hrl]; exact ho4
    have HE : Hid (CamePost w 54 3 W [b0, b1, b2, b3] X (.slice wp Ws.length wcap) (.slice rp Ws.length rcap) Ws Rs (.slice p n cap) n xs (.returned (.tuple #[])) (w4.setCell ⟨W, 5, none⟩ (.slice (some ⟨rg, 0, none⟩) (Ws.length + 1) rcap'))) :=
      ⟨rfl, _, _, _, hA5.set 5 (by simp) _, came_make hrl hWl HOw.out HOr.out HA1.out HR.out hb3 hr3 hrb3 (row_to hB4 HA2.out hWl3 ho5 hg4 hat4 5 _)⟩
    refine wpAnyH_ready (rs := [11]) (by kernel_rfl) (by simp) ?_
    refine AllReadyH.cons rfl (fun K hK => ?_) AllReadyH.nil
    rw [if_pos (by rfl)]
    refine wp_skipD (w4.setCell ⟨W, 5, none⟩ (.slice (some ⟨rg, 0, none⟩) (Ws.length + 1) rcap')) (by go_simp) ?_
    refine hK.out _ _ trivial (fun _ => ?_)
    clear hK K hA5 ho4 ho5 hg4 hat4 c3 f3 hr3 hb3 hrb3 hB4 HOw HOr HL HH1 HA1 HA2 HA3 HX HR HA3w
    refine wpAnyH_done (by kernel_rfl) ?_ _
    go_wp2
    go_end0
    exact HE.out
  · rw [if_pos (by rfl)]
    refine wp_append_copy w2.drew (.const (.slice none 0 0)) (.tmp 19) 54 rfl 114 i0 _ 3 24 Tryz.underlying54 hi0 hz0 hz1 hz2 rfl (by omega) (.slice p n cap) n xs rfl rfl hL2 HH1.out (by unfold maxLen; omega) (by omega) ?_
    intro r w3 hr3 hb3 hrb3
    have hb3 : Below w2.heap.size w2 w3 := (Below.refl w2.heap.size w2).drew.trans hb3
    have hrb3 : ∀ b, r.ownBlock = some b → w2.heap.size ≤ b := fun b hb => Nat.le_of_eq (hrb3 b hb).symm
    have hA3 : At w3 W (b0 :: b1 :: b2 :: b3 :: .slice (some ⟨wg, 0, none⟩) (Ws.length + 1) wcap' :: .slice rp Ws.length rcap :: X) := At.keep (S := fun _ => False) HA3w.out (Keep.below hb3) (fun x => x)
    have hO3 : w3.ownsRow 0 54 1 (.slice rp Ws.length rcap) Ws.length Rs := own_keep (S := fun _ => False) (own_keep HOr.out HR.out.kp (fun b hb hx => by
      rcases hx with hx | hx
      · exact HA2.out b hb hx
      · exact (HA1.out b hx).2 hb)) (Keep.below hb3) (fun _ _ x => x)
    refine hK.out _ _ trivial (fun _ => ?_)
    clear hK K hc3 hL2 hc3d
    try simp only [Act.put, List.getElem_toArray, List.getElem_cons_succ, List.getElem_cons_zero, List.setIfInBounds_toArray, List.set_cons_zero, List.set_cons_succ]
    obtain ⟨rq, rqc, rfl⟩ := hr3.slice
    refine wpAnyH_ready (rs := [4, 7]) (by kernel_rfl) (by simp) ?_
    refine AllReadyH.cons rfl (fun K hK => ?_) (AllReadyH.cons rfl (fun K hK => ?_) AllReadyH.nil)
    · have hc4 : w3.cell? ⟨W, 5, none⟩ = some (.slice rp Ws.length rcap) := hA3.cell 5 rfl
      rw [if_pos (by rfl)]
      refine wp_valD (.slice rp Ws.length rcap) w3 (by go_simp) ?_
      refine hK.out _ _ trivial (fun _ => ?_)
      clear hK K hc4
      try simp only [Act.put, List.getElem_toArray, List.getElem_cons_succ, List.getElem_cons_zero, List.setIfInBounds_toArray, List.set_cons_zero, List.set_cons_succ]
      refine wpAnyH_ready (rs := [7]) (by kernel_rfl) (by simp) ?_
      refine AllReadyH.cons rfl (fun K hK => ?_) AllReadyH.nil
      rw [if_pos (by rfl)]
      have hB4 : Below w3.heap.size w3 (w3.alloc (.cells #[.slice rq n rqc] 54)) := (Below.refl _ _).alloc (Nat.le_refl _) _
      refine wp_valD (.slice (some ⟨w3.heap.size, 0, none⟩) 1 1) (w3.alloc (.cells #[.slice rq n rqc] 54)) (by kernel_rfl) ?_
      have hA4 : At (w3.alloc (.cells #[.slice rq n rqc] 54)) W (b0 :: b1 :: b2 :: b3 :: .slice (some ⟨wg, 0, none⟩) (Ws.length + 1) wcap' :: .slice rp Ws.length rcap :: X) := At.keep (S := fun _ => False) hA3 (Keep.below hB4) (fun x => x)
      have hO4 : (w3.alloc (.cells #[.slice rq n rqc] 54)).ownsRow 0 54 1 (.slice rp Ws.length rcap) Ws.length Rs := own_keep (S := fun _ => False) hO3 (Keep.below hB4) (fun _ _ x => x)
      have hne4 : ∀ j u, [Value.slice rq n rqc][j]? = some u → (w3.alloc (.cells #[.slice rq n rqc] 54)).cell? ((⟨w3.heap.size, 0, none⟩ : Addr).add j) = some u := fun j u hu => by
        have := (At.alloc w3 [.slice rq n rqc] 54 j u hu).1
        rw [Addr.add_lit, Nat.zero_add]
        exact this
      refine hK.out _ _ trivial (fun _ => ?_)
      clear hK K hA3 hO3
      try simp only [Act.put, List.getElem_toArray, List.getElem_cons_succ, List.getElem_cons_zero, List.setIfInBounds_toArray, List.set_cons_zero, List.set_cons_succ]
      refine wpAnyH_ready (rs := [8]) (by kernel_rfl) (by simp) ?_
      refine AllReadyH.cons rfl (fun K hK => ?_) AllReadyH.nil
      rw [if_pos (by rfl)]
      refine wp_append_at (w3.alloc (.cells #[.slice rq n rqc] 54)) (.tmp 18) (.tmp 21) 63 rfl 0 54 i1 _ 1 24 Tryz.underlying63 hi1 hy0 hy1 hy2 rfl (by omega) (.slice rp Ws.length rcap) Ws.length Rs rfl hO4 ⟨w3.heap.size, 0, none⟩ 1 1 _ rfl rfl hne4 (fun u hu => ?_) (by unfold maxLen; omega) (by omega) (Nat.zero_le _) ?_
      · rw [List.mem_singleton] at hu
        subst hu
        rfl
      intro rv' w4 ho4 hg4 hat4
      have hA5 : At w4 W (b0 :: b1 :: b2 :: b3 :: .slice (some ⟨wg, 0, none⟩) (Ws.length + 1) wcap' :: .slice rp Ws.length rcap :: X) := At.keep (S := fun b => (Value.slice rp Ws.length rcap).ownBlock = some b) hA4 ⟨hg4.os, hg4.tape, hg4.output, hg4.size, fun b hb hs => hg4.block b hb (fun e => hs e.symm)⟩ (fun e => HA2.out W e rfl)
      refine hK.out _ _ trivial (fun _ => ?_)
      clear hK K hA4 hO4 hne4
      try simp only [Act.put, List.getElem_toArray, List.getElem_cons_succ, List.getElem_cons_zero, List.setIfInBounds_toArray, List.set_cons_zero, List.set_cons_succ]
      obtain ⟨rg, rcap', rfl, _, _⟩ := ho4.form (by omega)
      refine wpAnyH_take (i := 9) (v := (.pointer (some ⟨W, 0, none⟩))) rfl (by kernel_rfl) (by kernel_rfl) (by kernel_rfl) (fun _ _ _ h => h) (Or.inl ⟨by rfl, fun wx hSw => by ((try dsimp only at hSw); go_simp)⟩) (by assumption) ?_
      simp only [Act.put, List.getElem_toArray, List.getElem_cons_succ, List.getElem_cons_zero, List.setIfInBounds_toArray, List.set_cons_zero, List.set_cons_succ]
      refine wpAnyH_take (i := 10) (v := (.pointer (some ⟨W, 5, none⟩))) rfl (by kernel_rfl) (by kernel_rfl) (by kernel_rfl) (fun _ _ _ h => h) (Or.inl ⟨by rfl, fun wx hSw => by ((try dsimp only at hSw); go_simp)⟩) (by assumption) ?_
      simp only [Act.put, List.getElem_toArray, List.getElem_cons_succ, List.getElem_cons_zero, List.setIfInBounds_toArray, List.set_cons_zero, List.set_cons_succ]
      have c3 : w4.cell? ⟨W, 5, none⟩ = some (.slice rp Ws.length rcap) := hA5.cell 5 rfl
      have f3 : w4.frozen? ⟨W, 5, none⟩ = false := hA5.free 5 rfl
      have hWl3 : W < w3.heap.size := by have := HR.out.kp.size; have := hb3.size; omega
      have ho5 : w4.ownsRow 0 54 1 (.slice (some ⟨rg, 0, none⟩) (Ws.length + 1) rcap') (Rs.length + 1) (Rs ++ [.slice rq n rqc]) := by rw [hrl]; exact ho4
      have HE : Hid (CamePost w 54 3 W [b0, b1, b2, b3] X (.slice wp Ws.length wcap) (.slice rp Ws.length rcap) Ws Rs (.slice p n cap) n xs (.returned (.tuple #[])) (w4.setCell ⟨W, 5, none⟩ (.slice (some ⟨rg, 0, none⟩) (Ws.length + 1) rcap'))) :=
        ⟨rfl, _, _, _, hA5.set 5 (by simp) _, came_make hrl hWl HOw.out HOr.out HA1.out HR.out hb3 hr3 hrb3 (row_to hB4 HA2.out hWl3 ho5 hg4 hat4 5 _)⟩
      refine wpAnyH_ready (rs := [11]) (by kernel_rfl) (by simp) ?_
      refine AllReadyH.cons rfl (fun K hK => ?_) AllReadyH.nil
      rw [if_pos (by rfl)]
      refine wp_skipD (w4.setCell ⟨W, 5, none⟩ (.slice (some ⟨rg, 0, none⟩) (Ws.length + 1) rcap')) (by go_simp) ?_
      refine hK.out _ _ trivial (fun _ => ?_)
      clear hK K hA5 ho4 ho5 hg4 hat4 c3 f3 hr3 hb3 hrb3 hB4 HOw HOr HL HH1 HA1 HA2 HA3 HX HR HA3w
      refine wpAnyH_done (by kernel_rfl) ?_ _
      go_wp2
      go_end0
      exact HE.out
    · rw [if_pos (by rfl)]
      have hB4 : Below w3.heap.size w3 (w3.alloc (.cells #[.slice rq n rqc] 54)) := (Below.refl _ _).alloc (Nat.le_refl _) _
      refine wp_valD (.slice (some ⟨w3.heap.size, 0, none⟩) 1 1) (w3.alloc (.cells #[.slice rq n rqc] 54)) (by kernel_rfl) ?_
      have hA4 : At (w3.alloc (.cells #[.slice rq n rqc] 54)) W (b0 :: b1 :: b2 :: b3 :: .slice (some ⟨wg, 0, none⟩) (Ws.length + 1) wcap' :: .slice rp Ws.length rcap :: X) := At.keep (S := fun _ => False) hA3 (Keep.below hB4) (fun x => x)
      have hO4 : (w3.alloc (.cells #[.slice rq n rqc] 54)).ownsRow 0 54 1 (.slice rp Ws.length rcap) Ws.length Rs := own_keep (S := fun _ => False) hO3 (Keep.below hB4) (fun _ _ x => x)
      have hne4 : ∀ j u, [Value.slice rq n rqc][j]? = some u → (w3.alloc (.cells #[.slice rq n rqc] 54)).cell? ((⟨w3.heap.size, 0, none⟩ : Addr).add j) = some u := fun j u hu => by
        have := (At.alloc w3 [.slice rq n rqc] 54 j u hu).1
        rw [Addr.add_lit, Nat.zero_add]
        exact this
      refine hK.out _ _ trivial (fun _ => ?_)
      clear hK K hA3 hO3
      try simp only [Act.put, List.getElem_toArray, List.getElem_cons_succ, List.getElem_cons_zero, List.setIfInBounds_toArray, List.set_cons_zero, List.set_cons_succ]
      have hc5 : (w3.alloc (.cells #[.slice rq n rqc] 54)).cell? ⟨W, 5, none⟩ = some (.slice rp Ws.length rcap) := hA4.cell 5 rfl
      refine wpAnyH_ready (rs := [4]) (by kernel_rfl) (by simp) ?_
      refine AllReadyH.cons rfl (fun K hK => ?_) AllReadyH.nil
      rw [if_pos (by rfl)]
      refine wp_valD (.slice rp Ws.length rcap) (w3.alloc (.cells #[.slice rq n rqc] 54)) (by go_simp) ?_
      refine hK.out _ _ trivial (fun _ => ?_)
      clear hK K hc5
      try simp only [Act.put, List.getElem_toArray, List.getElem_cons_succ, List.getElem_cons_zero, List.setIfInBounds_toArray, List.set_cons_zero, List.set_cons_succ]
      refine wpAnyH_ready (rs := [8]) (by kernel_rfl) (by simp) ?_
      refine AllReadyH.cons rfl (fun K hK => ?_) AllReadyH.nil
      rw [if_pos (by rfl)]
      refine wp_append_at (w3.alloc (.cells #[.slice rq n rqc] 54)) (.tmp 18) (.tmp 21) 63 rfl 0 54 i1 _ 1 24 Tryz.underlying63 hi1 hy0 hy1 hy2 rfl (by omega) (.slice rp Ws.length rcap) Ws.length Rs rfl hO4 ⟨w3.heap.size, 0, none⟩ 1 1 _ rfl rfl hne4 (fun u hu => ?_) (by unfold maxLen; omega) (by omega) (Nat.zero_le _) ?_
      · rw [List.mem_singleton] at hu
        subst hu
        rfl
      intro rv' w4 ho4 hg4 hat4
      have hA5 : At w4 W (b0 :: b1 :: b2 :: b3 :: .slice (some ⟨wg, 0, none⟩) (Ws.length + 1) wcap' :: .slice rp Ws.length rcap :: X) := At.keep (S := fun b => (Value.slice rp Ws.length rcap).ownBlock = some b) hA4 ⟨hg4.os, hg4.tape, hg4.output, hg4.size, fun b hb hs => hg4.block b hb (fun e => hs e.symm)⟩ (fun e => HA2.out W e rfl)
      refine hK.out _ _ trivial (fun _ => ?_)
      clear hK K hA4 hO4 hne4
      try simp only [Act.put, List.getElem_toArray, List.getElem_cons_succ, List.getElem_cons_zero, List.setIfInBounds_toArray, List.set_cons_zero, List.set_cons_succ]
      obtain ⟨rg, rcap', rfl, _, _⟩ := ho4.form (by omega)
      refine wpAnyH_take (i := 9) (v := (.pointer (some ⟨W, 0, none⟩))) rfl (by kernel_rfl) (by kernel_rfl) (by kernel_rfl) (fun _ _ _ h => h) (Or.inl ⟨by rfl, fun wx hSw => by ((try dsimp only at hSw); go_simp)⟩) (by assumption) ?_
      simp only [Act.put, List.getElem_toArray, List.getElem_cons_succ, List.getElem_cons_zero, List.setIfInBounds_toArray, List.set_cons_zero, List.set_cons_succ]
      refine wpAnyH_take (i := 10) (v := (.pointer (some ⟨W, 5, none⟩))) rfl (by kernel_rfl) (by kernel_rfl) (by kernel_rfl) (fun _ _ _ h => h) (Or.inl ⟨by rfl, fun wx hSw => by ((try dsimp only at hSw); go_simp)⟩) (by assumption) ?_
      simp only [Act.put, List.getElem_toArray, List.getElem_cons_succ, List.getElem_cons_zero, List.setIfInBounds_toArray, List.set_cons_zero, List.set_cons_succ]
      have c3 : w4.cell? ⟨W, 5, none⟩ = some (.slice rp Ws.length rcap) := hA5.cell 5 rfl
      have f3 : w4.frozen? ⟨W, 5, none⟩ = false := hA5.free 5 rfl
      have hWl3 : W < w3.heap.size := by have := HR.out.kp.size; have := hb3.size; omega
      have ho5 : w4.ownsRow 0 54 1 (.slice (some ⟨rg, 0, none⟩) (Ws.length + 1) rcap') (Rs.length + 1) (Rs ++ [.slice rq n rqc]) := by rw [hrl]; exact ho4
      have HE : Hid (CamePost w 54 3 W [b0, b1, b2, b3] X (.slice wp Ws.length wcap) (.slice rp Ws.length rcap) Ws Rs (.slice p n cap) n xs (.returned (.tuple #[])) (w4.setCell ⟨W, 5, none⟩ (.slice (some ⟨rg, 0, none⟩) (Ws.length + 1) rcap'))) :=
        ⟨rfl, _, _, _, hA5.set 5 (by simp) _, came_make hrl hWl HOw.out HOr.out HA1.out HR.out hb3 hr3 hrb3 (row_to hB4 HA2.out hWl3 ho5 hg4 hat4 5 _)⟩
      refine wpAnyH_ready (rs := [11]) (by kernel_rfl) (by simp) ?_
      refine AllReadyH.cons rfl (fun K hK => ?_) AllReadyH.nil
      rw [if_pos (by rfl)]
      refine wp_skipD (w4.setCell ⟨W, 5, none⟩ (.slice (some ⟨rg, 0, none⟩) (Ws.length + 1) rcap')) (by go_simp) ?_
      refine hK.out _ _ trivial (fun _ => ?_)
      clear hK K hA5 ho4 ho5 hg4 hat4 c3 f3 hr3 hb3 hrb3 hB4 HOw HOr HL HH1 HA1 HA2 HA3 HX HR HA3w
      refine wpAnyH_done (by kernel_rfl) ?_ _
      go_wp2
      go_end0
      exact HE.out
end Go.Proofs.YtanndhoimpnhpaaGreatDoor
