/- Joined by program: Bo, Env, TxK. -/
import Derived.Test.YtanndhoimpnhpaaGreatDoorM17
import Derived.Test.YtanndhoimpnhpaaGreatDoorM10
import Derived.Test.YtanndhoimpnhpaaGreatDoorM9
import Derived.Laws.MakeOwn
import Derived.Test.YtanndhoimpnhpaaGreatDoorM2
import Derived.Test.YtanndhoimpnhpaaGreatDoorM1
import Derived.Test.YtanndhoimpnhpaaGreatDoorM3
import Derived.BigQuiet
import Derived.Deep.RegionHeld3
namespace Go.Proofs.YtanndhoimpnhpaaGreatDoor
open Go.ChangeShapes Go.WideShapes Go.RowKit Go.WideMaps Go.Maps Cal
theorem sizeEnp : (Tryz.prog.info? 114).map (·.size) = some 3 := by kernel_rfl
theorem ens_cell1 : ∀ (l : List En) (v : Value), v ∈ ens l → v.oneCell' = true
  | [], _, h => by simp [ens] at h
  | e :: r, v, h => by
    simp only [ens, List.mem_cons] at h
    rcases h with rfl | rfl | rfl | h
    · rfl
    · rfl
    · rfl
    · exact ens_cell1 r v h
theorem ens_drop (l : List En) (i : Nat) (h : i ≤ l.length) : (ens l).drop (i * 3) = ens (l.drop i) := by
  have : ens l = ens (l.take i) ++ ens (l.drop i) := by rw [← ens_append, List.take_append_drop]
  have hl : (ens (l.take i)).length = i * 3 := by rw [ens_len, List.length_take]; omega
  rw [this, ← hl, List.drop_left]
def kf (x : Int) (n : Nat) : Nat := min (max x 0).toNat n
theorem kf_le (x : Int) (n : Nat) : kf x n ≤ n := Nat.min_le_right _ _
theorem bslice_from (p : Option Addr) (n cap k : Nat) (hk : k ≤ n) (W : World) :
    ∃ q, (Instr.sliceAt 54 (.slice p n cap) (some (.int .i64 (k : Int))) none none).run Tryz.prog W = .ok (.slice q (n - k) (cap - k)) W ∧ q = (if cap = k then p else p.map (·.add (k * 3))) := by
  refine ⟨_, ?_, rfl⟩
  simp [Instr.sliceAt, run_underlying Tryz.underlying54, Instr.slice, Instr.sliceBounds, Instr.sliceBound, asIntOf, Result.andThen, hk]
set_option maxRecDepth 10000 in
set_option maxHeartbeats 4000000 in
theorem from_any (w : World) (P : Nat) (bkv : Value) (Mb : Nat) (L : List En) (h : BkIs w P bkv Mb L) (hL : L.length ≤ 4000000000000) (x : Int) :
    Calls Tryz.prog 46 #[.pointer (some ⟨P, 0, none⟩), .int .i64 x] w fun r w' => ∃ v, r = .returned v ∧ w'.ownsRow w.heap.size 114 3 v (L.length - kf x L.length) (ens (L.drop (kf x L.length))) ∧ Below w.heap.size w w' := by
  obtain ⟨bp, bcap, rfl⟩ := own_slice h.ow
  obtain ⟨i0, hi0, hz0, hz1, hz2⟩ := info_parts infoEntry
  have hk := kf_le x L.length
  obtain ⟨x1, hx1⟩ : ∃ x1, x1 = max x 0 := ⟨_, rfl⟩
  obtain ⟨k, hkk⟩ : ∃ k, k = kf x L.length := ⟨_, rfl⟩
  rw [← hkk] at hk ⊢
  obtain ⟨m, hm⟩ : ∃ m, m = L.length - k := ⟨_, rfl⟩
  rw [← hm]
  have hk2 : (k : Int) = min x1 L.length := by
    rw [hkk, hx1]
    unfold kf
    omega
  have HK2 : Hid ((k : Int) = min x1 L.length) := hk2
  have HX1 : Hid (x1 = max x 0) := hx1
  have HS : Hid (∀ W : World, ∃ q, (Instr.sliceAt 54 (.slice bp L.length bcap) (some (.int .i64 (k : Int))) none none).run Tryz.prog W = .ok (.slice q m (bcap - k)) W ∧ q = (if bcap = k then bp else bp.map (·.add (k * 3)))) := fun W => by rw [hm]; exact bslice_from bp L.length bcap k hk W
  have c0 : w.drew.cell? ⟨P, 0, none⟩ = some (.slice bp L.length bcap) := h.pl.cell 0 rfl
  have hcells : ∀ j u, (ens (L.drop k))[j]? = some u → ∀ a, (if bcap = k then bp else bp.map (·.add (k * 3))) = some a → w.cell? (a.add j) = some u := fun j u hj a ha => by
    obtain ⟨hl, ⟨hn, hz⟩ | ⟨gg, cap, cur, hv, hg1, hg2, hg3, hg4, hg5, hg6⟩⟩ := id h.ow
    · have : L = [] := List.length_eq_zero_iff.1 hz
      subst this
      simp [ens] at hj
    · injection hv with e1 e2 e3
      subst e1 e3
      have hjl := (List.getElem?_eq_some_iff.1 hj).1
      rw [ens_len, List.length_drop] at hjl
      rw [← ens_drop L k hk, List.getElem?_drop] at hj
      rw [if_neg (by omega)] at ha
      have hc := h.ow.cellAt (k * 3 + j) (by omega)
      rw [hj] at hc
      simp only [Option.map_some, Option.some.injEq] at ha
      subst ha
      rw [Addr.add_lit, Addr.add_lit, Nat.zero_add]
      exact hc
  have HN : Hid (∀ a, (if bcap = k then bp else bp.map (·.add (k * 3))) = some a → ∀ j u, (ens (L.drop k))[j]? = some u → w.cell? (a.add j) = some u) := fun a ha j u hj => hcells j u hj a ha
  have HE : Hid ((if bcap = k then bp else bp.map (·.add (k * 3))) = none → m = 0) := fun hn => by
    obtain ⟨hl, ⟨hn', hz⟩ | ⟨gg, cap, cur, hv, hg⟩⟩ := h.ow
    · omega
    · injection hv with e1 e2 e3
      subst e1
      split at hn <;> simp at hn
  generalize hq0 : (if bcap = k then bp else bp.map (·.add (k * 3))) = q at *
  clear hq0 hcells hx1 hkk hk2
  have HC : Hid (w.drew.cell? ⟨P, 0, none⟩ = some (.slice bp L.length bcap)) := c0
  clear h c0
  have hmk := run_make (P := Tryz.prog) w.drew 54 114 i0 _ Tryz.underlying54 hi0 hz0 .i64 .i64 (m : Int) (m : Int) (by omega) (Int.le_refl _) (by rw [hz2]; omega) (by omega)
  obtain ⟨ROW, hROW⟩ : ∃ ROW, ROW = madeCells (Value.agg #[.int .i64 0, .int .i64 0, .int .i64 0]).cells ((m : Int).toNat * i0.size) := ⟨_, rfl⟩
  have hRs : ROW.size = m * 3 := by rw [hROW, hz1]; simp [madeCells]
  rw [← hROW] at hmk
  simp only [Int.toNat_natCast] at hmk
  obtain ⟨W1, hW1⟩ : ∃ W1, W1 = w.drew.alloc (.cells ROW 114) := ⟨_, rfl⟩
  have hb1 : Below w.heap.size w W1 := by rw [hW1]; exact (Below.refl _ _).drew.alloc (Nat.le_refl _) _
  have hrow : W1.heap[w.heap.size]? = some (.cells ROW 114 (0, 0)) := by
    rw [hW1]
    show (w.heap.push (.cells ROW 114))[w.heap.size]? = _
    simp
  have hdl : (ens (L.drop k)).length = m * 3 := by rw [ens_len, List.length_drop, hm]
  have hmx : m ≤ maxLen := by unfold maxLen; omega
  have hcp : ∃ r W', (∀ ty, (Builtin.copy_ #[54, 54] ty #[.slice (some ⟨w.heap.size, 0, none⟩) m m, .slice q m (bcap - k)]).run Tryz.prog W1 = .ok r W') ∧ W'.ownsRow w.heap.size 114 3 (.slice (some ⟨w.heap.size, 0, none⟩) m m) m (ens (L.drop k)) ∧ Below w.heap.size w W' := by
    by_cases hm0 : m = 0
    · have hnil : L.drop k = [] := List.drop_eq_nil_of_le (by omega)
      refine ⟨_, _, fun ty => run_copy_noneK W1 _ _ ty 114 3 _ _ _ _ _ _ Tryz.underlying54 sizeEnp (by rw [hm0]; rfl), ⟨hdl, .inr ⟨w.heap.size, m, ROW, rfl, Nat.le_refl _, hrow, Nat.le_refl _, hmx, hRs, ?_⟩⟩, hb1⟩
      rw [hm0, hnil]
      rfl
    · cases q with
      | none => exact absurd (HE.out rfl) hm0
      | some a =>
        have hmin : Nat.min m m = m := Nat.min_self m
        refine ⟨_, _, fun ty => run_copy_rowK W1 _ _ ty 114 3 w.heap.size 0 m m a m (bcap - k) ROW 114 (ens (L.drop k)) Tryz.underlying54 sizeEnp hrow (by rw [hdl, hmin]) (fun j u hj => ?_) (by rw [hdl, hRs]; omega) (fun v hv => ens_cell1 _ v hv), ⟨hdl, .inr ⟨w.heap.size, m, _, rfl, Nat.le_refl _, setRow_row hrow _, Nat.le_refl _, hmx, ?_, ?_⟩⟩, ?_⟩
        · have hc := HN.out a rfl j u hj
          have hab : (a.add j).block < w.heap.size := World.block_lt_of_cell? _ _ hc
          exact (World.cell?_of_block (w := w) (a := a.add j) (hb1.block _ hab)).trans hc
        · simp [hdl, hRs]
        · have : ROW.toList.drop (0 + (ens (L.drop k)).length) = [] := List.drop_eq_nil_of_le (by rw [hdl, Array.length_toList, hRs]; omega)
          rw [this]
          simp
          exact List.take_of_length_le (by omega)
        · have kk := keep_setRow W1 w.heap.size (ROW.toList.take 0 ++ ens (L.drop k) ++ ROW.toList.drop (0 + (ens (L.drop k)).length)).toArray
          exact ⟨kk.os.trans hb1.os, kk.tape.trans hb1.tape, kk.output.trans hb1.output, Nat.le_trans hb1.size kk.size, fun b hb => (kk.block b (Nat.lt_of_lt_of_le hb hb1.size) (by omega)).trans (hb1.block b hb)⟩
  obtain ⟨r, W', hr, ho, hbW⟩ := hcp
  have HR : Hid (∀ ty, (Builtin.copy_ #[54, 54] ty #[.slice (some ⟨w.heap.size, 0, none⟩) m m, .slice q m (bcap - k)]).run Tryz.prog W1 = .ok r W') := hr
  have HEnd : Hid (∃ v, Ending.returned (.slice (some ⟨w.heap.size, 0, none⟩) m m) = .returned v ∧ W'.ownsRow w.heap.size 114 3 v m (ens (L.drop k)) ∧ Below w.heap.size w W') := ⟨_, rfl, ho, hbW⟩
  rw [← hW1] at hmk
  have HMK : Hid ((Instr.makeSlice 54 (.int .i64 (m : Int)) (.int .i64 (m : Int))).run Tryz.prog w.drew = .ok (.slice (some ⟨w.heap.size, 0, none⟩) m m) W1) := hmk
  clear hr ho hbW hmk hW1 hb1 hrow hdl hROW hRs hz1 hz2 hi0 hz0 HN HE hm hmx
  have z1 : (0 : Int) ≤ (L.length : Int) := by omega
  go_enter Tryz.func46, Tryz.ntmps46
  go_upto_region 1 with fail
  refine wp_region_held_drew (S := fun wx => wx.cell? ⟨P, 0, none⟩ = some (.slice bp L.length bcap)) (by kernel_rfl) HC.out (fun hHeld => ?_)
  refine wpAnyH_take (i := 0) (v := (.pointer (some ⟨P, 0, none⟩))) rfl (by kernel_rfl) (by kernel_rfl) (by kernel_rfl) (fun _ _ _ h => h) (Or.inl ⟨by rfl, fun wx hSw => by kernel_rfl⟩) (by assumption) ?_
  simp only [Act.put, List.getElem_toArray, List.getElem_cons_zero, List.setIfInBounds_toArray, List.set_cons_zero, List.set_cons_succ]
  refine wpAnyH_take (i := 1) (v := (.pointer (some ⟨P, 0, none⟩))) rfl (by kernel_rfl) (by kernel_rfl) (by kernel_rfl) (fun _ _ _ h => h) (Or.inl ⟨by rfl, fun wx hSw => by kernel_rfl⟩) (by assumption) ?_
  simp only [Act.put, List.getElem_toArray, List.getElem_cons_succ, List.getElem_cons_zero, List.setIfInBounds_toArray, List.set_cons_zero, List.set_cons_succ]
  refine wpAnyH_take (i := 2) (v := (.pointer (some ⟨P, 0, none⟩))) rfl (by kernel_rfl) (by kernel_rfl) (by kernel_rfl) (fun _ _ _ h => h) (Or.inl ⟨by rfl, fun wx hSw => by kernel_rfl⟩) (by assumption) ?_
  simp only [Act.put, List.getElem_toArray, List.getElem_cons_succ, List.getElem_cons_zero, List.setIfInBounds_toArray, List.set_cons_zero, List.set_cons_succ]
  refine wpAnyH_take (i := 3) (v := (.slice bp L.length bcap)) rfl (by kernel_rfl) (by kernel_rfl) (by kernel_rfl) (fun _ _ _ h => h) (Or.inl ⟨by rfl, fun wx hSw => by ((try dsimp only at hSw); go_simp)⟩) (by assumption) ?_
  simp only [Act.put, List.getElem_toArray, List.getElem_cons_succ, List.getElem_cons_zero, List.setIfInBounds_toArray, List.set_cons_zero, List.set_cons_succ]
  refine wpAnyH_take (i := 4) (v := (.int .i64 x)) rfl (by kernel_rfl) (by kernel_rfl) (by kernel_rfl) (fun _ _ _ h => h) (Or.inl ⟨by rfl, fun wx hSw => by kernel_rfl⟩) (by assumption) ?_
  simp only [Act.put, List.getElem_toArray, List.getElem_cons_succ, List.getElem_cons_zero, List.setIfInBounds_toArray, List.set_cons_zero, List.set_cons_succ]
  refine wpAnyH_take (i := 5) (v := (.int .i64 x1)) rfl (by kernel_rfl) (by kernel_rfl) (by kernel_rfl) (fun _ _ _ h => h) (Or.inl ⟨by rfl, fun wx hSw => by (go_simp; have := HX1.out; omega)⟩) (by assumption) ?_
  simp only [Act.put, List.getElem_toArray, List.getElem_cons_succ, List.getElem_cons_zero, List.setIfInBounds_toArray, List.set_cons_zero, List.set_cons_succ]
  refine wpAnyH_take (i := 6) (v := (.pointer (some ⟨P, 0, none⟩))) rfl (by kernel_rfl) (by kernel_rfl) (by kernel_rfl) (fun _ _ _ h => h) (Or.inl ⟨by rfl, fun wx hSw => by kernel_rfl⟩) (by assumption) ?_
  simp only [Act.put, List.getElem_toArray, List.getElem_cons_succ, List.getElem_cons_zero, List.setIfInBounds_toArray, List.set_cons_zero, List.set_cons_succ]
  refine wpAnyH_take (i := 7) (v := (.pointer (some ⟨P, 0, none⟩))) rfl (by kernel_rfl) (by kernel_rfl) (by kernel_rfl) (fun _ _ _ h => h) (Or.inl ⟨by rfl, fun wx hSw => by kernel_rfl⟩) (by assumption) ?_
  simp only [Act.put, List.getElem_toArray, List.getElem_cons_succ, List.getElem_cons_zero, List.setIfInBounds_toArray, List.set_cons_zero, List.set_cons_succ]
  refine wpAnyH_take (i := 8) (v := (.pointer (some ⟨P, 0, none⟩))) rfl (by kernel_rfl) (by kernel_rfl) (by kernel_rfl) (fun _ _ _ h => h) (Or.inl ⟨by rfl, fun wx hSw => by kernel_rfl⟩) (by assumption) ?_
  simp only [Act.put, List.getElem_toArray, List.getElem_cons_succ, List.getElem_cons_zero, List.setIfInBounds_toArray, List.set_cons_zero, List.set_cons_succ]
  refine wpAnyH_take (i := 9) (v := (.slice bp L.length bcap)) rfl (by kernel_rfl) (by kernel_rfl) (by kernel_rfl) (fun _ _ _ h => h) (Or.inl ⟨by rfl, fun wx hSw => by ((try dsimp only at hSw); go_simp)⟩) (by assumption) ?_
  simp only [Act.put, List.getElem_toArray, List.getElem_cons_succ, List.getElem_cons_zero, List.setIfInBounds_toArray, List.set_cons_zero, List.set_cons_succ]
  refine wpAnyH_take (i := 10) (v := (.int .i64 L.length)) rfl (by kernel_rfl) (by kernel_rfl) (by kernel_rfl) (fun _ _ _ h => h) (Or.inl ⟨by rfl, fun wx hSw => by ((try dsimp only at hSw); go_simp)⟩) (by assumption) ?_
  simp only [Act.put, List.getElem_toArray, List.getElem_cons_succ, List.getElem_cons_zero, List.setIfInBounds_toArray, List.set_cons_zero, List.set_cons_succ]
  refine wpAnyH_take (i := 11) (v := (.int .i64 k)) rfl (by kernel_rfl) (by kernel_rfl) (by kernel_rfl) (fun _ _ _ h => h) (Or.inl ⟨by rfl, fun wx hSw => by (go_simp; have := HK2.out; omega)⟩) (by assumption) ?_
  simp only [Act.put, List.getElem_toArray, List.getElem_cons_succ, List.getElem_cons_zero, List.setIfInBounds_toArray, List.set_cons_zero, List.set_cons_succ]
  refine wpAnyH_take (i := 12) (v := (.slice q m (bcap - k))) rfl (by kernel_rfl) (by kernel_rfl) (by kernel_rfl) (fun _ _ _ h => h) (Or.inl ⟨by rfl, fun wx hSw => by (obtain ⟨q', hq1, rfl⟩ := HS.out wx; go_simp)⟩) (by assumption) ?_
  simp only [Act.put, List.getElem_toArray, List.getElem_cons_succ, List.getElem_cons_zero, List.setIfInBounds_toArray, List.set_cons_zero, List.set_cons_succ]
  refine wpAnyH_take (i := 13) (v := (.slice q m (bcap - k))) rfl (by kernel_rfl) (by kernel_rfl) (by kernel_rfl) (fun _ _ _ h => h) (Or.inl ⟨by rfl, fun wx hSw => by kernel_rfl⟩) (by assumption) ?_
  simp only [Act.put, List.getElem_toArray, List.getElem_cons_succ, List.getElem_cons_zero, List.setIfInBounds_toArray, List.set_cons_zero, List.set_cons_succ]
  refine wpAnyH_done (by kernel_rfl) ?_ _
  clear hHeld HS HK2 HX1 HC
  go_upto_region 2 with fail
  refine wp_region_lit ?_
  refine wpList_val (.slice q m (bcap - k)) w.drew rfl rfl ?_
  simp only [Act.put, List.setIfInBounds_toArray, List.set_cons_zero, List.set_cons_succ]
  refine wpList_val (.int .i64 m) w.drew rfl (by go_simp) ?_
  simp only [Act.put, List.setIfInBounds_toArray, List.set_cons_zero, List.set_cons_succ]
  refine wpList_val (.slice (some ⟨w.heap.size, 0, none⟩) m m) W1 rfl (by have h := HMK.out; simp only [execOp, Act.eval]; simp [h, Result.andThen, go_sem]) ?_
  simp only [Act.put, List.setIfInBounds_toArray, List.set_cons_zero, List.set_cons_succ]
  clear HMK
  go_upto_region 3 with fail
  refine wp_region_lit ?_
  refine wpList_val (.slice (some ⟨w.heap.size, 0, none⟩) m m) W1 rfl rfl ?_
  simp only [Act.put, List.setIfInBounds_toArray, List.set_cons_zero, List.set_cons_succ]
  refine wpList_val (.slice q m (bcap - k)) W1 rfl rfl ?_
  simp only [Act.put, List.setIfInBounds_toArray, List.set_cons_zero, List.set_cons_succ]
  refine wpList_copy_at W1 rfl (.tmp 23) (.tmp 24) 54 54 rfl _ _ rfl rfl (HR.out _) ?_
  simp only [Act.put, List.setIfInBounds_toArray, List.set_cons_zero, List.set_cons_succ]
  clear HR
  go_wp2
  go_ret
  exact HEnd.out
end Go.Proofs.YtanndhoimpnhpaaGreatDoor
namespace Go.Proofs.YtanndhoimpnhpaaGreatDoor
open Go.ChangeShapes Go.WideShapes Go.RowKit Go.WideMaps Go.Maps Cal
def enl (e : En) : List Value := [.int .i64 e.d, .int .i64 e.k, .int .i64 e.a]
def EnV (w : World) (v : Value) (L : List En) : Prop :=
  ∃ p cap, v = .slice p L.length cap ∧ L.length ≤ cap ∧ ∀ k (hk : k < L.length), ∃ b o, p = some ⟨b, o, none⟩ ∧ b < w.heap.size ∧ w.rangeAt b (o + k * 3) (enl L[k])
theorem own_en {w : World} {base : Nat} {v : Value} {L : List En} (h : w.ownsRow base 114 3 v L.length (ens L)) : EnV w v L := by
  obtain ⟨hl, hn | ⟨g, cap, cur, rfl, hg⟩⟩ := id h
  · obtain ⟨rfl, hz⟩ := hn
    have hE : L = [] := List.length_eq_zero_iff.1 hz
    subst hE
    exact ⟨none, 0, rfl, Nat.le_refl _, fun k hk => absurd hk (Nat.not_lt_zero k)⟩
  · have hlt := (own_base h (b := g) rfl).2
    refine ⟨some ⟨g, 0, none⟩, cap, rfl, hg.2.2.1, fun k hk => ⟨g, 0, rfl, hlt, ?_⟩⟩
    obtain ⟨q0, q1, q2⟩ := en_range h rfl k hk
    intro j u hu
    rw [Nat.zero_add]
    match j, hu with
    | 0, hu => cases hu; exact q0
    | 1, hu => cases hu; exact q1
    | 2, hu => cases hu; exact q2
end Go.Proofs.YtanndhoimpnhpaaGreatDoor
namespace Go.Proofs.YtanndhoimpnhpaaGreatDoor
open Go.ChangeShapes Go.WideShapes Go.ChangeAt Go.RowKit Go.WideMaps Go.Maps Lg Cal
def ReadPost (w : World) (B : Nat) (s : Sv) (F : Nat → Prop) (k : Nat) (ns : List Int) (e : Ending) (w' : World) : Prop :=
  Keep F w w' ∧ ((∃ s', s.read k ns = some s' ∧ e = .returned (.bool true) ∧ Dc w' B s'.t s'.l s'.g s'.day s'.L (Wd F w w')) ∨ (s.read k ns = none ∧ e = .returned (.bool false)))
def IsD (w : World) (B : Nat) (s : Sv) (F : Nat → Prop) : Prop := Dc w B s.t s.l s.g s.day s.L F
theorem IsV.first {w : World} {v : Value} {n : Int} {ns : List Int} (h : IsV w v (n :: ns)) : ∃ b o c, v = .slice (some ⟨b, o, none⟩) (n :: ns).length c ∧ b < w.heap.size ∧ ∀ k (hk : k < (n :: ns).length), w.cell? ⟨b, o + k, none⟩ = some (.int .i64 (n :: ns)[k]) := by
  obtain ⟨p, c, rfl, _, h3⟩ := h
  obtain ⟨b, o, rfl, hb, _⟩ := h3 0 (by simp)
  refine ⟨b, o, c, rfl, hb, fun k hk => ?_⟩
  obtain ⟨b', o', e, _, hc⟩ := h3 k hk
  injection e with e
  injection e with e1 e2
  subst e1 e2
  exact hc
set_option maxRecDepth 10000 in
theorem refread5 (w : World) (B : Nat) (s : Sv) (v : Value) (F : Nat → Prop) (h : IsD w B s F) :
    Calls Tryz.prog 72 #[.pointer (some ⟨B, 0, none⟩), .int .i64 5, v] w (ReadPost w B s F 5 []) := by
  have HE : Hid (ReadPost w B s F 5 [] (.returned (.bool true)) w) := ⟨Keep.refl _ _, .inl ⟨s, rfl, rfl, h.mono (fun b hb => .inl hb)⟩⟩
  clear h
  go_enter Tryz.func72, Tryz.ntmps72
  go_wp2
  go_ret
  exact HE.out
theorem Dc.day {w : World} {B : Nat} {t : Ln.Terms} {l : List Ln.Ev} {g : Ln.St} {day : Int} {F : Nat → Prop} (h : Dc w B t l g day [] F) (n : Int) (h0 : t.st ≤ n) (h1 : n ≤ t.st + 3700) (q : Nat) :
    Dc ((w.setCell ⟨B, 14, none⟩ (.int .i64 n)).drewN q) B t l g n [] F := by
  obtain ⟨evv, bkv, h2, h3, h4, h5⟩ := h
  have hk : Keep (fun b => b = B) w ((w.setCell ⟨B, 14, none⟩ (.int .i64 n)).drewN q) := ((Keep.refl (fun b => b = B) w).set (S := fun b => b = B) rfl 14 _).drewN q
  have hn : ∀ {T : TypeId} {sz k : Nat} {v : Value} {xs : List Value}, w.ownsRow (B + 1) T sz v k xs → ∀ b, v.ownBlock = some b → ¬ b = B := fun ho b hb e => by
    have := (own_base ho hb).1
    omega
  exact ⟨evv, bkv, ⟨(h2.ln.set 14 (show 14 < 16 by decide) _).drewN q, own_keep h2.ev hk (hn h2.ev), own_keep h2.bk hk (hn h2.bk), h2.ap, h2.ds, h2.ok, h2.le, h2.ot, fun e he => absurd he (List.not_mem_nil), h0, h1⟩, h3, h4, h5⟩
set_option maxRecDepth 10000 in
set_option maxHeartbeats 2000000 in
theorem refread2 (w : World) (B : Nat) (s : Sv) (v : Value) (n : Int) (F : Nat → Prop) (h : IsD w B s F) (hL : s.L = []) (hv : IsV w v [n]) (hd : ∀ b, v.ownBlock = some b → ¬ b = B) :
    Calls Tryz.prog 72 #[.pointer (some ⟨B, 0, none⟩), .int .i64 2, v] w (ReadPost w B s F 2 [n]) := by
  obtain ⟨b, o, c, rfl, _, hc⟩ := hv.first
  have hc0 : w.cell? ⟨b, o, none⟩ = some (.int .i64 n) := hc 0 (by simp)
  have hne : ¬ b = B := hd b rfl
  obtain ⟨t, l, g, day, L⟩ := s
  obtain rfl : L = [] := hL
  have hD : Dc w B t l g day [] F := h
  have hk : ∀ q, Keep F w ((w.setCell ⟨B, 14, none⟩ (.int .i64 n)).drewN q) := fun q => ((Keep.refl F w).set (by obtain ⟨_, _, _, h3, _⟩ := hD; exact h3) 14 _).drewN q
  obtain ⟨evv, bkv, hX, _⟩ := id hD
  have c14 : w.cell? ⟨B, 14, none⟩ = some (.int .i64 day) := hX.ln.cell 14 rfl
  have f14 : w.frozen? ⟨B, 14, none⟩ = false := hX.ln.free 14 rfl
  have HW : Hid (∀ W, W = w.setCell ⟨B, 14, none⟩ (.int .i64 n) → W.cell? ⟨b, o, none⟩ = some (.int .i64 n) ∧ W.cell? ⟨B, 0, none⟩ = some (.int .i64 t.st)) := by
    rintro W rfl
    exact ⟨(World.cell?_setCell_far _ _ _ _ (show B ≠ b from fun e => hne e.symm)).trans hc0, (hX.ln.set 14 (show 14 < 16 by decide) _).cell 0 rfl⟩
  have ho0 := hX.ot.st0
  have ho1 := hX.ot.st1
  have HG : Hid (∀ q, t.st ≤ n → n ≤ t.st + 3700 → ReadPost w B ⟨t, l, g, day, []⟩ F 2 [n] (.returned (.bool true)) ((w.setCell ⟨B, 14, none⟩ (.int .i64 n)).drewN q)) := fun q h0 h1 =>
    ⟨hk q, .inl ⟨⟨t, l, g, n, []⟩, by simp [Sv.read, h0, h1], rfl, (hD.day n h0 h1 q).mono (fun b hb => .inl hb)⟩⟩
  have HN : Hid (∀ q, ¬ (t.st ≤ n ∧ n ≤ t.st + 3700) → ReadPost w B ⟨t, l, g, day, []⟩ F 2 [n] (.returned (.bool false)) ((w.setCell ⟨B, 14, none⟩ (.int .i64 n)).drewN q)) := fun q h0 =>
    ⟨hk q, .inr ⟨by simp only [Sv.read]; rw [if_neg h0], rfl⟩⟩
  clear h hv hd hc hD hk hX hne
  go_enter Tryz.func72, Tryz.ntmps72
  go_upto_region 12 with fail
  obtain ⟨hw0, hw1⟩ := HW.out _ rfl
  have HU : Hid (∃ W, W = w.setCell ⟨B, 14, none⟩ (.int .i64 n)) := ⟨_, rfl⟩
  generalize w.setCell ⟨B, 14, none⟩ (.int .i64 n) = W at *
  clear c14 f14 hc0 HW
  have z3 : IntKind.i64.wrap (t.st + 3700) = t.st + 3700 := by rw [IntKind.wrap_i64]; omega
  by_cases h0 : t.st ≤ n
  · by_cases h1 : n ≤ t.st + 3700
    · go_quiet (fail)
      go_wp2
      go_ret
      exact HG.out _ h0 h1
    · go_quiet (fail)
      go_wp2
      go_ret
      exact HN.out _ (by omega)
  · go_quiet (fail)
    go_wp2
    go_ret
    exact HN.out _ (by omega)
set_option maxRecDepth 10000 in
set_option maxHeartbeats 2000000 in
theorem refread3 (w : World) (B : Nat) (s : Sv) (v : Value) (a0 a1 a2 a3 a4 a5 a6 : Int) (F : Nat → Prop) (h : IsD w B s F) (hv : IsV w v [a0, a1, a2, a3, a4, a5, a6]) (hd : ∀ b, v.ownBlock = some b → ¬ b = B) :
    Calls Tryz.prog 72 #[.pointer (some ⟨B, 0, none⟩), .int .i64 3, v] w (ReadPost w B s F 3 [a0, a1, a2, a3, a4, a5, a6]) := by
  obtain ⟨b, o, c, rfl, hbl, hc⟩ := hv.first
  have hne : ¬ b = B := hd b rfl
  obtain ⟨t, l, g, day, L⟩ := s
  have hD : Dc w B t l g day L F := h
  obtain ⟨evv, bkv, hX, hF, hF1, hF2⟩ := hD
  obtain ⟨m, hm⟩ : ∃ m : List Value, m = [.int .i64 a0, .int .i64 a1, .int .i64 a2, .int .i64 a3, .int .i64 a4, .int .i64 a5, .int .i64 a6, .int .i64 day] := ⟨_, rfl⟩
  have hkB : ∀ W, W.heap = w.heap → Keep (fun b => b = B) W (W.setCells B 7 m) := fun W _ => Keep.setCells (S := fun b => b = B) rfl m 7 W (Keep.refl _ _)
  have hn : ∀ {T : TypeId} {sz k : Nat} {v : Value} {xs : List Value}, w.ownsRow (B + 1) T sz v k xs → ∀ b, v.ownBlock = some b → ¬ b = B := fun ho b hb e => by
    have := (own_base ho hb).1
    omega
  have hA : At (w.drew.setCells B 7 m) B (dl t evv ⟨a0, a1, a2, a3, a4, a5, a6, 0, 0, 0⟩ day bkv) := by
    have := At.setCells m 7 _ _ hX.ln.drew (by rw [hm]; show 7 + 8 ≤ 16; decide)
    rw [hm] at this ⊢
    exact this
  have hk1 : Keep (fun b => b = B) w (w.drew.setCells B 7 m) := Keep.undrew (hkB w.drew rfl)
  have HE : Hid (ReadPost w B ⟨t, l, g, day, L⟩ F 3 [a0, a1, a2, a3, a4, a5, a6] (.returned (.bool true)) (w.drew.setCells B 7 m)) :=
    ⟨hk1.mono (fun k _ e => by subst e; exact hF), .inl ⟨⟨t, l, ⟨a0, a1, a2, a3, a4, a5, a6, 0, 0, 0⟩, day, L⟩, rfl, rfl, evv, bkv, ⟨hA, own_keep hX.ev hk1 (hn hX.ev), own_keep hX.bk hk1 (hn hX.bk), hX.ap, hX.ds, hX.ok, hX.le, hX.ot, hX.inl, hX.d0, hX.d1⟩, .inl hF, fun b hb => .inl (hF1 b hb), fun b hb => .inl (hF2 b hb)⟩⟩
  have HT : Hid (w.drew.there B 7 8) := hX.ln.drew.there_mid 7 8 (show 7 + 8 ≤ 16 by decide)
  have HS2 : Hid ((∀ k (hk : k < [a0, a1, a2, a3, a4, a5, a6].length), (w.drew.setCells B 7 m).cell? ⟨b, o + k, none⟩ = some (.int .i64 [a0, a1, a2, a3, a4, a5, a6][k])) ∧ (w.drew.setCells B 7 m).cell? ⟨B, 14, none⟩ = some (.int .i64 day)) :=
    ⟨fun k hk => (World.cell?_of_block (w := w) (a := ⟨b, o + k, none⟩) (hk1.block b hbl hne)).trans (hc k hk), hA.cell 14 rfl⟩
  have HS1 : Hid ((∀ k (hk : k < [a0, a1, a2, a3, a4, a5, a6].length), w.drew.cell? ⟨b, o + k, none⟩ = some (.int .i64 [a0, a1, a2, a3, a4, a5, a6][k])) ∧ w.drew.cell? ⟨B, 14, none⟩ = some (.int .i64 day)) := ⟨hc, hX.ln.cell 14 rfl⟩
  have HM : Hid (m = [.int .i64 a0, .int .i64 a1, .int .i64 a2, .int .i64 a3, .int .i64 a4, .int .i64 a5, .int .i64 a6, .int .i64 day]) := hm
  clear h hv hd hc hkB hn hA hk1 hX hm hF hF1 hF2 hbl hne
  go_enter Tryz.func72, Tryz.ntmps72
  go_upto_region 14 with fail
  refine wp_region_held_drew (S := fun wx => (∀ k (hk : k < [a0, a1, a2, a3, a4, a5, a6].length), wx.cell? ⟨b, o + k, none⟩ = some (.int .i64 [a0, a1, a2, a3, a4, a5, a6][k])) ∧ wx.cell? ⟨B, 14, none⟩ = some (.int .i64 day)) (by kernel_rfl) HS1.out (fun hHeld => ?_)
  generalize w.drew = U0 at *
  refine wpAnyH_take (i := 0) (v := (.pointer (some ⟨B, 0, none⟩))) rfl (by kernel_rfl) (by kernel_rfl) (by kernel_rfl) (fun _ _ _ h => h) (Or.inl ⟨by rfl, fun wx hSw => by kernel_rfl⟩) (by assumption) ?_
  simp only [Act.put, List.getElem_toArray, List.getElem_cons_zero, List.setIfInBounds_toArray, List.set_cons_zero, List.set_cons_succ]
  refine wpAnyH_take (i := 1) (v := (.slice (some ⟨b, o, none⟩) [a0, a1, a2, a3, a4, a5, a6].length c)) rfl (by kernel_rfl) (by kernel_rfl) (by kernel_rfl) (fun _ _ _ h => h) (Or.inl ⟨by rfl, fun wx hSw => by kernel_rfl⟩) (by assumption) ?_
  simp only [Act.put, List.getElem_toArray, List.getElem_cons_succ, List.getElem_cons_zero, List.setIfInBounds_toArray, List.set_cons_zero, List.set_cons_succ]
  refine wpAnyH_take (i := 2) (v := (.pointer (some ⟨b, o, none⟩))) rfl (by kernel_rfl) (by kernel_rfl) (by kernel_rfl) (fun _ _ _ h => h) (Or.inl ⟨by rfl, fun wx hSw => by ((try dsimp only at hSw); go_simp)⟩) (by assumption) ?_
  simp only [Act.put, List.getElem_toArray, List.getElem_cons_succ, List.getElem_cons_zero, List.setIfInBounds_toArray, List.set_cons_zero, List.set_cons_succ]
  refine wpAnyH_take (i := 3) (v := (.int .i64 a0)) rfl (by kernel_rfl) (by kernel_rfl) (by kernel_rfl) (fun _ _ _ h => h) (Or.inl ⟨by rfl, fun wx hSw => by (have hc := (show wx.cell? ⟨b, o, none⟩ = some (.int .i64 a0) from hSw.1 0 (by simp)); go_simp)⟩) (by assumption) ?_
  simp only [Act.put, List.getElem_toArray, List.getElem_cons_succ, List.getElem_cons_zero, List.setIfInBounds_toArray, List.set_cons_zero, List.set_cons_succ]
  refine wpAnyH_take (i := 4) (v := (.slice (some ⟨b, o, none⟩) [a0, a1, a2, a3, a4, a5, a6].length c)) rfl (by kernel_rfl) (by kernel_rfl) (by kernel_rfl) (fun _ _ _ h => h) (Or.inl ⟨by rfl, fun wx hSw => by kernel_rfl⟩) (by assumption) ?_
  simp only [Act.put, List.getElem_toArray, List.getElem_cons_succ, List.getElem_cons_zero, List.setIfInBounds_toArray, List.set_cons_zero, List.set_cons_succ]
  refine wpAnyH_take (i := 5) (v := (.pointer (some ⟨b, o + 1, none⟩))) rfl (by kernel_rfl) (by kernel_rfl) (by kernel_rfl) (fun _ _ _ h => h) (Or.inl ⟨by rfl, fun wx hSw => by ((try dsimp only at hSw); go_simp)⟩) (by assumption) ?_
  simp only [Act.put, List.getElem_toArray, List.getElem_cons_succ, List.getElem_cons_zero, List.setIfInBounds_toArray, List.set_cons_zero, List.set_cons_succ]
  refine wpAnyH_take (i := 6) (v := (.int .i64 a1)) rfl (by kernel_rfl) (by kernel_rfl) (by kernel_rfl) (fun _ _ _ h => h) (Or.inl ⟨by rfl, fun wx hSw => by (have hc := (show wx.cell? ⟨b, o + 1, none⟩ = some (.int .i64 a1) from hSw.1 1 (by simp)); go_simp)⟩) (by assumption) ?_
  simp only [Act.put, List.getElem_toArray, List.getElem_cons_succ, List.getElem_cons_zero, List.setIfInBounds_toArray, List.set_cons_zero, List.set_cons_succ]
  refine wpAnyH_take (i := 7) (v := (.slice (some ⟨b, o, none⟩) [a0, a1, a2, a3, a4, a5, a6].length c)) rfl (by kernel_rfl) (by kernel_rfl) (by kernel_rfl) (fun _ _ _ h => h) (Or.inl ⟨by rfl, fun wx hSw => by kernel_rfl⟩) (by assumption) ?_
  simp only [Act.put, List.getElem_toArray, List.getElem_cons_succ, List.getElem_cons_zero, List.setIfInBounds_toArray, List.set_cons_zero, List.set_cons_succ]
  refine wpAnyH_take (i := 8) (v := (.pointer (some ⟨b, o + 2, none⟩))) rfl (by kernel_rfl) (by kernel_rfl) (by kernel_rfl) (fun _ _ _ h => h) (Or.inl ⟨by rfl, fun wx hSw => by ((try dsimp only at hSw); go_simp)⟩) (by assumption) ?_
  simp only [Act.put, List.getElem_toArray, List.getElem_cons_succ, List.getElem_cons_zero, List.setIfInBounds_toArray, List.set_cons_zero, List.set_cons_succ]
  refine wpAnyH_take (i := 9) (v := (.int .i64 a2)) rfl (by kernel_rfl) (by kernel_rfl) (by kernel_rfl) (fun _ _ _ h => h) (Or.inl ⟨by rfl, fun wx hSw => by (have hc := (show wx.cell? ⟨b, o + 2, none⟩ = some (.int .i64 a2) from hSw.1 2 (by simp)); go_simp)⟩) (by assumption) ?_
  simp only [Act.put, List.getElem_toArray, List.getElem_cons_succ, List.getElem_cons_zero, List.setIfInBounds_toArray, List.set_cons_zero, List.set_cons_succ]
  refine wpAnyH_take (i := 10) (v := (.slice (some ⟨b, o, none⟩) [a0, a1, a2, a3, a4, a5, a6].length c)) rfl (by kernel_rfl) (by kernel_rfl) (by kernel_rfl) (fun _ _ _ h => h) (Or.inl ⟨by rfl, fun wx hSw => by kernel_rfl⟩) (by assumption) ?_
  simp only [Act.put, List.getElem_toArray, List.getElem_cons_succ, List.getElem_cons_zero, List.setIfInBounds_toArray, List.set_cons_zero, List.set_cons_succ]
  refine wpAnyH_take (i := 11) (v := (.pointer (some ⟨b, o + 3, none⟩))) rfl (by kernel_rfl) (by kernel_rfl) (by kernel_rfl) (fun _ _ _ h => h) (Or.inl ⟨by rfl, fun wx hSw => by ((try dsimp only at hSw); go_simp)⟩) (by assumption) ?_
  simp only [Act.put, List.getElem_toArray, List.getElem_cons_succ, List.getElem_cons_zero, List.setIfInBounds_toArray, List.set_cons_zero, List.set_cons_succ]
  refine wpAnyH_take (i := 12) (v := (.int .i64 a3)) rfl (by kernel_rfl) (by kernel_rfl) (by kernel_rfl) (fun _ _ _ h => h) (Or.inl ⟨by rfl, fun wx hSw => by (have hc := (show wx.cell? ⟨b, o + 3, none⟩ = some (.int .i64 a3) from hSw.1 3 (by simp)); go_simp)⟩) (by assumption) ?_
  simp only [Act.put, List.getElem_toArray, List.getElem_cons_succ, List.getElem_cons_zero, List.setIfInBounds_toArray, List.set_cons_zero, List.set_cons_succ]
  refine wpAnyH_take (i := 13) (v := (.slice (some ⟨b, o, none⟩) [a0, a1, a2, a3, a4, a5, a6].length c)) rfl (by kernel_rfl) (by kernel_rfl) (by kernel_rfl) (fun _ _ _ h => h) (Or.inl ⟨by rfl, fun wx hSw => by kernel_rfl⟩) (by assumption) ?_
  simp only [Act.put, List.getElem_toArray, List.getElem_cons_succ, List.getElem_cons_zero, List.setIfInBounds_toArray, List.set_cons_zero, List.set_cons_succ]
  refine wpAnyH_take (i := 14) (v := (.pointer (some ⟨b, o + 4, none⟩))) rfl (by kernel_rfl) (by kernel_rfl) (by kernel_rfl) (fun _ _ _ h => h) (Or.inl ⟨by rfl, fun wx hSw => by ((try dsimp only at hSw); go_simp)⟩) (by assumption) ?_
  simp only [Act.put, List.getElem_toArray, List.getElem_cons_succ, List.getElem_cons_zero, List.setIfInBounds_toArray, List.set_cons_zero, List.set_cons_succ]
  refine wpAnyH_take (i := 15) (v := (.int .i64 a4)) rfl (by kernel_rfl) (by kernel_rfl) (by kernel_rfl) (fun _ _ _ h => h) (Or.inl ⟨by rfl, fun wx hSw => by (have hc := (show wx.cell? ⟨b, o + 4, none⟩ = some (.int .i64 a4) from hSw.1 4 (by simp)); go_simp)⟩) (by assumption) ?_
  simp only [Act.put, List.getElem_toArray, List.getElem_cons_succ, List.getElem_cons_zero, List.setIfInBounds_toArray, List.set_cons_zero, List.set_cons_succ]
  refine wpAnyH_take (i := 16) (v := (.slice (some ⟨b, o, none⟩) [a0, a1, a2, a3, a4, a5, a6].length c)) rfl (by kernel_rfl) (by kernel_rfl) (by kernel_rfl) (fun _ _ _ h => h) (Or.inl ⟨by rfl, fun wx hSw => by kernel_rfl⟩) (by assumption) ?_
  simp only [Act.put, List.getElem_toArray, List.getElem_cons_succ, List.getElem_cons_zero, List.setIfInBounds_toArray, List.set_cons_zero, List.set_cons_succ]
  refine wpAnyH_take (i := 17) (v := (.pointer (some ⟨b, o + 5, none⟩))) rfl (by kernel_rfl) (by kernel_rfl) (by kernel_rfl) (fun _ _ _ h => h) (Or.inl ⟨by rfl, fun wx hSw => by ((try dsimp only at hSw); go_simp)⟩) (by assumption) ?_
  simp only [Act.put, List.getElem_toArray, List.getElem_cons_succ, List.getElem_cons_zero, List.setIfInBounds_toArray, List.set_cons_zero, List.set_cons_succ]
  refine wpAnyH_take (i := 18) (v := (.int .i64 a5)) rfl (by kernel_rfl) (by kernel_rfl) (by kernel_rfl) (fun _ _ _ h => h) (Or.inl ⟨by rfl, fun wx hSw => by (have hc := (show wx.cell? ⟨b, o + 5, none⟩ = some (.int .i64 a5) from hSw.1 5 (by simp)); go_simp)⟩) (by assumption) ?_
  simp only [Act.put, List.getElem_toArray, List.getElem_cons_succ, List.getElem_cons_zero, List.setIfInBounds_toArray, List.set_cons_zero, List.set_cons_succ]
  refine wpAnyH_take (i := 19) (v := (.slice (some ⟨b, o, none⟩) [a0, a1, a2, a3, a4, a5, a6].length c)) rfl (by kernel_rfl) (by kernel_rfl) (by kernel_rfl) (fun _ _ _ h => h) (Or.inl ⟨by rfl, fun wx hSw => by kernel_rfl⟩) (by assumption) ?_
  simp only [Act.put, List.getElem_toArray, List.getElem_cons_succ, List.getElem_cons_zero, List.setIfInBounds_toArray, List.set_cons_zero, List.set_cons_succ]
  refine wpAnyH_take (i := 20) (v := (.pointer (some ⟨b, o + 6, none⟩))) rfl (by kernel_rfl) (by kernel_rfl) (by kernel_rfl) (fun _ _ _ h => h) (Or.inl ⟨by rfl, fun wx hSw => by ((try dsimp only at hSw); go_simp)⟩) (by assumption) ?_
  simp only [Act.put, List.getElem_toArray, List.getElem_cons_succ, List.getElem_cons_zero, List.setIfInBounds_toArray, List.set_cons_zero, List.set_cons_succ]
  refine wpAnyH_take (i := 21) (v := (.int .i64 a6)) rfl (by kernel_rfl) (by kernel_rfl) (by kernel_rfl) (fun _ _ _ h => h) (Or.inl ⟨by rfl, fun wx hSw => by (have hc := (show wx.cell? ⟨b, o + 6, none⟩ = some (.int .i64 a6) from hSw.1 6 (by simp)); go_simp)⟩) (by assumption) ?_
  simp only [Act.put, List.getElem_toArray, List.getElem_cons_succ, List.getElem_cons_zero, List.setIfInBounds_toArray, List.set_cons_zero, List.set_cons_succ]
  refine wpAnyH_take (i := 22) (v := (.pointer (some ⟨B, 0, none⟩))) rfl (by kernel_rfl) (by kernel_rfl) (by kernel_rfl) (fun _ _ _ h => h) (Or.inl ⟨by rfl, fun wx hSw => by kernel_rfl⟩) (by assumption) ?_
  simp only [Act.put, List.getElem_toArray, List.getElem_cons_succ, List.getElem_cons_zero, List.setIfInBounds_toArray, List.set_cons_zero, List.set_cons_succ]
  refine wpAnyH_take (i := 23) (v := (.pointer (some ⟨B, 0, none⟩))) rfl (by kernel_rfl) (by kernel_rfl) (by kernel_rfl) (fun _ _ _ h => h) (Or.inl ⟨by rfl, fun wx hSw => by ((try dsimp only at hSw); go_simp)⟩) (by assumption) ?_
  simp only [Act.put, List.getElem_toArray, List.getElem_cons_succ, List.getElem_cons_zero, List.setIfInBounds_toArray, List.set_cons_zero, List.set_cons_succ]
  refine wpAnyH_take (i := 24) (v := (.pointer (some ⟨B, 7, none⟩))) rfl (by kernel_rfl) (by kernel_rfl) (by kernel_rfl) (fun _ _ _ h => h) (Or.inl ⟨by rfl, fun wx hSw => by ((try dsimp only at hSw); go_simp)⟩) (by assumption) ?_
  simp only [Act.put, List.getElem_toArray, List.getElem_cons_succ, List.getElem_cons_zero, List.setIfInBounds_toArray, List.set_cons_zero, List.set_cons_succ]
  refine wpAnyH_take (i := 25) (v := (.pointer (some ⟨B, 14, none⟩))) rfl (by kernel_rfl) (by kernel_rfl) (by kernel_rfl) (fun _ _ _ h => h) (Or.inl ⟨by rfl, fun wx hSw => by ((try dsimp only at hSw); go_simp)⟩) (by assumption) ?_
  simp only [Act.put, List.getElem_toArray, List.getElem_cons_succ, List.getElem_cons_zero, List.setIfInBounds_toArray, List.set_cons_zero, List.set_cons_succ]
  refine wpAnyH_take (i := 26) (v := (.int .i64 day)) rfl (by kernel_rfl) (by kernel_rfl) (by kernel_rfl) (fun _ _ _ h => h) (Or.inl ⟨by rfl, fun wx hSw => by (have hc := (show wx.cell? ⟨B, 14, none⟩ = some (.int .i64 day) from hSw.2); go_simp)⟩) (by assumption) ?_
  simp only [Act.put, List.getElem_toArray, List.getElem_cons_succ, List.getElem_cons_zero, List.setIfInBounds_toArray, List.set_cons_zero, List.set_cons_succ]
  refine wpAnyH_take (i := 27) (v := (.agg #[.int .i64 a0, .int .i64 a1, .int .i64 a2, .int .i64 a3, .int .i64 a4, .int .i64 a5, .int .i64 a6, .int .i64 day])) rfl (by kernel_rfl) (by kernel_rfl) (by kernel_rfl) (fun _ _ _ h => h) (Or.inl ⟨by rfl, fun wx hSw => by go_simp⟩) (by assumption) ?_
  simp only [Act.put, List.getElem_toArray, List.getElem_cons_succ, List.getElem_cons_zero, List.setIfInBounds_toArray, List.set_cons_zero, List.set_cons_succ]
  refine wpAnyH_take (i := 28) (v := (.pointer (some ⟨B, 0, none⟩))) rfl (by kernel_rfl) (by kernel_rfl) (by kernel_rfl) (fun _ _ _ h => h) (Or.inl ⟨by rfl, fun wx hSw => by ((try dsimp only at hSw); go_simp)⟩) (by assumption) ?_
  simp only [Act.put, List.getElem_toArray, List.getElem_cons_succ, List.getElem_cons_zero, List.setIfInBounds_toArray, List.set_cons_zero, List.set_cons_succ]
  refine wpAnyH_take (i := 29) (v := (.pointer (some ⟨B, 7, none⟩))) rfl (by kernel_rfl) (by kernel_rfl) (by kernel_rfl) (fun _ _ _ h => h) (Or.inl ⟨by rfl, fun wx hSw => by ((try dsimp only at hSw); go_simp)⟩) (by assumption) ?_
  simp only [Act.put, List.getElem_toArray, List.getElem_cons_succ, List.getElem_cons_zero, List.setIfInBounds_toArray, List.set_cons_zero, List.set_cons_succ]
  refine wpAnyH_ready (rs := [30]) (by kernel_rfl) (by simp) ?_
  refine AllReadyH.cons rfl (fun K hK => ?_) AllReadyH.nil
  rw [if_pos (by rfl)]
  refine wp_store_mid 52 (.tmp 110) (.tmp 108) rfl B 7 #[.int .i64 a0, .int .i64 a1, .int .i64 a2, .int .i64 a3, .int .i64 a4, .int .i64 a5, .int .i64 a6, .int .i64 day] rfl rfl HT.out (by kernel_rfl) (by kernel_rfl) ?_
  rw [show (#[.int .i64 a0, .int .i64 a1, .int .i64 a2, .int .i64 a3, .int .i64 a4, .int .i64 a5, .int .i64 a6, .int .i64 day] : Array Value).toList = m from HM.out.symm]
  refine hK.out _ _ HS2.out (fun _ => ?_)
  clear hK K hHeld HS1 HT HS2
  generalize U0.setCells B 7 m = U1 at *
  refine wpAnyH_done (by kernel_rfl) ?_ _
  go_wp2
  go_ret
  exact HE.out
end Go.Proofs.YtanndhoimpnhpaaGreatDoor
