/- What the document's sorted answers: the same events, in order. -/
import Derived.Test.YtanndhoimpnhpaaGreatDoorM5
import Derived.Test.YtanndhoimpnhpaaGreatDoorM1
import Derived.Laws.OwnMore
import Derived.Deep.AppendLies
import Derived.OwnWalk
namespace Go.Proofs.YtanndhoimpnhpaaGreatDoor
open Go.ChangeShapes Go.WideShapes Go.ChangeAt Go.RowKit Lg

theorem infoEv : (Tryz.prog.info? 50).map (fun i => (i.zero, i.size, i.bytes)) = some (some (.agg #[.int .i64 0, .int .i64 0, .int .i64 0, .int .i64 0]), 4, 32) := by kernel_rfl
theorem ev_cells {w : World} {E : Nat} {l : List Ln.Ev} (h : At w E (evs l)) (k : Nat) (hk : k < l.length) : w.rangeAt E (k * 4) [.int .i64 l[k].d, .int .i64 l[k].k, .int .i64 l[k].s, .int .i64 l[k].a] := by
  obtain ⟨q0, q1, q2, q3⟩ := evs_at l k hk
  intro j v hj
  match j, hj with
  | 0, hj => obtain rfl := Option.some.inj hj; exact h.cell _ q0
  | 1, hj => obtain rfl := Option.some.inj hj; exact h.cell _ q1
  | 2, hj => obtain rfl := Option.some.inj hj; exact h.cell _ q2
  | 3, hj => obtain rfl := Option.some.inj hj; exact h.cell _ q3
  | j + 4, hj => exact absurd hj (by simp)

theorem range_below {W W' : World} {b o : Nat} {cs : List Value} (h : W.rangeAt b o cs) (hb : Below W.heap.size W W') (hl : b < W.heap.size) : W'.rangeAt b o cs := fun j v hj => (hb.cell (p := ⟨b, o + j, none⟩) hl).trans (h j v hj)
theorem own_below {W W' : World} {base : Nat} {e : TypeId} {size n cap g : Nat} {xs : List Value} (h : W.ownsRow base e size (.slice (some ⟨g, 0, none⟩) n cap) n xs) (hb : Below W.heap.size W W') (hg : g < W.heap.size) : W'.ownsRow base e size (.slice (some ⟨g, 0, none⟩) n cap) n xs := by
  obtain ⟨h1, ⟨h2, _⟩ | ⟨g', cap', cur, h3, h4, h5, h6⟩⟩ := h
  · cases h2
  · cases h3
    exact ⟨h1, .inr ⟨g, cap, cur, rfl, h4, (hb.block g hg).trans h5, h6⟩⟩
theorem own_store4 {w : World} {base : Nat} {T : TypeId} {n cap g : Nat} {L : List Ln.Ev} (h : w.ownsRow base T 4 (.slice (some ⟨g, 0, none⟩) n cap) n (evs L)) (k : Nat) (hk : k < L.length) (e : Ln.Ev) :
    ((((w.setCell ⟨g, k * 4, none⟩ (.int .i64 e.d)).setCell ⟨g, k * 4 + 1, none⟩ (.int .i64 e.k)).setCell ⟨g, k * 4 + 2, none⟩ (.int .i64 e.s)).setCell ⟨g, k * 4 + 3, none⟩ (.int .i64 e.a)).ownsRow base T 4 (.slice (some ⟨g, 0, none⟩) n cap) n (evs (L.set k e)) := by
  rw [← So.evs_set L k hk e]
  exact ((((h.stored (k * 4) (.int .i64 e.d)).1.stored (k * 4 + 1) (.int .i64 e.k)).1.stored (k * 4 + 2) (.int .i64 e.s)).1.stored (k * 4 + 3) (.int .i64 e.a)).1
theorem own_range {w : World} {base : Nat} {T : TypeId} {n cap g : Nat} {L : List Ln.Ev} (h : w.ownsRow base T 4 (.slice (some ⟨g, 0, none⟩) n cap) n (evs L)) (hn : n = L.length) (k : Nat) (e : Ln.Ev) (he : L[k]? = some e) :
    w.rangeAt g (k * 4) [.int .i64 e.d, .int .i64 e.k, .int .i64 e.s, .int .i64 e.a] ∧ ∀ o, w.frozen? ⟨g, o, none⟩ = false := by
  have hk : k < L.length := (List.getElem?_eq_some_iff.1 he).1
  have hx : L[k] = e := (List.getElem?_eq_some_iff.1 he).2
  obtain ⟨q0, q1, q2, q3⟩ := evs_at L k hk
  rw [hx] at q0 q1 q2 q3
  refine ⟨?_, fun o => h.frozenAt o⟩
  intro j v hj
  match j, hj with
  | 0, hj => obtain rfl := Option.some.inj hj; exact (h.cellAt _ (by omega)).trans q0
  | 1, hj => obtain rfl := Option.some.inj hj; exact (h.cellAt _ (by omega)).trans q1
  | 2, hj => obtain rfl := Option.some.inj hj; exact (h.cellAt _ (by omega)).trans q2
  | 3, hj => obtain rfl := Option.some.inj hj; exact (h.cellAt _ (by omega)).trans q3
  | j + 4, hj => exact absurd hj (by simp)

set_option maxRecDepth 10000 in
set_option maxHeartbeats 4000000 in
theorem sorted_any (w : World) (pa : Option Addr) (ecap E : Nat) (l : List Ln.Ev) (hl : l.length ≤ 40) (hE : l ≠ [] → pa = some ⟨E, 0, none⟩ ∧ At w E (evs l)) (hdd : l.Pairwise (fun a b => ¬ a.s = b.s)) :
    Calls Tryz.prog 93 #[.slice pa l.length ecap] w fun e w' => ∃ v R, e = .returned v ∧ w'.ownsRow w.heap.size 50 4 v l.length (evs R) ∧ R.Perm l ∧ R.Pairwise So.Ah ∧ Below w.heap.size w w' := by
  obtain ⟨i0, hi, hz0, hz1, hz2⟩ := info_parts infoEv
  have HE := (show Hid _ from hE)
  have HD := (show Hid _ from hdd)
  clear hE hdd
  go_enter Tryz.func93, Tryz.ntmps93
  go_wp2
  go_loopw [3, 4] (fun o i wr => ∃ (k : Nat) (R : List Ln.Ev), k ≤ l.length ∧ i = .int .i64 k ∧ wr.ownsRow w.heap.size 50 4 o k (evs R) ∧ R.Perm (l.take k) ∧ R.Pairwise So.Ah ∧ Below w.heap.size w wr) (fun _ i _ => l.length - (intOf i).toNat)
  case atStart => exact ⟨0, [], by omega, rfl, World.ownsRow_nil _ _ _ _, by simp, List.Pairwise.nil, Below.refl _ _⟩
  case round =>
    obtain ⟨k, R, hk, rfl, hown, hperm, hsort, hbel⟩ := hrel
    have hRl : R.length = k := by rw [hperm.length_eq, List.length_take]; omega
    obtain ⟨p0, cap0, rfl⟩ := own_slice hown
    by_cases hlt : k < l.length
    · have hne : l ≠ [] := by intro x; subst x; simp at hlt
      obtain ⟨rfl, hEw⟩ := HE.out hne
      have hEl : E < w.heap.size := World.block_lt_of_cell? _ _ (hEw.cell _ (evs_at l k hlt).1)
      have hrg : w.rangeAt E (k * 4) [.int .i64 l[k].d, .int .i64 l[k].k, .int .i64 l[k].s, .int .i64 l[k].a] := ev_cells hEw k hlt
      have r0 : wr.cell? ⟨E, k * 4, none⟩ = some (.int .i64 l[k].d) := (hbel.cell (p := ⟨E, _, none⟩) hEl).trans (hrg 0 _ rfl)
      have r1 : wr.cell? ⟨E, k * 4 + 1, none⟩ = some (.int .i64 l[k].k) := (hbel.cell (p := ⟨E, _, none⟩) hEl).trans (hrg 1 _ rfl)
      have r2 : wr.cell? ⟨E, k * 4 + 2, none⟩ = some (.int .i64 l[k].s) := (hbel.cell (p := ⟨E, _, none⟩) hEl).trans (hrg 2 _ rfl)
      have r3 : wr.cell? ⟨E, k * 4 + 3, none⟩ = some (.int .i64 l[k].a) := (hbel.cell (p := ⟨E, _, none⟩) hEl).trans (hrg 3 _ rfl)
      have HX : Hid (∀ x ∈ R, ¬ x.s = l[k].s) := by
        intro x hx
        have hx' := hperm.mem_iff.1 hx
        obtain ⟨j, hj, rfl⟩ := List.getElem_of_mem hx'
        have hj2 : j < k := by rw [List.length_take] at hj; omega
        rw [List.getElem_take]
        exact List.pairwise_iff_getElem.1 HD.out j k (by omega) hlt hj2
      have HT : Hid (l.take (k + 1) = l.take k ++ [l[k]]) := List.take_succ_eq_append_getElem hlt
      have HR := (show Hid (w.rangeAt E (k * 4) [.int .i64 l[k].d, .int .i64 l[k].k, .int .i64 l[k].s, .int .i64 l[k].a]) from hrg)
      clear hrg hEw HD HE
      generalize l[k] = e at *
      obtain ⟨ed, ek, es, ea⟩ := e
      simp only at r0 r1 r2 r3
      go_wp2_with (at_builtin; refine wpList_append_own _ rfl _ _ 42 rfl w.heap.size 50 i0 (.agg #[.int .i64 0, .int .i64 0, .int .i64 0, .int .i64 0]) 4 32 Tryz.underlying42 hi hz0 hz1 hz2 rfl (by decide) _ _ _ rfl (hown.alloc _) ⟨wr.heap.size, 0, none⟩ 1 1 [.int .i64 ed, .int .i64 ek, .int .i64 es, .int .i64 ea] rfl rfl ?c1 ?c2 ?c3 ?c4 ?c5 ?_)
      case c2 => exact ⟨rfl, rfl, rfl, rfl⟩
      case c3 => unfold maxLen; omega
      case c4 => omega
      case c5 => have := hbel.size; simp; omega
      · intro v' w1 hown' hgrow _
        have hb1 : Below w.heap.size w w1 := (hbel.alloc hbel.size _).grown hgrow (by simp; exact Nat.le_succ_of_le hbel.size) (fun j hj => own_from hown hj)
        obtain ⟨g, cap1, rfl, hgb, hgl⟩ := hown'.form (by omega)
        have hown2 : w1.ownsRow w.heap.size 50 4 (.slice (some ⟨g, 0, none⟩) (k + 1) cap1) (k + 1) (evs (So.insAt ⟨ed, ek, es, ea⟩ R k)) := by
          have e1 : evs (So.insAt ⟨ed, ek, es, ea⟩ R k) = evs R ++ [.int .i64 ed, .int .i64 ek, .int .i64 es, .int .i64 ea] := by
            rw [← hRl, So.insAt_end, So.evs_append]
            rfl
          rw [e1]
          exact hown'
        clear hown' hgrow hown hbel r0 r1 r2 r3
        go_wp2
        go_loopw [5] (fun q wz => ∃ (j : Nat) (h : Ln.Ev), j ≤ k ∧ q = .int .i64 j ∧ wz.ownsRow w.heap.size 50 4 (.slice (some ⟨g, 0, none⟩) (k + 1) cap1) (k + 1) (evs (So.insAt h R j)) ∧ (∀ i (hi : i < R.length), j ≤ i → So.Ah ⟨ed, ek, es, ea⟩ R[i]) ∧ Below w.heap.size w wz) (fun q _ => (intOf q).toNat)
        case atStart => exact ⟨k, ⟨ed, ek, es, ea⟩, by omega, rfl, hown2, fun i hi h => by omega, hb1⟩
        case round =>
          obtain ⟨j, h, hj, rfl, hownz, hahead, hbz⟩ := hrel
          clear hown2 hb1
          have hIl : (So.insAt h R j).length = k + 1 := by rw [So.insAt_len h R j (by omega), hRl]
          have hEr : wr.rangeAt E (k * 4) [.int .i64 ed, .int .i64 ek, .int .i64 es, .int .i64 ea] := fun j' v' h' => (hbz.cell (p := ⟨E, _, none⟩) hEl).trans (HR.out j' v' h')
          have s0 : wr.cell? ⟨E, k * 4, none⟩ = some (.int .i64 ed) := hEr 0 _ rfl
          have s1 : wr.cell? ⟨E, k * 4 + 1, none⟩ = some (.int .i64 ek) := hEr 1 _ rfl
          have s2 : wr.cell? ⟨E, k * 4 + 2, none⟩ = some (.int .i64 es) := hEr 2 _ rfl
          have s3 : wr.cell? ⟨E, k * 4 + 3, none⟩ = some (.int .i64 ea) := hEr 3 _ rfl
          by_cases hj0 : j = 0
          · subst hj0
            have hat : (So.insAt h R 0)[0]? = some h := rfl
            obtain ⟨hrg3, hfz⟩ := own_range hownz hIl.symm 0 h hat
            have t0 : wr.cell? ⟨g, 0, none⟩ = some (.int .i64 h.d) := hrg3 0 _ rfl
            have t1 : wr.cell? ⟨g, 1, none⟩ = some (.int .i64 h.k) := hrg3 1 _ rfl
            have t2 : wr.cell? ⟨g, 2, none⟩ = some (.int .i64 h.s) := hrg3 2 _ rfl
            have t3 : wr.cell? ⟨g, 3, none⟩ = some (.int .i64 h.a) := hrg3 3 _ rfl
            have hnew := own_store4 hownz.drew 0 (by omega) ⟨ed, ek, es, ea⟩
            rw [So.insAt_set h ⟨ed, ek, es, ea⟩ R 0 (by omega)] at hnew
            simp only [Nat.zero_mul, Nat.zero_add] at hnew
            have HNW := (show Hid _ from hnew)
            have HBZ : Hid (Below w.heap.size w ((((wr.drew.setCell ⟨g, 0, none⟩ (.int .i64 ed)).setCell ⟨g, 1, none⟩ (.int .i64 ek)).setCell ⟨g, 2, none⟩ (.int .i64 es)).setCell ⟨g, 3, none⟩ (.int .i64 ea))) := ((((hbz.drew).setCell hgb _).setCell hgb _).setCell hgb _).setCell hgb _
            clear hnew hrg3 hownz hEr
            go_wp2_with fail
            refine wp_region_held_drew (S := fun _ => True) (by kernel_rfl) trivial (fun hHeld => ?_)
            refine wpAnyH_take (i := 0) (v := .int .i64 ((0 : Nat) : Int)) rfl (by kernel_rfl) (by kernel_rfl) (by kernel_rfl) (fun _ _ _ h => h) (Or.inl ⟨by rfl, fun wx hSw => by (dsimp only at hSw; go_simp)⟩) (by assumption) ?_
            simp only [Act.put, List.getElem_toArray, List.getElem_cons_zero, List.setIfInBounds_toArray, List.set_cons_zero, List.set_cons_succ]
            refine wpAnyH_take (i := 1) (v := .bool false) rfl (by kernel_rfl) (by kernel_rfl) (by kernel_rfl) (fun _ _ _ h => h) (Or.inl ⟨by rfl, fun wx hSw => by (dsimp only at hSw; go_simp)⟩) (by assumption) ?_
            simp only [Act.put, List.getElem_toArray, List.getElem_cons_succ, List.getElem_cons_zero, List.setIfInBounds_toArray, List.set_cons_zero, List.set_cons_succ]
            refine wpAnyH_take (i := 2) (v := .bool false) rfl (by kernel_rfl) (by kernel_rfl) (by kernel_rfl) (fun _ _ _ h => h) (Or.inl ⟨by rfl, fun wx hSw => by (dsimp only at hSw; go_simp)⟩) (by assumption) ?_
            simp only [Act.put, List.getElem_toArray, List.getElem_cons_succ, List.getElem_cons_zero, List.setIfInBounds_toArray, List.set_cons_zero, List.set_cons_succ]
            refine wpAnyH_take (i := 3) (v := undef) rfl (by kernel_rfl) (by kernel_rfl) (by kernel_rfl) (fun _ _ _ h => h) (Or.inr ⟨by rfl, rfl⟩) (by assumption) ?_
            simp only [Act.put, List.getElem_toArray, List.getElem_cons_succ, List.getElem_cons_zero, List.setIfInBounds_toArray, List.set_cons_zero, List.set_cons_succ]
            refine wpAnyH_take (i := 4) (v := undef) rfl (by kernel_rfl) (by kernel_rfl) (by kernel_rfl) (fun _ _ _ h => h) (Or.inr ⟨by rfl, rfl⟩) (by assumption) ?_
            simp only [Act.put, List.getElem_toArray, List.getElem_cons_succ, List.getElem_cons_zero, List.setIfInBounds_toArray, List.set_cons_zero, List.set_cons_succ]
            refine wpAnyH_take (i := 5) (v := undef) rfl (by kernel_rfl) (by kernel_rfl) (by kernel_rfl) (fun _ _ _ h => h) (Or.inr ⟨by rfl, rfl⟩) (by assumption) ?_
            simp only [Act.put, List.getElem_toArray, List.getElem_cons_succ, List.getElem_cons_zero, List.setIfInBounds_toArray, List.set_cons_zero, List.set_cons_succ]
            refine wpAnyH_take (i := 6) (v := undef) rfl (by kernel_rfl) (by kernel_rfl) (by kernel_rfl) (fun _ _ _ h => h) (Or.inr ⟨by rfl, rfl⟩) (by assumption) ?_
            simp only [Act.put, List.getElem_toArray, List.getElem_cons_succ, List.getElem_cons_zero, List.setIfInBounds_toArray, List.set_cons_zero, List.set_cons_succ]
            refine wpAnyH_take (i := 7) (v := undef) rfl (by kernel_rfl) (by kernel_rfl) (by kernel_rfl) (fun _ _ _ h => h) (Or.inr ⟨by rfl, rfl⟩) (by assumption) ?_
            simp only [Act.put, List.getElem_toArray, List.getElem_cons_succ, List.getElem_cons_zero, List.setIfInBounds_toArray, List.set_cons_zero, List.set_cons_succ]
            refine wpAnyH_take (i := 8) (v := undef) rfl (by kernel_rfl) (by kernel_rfl) (by kernel_rfl) (fun _ _ _ h => h) (Or.inr ⟨by rfl, rfl⟩) (by assumption) ?_
            simp only [Act.put, List.getElem_toArray, List.getElem_cons_succ, List.getElem_cons_zero, List.setIfInBounds_toArray, List.set_cons_zero, List.set_cons_succ]
            refine wpAnyH_take (i := 9) (v := undef) rfl (by kernel_rfl) (by kernel_rfl) (by kernel_rfl) (fun _ _ _ h => h) (Or.inr ⟨by rfl, rfl⟩) (by assumption) ?_
            simp only [Act.put, List.getElem_toArray, List.getElem_cons_succ, List.getElem_cons_zero, List.setIfInBounds_toArray, List.set_cons_zero, List.set_cons_succ]
            refine wpAnyH_take (i := 10) (v := undef) rfl (by kernel_rfl) (by kernel_rfl) (by kernel_rfl) (fun _ _ _ h => h) (Or.inr ⟨by rfl, rfl⟩) (by assumption) ?_
            simp only [Act.put, List.getElem_toArray, List.getElem_cons_succ, List.getElem_cons_zero, List.setIfInBounds_toArray, List.set_cons_zero, List.set_cons_succ]
            refine wpAnyH_take (i := 11) (v := undef) rfl (by kernel_rfl) (by kernel_rfl) (by kernel_rfl) (fun _ _ _ h => h) (Or.inr ⟨by rfl, rfl⟩) (by assumption) ?_
            simp only [Act.put, List.getElem_toArray, List.getElem_cons_succ, List.getElem_cons_zero, List.setIfInBounds_toArray, List.set_cons_zero, List.set_cons_succ]
            refine wpAnyH_take (i := 12) (v := undef) rfl (by kernel_rfl) (by kernel_rfl) (by kernel_rfl) (fun _ _ _ h => h) (Or.inr ⟨by rfl, rfl⟩) (by assumption) ?_
            simp only [Act.put, List.getElem_toArray, List.getElem_cons_succ, List.getElem_cons_zero, List.setIfInBounds_toArray, List.set_cons_zero, List.set_cons_succ]
            refine wpAnyH_take (i := 13) (v := .bool false) rfl (by kernel_rfl) (by kernel_rfl) (by kernel_rfl) (fun _ _ _ h => h) (Or.inl ⟨by rfl, fun wx hSw => by (dsimp only at hSw; go_simp)⟩) (by assumption) ?_
            simp only [Act.put, List.getElem_toArray, List.getElem_cons_succ, List.getElem_cons_zero, List.setIfInBounds_toArray, List.set_cons_zero, List.set_cons_succ]
            refine wpAnyH_done (by kernel_rfl) ?_ _
            clear hHeld
            go_wp2_with fail
            go_roundw
            case rel => exact ⟨k + 1, So.insAt ⟨ed, ek, es, ea⟩ R 0, by omega, by go_num, HNW.out, by rw [HT.out]; exact (So.insAt_perm _ R 0).trans ((hperm.cons _).trans (List.perm_append_singleton _ _).symm), So.ins_sorted ⟨ed, ek, es, ea⟩ R 0 (by omega) hsort HX.out (fun a b c => hahead a b c) (.inl rfl), HBZ.out⟩
            case measure => simp [intOf]; omega
          · obtain ⟨i, rfl⟩ : ∃ i, j = i + 1 := ⟨j - 1, by omega⟩
            have hi2 : i < R.length := by omega
            have hlo : (So.insAt h R (i + 1))[i]? = some R[i] := So.insAt_low h R (i + 1) i (by omega) (by omega)
            have hat : (So.insAt h R (i + 1))[i + 1]? = some h := by
              unfold So.insAt
              rw [List.getElem?_append_right (by simp; omega)]
              simp [Nat.min_eq_left (show i + 1 ≤ R.length by omega)]
            obtain ⟨hrg2, hfz⟩ := own_range hownz hIl.symm i R[i] hlo
            obtain ⟨hrg3, _⟩ := own_range hownz hIl.symm (i + 1) h hat
            have hgz : g < wr.heap.size := World.block_lt_of_cell? _ _ (hrg2 0 _ rfl)
            have hdown := So.insAt_down R i hi2
            generalize hx : R[i] = x at *
            have hxm : x ∈ R := by rw [← hx]; exact List.getElem_mem hi2
            have hwi : IntKind.i64.wrap (i : Int) = i := by rw [IntKind.wrap_i64]; omega
            have hki : ¬ (k : Int) + 1 ≤ i := by omega
            have hAh := fun W => ahead_any ⟨ed, ek, es, ea⟩ x W
            have hon := hownz.drew
            go_wp2_with fail
            refine wp_region_held_drew (S := fun wz => wz.rangeAt E (k * 4) [.int .i64 ed, .int .i64 ek, .int .i64 es, .int .i64 ea] ∧ wz.rangeAt g (i * 4) [.int .i64 x.d, .int .i64 x.k, .int .i64 x.s, .int .i64 x.a]) (by kernel_rfl) ⟨hEr, hrg2⟩ (fun hHeld => ?_)
            refine wpAnyH_take (i := 0) (v := .int .i64 ((i + 1 : Nat) : Int)) rfl (by kernel_rfl) (by kernel_rfl) (by kernel_rfl) (fun _ _ _ h => h) (Or.inl ⟨by rfl, fun wx hSw => by (dsimp only at hSw; go_simp)⟩) (by assumption) ?_
            simp only [Act.put, List.getElem_toArray, List.getElem_cons_zero, List.setIfInBounds_toArray, List.set_cons_zero, List.set_cons_succ]
            refine wpAnyH_take (i := 1) (v := .bool true) rfl (by kernel_rfl) (by kernel_rfl) (by kernel_rfl) (fun _ _ _ h => h) (Or.inl ⟨by rfl, fun wx hSw => by (dsimp only at hSw; go_simp)⟩) (by assumption) ?_
            simp only [Act.put, List.getElem_toArray, List.getElem_cons_succ, List.getElem_cons_zero, List.setIfInBounds_toArray, List.set_cons_zero, List.set_cons_succ]
            refine wpAnyH_take (i := 2) (v := .bool true) rfl (by kernel_rfl) (by kernel_rfl) (by kernel_rfl) (fun _ _ _ h => h) (Or.inl ⟨by rfl, fun wx hSw => by (dsimp only at hSw; go_simp)⟩) (by assumption) ?_
            simp only [Act.put, List.getElem_toArray, List.getElem_cons_succ, List.getElem_cons_zero, List.setIfInBounds_toArray, List.set_cons_zero, List.set_cons_succ]
            refine wpAnyH_take (i := 3) (v := .slice (some ⟨E, 0, none⟩) l.length ecap) rfl (by kernel_rfl) (by kernel_rfl) (by kernel_rfl) (fun _ _ _ h => h) (Or.inl ⟨by rfl, fun wx hSw => by (dsimp only at hSw; go_simp)⟩) (by assumption) ?_
            simp only [Act.put, List.getElem_toArray, List.getElem_cons_succ, List.getElem_cons_zero, List.setIfInBounds_toArray, List.set_cons_zero, List.set_cons_succ]
            refine wpAnyH_take (i := 4) (v := .int .i64 k) rfl (by kernel_rfl) (by kernel_rfl) (by kernel_rfl) (fun _ _ _ h => h) (Or.inl ⟨by rfl, fun wx hSw => by (dsimp only at hSw; go_simp)⟩) (by assumption) ?_
            simp only [Act.put, List.getElem_toArray, List.getElem_cons_succ, List.getElem_cons_zero, List.setIfInBounds_toArray, List.set_cons_zero, List.set_cons_succ]
            refine wpAnyH_take (i := 5) (v := .pointer (some ⟨E, k * 4, none⟩)) rfl (by kernel_rfl) (by kernel_rfl) (by kernel_rfl) (fun _ _ _ h => h) (Or.inl ⟨by rfl, fun wx hSw => by (dsimp only at hSw; go_simp)⟩) (by assumption) ?_
            simp only [Act.put, List.getElem_toArray, List.getElem_cons_succ, List.getElem_cons_zero, List.setIfInBounds_toArray, List.set_cons_zero, List.set_cons_succ]
            refine wpAnyH_take (i := 6) (v := .agg #[.int .i64 ed, .int .i64 ek, .int .i64 es, .int .i64 ea]) rfl (by kernel_rfl) (by kernel_rfl) (by kernel_rfl) (fun _ _ _ h => h) (yieldsIf_load_mid (by rfl) 50 (.tmp 26) rfl _ _ rfl _ _ (fun _ h => h.1) Tryz.underlying50 rfl (by kernel_rfl)) (by assumption) ?_
            simp only [Act.put, List.getElem_toArray, List.getElem_cons_succ, List.getElem_cons_zero, List.setIfInBounds_toArray, List.set_cons_zero, List.set_cons_succ]
            refine wpAnyH_take (i := 7) (v := .slice (some ⟨g, 0, none⟩) (k + 1) cap1) rfl (by kernel_rfl) (by kernel_rfl) (by kernel_rfl) (fun _ _ _ h => h) (Or.inl ⟨by rfl, fun wx hSw => by (dsimp only at hSw; go_simp)⟩) (by assumption) ?_
            simp only [Act.put, List.getElem_toArray, List.getElem_cons_succ, List.getElem_cons_zero, List.setIfInBounds_toArray, List.set_cons_zero, List.set_cons_succ]
            refine wpAnyH_take (i := 8) (v := .int .i64 ((i + 1 : Nat) : Int)) rfl (by kernel_rfl) (by kernel_rfl) (by kernel_rfl) (fun _ _ _ h => h) (Or.inl ⟨by rfl, fun wx hSw => by (dsimp only at hSw; go_simp)⟩) (by assumption) ?_
            simp only [Act.put, List.getElem_toArray, List.getElem_cons_succ, List.getElem_cons_zero, List.setIfInBounds_toArray, List.set_cons_zero, List.set_cons_succ]
            refine wpAnyH_take (i := 9) (v := .int .i64 i) rfl (by kernel_rfl) (by kernel_rfl) (by kernel_rfl) (fun _ _ _ h => h) (Or.inl ⟨by rfl, fun wx hSw => by (dsimp only at hSw; go_simp)⟩) (by assumption) ?_
            simp only [Act.put, List.getElem_toArray, List.getElem_cons_succ, List.getElem_cons_zero, List.setIfInBounds_toArray, List.set_cons_zero, List.set_cons_succ]
            refine wpAnyH_take (i := 10) (v := .pointer (some ⟨g, i * 4, none⟩)) rfl (by kernel_rfl) (by kernel_rfl) (by kernel_rfl) (fun _ _ _ h => h) (Or.inl ⟨by rfl, fun wx hSw => by (dsimp only at hSw; go_simp)⟩) (by assumption) ?_
            simp only [Act.put, List.getElem_toArray, List.getElem_cons_succ, List.getElem_cons_zero, List.setIfInBounds_toArray, List.set_cons_zero, List.set_cons_succ]
            refine wpAnyH_take (i := 11) (v := .agg #[.int .i64 x.d, .int .i64 x.k, .int .i64 x.s, .int .i64 x.a]) rfl (by kernel_rfl) (by kernel_rfl) (by kernel_rfl) (fun _ _ _ h => h) (yieldsIf_load_mid (by rfl) 50 (.tmp 31) rfl _ _ rfl _ _ (fun _ h => h.2) Tryz.underlying50 rfl (by kernel_rfl)) (by assumption) ?_
            simp only [Act.put, List.getElem_toArray, List.getElem_cons_succ, List.getElem_cons_zero, List.setIfInBounds_toArray, List.set_cons_zero, List.set_cons_succ]
            refine wpAnyH_ready (rs := [12]) (by kernel_rfl) (by simp) ?_
            refine AllReadyH.cons rfl (fun K hK => ?_) AllReadyH.nil
            go_simp
            refine (hAh _).mono ?_
            rintro e2 w2 ⟨rfl, hb2⟩
            go_wp2_with fail
            have hE2 := range_below hHeld.1 hb2 (Nat.lt_of_lt_of_le hEl hbz.size)
            have hg2 := range_below hHeld.2 hb2 hgz
            refine hK.out _ _ ⟨hE2, hg2⟩ (fun hHeld2 => ?_)
            have hon2 := own_below hon hb2 hgz
            have hbz2 := hbz.drew.trans (hb2.mono hbz.size)
            clear hK K hHeld hb2 hAh hon hownz hEr hrg2 hrg3 hfz hgz s0 s1 s2 s3 hbz
            refine wpAnyH_take (i := 13) (v := .bool (aheadB ⟨ed, ek, es, ea⟩ x)) rfl (by kernel_rfl) (by kernel_rfl) (by kernel_rfl) (fun _ _ _ h => h) (Or.inl ⟨by rfl, fun wx hSw => by (dsimp only at hSw; go_simp)⟩) (by assumption) ?_
            simp only [Act.put, List.getElem_toArray, List.getElem_cons_succ, List.getElem_cons_zero, List.setIfInBounds_toArray, List.set_cons_zero, List.set_cons_succ]
            refine wpAnyH_done (by kernel_rfl) ?_ _
            clear hHeld2
            obtain ⟨hrg4, hfz⟩ := own_range hon2 hIl.symm (i + 1) h hat
            have s0 : w2.cell? ⟨E, k * 4, none⟩ = some (.int .i64 ed) := hE2 0 _ rfl
            have s1 : w2.cell? ⟨E, k * 4 + 1, none⟩ = some (.int .i64 ek) := hE2 1 _ rfl
            have s2 : w2.cell? ⟨E, k * 4 + 2, none⟩ = some (.int .i64 es) := hE2 2 _ rfl
            have s3 : w2.cell? ⟨E, k * 4 + 3, none⟩ = some (.int .i64 ea) := hE2 3 _ rfl
            have v0 : w2.cell? ⟨g, i * 4, none⟩ = some (.int .i64 x.d) := hg2 0 _ rfl
            have v1 : w2.cell? ⟨g, i * 4 + 1, none⟩ = some (.int .i64 x.k) := hg2 1 _ rfl
            have v2 : w2.cell? ⟨g, i * 4 + 2, none⟩ = some (.int .i64 x.s) := hg2 2 _ rfl
            have v3 : w2.cell? ⟨g, i * 4 + 3, none⟩ = some (.int .i64 x.a) := hg2 3 _ rfl
            have t0 : w2.cell? ⟨g, (i + 1) * 4, none⟩ = some (.int .i64 h.d) := hrg4 0 _ rfl
            have t1 : w2.cell? ⟨g, (i + 1) * 4 + 1, none⟩ = some (.int .i64 h.k) := hrg4 1 _ rfl
            have t2 : w2.cell? ⟨g, (i + 1) * 4 + 2, none⟩ = some (.int .i64 h.s) := hrg4 2 _ rfl
            have t3 : w2.cell? ⟨g, (i + 1) * 4 + 3, none⟩ = some (.int .i64 h.a) := hrg4 3 _ rfl
            clear hE2 hg2 hrg4
            cases hab : aheadB ⟨ed, ek, es, ea⟩ x
            · clear v0 v1 v2 v3
              have hna : ¬ So.Ah ⟨ed, ek, es, ea⟩ R[i] := by rw [hx]; unfold So.Ah; rw [hab]; decide
              have hnew := own_store4 hon2 (i + 1) (by omega) ⟨ed, ek, es, ea⟩
              rw [So.insAt_set h ⟨ed, ek, es, ea⟩ R (i + 1) (by omega)] at hnew
              have HNW := (show Hid _ from hnew)
              have HBZ : Hid (Below w.heap.size w ((((w2.setCell ⟨g, (i + 1) * 4, none⟩ (.int .i64 ed)).setCell ⟨g, (i + 1) * 4 + 1, none⟩ (.int .i64 ek)).setCell ⟨g, (i + 1) * 4 + 2, none⟩ (.int .i64 es)).setCell ⟨g, (i + 1) * 4 + 3, none⟩ (.int .i64 ea))) := (((hbz2.setCell hgb _).setCell hgb _).setCell hgb _).setCell hgb _
              clear hnew hon2
              go_wp2_with fail
              go_roundw
              case rel => exact ⟨k + 1, So.insAt ⟨ed, ek, es, ea⟩ R (i + 1), by omega, by go_num, HNW.out, by rw [HT.out]; exact (So.insAt_perm _ R (i + 1)).trans ((hperm.cons _).trans (List.perm_append_singleton _ _).symm), So.ins_sorted ⟨ed, ek, es, ea⟩ R (i + 1) (by omega) hsort HX.out (fun a b c => hahead a b c) (.inr ⟨hi2, hna⟩), HBZ.out⟩
              case measure => simp [intOf]; omega
            · clear s0 s1 s2 s3
              have hnew := own_store4 hon2 (i + 1) (by omega) x
              rw [So.insAt_set h x R (i + 1) (by omega), hdown] at hnew
              have HNW := (show Hid _ from hnew)
              have HBZ : Hid (Below w.heap.size w ((((w2.setCell ⟨g, (i + 1) * 4, none⟩ (.int .i64 x.d)).setCell ⟨g, (i + 1) * 4 + 1, none⟩ (.int .i64 x.k)).setCell ⟨g, (i + 1) * 4 + 2, none⟩ (.int .i64 x.s)).setCell ⟨g, (i + 1) * 4 + 3, none⟩ (.int .i64 x.a))) := (((hbz2.setCell hgb _).setCell hgb _).setCell hgb _).setCell hgb _
              have HAH : Hid (∀ a (ha : a < R.length), i ≤ a → So.Ah ⟨ed, ek, es, ea⟩ R[a]) := by
                intro a ha hia
                by_cases hai : a = i
                · subst hai
                  rw [hx]
                  exact hab
                · exact hahead a ha (by omega)
              clear hnew hon2
              go_wp2_with fail
              go_roundw
              case rel => exact ⟨i, x, by omega, by go_num, HNW.out, HAH.out, HBZ.out⟩
              case measure => simp [intOf]
    · obtain rfl : k = l.length := by omega
      clear hlt HE HD
      rw [List.take_length] at hperm
      go_wp2
      go_ret
      exact ⟨_, R, rfl, hown, hperm, hsort, hbel⟩
end Go.Proofs.YtanndhoimpnhpaaGreatDoor
