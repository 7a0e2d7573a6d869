/- A loan that is run to a day is that of the document's arithmetic. -/
import Derived.Test.YtanndhoimpnhpaaDoorPvC
namespace Go.Proofs.YtanndhoimpnhpaaDoor
open Go.ChangeShapes Go.WideShapes Go.RowKit Go.WideMaps Go.Maps Cal

/-! ### Events of a day -/
def dayOf (n : Int) (l : List Ln.Ev) : List Ln.Ev := l.filter (fun e => decide (e.d = n))
def fromDay (n : Int) (l : List Ln.Ev) : List Ln.Ev := l.filter (fun e => decide (n ≤ e.d))
theorem day_cut (n : Int) : ∀ l : List Ln.Ev, l.Pairwise So.Ah → fromDay n l = dayOf n l ++ fromDay (n + 1) l
  | [], _ => rfl
  | e :: r, h => by
    obtain ⟨h1, h2⟩ := List.pairwise_cons.1 h
    have ih := day_cut n r h2
    unfold fromDay dayOf at *
    by_cases hn : e.d = n
    · rw [List.filter_cons_of_pos (by simp; omega), List.filter_cons_of_pos (by simp [hn]), List.filter_cons_of_neg (by simp; omega), ih]
      rfl
    · by_cases hlt : n ≤ e.d
      · have hz : r.filter (fun e => decide (e.d = n)) = [] := by
          rw [List.filter_eq_nil_iff]
          intro x hx
          have := (So.ah_iff e x).1 (h1 x hx)
          simp
          omega
        have hz2 : r.filter (fun e => decide (n ≤ e.d)) = r.filter (fun e => decide (n + 1 ≤ e.d)) := by
          rw [ih, hz]
          rfl
        rw [List.filter_cons_of_pos (by simp; omega), List.filter_cons_of_neg (by simp; omega), List.filter_cons_of_pos (by simp; omega), hz, hz2]
        rfl
      · rw [List.filter_cons_of_neg (by simp; omega), List.filter_cons_of_neg (by simp; omega), List.filter_cons_of_neg (by simp; omega), ih]
theorem cnt_day (n : Int) (l m : List Ln.Ev) (h1 : ∀ e ∈ l, e.d = n) (h2 : ∀ e ∈ m, ¬ e.d = n) : cnt n (l ++ m) = l.length := by
  refine cnt_is n (l ++ m) l.length (by simp) ?_ ?_
  · intro j hj hjl
    rw [List.getElem_append_left hjl]
    exact h1 _ (List.getElem_mem _)
  · intro h
    rw [List.getElem_append_right (Nat.le_refl _)]
    exact h2 _ (List.getElem_mem _)
theorem fold_day (n : Int) : ∀ (l : List Ln.Ev) (y : Ln.Dy), l.foldl (Ln.event n) y = (dayOf n l).foldl (Ln.event n) y
  | [], _ => rfl
  | e :: r, y => by
    unfold dayOf
    by_cases h : e.d = n
    · rw [List.filter_cons_of_pos (by simp [h]), List.foldl_cons, List.foldl_cons]
      exact fold_day n r _
    · rw [List.filter_cons_of_neg (by simp [h]), List.foldl_cons]
      have : Ln.event n y e = y := by unfold Ln.event; rw [if_pos h]
      rw [this]
      exact fold_day n r y
theorem lents_day (n : Int) : ∀ l : List Ln.Ev, Ln.lents n (dayOf n l) = Ln.lents n l
  | [] => rfl
  | e :: r => by
    have ih := lents_day n r
    unfold dayOf at *
    by_cases h : e.d = n
    · rw [List.filter_cons_of_pos (by simp [h])]
      show Ln.lent n e + _ = Ln.lent n e + _
      rw [ih]
    · rw [List.filter_cons_of_neg (by simp [h]), ih]
      show _ = Ln.lent n e + _
      unfold Ln.lent
      rw [if_neg h]
      omega
theorem day_day (t : Ln.Terms) (n cd w : Int) (l : List Ln.Ev) (g : Ln.St) : Ln.day t n cd w (dayOf n l) g = Ln.day t n cd w l g := by
  unfold Ln.day
  rw [fold_day n l]

/-- The days of a loan. -/
noncomputable def yOf (t : Ln.Terms) (l : List Ln.Ev) (k : Nat) : Ln.Dy := Ln.day t (t.st + k) (cdOf (t.st + k)) (wtOf t.ba (t.st + k)) l (Ln.run t cdOf (wtOf t.ba) l k)
theorem day_bd {t : Ln.Terms} (ht : Ln.OkT t) (l : List Ln.Ev) (hl : ∀ e ∈ l, Ln.OkE t e) (hn : l.length ≤ 40) (k : Nat) (hk : k < 3700) :
    Ln.sw (wsOf t.ba t.st) k + wsOf t.ba t.st k ≤ 4320 ∧ (if 0 < k then t.pr else 0) + Ln.tot t k l + (if t.st + (k : Int) = t.st then t.pr else 0) + Ln.lents (t.st + k) l ≤ 4100000000000 ∧ (yOf t l k).g.fn / Ln.den t ≤ 8000000000000000000 := by
  have hs := sw_bd t.ba t.st ht.st0 ht.st1 (k + 1) (by omega)
  have hs' : Ln.sw (wsOf t.ba t.st) k + wsOf t.ba t.st k ≤ 4320 := hs
  have hb := Ln.tot_bound ht l hl hn (k + 1)
  have ts := Ln.tot_succ t k l
  refine ⟨hs', ?_, Ln.run_fn_bd ht l hl hn (k + 1) (by omega)⟩
  rw [if_pos (Nat.succ_pos k)] at hb
  have hp := ht.pr0
  by_cases hz : 0 < k
  · rw [if_pos hz, if_neg (by omega)]; omega
  · rw [if_neg hz, if_pos (by omega)]; omega
/-- No amount of a day is out of bounds. -/
theorem am_bd {t : Ln.Terms} (ht : Ln.OkT t) (l : List Ln.Ev) (hl : ∀ e ∈ l, Ln.OkE t e) (hn : l.length ≤ 40) (k : Nat) (hk : k < 3700) (j : Nat) (h1 : 1 ≤ j) (h12 : j ≤ 12) : 0 ≤ (yOf t l k).am j ∧ (yOf t l k).am j ≤ 8000000000000000000 := by
  obtain ⟨hs, hL, hfn⟩ := day_bd ht l hl hn k hk
  have hI := Ln.run_inv ht cdOf (wtOf t.ba) (wsOf t.ba t.st) (wsOf_le _ _) (wsOf_eq _ _) l hl k
  have hlen := Ln.lents_nn (t.st + k) l hl
  have hpr := ht.pr0
  have hL0 := hI.L0
  have hif : 0 ≤ (if t.st + (k : Int) = t.st then t.pr else 0) := by split <;> omega
  have I0 := hI.early (t.st + k) (cdOf (t.st + k)) ht
  have A0 := Ln.Am.early (n := t.st + k) hI (by omega) (by omega) ht (cdOf (t.st + k))
  have If := Ln.Inv.events (t.st + k) l I0 hl
  have fe := Ln.events_fn (t.st + k) l (Ln.early t (t.st + k) (cdOf (t.st + k)) (Ln.run t cdOf (wtOf t.ba) l k))
  rw [Ln.early_fn] at fe
  have hd := Ln.den_bd t
  have hw := wtOf_bd t.ba (t.st + k)
  have m2 : 0 ≤ (l.foldl (Ln.event (t.st + k)) (Ln.early t (t.st + k) (cdOf (t.st + k)) (Ln.run t cdOf (wtOf t.ba) l k))).g.la * (t.fi * wtOf t.ba (t.st + k)) := Int.mul_nonneg If.la (Int.mul_nonneg ht.fi0 hw.1)
  have hg0 : (Ln.run t cdOf (wtOf t.ba) l k).fn / Ln.den t ≤ 8000000000000000000 := by
    refine Int.le_trans (Int.ediv_le_ediv (by omega) ?_) hfn
    show (Ln.run t cdOf (wtOf t.ba) l k).fn ≤ (l.foldl (Ln.event (t.st + k)) (Ln.early t (t.st + k) (cdOf (t.st + k)) (Ln.run t cdOf (wtOf t.ba) l k))).g.fn + _
    omega
  have Af := Ln.Am.events (t.st + k) l A0 I0 (by omega) (by rw [Ln.early_fn]; exact hg0) hL hl
  have Il := If.late ht (wsOf t.ba t.st k) (wsOf_le _ _ _)
  have Bl := Il.bound hs hL
  rw [← wsOf_eq] at Il Bl
  have ey : yOf t l k = Ln.late t (wtOf t.ba (t.st + k)) (l.foldl (Ln.event (t.st + k)) (Ln.early t (t.st + k) (cdOf (t.st + k)) (Ln.run t cdOf (wtOf t.ba) l k))) := rfl
  rw [ey] at hfn ⊢
  generalize l.foldl (Ln.event (t.st + k)) (Ln.early t (t.st + k) (cdOf (t.st + k)) (Ln.run t cdOf (wtOf t.ba) l k)) = y at *
  generalize wtOf t.ba (t.st + k) = wt at *
  have m1 : 0 ≤ y.g.pr * (y.g.rt * wt) := Int.mul_nonneg If.pr (Int.mul_nonneg If.rt0 hw.1)
  have q1 : y.g.ea / Ln.den t ≤ (y.g.ea + y.g.pr * (y.g.rt * wt)) / Ln.den t := Int.ediv_le_ediv (by omega) (by omega)
  have q2 : y.g.fn / Ln.den t ≤ (y.g.fn + y.g.la * (t.fi * wt)) / Ln.den t := Int.ediv_le_ediv (by omega) (by omega)
  have hit := If.it
  have hfi := If.fi
  have hpr' := Il.pr
  have hdu' := Il.du
  have hla' := Il.la
  have hf1 := Il.fi1
  have e11 : (Ln.late t wt y).am 11 = y.am 11 + (Ln.part t (y.g.ea + y.g.pr * (y.g.rt * wt)) - Ln.part t y.g.ea) := rfl
  have e12 : (Ln.late t wt y).am 12 = y.am 12 + (Ln.part t (y.g.fn + y.g.la * (t.fi * wt)) - Ln.part t y.g.fn) := rfl
  have g11 : (Ln.late t wt y).g.it = y.g.it + (Ln.part t (y.g.ea + y.g.pr * (y.g.rt * wt)) - Ln.part t y.g.ea) := rfl
  have g12 : (Ln.late t wt y).g.fi = y.g.fi + (Ln.part t (y.g.fn + y.g.la * (t.fi * wt)) - Ln.part t y.g.fn) := rfl
  rw [Ln.part_den, Ln.part_den] at e11 e12 g11 g12
  have ao : ∀ i, i ≤ 10 → (Ln.late t wt y).am i = y.am i := by
    intro i hi
    show (if i = 12 then (if i = 11 then _ else _) + _ else (if i = 11 then _ else _)) = _
    rw [if_neg (by omega), if_neg (by omega)]
  by_cases h11 : j = 11
  · subst h11
    rw [e11, Af.a11]
    constructor <;> omega
  · by_cases h12' : j = 12
    · subst h12'
      rw [e12, Af.a12]
      constructor <;> omega
    · rw [ao j (by omega)]
      refine ⟨Af.nn j, ?_⟩
      have a1 := Af.a1
      have a2 := Af.a2
      have a3 := Af.a3
      have a4 := Af.a4
      have pd := Af.pd j
      rcases (show j = 1 ∨ j = 2 ∨ j = 3 ∨ j = 4 ∨ 5 ≤ j by omega) with h | h | h | h | h
      · subst h; omega
      · subst h; omega
      · subst h; omega
      · subst h; omega
      · have := pd h (by omega); omega
/-- The loan in memory. -/
structure LoanIs (w : World) (B P Mb Eb : Nat) (t : Ln.Terms) (E : List Ln.Ev) (g : Ln.St) (day : Int) (L : List En) (evv bkv : Value) : Prop where
  ln : At w B (ll t evv g day (.pointer (some ⟨P, 0, none⟩)))
  bk : BkIs w P bkv Mb L
  ev : EvV w Eb evv E
  nb : ¬ BkS P Mb bkv B
  ne : E ≠ [] → ¬ BkS P Mb bkv Eb
  so : E.Pairwise So.Ah
  ok : ∀ e ∈ E, Ln.OkE t e
  le : E.length ≤ 40
  ot : Ln.OkT t

theorem run_any (w : World) (B P Mb Eb : Nat) (t : Ln.Terms) (E : List Ln.Ev) (g0 : Ln.St) (day0 : Int) (L : List En) (evv bkv : Value) (h : LoanIs w B P Mb Eb t E g0 day0 L evv bkv) (hL : L.length ≤ 4000000000000) (m : Nat) (h0 : day0 ≤ t.st + m) (hm : m ≤ 3700) (hmv : Mv w) (hgm : ¬ BkS P Mb bkv 1) :
    Calls Tryd.prog 18 #[.pointer (some ⟨B, 0, none⟩), .int .i64 (t.st + m)] w fun e w' => e = .returned (.int .i64 0) ∧ ∃ bkv', At w' B (ll t evv (Ln.run t cdOf (wtOf t.ba) E m) (t.st + m) (.pointer (some ⟨P, 0, none⟩))) ∧ BkIs w' P bkv' Mb (bkP t.st (fun k => (yOf t E k).am) L m) ∧ OwnNew w bkv bkv' ∧ Keep (fun b => b = B ∨ BkS P Mb bkv b) w w' := by
  obtain ⟨hA, hbk, hev, hB, hE, hso, hok, hle, ht⟩ := h
  have s0 := ht.st0
  have s1 := ht.st1
  have hinv := Ln.run_inv ht cdOf (wtOf t.ba) (wsOf t.ba t.st) (wsOf_le _ _) (wsOf_eq _ _) E hok
  have hcut : ∀ k : Nat, fromDay (t.st + k) E = dayOf (t.st + k) E ++ fromDay (t.st + (k + 1 : Nat)) E := fun k => by
    rw [day_cut (t.st + k) E hso, show t.st + (k : Int) + 1 = t.st + ((k + 1 : Nat) : Int) by omega]
  have hgl : 1 < w.heap.size := World.block_lt_of_cell? _ _ (hmv 0 _ rfl)
  refine prun_core w B P Mb Eb t evv g0 day0 m (Ln.run t cdOf (wtOf t.ba) E) (fun k => (yOf t E k).am) bkv L E (fun k => fromDay (t.st + k) E) (fun k => dayOf (t.st + k) E) hA hbk hev hB hE hle hL h0 hm s0 s1 ?_ hcut ?_ ?_ ?_ (fun W => first_any t W) ?_ ?_
  · exact List.filter_eq_self.2 (fun e he => by have := (hok e he).d0; simp; omega)
  · intro k
    show cnt (t.st + k) (fromDay (t.st + k) E) = (dayOf (t.st + k) E).length
    rw [hcut k]
    refine cnt_day _ _ _ (fun e he => ?_) (fun e he => ?_)
    · have := (List.mem_filter.1 he).2
      simpa using this
    · have := (List.mem_filter.1 he).2
      simp at this
      omega
  · intro k
    exact List.length_filter_le _ _
  · intro k j hk h1 h12
    have := am_bd ht E hok hle k (by omega) j h1 h12
    show -9223372036854775808 ≤ (yOf t E k).am j ∧ (yOf t E k).am j ≤ 9223372036854775807
    omega
  · intro k W v c i f hk kW hv
    obtain ⟨p, cap, rfl, _, hat⟩ := hv
    obtain ⟨hs, hL', hfn⟩ := day_bd ht E hok hle k (by omega)
    have hpass := pass_any W t (t.st + k) (Ln.run t cdOf (wtOf t.ba) E k) c i f (dayOf (t.st + k) E) p cap (fun j hj => by
        obtain ⟨o, h1, h2⟩ := hat j hj
        exact ⟨Eb, o, h1, h2⟩) (Nat.le_trans (List.length_filter_le _ _) (by omega)) (hmv.keep kW hgm) (Nat.lt_of_lt_of_le hgl kW.size) (by omega) (by omega) _ _ (hinv k) ht (fun e he => hok e (List.mem_filter.1 he).1) (fun e he => by simpa using (List.mem_filter.1 he).2)
      (wsOf t.ba t.st k) (wsOf_eq t.ba t.st k) (wsOf_le t.ba t.st k) hs (by rw [lents_day]; exact hL') (by rw [day_day, ← wsOf_eq]; exact hfn)
    rw [day_day, ← wsOf_eq] at hpass
    exact hpass
  · intro W c i f
    have hI := hinv m
    have hc := hI.cr
    have hc1 := hI.cr1
    have hb := Ln.tot_bound ht E hok hle m
    exact balance_any t _ c i f (t.st + m) W hc (by omega)
end Go.Proofs.YtanndhoimpnhpaaDoor
