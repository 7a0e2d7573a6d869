/- Joined by program: AdF, AdH. -/
import Derived.Test.YtanndhoimpnhpaaGreatDoorM16
import Derived.Test.YtanndhoimpnhpaaGreatDoorM13
namespace Go.Proofs.YtanndhoimpnhpaaGreatDoor
open Go.ChangeShapes Go.WideShapes Go.RowKit Go.WideMaps Go.Maps Cal
theorem addC_eq (t : Ln.Terms) (l : List Ln.Ev) (e : Ln.Ev) : addC t l e = if ¬ evF t e = 0 then evF t e else if 40 ≤ l.length then 7 else if hasS e.s l = true then 8 else 0 := by
  unfold addC evF
  by_cases h1 : e.k < 1 ∨ 5 < e.k
  · simp [h1]
  · by_cases h2 : e.d < t.st ∨ t.st + 3700 < e.d
    · simp [h1, h2]
    · by_cases h3 : fitsB e.k e.a = false
      · simp [h1, h2, h3]
      · simp [h1, h2, h3]
theorem pos_has (q : Int) (l : List Ln.Ev) : (0 ≤ posOf q l ↔ hasS q l = true) ∧ -1 ≤ posOf q l := by
  unfold posOf hasS
  cases h : l.findIdx? (fun e => e.s == q) with
  | none =>
    rw [List.findIdx?_eq_none_iff] at h
    refine ⟨⟨fun h => absurd h (by decide), fun h2 => ?_⟩, by decide⟩
    obtain ⟨x, hx, hq⟩ := List.any_eq_true.1 h2
    rw [h x hx] at hq
    cases hq
  | some i =>
    obtain ⟨hi, hq, _⟩ := List.findIdx?_eq_some_iff_getElem.1 h
    refine ⟨⟨fun _ => List.any_eq_true.2 ⟨_, List.getElem_mem hi, hq⟩, fun _ => Int.natCast_nonneg i⟩, ?_⟩
    show (-1 : Int) ≤ (i : Int)
    omega
theorem evF_ok {t : Ln.Terms} {e : Ln.Ev} (h : evF t e = 0) : Ln.OkE t e := by
  unfold evF at h
  by_cases h1 : e.k < 1 ∨ 5 < e.k
  · rw [if_pos h1] at h; cases h
  · rw [if_neg h1] at h
    by_cases h2 : e.d < t.st ∨ t.st + 3700 < e.d
    · rw [if_pos h2] at h; cases h
    · rw [if_neg h2] at h
      by_cases h3 : fitsB e.k e.a = false
      · rw [if_pos h3] at h; cases h
      · have h4 : fitsB e.k e.a = true := by simpa using h3
        unfold fitsB at h4
        refine ⟨by omega, by omega, by omega, by omega, ?_, ?_, fun hk => ?_, fun hk => ?_⟩
        · split at h4
          · simp at h4; omega
          · split at h4
            · simp at h4; omega
            · split at h4
              · simp at h4; omega
              · simp at h4; omega
        · split at h4
          · simp at h4; omega
          · split at h4
            · simp at h4; omega
            · split at h4
              · simp at h4; omega
              · simp at h4; omega
        · rw [if_neg (by omega), if_pos hk] at h4
          simp at h4
          omega
        · rw [if_neg (by omega), if_neg (by omega), if_pos hk] at h4
          simp at h4
          omega
theorem bel_sorted {e : Ln.Ev} {l : List Ln.Ev} {i : Nat} (h : Bel e l i) (hs : l.Pairwise So.Ah) (hd : hasS e.s l = false) : (So.insAt e l i).Pairwise So.Ah := by
  have hd2 : ∀ x ∈ l, ¬ x.s = e.s := fun x hx he => by
    have : hasS e.s l = true := List.any_eq_true.2 ⟨x, hx, by simp [he]⟩
    rw [hd] at this
    cases this
  refine So.ins_sorted e l i h.le hs hd2 (fun j hj hij => ?_) ?_
  · rcases So.ah_total (a := e) (b := l[j]) (fun x => hd2 _ (List.getElem_mem hj) x.symm) with x | x
    · exact x
    · exact absurd x (h.hi j hj hij)
  · by_cases hz : i = 0
    · exact .inl hz
    · refine .inr ⟨by have := h.le; omega, fun x => ?_⟩
      exact So.ah_irrefl _ (So.ah_trans x (h.lo (i - 1) (by have := h.le; omega) (by omega)))
def AdS (w : World) (e : Ln.Ev) (wx : World) : Prop := At wx w.heap.size (evl e) ∧ Below w.heap.size w wx
theorem AdS.below {w W W' : World} {e : Ln.Ev} (h : AdS w e W) (hb : Below W.heap.size W W') : AdS w e W' :=
  ⟨At.keep (S := fun _ => False) (v := .int .i64 e.d) h.1 (Keep.below hb) (fun x => x), h.2.trans (hb.mono h.2.size)⟩
theorem AdS.drew {w W : World} {e : Ln.Ev} (h : AdS w e W) : AdS w e W.drew := ⟨h.1.drew, h.2.drew⟩
def AdPost (w : World) (B P : Nat) (t : Ln.Terms) (E : List Ln.Ev) (g : Ln.St) (day : Int) (evv : Value) (e : Ln.Ev) (code : Int) (x : Ending) (w' : World) : Prop :=
  x = .returned (.int .i64 code) ∧ ((¬ code = 0 ∧ Below w.heap.size w w') ∨
    (code = 0 ∧ ∃ i v', Bel e E i ∧ At w' B (ll t v' g day (.pointer (some ⟨P, 0, none⟩))) ∧ w'.ownsRow 0 50 4 v' (E.length + 1) (evs (So.insAt e E i)) ∧ OwnNew w evv v' ∧ Keep (fun b => b = B ∨ evv.ownBlock = some b) w w'))
theorem AdPost.err {w : World} {B P : Nat} {t : Ln.Terms} {E : List Ln.Ev} {g : Ln.St} {day : Int} {evv : Value} {e : Ln.Ev} {code : Int} {w' : World} (h : ¬ code = 0) (hb : Below w.heap.size w w') : AdPost w B P t E g day evv e code (.returned (.int .i64 code)) w' := ⟨rfl, .inl ⟨h, hb⟩⟩
set_option maxRecDepth 10000 in
set_option maxHeartbeats 4000000 in
theorem add_core (w : World) (B P Mb : Nat) (t : Ln.Terms) (E : List Ln.Ev) (g : Ln.St) (day : Int) (L : List En) (evv bkv : Value) (h : LoX w B P Mb t E g day L evv bkv) (e : Ln.Ev) (hlim : Lim w) :
    Calls Tryz.prog 19 #[.pointer (some ⟨B, 0, none⟩), evV e] w (AdPost w B P t E g day evv e (addC t E e)) := by
  obtain ⟨Eb, hev, _⟩ := evs_evv h.ev
  have hBl : B < w.heap.size := At.lt (v := .int .i64 t.st) h.ln
  have hEl : E.length ≤ 40 := h.le
  have HS0 : Hid (AdS w e (w.alloc (.cells (evl e).toArray 50))) := ⟨At.alloc w (evl e) _, (Below.refl _ _).alloc (Nat.le_refl _) _⟩
  have HLn : Hid (∀ W, AdS w e W → At W B (ll t evv g day (.pointer (some ⟨P, 0, none⟩)))) := fun W hW => At.keep (S := fun _ => False) (v := .int .i64 t.st) h.ln (Keep.below hW.2) (fun x => x)
  have HF : Hid (∀ W, AdS w e W → Calls Tryz.prog 49 #[tmV t, evV e] W fun x w' => x = .returned (.int .i64 (evF t e)) ∧ Below W.heap.size W w') := fun W hW => eventFault_any t e W h.ot.st0 h.ot.st1 (hlim.keep (S := fun _ => False) (Keep.below hW.2) (fun x => x))
  have HPl : Hid (∀ W, AdS w e W → Calls Tryz.prog 50 #[evv, .int .i64 e.s] W fun x w' => x = .returned (.int .i64 (posOf e.s E)) ∧ Below W.heap.size W w') := fun W hW => placeOfSeq_any W Eb evv E (hev.keep (S := fun _ => False) (Keep.below hW.2) (fun _ x => x)) (by omega) e.s
  have HSe : Hid (∀ W, AdS w e W → Calls Tryz.prog 51 #[evv, evV e, .func (.func 52) #[] #[]] W fun x w' => (∃ (i : Nat) (b : Bool), x = .returned (.tuple #[.int .i64 i, .bool b]) ∧ Bel e E i) ∧ Below W.heap.size W w') := fun W hW => search_any W Eb evv E e (hev.keep (S := fun _ => False) (Keep.below hW.2) (fun _ x => x)) (by omega) h.so
  have HIn : Hid (∀ (W : World) (i N : Nat), Below w.heap.size w W → W.heap[N]? = some (.cells (evl e).toArray 50 (0, 0)) → w.heap.size ≤ N → i ≤ E.length → Calls Tryz.prog 53 #[evv, .int .i64 i, .slice (some ⟨N, 0, none⟩) 1 1] W (InsPost W evv (E.length + 1) (evs (So.insAt e E i)))) := fun W i N hW hN hNw hi =>
    insert_any W evv E e i N (own_keep h.ev (S := fun _ => False) (Keep.below hW) (fun _ _ x => x)) hN (fun b hb => by have := (own_base h.ev hb).2; omega) hi (by omega)
  have HNe : Hid (∀ b, evv.ownBlock = some b → ¬ b = B ∧ b < w.heap.size) := fun b hb => ⟨(h.ne b hb).1, (own_base h.ev hb).2⟩
  have HC : Hid (addC t E e = if ¬ evF t e = 0 then evF t e else if 40 ≤ E.length then 7 else if hasS e.s E = true then 8 else 0) := addC_eq t E e
  have HPo : Hid ((0 ≤ posOf e.s E ↔ hasS e.s E = true) ∧ -1 ≤ posOf e.s E) := pos_has e.s E
  obtain ⟨ep, ecap, rfl⟩ := own_slice h.ev
  clear h hlim hev
  generalize addC t E e = code at *
  generalize posOf e.s E = pos at *
  generalize evF t e = fa at *
  unfold evV at *
  go_enter Tryz.func19, Tryz.ntmps19
  go_upto_region 1 with fail
  change Code.wp _ _ _ _ (w.alloc (.cells (evl e).toArray 50))
  generalize w.alloc (.cells (evl e).toArray 50) = V at *
  refine wp_region_held_drew (S := AdS w e) (by kernel_rfl) HS0.out.drew (fun hHeld => ?_)
  clear HS0
  generalize V.drew = V1 at *
  refine wpAnyH_take (i := 0) (v := (.pointer (some ⟨B, 0, none⟩))) rfl (by kernel_rfl) (by kernel_rfl) (by kernel_rfl) (fun _ _ _ h => h) (Or.inl ⟨by rfl, fun wx hSw => by kernel_rfl⟩) (by assumption) ?_
  simp only [Act.put, List.getElem_toArray, List.getElem_cons_zero, List.setIfInBounds_toArray, List.set_cons_zero, List.set_cons_succ]
  refine wpAnyH_take (i := 1) (v := (.pointer (some ⟨B, 0, none⟩))) rfl (by kernel_rfl) (by kernel_rfl) (by kernel_rfl) (fun _ _ _ h => h) (Or.inl ⟨by rfl, fun wx hSw => by kernel_rfl⟩) (by assumption) ?_
  simp only [Act.put, List.getElem_toArray, List.getElem_cons_succ, List.getElem_cons_zero, List.setIfInBounds_toArray, List.set_cons_zero, List.set_cons_succ]
  refine wpAnyH_take (i := 2) (v := (.pointer (some ⟨B, 0, none⟩))) rfl (by kernel_rfl) (by kernel_rfl) (by kernel_rfl) (fun _ _ _ h => h) (Or.inl ⟨by rfl, fun wx hSw => by kernel_rfl⟩) (by assumption) ?_
  simp only [Act.put, List.getElem_toArray, List.getElem_cons_succ, List.getElem_cons_zero, List.setIfInBounds_toArray, List.set_cons_zero, List.set_cons_succ]
  refine wpAnyH_take (i := 3) (v := (.agg (tml t).toArray)) rfl (by kernel_rfl) (by kernel_rfl) (by kernel_rfl) (fun _ _ _ h => h) (yieldsIf_load_mid (by rfl) 23 (.tmp 10) rfl _ _ rfl _ _ (fun _ h => (HLn.out _ h).mid 0 _ (tml_mid t _ g day _)) Tryz.underlying23 rfl (by kernel_rfl)) (by assumption) ?_
  simp only [Act.put, List.getElem_toArray, List.getElem_cons_succ, List.getElem_cons_zero, List.setIfInBounds_toArray, List.set_cons_zero, List.set_cons_succ]
  refine wpAnyH_take (i := 4) (v := (.agg (evl e).toArray)) rfl (by kernel_rfl) (by kernel_rfl) (by kernel_rfl) (fun _ _ _ h => h) (yieldsIf_load_mid (by rfl) 50 (.tmp 3) rfl _ _ rfl _ _ (fun _ h => h.1.range) Tryz.underlying50 rfl (by kernel_rfl)) (by assumption) ?_
  simp only [Act.put, List.getElem_toArray, List.getElem_cons_succ, List.getElem_cons_zero, List.setIfInBounds_toArray, List.set_cons_zero, List.set_cons_succ]
  refine wpAnyH_ready (rs := [5]) (by kernel_rfl) (by simp) ?_
  refine AllReadyH.cons rfl (fun K hK => ?_) AllReadyH.nil
  have hF := HF.out V1 hHeld
  unfold tmV at hF
  clear HF
  go_simp
  refine hF.mono ?_
  rintro x w2 ⟨rfl, hb2⟩
  go_wp2_with fail
  refine hK.out _ _ (hHeld.below hb2) (fun hHeld2 => ?_)
  clear hK K hHeld hb2 hF
  try simp only [Act.put, List.getElem_toArray, List.getElem_cons_succ, List.getElem_cons_zero, List.setIfInBounds_toArray, List.set_cons_zero, List.set_cons_succ]
  refine wpAnyH_take (i := 6) (v := (.int .i64 fa)) rfl (by kernel_rfl) (by kernel_rfl) (by kernel_rfl) (fun _ _ _ h => h) (Or.inl ⟨by rfl, fun wx hSw => by kernel_rfl⟩) (by assumption) ?_
  simp only [Act.put, List.getElem_toArray, List.getElem_cons_succ, List.getElem_cons_zero, List.setIfInBounds_toArray, List.set_cons_zero, List.set_cons_succ]
  refine wpAnyH_done (by kernel_rfl) ?_ _
  have H2 : Hid (AdS w e w2) := hHeld2
  clear hHeld2
  by_cases hfa : fa = 0
  · have hfb : (fa != 0) = false := by simp [hfa]
    have c6 : w2.cell? ⟨B, 6, none⟩ = some (.slice ep E.length ecap) := (HLn.out w2 H2.out).cell 6 rfl
    by_cases h40 : 40 ≤ E.length
    · have e40 : (40 : Int) ≤ (E.length : Int) := by omega
      have HE : Hid (code = 7) := by show code = 7; rw [HC.out, if_neg (by simp [hfa]), if_pos h40]
      have HB : Hid (Below w.heap.size w w2) := H2.out.2
      clear HC HPl HSe HIn HNe HPo H2 HLn
      obtain rfl := HE.out
      go_wp2
      go_ret
      exact AdPost.err (by decide) HB.out
    · have e40 : ¬ (40 : Int) ≤ (E.length : Int) := by omega
      have HC2 : Hid (code = if hasS e.s E = true then 8 else 0) := by show code = _; rw [HC.out, if_neg (by simp [hfa]), if_neg h40]
      clear HC
      go_upto_region 6 with fail
      refine wp_region_held_drew (S := AdS w e) (by kernel_rfl) H2.out.drew (fun hHeld => ?_)
      clear H2 c6
      generalize w2.drew = V2 at *
      refine wpAnyH_take (i := 0) (v := (.pointer (some ⟨B, 0, none⟩))) rfl (by kernel_rfl) (by kernel_rfl) (by kernel_rfl) (fun _ _ _ h => h) (Or.inl ⟨by rfl, fun wx hSw => by kernel_rfl⟩) (by assumption) ?_
      simp only [Act.put, List.getElem_toArray, List.getElem_cons_zero, List.setIfInBounds_toArray, List.set_cons_zero, List.set_cons_succ]
      refine wpAnyH_take (i := 1) (v := (.pointer (some ⟨B, 0, none⟩))) rfl (by kernel_rfl) (by kernel_rfl) (by kernel_rfl) (fun _ _ _ h => h) (Or.inl ⟨by rfl, fun wx hSw => by kernel_rfl⟩) (by assumption) ?_
      simp only [Act.put, List.getElem_toArray, List.getElem_cons_succ, List.getElem_cons_zero, List.setIfInBounds_toArray, List.set_cons_zero, List.set_cons_succ]
      refine wpAnyH_take (i := 2) (v := (.pointer (some ⟨B, 6, none⟩))) rfl (by kernel_rfl) (by kernel_rfl) (by kernel_rfl) (fun _ _ _ h => h) (Or.inl ⟨by rfl, fun wx hSw => by kernel_rfl⟩) (by assumption) ?_
      simp only [Act.put, List.getElem_toArray, List.getElem_cons_succ, List.getElem_cons_zero, List.setIfInBounds_toArray, List.set_cons_zero, List.set_cons_succ]
      refine wpAnyH_take (i := 3) (v := (.slice ep E.length ecap)) rfl (by kernel_rfl) (by kernel_rfl) (by kernel_rfl) (fun _ _ _ h => h) (Or.inl ⟨by rfl, fun wx hSw => by (have hc : wx.cell? ⟨B, 6, none⟩ = some (.slice ep E.length ecap) := (HLn.out wx hSw).cell 6 rfl; go_simp)⟩) (by assumption) ?_
      simp only [Act.put, List.getElem_toArray, List.getElem_cons_succ, List.getElem_cons_zero, List.setIfInBounds_toArray, List.set_cons_zero, List.set_cons_succ]
      refine wpAnyH_take (i := 4) (v := (.pointer (some ⟨w.heap.size, 2, none⟩))) rfl (by kernel_rfl) (by kernel_rfl) (by kernel_rfl) (fun _ _ _ h => h) (Or.inl ⟨by rfl, fun wx hSw => by ((try dsimp only at hSw); go_simp)⟩) (by assumption) ?_
      simp only [Act.put, List.getElem_toArray, List.getElem_cons_succ, List.getElem_cons_zero, List.setIfInBounds_toArray, List.set_cons_zero, List.set_cons_succ]
      refine wpAnyH_take (i := 5) (v := (.int .i64 e.s)) rfl (by kernel_rfl) (by kernel_rfl) (by kernel_rfl) (fun _ _ _ h => h) (Or.inl ⟨by rfl, fun wx hSw => by (have hc : wx.cell? ⟨w.heap.size, 2, none⟩ = some (.int .i64 e.s) := hSw.1.cell 2 rfl; go_simp)⟩) (by assumption) ?_
      simp only [Act.put, List.getElem_toArray, List.getElem_cons_succ, List.getElem_cons_zero, List.setIfInBounds_toArray, List.set_cons_zero, List.set_cons_succ]
      refine wpAnyH_ready (rs := [6]) (by kernel_rfl) (by simp) ?_
      refine AllReadyH.cons rfl (fun K hK => ?_) AllReadyH.nil
      have hF := HPl.out V2 hHeld
      clear HPl
      go_simp
      refine hF.mono ?_
      rintro x w3 ⟨rfl, hb3⟩
      go_wp2_with fail
      refine hK.out _ _ (hHeld.below hb3) (fun hHeld3 => ?_)
      clear hK K hHeld hb3 hF
      try simp only [Act.put, List.getElem_toArray, List.getElem_cons_succ, List.getElem_cons_zero, List.setIfInBounds_toArray, List.set_cons_zero, List.set_cons_succ]
      by_cases hp : 0 ≤ pos
      · have hpb : decide (0 ≤ pos) = true := by simp [hp]
        have HE : Hid (code = 8) := by show code = 8; rw [HC2.out, if_pos (HPo.out.1.1 hp)]
        have HB : Hid (Below w.heap.size w w3) := hHeld3.2
        refine wpAnyH_take (i := 7) (v := (.bool true)) rfl (by kernel_rfl) (by kernel_rfl) (by kernel_rfl) (fun _ _ _ h => h) (Or.inl ⟨by rfl, fun wx hSw => by ((try dsimp only at hSw); go_simp)⟩) (by assumption) ?_
        simp only [Act.put, List.getElem_toArray, List.getElem_cons_succ, List.getElem_cons_zero, List.setIfInBounds_toArray, List.set_cons_zero, List.set_cons_succ]
        refine wpAnyH_done (by kernel_rfl) ?_ _
        clear hHeld3 HC2 HSe HIn HNe HPo HLn
        obtain rfl := HE.out
        go_wp2
        go_ret
        exact AdPost.err (by decide) HB.out
      · have hpb : decide (0 ≤ pos) = false := by simp [hp]
        have HE : Hid (code = 0) := by show code = 0; rw [HC2.out, if_neg (fun x => hp (HPo.out.1.2 x))]
        have H3 : Hid (AdS w e w3) := hHeld3
        refine wpAnyH_take (i := 7) (v := (.bool false)) rfl (by kernel_rfl) (by kernel_rfl) (by kernel_rfl) (fun _ _ _ h => h) (Or.inl ⟨by rfl, fun wx hSw => by ((try dsimp only at hSw); go_simp)⟩) (by assumption) ?_
        simp only [Act.put, List.getElem_toArray, List.getElem_cons_succ, List.getElem_cons_zero, List.setIfInBounds_toArray, List.set_cons_zero, List.set_cons_succ]
        refine wpAnyH_done (by kernel_rfl) ?_ _
        clear hHeld3 HC2 HPo
        go_upto_region 8 with fail
        refine wp_region_held_drew (S := AdS w e) (by kernel_rfl) H3.out.drew (fun hHeld => ?_)
        clear H3
        generalize w3.drew = V3 at *
        refine wpAnyH_take (i := 0) (v := (.pointer (some ⟨B, 0, none⟩))) rfl (by kernel_rfl) (by kernel_rfl) (by kernel_rfl) (fun _ _ _ h => h) (Or.inl ⟨by rfl, fun wx hSw => by kernel_rfl⟩) (by assumption) ?_
        simp only [Act.put, List.getElem_toArray, List.getElem_cons_zero, List.setIfInBounds_toArray, List.set_cons_zero, List.set_cons_succ]
        refine wpAnyH_take (i := 1) (v := (.pointer (some ⟨B, 0, none⟩))) rfl (by kernel_rfl) (by kernel_rfl) (by kernel_rfl) (fun _ _ _ h => h) (Or.inl ⟨by rfl, fun wx hSw => by kernel_rfl⟩) (by assumption) ?_
        simp only [Act.put, List.getElem_toArray, List.getElem_cons_succ, List.getElem_cons_zero, List.setIfInBounds_toArray, List.set_cons_zero, List.set_cons_succ]
        refine wpAnyH_take (i := 2) (v := (.pointer (some ⟨B, 6, none⟩))) rfl (by kernel_rfl) (by kernel_rfl) (by kernel_rfl) (fun _ _ _ h => h) (Or.inl ⟨by rfl, fun wx hSw => by kernel_rfl⟩) (by assumption) ?_
        simp only [Act.put, List.getElem_toArray, List.getElem_cons_succ, List.getElem_cons_zero, List.setIfInBounds_toArray, List.set_cons_zero, List.set_cons_succ]
        refine wpAnyH_take (i := 3) (v := (.slice ep E.length ecap)) rfl (by kernel_rfl) (by kernel_rfl) (by kernel_rfl) (fun _ _ _ h => h) (Or.inl ⟨by rfl, fun wx hSw => by (have hc : wx.cell? ⟨B, 6, none⟩ = some (.slice ep E.length ecap) := (HLn.out wx hSw).cell 6 rfl; go_simp)⟩) (by assumption) ?_
        simp only [Act.put, List.getElem_toArray, List.getElem_cons_succ, List.getElem_cons_zero, List.setIfInBounds_toArray, List.set_cons_zero, List.set_cons_succ]
        refine wpAnyH_take (i := 4) (v := (.agg (evl e).toArray)) rfl (by kernel_rfl) (by kernel_rfl) (by kernel_rfl) (fun _ _ _ h => h) (yieldsIf_load_mid (by rfl) 50 (.tmp 3) rfl _ _ rfl _ _ (fun _ h => h.1.range) Tryz.underlying50 rfl (by kernel_rfl)) (by assumption) ?_
        simp only [Act.put, List.getElem_toArray, List.getElem_cons_succ, List.getElem_cons_zero, List.setIfInBounds_toArray, List.set_cons_zero, List.set_cons_succ]
        refine wpAnyH_ready (rs := [5]) (by kernel_rfl) (by simp) ?_
        refine AllReadyH.cons rfl (fun K hK => ?_) AllReadyH.nil
        have hF := HSe.out V3 hHeld
        clear HSe
        go_simp
        refine hF.mono ?_
        rintro x w4 ⟨⟨i, b, rfl, hbel⟩, hb4⟩
        go_wp2_with fail
        refine hK.out _ _ (hHeld.below hb4) (fun hHeld4 => ?_)
        clear hK K hHeld hb4 hF
        try simp only [Act.put, List.getElem_toArray, List.getElem_cons_succ, List.getElem_cons_zero, List.setIfInBounds_toArray, List.set_cons_zero, List.set_cons_succ]
        refine wpAnyH_take (i := 6) (v := (.tuple #[.int .i64 i, .bool b])) rfl (by kernel_rfl) (by kernel_rfl) (by kernel_rfl) (fun _ _ _ h => h) (Or.inl ⟨by rfl, fun wx hSw => by kernel_rfl⟩) (by assumption) ?_
        simp only [Act.put, List.getElem_toArray, List.getElem_cons_succ, List.getElem_cons_zero, List.setIfInBounds_toArray, List.set_cons_zero, List.set_cons_succ]
        refine wpAnyH_take (i := 7) (v := (.int .i64 i)) rfl (by kernel_rfl) (by kernel_rfl) (by kernel_rfl) (fun _ _ _ h => h) (Or.inl ⟨by rfl, fun wx hSw => by kernel_rfl⟩) (by assumption) ?_
        simp only [Act.put, List.getElem_toArray, List.getElem_cons_succ, List.getElem_cons_zero, List.setIfInBounds_toArray, List.set_cons_zero, List.set_cons_succ]
        refine wpAnyH_take (i := 8) (v := (.bool b)) rfl (by kernel_rfl) (by kernel_rfl) (by kernel_rfl) (fun _ _ _ h => h) (Or.inl ⟨by rfl, fun wx hSw => by kernel_rfl⟩) (by assumption) ?_
        simp only [Act.put, List.getElem_toArray, List.getElem_cons_succ, List.getElem_cons_zero, List.setIfInBounds_toArray, List.set_cons_zero, List.set_cons_succ]
        refine wpAnyH_take (i := 9) (v := (.int .i64 i)) rfl (by kernel_rfl) (by kernel_rfl) (by kernel_rfl) (fun _ _ _ h => h) (Or.inl ⟨by rfl, fun wx hSw => by kernel_rfl⟩) (by assumption) ?_
        simp only [Act.put, List.getElem_toArray, List.getElem_cons_succ, List.getElem_cons_zero, List.setIfInBounds_toArray, List.set_cons_zero, List.set_cons_succ]
        refine wpAnyH_take (i := 10) (v := (.bool b)) rfl (by kernel_rfl) (by kernel_rfl) (by kernel_rfl) (fun _ _ _ h => h) (Or.inl ⟨by rfl, fun wx hSw => by kernel_rfl⟩) (by assumption) ?_
        simp only [Act.put, List.getElem_toArray, List.getElem_cons_succ, List.getElem_cons_zero, List.setIfInBounds_toArray, List.set_cons_zero, List.set_cons_succ]
        refine wpAnyH_done (by kernel_rfl) ?_ _
        have H4 : Hid (AdS w e w4) := hHeld4
        have HBel : Hid (Bel e E i) := hbel
        clear hHeld4 hbel
        go_upto_region 9 with fail
        have H4S := H4.out
        have hA4 : At w4.drew B (ll t (.slice ep E.length ecap) g day (.pointer (some ⟨P, 0, none⟩))) := (HLn.out w4 H4S).drew
        have hX4 : At w4.drew w.heap.size (evl e) := H4S.1.drew
        have hB4 : Below w.heap.size w w4.drew := H4S.2.drew
        refine wp_region_held_drew (S := fun wx => At wx w.heap.size (evl e)) (by kernel_rfl) hX4 (fun hHeld => ?_)
        clear H4 H4S HLn
        generalize w4.drew = V4 at *
        have hr5 : (V4.alloc (.cells (evl e).toArray 50)).heap[V4.heap.size]? = some (.cells (evl e).toArray 50 (0, 0)) := by
          show (V4.heap.push (.cells (evl e).toArray 50))[V4.heap.size]? = _
          simp
        have HB5 : Hid (Below w.heap.size w (V4.alloc (.cells (evl e).toArray 50))) := hB4.alloc hB4.size _
        have HR5 : Hid ((V4.alloc (.cells (evl e).toArray 50)).heap[V4.heap.size]? = some (.cells (evl e).toArray 50 (0, 0))) := hr5
        have HN5 : Hid (w.heap.size ≤ V4.heap.size) := hB4.size
        have HX5 : Hid (At (V4.alloc (.cells (evl e).toArray 50)) w.heap.size (evl e)) := At.over (v := .int .i64 e.d) hX4 _
        have HA5 : Hid (At (V4.alloc (.cells (evl e).toArray 50)) B (ll t (.slice ep E.length ecap) g day (.pointer (some ⟨P, 0, none⟩)))) := At.over (v := .int .i64 t.st) hA4 _
        have u6 : V4.cell? ⟨B, 6, none⟩ = some (.slice ep E.length ecap) := hA4.cell 6 rfl
        have u7 : (V4.alloc (.cells (evl e).toArray 50)).cell? ⟨B, 6, none⟩ = some (.slice ep E.length ecap) := HA5.out.cell 6 rfl
        clear hr5 hA4 hX4 hB4
        refine wpAnyH_take (i := 0) (v := (.pointer (some ⟨B, 0, none⟩))) rfl (by kernel_rfl) (by kernel_rfl) (by kernel_rfl) (fun _ _ _ h => h) (Or.inl ⟨by rfl, fun wx hSw => by kernel_rfl⟩) (by assumption) ?_
        simp only [Act.put, List.getElem_toArray, List.getElem_cons_zero, List.setIfInBounds_toArray, List.set_cons_zero, List.set_cons_succ]
        refine wpAnyH_take (i := 1) (v := (.pointer (some ⟨B, 0, none⟩))) rfl (by kernel_rfl) (by kernel_rfl) (by kernel_rfl) (fun _ _ _ h => h) (Or.inl ⟨by rfl, fun wx hSw => by kernel_rfl⟩) (by assumption) ?_
        simp only [Act.put, List.getElem_toArray, List.getElem_cons_succ, List.getElem_cons_zero, List.setIfInBounds_toArray, List.set_cons_zero, List.set_cons_succ]
        refine wpAnyH_take (i := 2) (v := (.pointer (some ⟨B, 0, none⟩))) rfl (by kernel_rfl) (by kernel_rfl) (by kernel_rfl) (fun _ _ _ h => h) (Or.inl ⟨by rfl, fun wx hSw => by kernel_rfl⟩) (by assumption) ?_
        simp only [Act.put, List.getElem_toArray, List.getElem_cons_succ, List.getElem_cons_zero, List.setIfInBounds_toArray, List.set_cons_zero, List.set_cons_succ]
        refine wpAnyH_take (i := 3) (v := (.pointer (some ⟨B, 6, none⟩))) rfl (by kernel_rfl) (by kernel_rfl) (by kernel_rfl) (fun _ _ _ h => h) (Or.inl ⟨by rfl, fun wx hSw => by kernel_rfl⟩) (by assumption) ?_
        simp only [Act.put, List.getElem_toArray, List.getElem_cons_succ, List.getElem_cons_zero, List.setIfInBounds_toArray, List.set_cons_zero, List.set_cons_succ]
        refine wpAnyH_take (i := 5) (v := (.int .i64 i)) rfl (by kernel_rfl) (by kernel_rfl) (by kernel_rfl) (fun _ _ _ h => h) (Or.inl ⟨by rfl, fun wx hSw => by kernel_rfl⟩) (by assumption) ?_
        simp only [Act.put, List.getElem_toArray, List.getElem_cons_succ, List.getElem_cons_zero, List.setIfInBounds_toArray, List.set_cons_zero, List.set_cons_succ]
        refine wpAnyH_take (i := 6) (v := (.agg (evl e).toArray)) rfl (by kernel_rfl) (by kernel_rfl) (by kernel_rfl) (fun _ _ _ h => h) (yieldsIf_load_mid (by rfl) 50 (.tmp 3) rfl _ _ rfl _ _ (fun _ h => h.range) Tryz.underlying50 rfl (by kernel_rfl)) (by assumption) ?_
        simp only [Act.put, List.getElem_toArray, List.getElem_cons_succ, List.getElem_cons_zero, List.setIfInBounds_toArray, List.set_cons_zero, List.set_cons_succ]
        refine wpAnyH_ready (rs := [4, 7]) (by kernel_rfl) (by simp) ?_
        refine AllReadyH.cons rfl (fun K hK => ?_) (AllReadyH.cons rfl (fun K hK => ?_) AllReadyH.nil)
        · clear u7
          go_simp
          refine hK.out _ _ hHeld (fun hHeld2 => ?_)
          clear hK K u6
          try simp only [Act.put, List.getElem_toArray, List.getElem_cons_succ, List.getElem_cons_zero, List.setIfInBounds_toArray, List.set_cons_zero, List.set_cons_succ]
          refine wpAnyH_ready (rs := [7]) (by kernel_rfl) (by simp) ?_
          refine AllReadyH.cons rfl (fun K hK => ?_) AllReadyH.nil
          rw [if_pos (by rfl)]
          refine wp_valD (.slice (some ⟨V4.heap.size, 0, none⟩) 1 1) (V4.alloc (.cells (evl e).toArray 50)) (by kernel_rfl) ?_
          refine hK.out _ _ HX5.out (fun hHeld3 => ?_)
          clear hK K hHeld hHeld2 hHeld3
          try simp only [Act.put, List.getElem_toArray, List.getElem_cons_succ, List.getElem_cons_zero, List.setIfInBounds_toArray, List.set_cons_zero, List.set_cons_succ]
          generalize hV5 : V4.alloc (.cells (evl e).toArray 50) = V5 at *
          generalize hN5 : V4.heap.size = N at *
          clear hV5 hN5
          refine wpAnyH_ready (rs := [8]) (by kernel_rfl) (by simp) ?_
          refine AllReadyH.cons rfl (fun K hK => ?_) AllReadyH.nil
          have hF := HIn.out V5 i N HB5.out HR5.out HN5.out HBel.out.le
          clear HIn
          go_simp
          refine hF.mono ?_
          rintro x w6 ⟨v', rfl, ho6, hon6, hk6⟩
          have x6 : At w6 w.heap.size (evl e) := At.keep (v := .int .i64 e.d) HX5.out hk6 (fun h => by have := (HNe.out _ h).2; omega)
          have a6 : At w6 B (ll t (.slice ep E.length ecap) g day (.pointer (some ⟨P, 0, none⟩))) := At.keep (v := .int .i64 t.st) HA5.out hk6 (fun h => (HNe.out _ h).1 rfl)
          have hvB : ∀ b, v'.ownBlock = some b → ¬ b = B := fun b hb hbB => by
            rcases hon6 with h | ⟨c, h1, h2⟩
            · exact (HNe.out b (h.symm.trans hb)).1 hbB
            · rw [h1] at hb
              cases hb
              have := HB5.out.size
              omega
          obtain ⟨g', cap', rfl, _, _⟩ := ho6.form (by omega)
          go_wp2_with fail
          refine hK.out _ _ x6 (fun hHeld6 => ?_)
          clear hK K hF hHeld6
          try simp only [Act.put, List.getElem_toArray, List.getElem_cons_succ, List.getElem_cons_zero, List.setIfInBounds_toArray, List.set_cons_zero, List.set_cons_succ]
          refine wpAnyH_take (i := 9) (v := (.pointer (some ⟨B, 0, none⟩))) rfl (by kernel_rfl) (by kernel_rfl) (by kernel_rfl) (fun _ _ _ h => h) (Or.inl ⟨by rfl, fun wx hSw => by kernel_rfl⟩) (by assumption) ?_
          simp only [Act.put, List.getElem_toArray, List.getElem_cons_succ, List.getElem_cons_zero, List.setIfInBounds_toArray, List.set_cons_zero, List.set_cons_succ]
          refine wpAnyH_take (i := 10) (v := (.pointer (some ⟨B, 6, none⟩))) rfl (by kernel_rfl) (by kernel_rfl) (by kernel_rfl) (fun _ _ _ h => h) (Or.inl ⟨by rfl, fun wx hSw => by kernel_rfl⟩) (by assumption) ?_
          simp only [Act.put, List.getElem_toArray, List.getElem_cons_succ, List.getElem_cons_zero, List.setIfInBounds_toArray, List.set_cons_zero, List.set_cons_succ]
          refine wpAnyH_ready (rs := [11]) (by kernel_rfl) (by simp) ?_
          refine AllReadyH.cons rfl (fun K hK => ?_) AllReadyH.nil
          have y6 : w6.cell? ⟨B, 6, none⟩ = some (.slice ep E.length ecap) := a6.cell 6 rfl
          have y7 : w6.frozen? ⟨B, 6, none⟩ = false := a6.free 6 rfl
          go_simp
          have x7 : At (w6.setCell ⟨B, 6, none⟩ (.slice (some ⟨g', 0, none⟩) (E.length + 1) cap')) w.heap.size (evl e) := At.other x6 (c := B) (by omega) 6 _
          refine hK.out _ _ x7 (fun _ => ?_)
          have kS : Keep (fun b => b = B) w6 (w6.setCell ⟨B, 6, none⟩ (.slice (some ⟨g', 0, none⟩) (E.length + 1) cap')) := (Keep.refl _ _).set (S := fun b => b = B) rfl 6 _
          have HPost : Hid (AdPost w B P t E g day (.slice ep E.length ecap) e 0 (.returned (.int .i64 0)) (w6.setCell ⟨B, 6, none⟩ (.slice (some ⟨g', 0, none⟩) (E.length + 1) cap'))) := by
            refine ⟨rfl, .inr ⟨rfl, i, _, HBel.out, a6.set 6 (show 6 < 16 by decide) _, own_keep ho6 kS (fun b hb => hvB b hb), ?_, ?_⟩⟩
            · rcases hon6 with h | ⟨c, h1, h2⟩
              · exact .inl h
              · exact .inr ⟨c, h1, Nat.le_trans HB5.out.size h2⟩
            · exact ((Keep.below (S := fun b => b = B ∨ (Value.slice ep E.length ecap).ownBlock = some b) HB5.out).trans (hk6.mono (fun _ _ h => .inr h))).trans (kS.mono (fun _ _ h => .inl h))
          clear hK K x6 a6 x7 kS y6 y7 ho6 hon6 hk6 hvB HB5 HR5 HN5 HX5 HA5 HBel
          generalize w6.setCell ⟨B, 6, none⟩ (.slice (some ⟨g', 0, none⟩) (E.length + 1) cap') = w9 at *
          refine wpAnyH_done (by kernel_rfl) ?_ _
          obtain rfl := HE.out
          go_wp2
          go_ret
          exact HPost.out
        · rw [if_pos (by rfl)]
          refine wp_valD (.slice (some ⟨V4.heap.size, 0, none⟩) 1 1) (V4.alloc (.cells (evl e).toArray 50)) (by kernel_rfl) ?_
          refine hK.out _ _ HX5.out (fun hHeld2 => ?_)
          clear hK K u6
          try simp only [Act.put, List.getElem_toArray, List.getElem_cons_succ, List.getElem_cons_zero, List.setIfInBounds_toArray, List.set_cons_zero, List.set_cons_succ]
          refine wpAnyH_ready (rs := [4]) (by kernel_rfl) (by simp) ?_
          refine AllReadyH.cons rfl (fun K hK => ?_) AllReadyH.nil
          go_simp
          refine hK.out _ _ hHeld2 (fun hHeld3 => ?_)
          clear hK K u7 hHeld hHeld2 hHeld3
          try simp only [Act.put, List.getElem_toArray, List.getElem_cons_succ, List.getElem_cons_zero, List.setIfInBounds_toArray, List.set_cons_zero, List.set_cons_succ]
          generalize hV5 : V4.alloc (.cells (evl e).toArray 50) = V5 at *
          generalize hN5 : V4.heap.size = N at *
          clear hV5 hN5
          refine wpAnyH_ready (rs := [8]) (by kernel_rfl) (by simp) ?_
          refine AllReadyH.cons rfl (fun K hK => ?_) AllReadyH.nil
          have hF := HIn.out V5 i N HB5.out HR5.out HN5.out HBel.out.le
          clear HIn
          go_simp
          refine hF.mono ?_
          rintro x w6 ⟨v', rfl, ho6, hon6, hk6⟩
          have x6 : At w6 w.heap.size (evl e) := At.keep (v := .int .i64 e.d) HX5.out hk6 (fun h => by have := (HNe.out _ h).2; omega)
          have a6 : At w6 B (ll t (.slice ep E.length ecap) g day (.pointer (some ⟨P, 0, none⟩))) := At.keep (v := .int .i64 t.st) HA5.out hk6 (fun h => (HNe.out _ h).1 rfl)
          have hvB : ∀ b, v'.ownBlock = some b → ¬ b = B := fun b hb hbB => by
            rcases hon6 with h | ⟨c, h1, h2⟩
            · exact (HNe.out b (h.symm.trans hb)).1 hbB
            · rw [h1] at hb
              cases hb
              have := HB5.out.size
              omega
          obtain ⟨g', cap', rfl, _, _⟩ := ho6.form (by omega)
          go_wp2_with fail
          refine hK.out _ _ x6 (fun hHeld6 => ?_)
          clear hK K hF hHeld6
          try simp only [Act.put, List.getElem_toArray, List.getElem_cons_succ, List.getElem_cons_zero, List.setIfInBounds_toArray, List.set_cons_zero, List.set_cons_succ]
          refine wpAnyH_take (i := 9) (v := (.pointer (some ⟨B, 0, none⟩))) rfl (by kernel_rfl) (by kernel_rfl) (by kernel_rfl) (fun _ _ _ h => h) (Or.inl ⟨by rfl, fun wx hSw => by kernel_rfl⟩) (by assumption) ?_
          simp only [Act.put, List.getElem_toArray, List.getElem_cons_succ, List.getElem_cons_zero, List.setIfInBounds_toArray, List.set_cons_zero, List.set_cons_succ]
          refine wpAnyH_take (i := 10) (v := (.pointer (some ⟨B, 6, none⟩))) rfl (by kernel_rfl) (by kernel_rfl) (by kernel_rfl) (fun _ _ _ h => h) (Or.inl ⟨by rfl, fun wx hSw => by kernel_rfl⟩) (by assumption) ?_
          simp only [Act.put, List.getElem_toArray, List.getElem_cons_succ, List.getElem_cons_zero, List.setIfInBounds_toArray, List.set_cons_zero, List.set_cons_succ]
          refine wpAnyH_ready (rs := [11]) (by kernel_rfl) (by simp) ?_
          refine AllReadyH.cons rfl (fun K hK => ?_) AllReadyH.nil
          have y6 : w6.cell? ⟨B, 6, none⟩ = some (.slice ep E.length ecap) := a6.cell 6 rfl
          have y7 : w6.frozen? ⟨B, 6, none⟩ = false := a6.free 6 rfl
          go_simp
          have x7 : At (w6.setCell ⟨B, 6, none⟩ (.slice (some ⟨g', 0, none⟩) (E.length + 1) cap')) w.heap.size (evl e) := At.other x6 (c := B) (by omega) 6 _
          refine hK.out _ _ x7 (fun _ => ?_)
          have kS : Keep (fun b => b = B) w6 (w6.setCell ⟨B, 6, none⟩ (.slice (some ⟨g', 0, none⟩) (E.length + 1) cap')) := (Keep.refl _ _).set (S := fun b => b = B) rfl 6 _
          have HPost : Hid (AdPost w B P t E g day (.slice ep E.length ecap) e 0 (.returned (.int .i64 0)) (w6.setCell ⟨B, 6, none⟩ (.slice (some ⟨g', 0, none⟩) (E.length + 1) cap'))) := by
            refine ⟨rfl, .inr ⟨rfl, i, _, HBel.out, a6.set 6 (show 6 < 16 by decide) _, own_keep ho6 kS (fun b hb => hvB b hb), ?_, ?_⟩⟩
            · rcases hon6 with h | ⟨c, h1, h2⟩
              · exact .inl h
              · exact .inr ⟨c, h1, Nat.le_trans HB5.out.size h2⟩
            · exact ((Keep.below (S := fun b => b = B ∨ (Value.slice ep E.length ecap).ownBlock = some b) HB5.out).trans (hk6.mono (fun _ _ h => .inr h))).trans (kS.mono (fun _ _ h => .inl h))
          clear hK K x6 a6 x7 kS y6 y7 ho6 hon6 hk6 hvB HB5 HR5 HN5 HX5 HA5 HBel
          generalize w6.setCell ⟨B, 6, none⟩ (.slice (some ⟨g', 0, none⟩) (E.length + 1) cap') = w9 at *
          refine wpAnyH_done (by kernel_rfl) ?_ _
          obtain rfl := HE.out
          go_wp2
          go_ret
          exact HPost.out
  · have hfb : (fa != 0) = true := by simp [hfa]
    have HE : Hid (code = fa) := by show code = fa; rw [HC.out, if_pos hfa]
    have HB : Hid (Below w.heap.size w w2) := H2.out.2
    have HN : Hid (¬ fa = 0) := hfa
    clear HC HPl HSe HIn HNe HPo H2 HLn hfa
    obtain rfl := HE.out
    go_wp2
    go_ret
    exact AdPost.err HN.out HB.out
end Go.Proofs.YtanndhoimpnhpaaGreatDoor
namespace Go.Proofs.YtanndhoimpnhpaaGreatDoor
open Go.ChangeShapes Go.WideShapes Go.RowKit Go.WideMaps Go.Maps Cal
theorem OwnNew.mine {w w' : World} {F : Nat → Prop} {v v' : Value} {T : TypeId} {size n : Nat} {xs : List Value} (h : OwnNew w v v') (hF : ∀ b, v.ownBlock = some b → F b) (ho : w'.ownsRow 0 T size v' n xs) : ∀ b, v'.ownBlock = some b → Wd F w w' b := by
  intro b hb
  rcases h with h | ⟨c, h1, h2⟩
  · exact .inl (hF b (h.symm.trans hb))
  · have : c = b := by rw [h1] at hb; exact Option.some.inj hb
    subst this
    exact .inr ⟨h2, (own_base ho hb).2⟩
theorem addL (w : World) (B : Nat) (t : Ln.Terms) (E : List Ln.Ev) (g : Ln.St) (day : Int) (L : List En) (F : Nat → Prop) (h : Lo w B t E g day L F) (e : Ln.Ev) (hlim : Lim w) :
    Calls Tryz.prog 19 #[.pointer (some ⟨B, 0, none⟩), evV e] w fun x w' => x = .returned (.int .i64 (addC t E e)) ∧ Keep F w w' ∧
      ((¬ addC t E e = 0 ∧ Lo w' B t E g day L (Wd F w w')) ∨ (addC t E e = 0 ∧ ∃ E', E'.Perm (e :: E) ∧ Lo w' B t E' g day L (Wd F w w'))) := by
  obtain ⟨P, Mb, evv, bkv, h1, h2⟩ := h
  refine (add_core w B P Mb t E g day L evv bkv h1 e hlim).mono ?_
  rintro x w' ⟨rfl, ⟨hc, hb⟩ | ⟨hc, i, v', hbel, hA, ho, hon, hk⟩⟩
  · exact ⟨rfl, Keep.below hb, .inl ⟨hc, P, Mb, evv, bkv, h1.keep (S := fun _ => False) (Keep.below hb) (fun _ _ x => x), fun b hb => .inl (h2 b hb)⟩⟩
  · have hcc := hc
    rw [addC_eq] at hcc
    have hf : evF t e = 0 := by
      by_cases hz : evF t e = 0
      · exact hz
      · rw [if_pos hz] at hcc; exact absurd hcc hz
    rw [if_neg (by simp [hf])] at hcc
    have h40 : ¬ 40 ≤ E.length := fun hz => by rw [if_pos hz] at hcc; cases hcc
    rw [if_neg h40] at hcc
    have hs : hasS e.s E = false := by
      cases hz : hasS e.s E with
      | false => rfl
      | true => rw [hz] at hcc; cases hcc
    have hle : (So.insAt e E i).length = E.length + 1 := So.insAt_len e E i hbel.le
    have hfresh : ∀ b, v'.ownBlock = some b → ¬ b = B ∧ ¬ BkS P Mb bkv b := fun b hb => by
      rcases hon with hx | ⟨c, hx1, hx2⟩
      · exact h1.ne b (hx.symm.trans hb)
      · have : c = b := by rw [hx1] at hb; exact Option.some.inj hb
        subst this
        have l1 := h1.foLt B (.inl rfl)
        exact ⟨by omega, fun hbs => by have := h1.foLt c (.inr (.inl hbs)); omega⟩
    have hkF : Keep F w w' := hk.mono (fun b _ hb => hb.elim (fun e => h2 b (.inl e)) (fun e => h2 b (.inr (.inr e))))
    refine ⟨rfl, hkF, .inr ⟨hc, So.insAt e E i, So.insAt_perm e E i, P, Mb, v', bkv, ⟨hA, h1.bk.keep hk (fun b hb hx => ?_), ?_, h1.nb, hfresh, bel_sorted hbel h1.so hs, ?_, by omega, h1.ot⟩, ?_⟩⟩
    · rcases hx with hx | hx
      · subst hx; exact h1.nb hb
      · exact (h1.ne b hx).2 hb
    · rw [hle]; exact ho
    · intro x hx
      rcases List.mem_cons.1 ((So.insAt_perm e E i).mem_iff.1 hx) with rfl | hx
      · exact evF_ok hf
      · exact h1.ok x hx
    · rintro b (rfl | hb | hb)
      · exact .inl (h2 _ (.inl rfl))
      · exact .inl (h2 _ (.inr (.inl hb)))
      · exact hon.mine (fun b hb => h2 b (.inr (.inr hb))) ho b hb
end Go.Proofs.YtanndhoimpnhpaaGreatDoor
