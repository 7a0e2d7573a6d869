/- Joined by program: KpD, Bq, Bc, Two, Bal. -/
import Derived.Test.YtanndhoimpnhpaaDoorM18
import Derived.Test.YtanndhoimpnhpaaDoorM8
import Derived.Test.YtanndhoimpnhpaaDoorM11
import Derived.Test.YtanndhoimpnhpaaDoorM13
/- A loan that is told of events; two lists of entries compared. -/
namespace Go.Proofs.YtanndhoimpnhpaaDoor
open Go.ChangeShapes Go.WideShapes Go.RowKit Go.WideMaps Go.Maps Cal

/-- A list of entries in memory. -/
def enl (e : En) : List Value := [.int .i64 e.d, .int .i64 e.k, .int .i64 e.a]
def EnV (w : World) (v : Value) (L : List En) : Prop :=
  ∃ p cap, v = .slice p L.length cap ∧ L.length ≤ cap ∧ ∀ k (hk : k < L.length), ∃ b o, p = some ⟨b, o, none⟩ ∧ b < w.heap.size ∧ w.rangeAt b (o + k * 3) (enl L[k])
theorem EnV.below {w w' : World} {v : Value} {L : List En} (h : EnV w v L) (hb : Below w.heap.size w w') : EnV w' v L := by
  obtain ⟨p, cap, h1, h2, h3⟩ := h
  refine ⟨p, cap, h1, h2, fun k hk => ?_⟩
  obtain ⟨b, o, h4, h5, h6⟩ := h3 k hk
  exact ⟨b, o, h4, Nat.lt_of_lt_of_le h5 hb.size, fun j u hu => (World.cell?_of_block (w := w) (a := ⟨b, o + k * 3 + j, none⟩) (hb.block b h5)).trans (h6 j u hu)⟩
theorem own_en {w : World} {base : Nat} {v : Value} {L : List En} (h : w.ownsRow base 98 3 v L.length (ens L)) : EnV w v L := by
  obtain ⟨hl, hn | ⟨g, cap, cur, rfl, hg⟩⟩ := id h
  · obtain ⟨rfl, hz⟩ := hn
    have hE : L = [] := List.length_eq_zero_iff.1 hz
    subst hE
    exact ⟨none, 0, rfl, Nat.le_refl _, fun k hk => absurd hk (Nat.not_lt_zero k)⟩
  · have hlt := (own_base h (b := g) rfl).2
    refine ⟨some ⟨g, 0, none⟩, cap, rfl, hg.2.2.1, fun k hk => ⟨g, 0, rfl, hlt, ?_⟩⟩
    obtain ⟨q0, q1, q2⟩ := en_range h rfl k hk
    intro j u hu
    rw [Nat.zero_add]
    match j, hu with
    | 0, hu => cases hu; exact q0
    | 1, hu => cases hu; exact q1
    | 2, hu => cases hu; exact q2

set_option maxRecDepth 10000 in
set_option maxHeartbeats 2000000 in
theorem same_true (w : World) (v u : Value) (L : List En) (h1 : EnV w v L) (h2 : EnV w u L) (hL : L.length ≤ 4000000000000) :
    Calls Tryd.prog 24 #[v, u] w fun e w' => e = .returned (.bool true) ∧ Below w.heap.size w w' := by
  obtain ⟨p, cap, rfl, hc1, hr1⟩ := h1
  obtain ⟨q, cap2, rfl, hc2, hr2⟩ := h2
  have H1 : Hid (∀ k (hk : k < L.length), ∃ b o, p = some ⟨b, o, none⟩ ∧ b < w.heap.size ∧ w.rangeAt b (o + k * 3) (enl L[k])) := hr1
  have H2 : Hid (∀ k (hk : k < L.length), ∃ b o, q = some ⟨b, o, none⟩ ∧ b < w.heap.size ∧ w.rangeAt b (o + k * 3) (enl L[k])) := hr2
  clear hr1 hr2
  have hne : ((L.length : Int) != (L.length : Int)) = false := by simp
  go_enter Tryd.func24, Tryd.ntmps24
  go_wp2
  go_loopw [5] (fun i wr => ∃ k : Nat, k ≤ L.length ∧ i = .int .i64 k ∧ Below w.heap.size w wr) (fun i _ => (L.length - intOf i).toNat)
  case atStart => exact ⟨0, Nat.zero_le _, rfl, Below.refl _ _⟩
  case round =>
    obtain ⟨k, hk, rfl, hb⟩ := hrel
    have HB : Hid (Below w.heap.size w wr) := hb
    clear hb
    by_cases hlt : k < L.length
    · obtain ⟨b, o, rfl, hbl, hx1⟩ := H1.out k hlt
      obtain ⟨b2, o2, rfl, hbl2, hx2⟩ := H2.out k hlt
      have HR1 : Hid (∀ wx, Below w.heap.size w wx → wx.rangeAt b (o + k * 3) (enl L[k])) := fun wx hx j u hu => (World.cell?_of_block (w := w) (a := ⟨b, o + k * 3 + j, none⟩) (hx.block b hbl)).trans (hx1 j u hu)
      have HR2 : Hid (∀ wx, Below w.heap.size w wx → wx.rangeAt b2 (o2 + k * 3) (enl L[k])) := fun wx hx j u hu => (World.cell?_of_block (w := w) (a := ⟨b2, o2 + k * 3 + j, none⟩) (hx.block b2 hbl2)).trans (hx2 j u hu)
      clear hx1 hx2
      generalize L[k] = e at *
      obtain ⟨ed, ek, ea⟩ := e
      have zk : (k : Int) < (L.length : Int) := by omega
      go_upto_region 6 with fail
      refine wp_region_held_drew (S := fun wx => Below w.heap.size w wx) (by kernel_rfl) HB.out.drew (fun hHeld => ?_)
      clear HB
      generalize wr.drew = V1 at *
      refine wpAnyH_take (i := 0) (v := (.slice (some ⟨b, o, none⟩) L.length cap)) rfl (by kernel_rfl) (by kernel_rfl) (by kernel_rfl) (fun _ _ _ h => h) (Or.inl ⟨by rfl, fun wx hSw => by kernel_rfl⟩) (by assumption) ?_
      simp only [Act.put, List.getElem_toArray, List.getElem_cons_zero, List.setIfInBounds_toArray, List.set_cons_zero, List.set_cons_succ]
      refine wpAnyH_take (i := 1) (v := (.int .i64 k)) rfl (by kernel_rfl) (by kernel_rfl) (by kernel_rfl) (fun _ _ _ h => h) (Or.inl ⟨by rfl, fun wx hSw => by kernel_rfl⟩) (by assumption) ?_
      simp only [Act.put, List.getElem_toArray, List.getElem_cons_succ, List.getElem_cons_zero, List.setIfInBounds_toArray, List.set_cons_zero, List.set_cons_succ]
      refine wpAnyH_take (i := 2) (v := (.pointer (some ⟨b, o + k * 3, none⟩))) rfl (by kernel_rfl) (by kernel_rfl) (by kernel_rfl) (fun _ _ _ h => h) (Or.inl ⟨by rfl, fun wx hSw => by ((try dsimp only at hSw); go_simp)⟩) (by assumption) ?_
      simp only [Act.put, List.getElem_toArray, List.getElem_cons_succ, List.getElem_cons_zero, List.setIfInBounds_toArray, List.set_cons_zero, List.set_cons_succ]
      refine wpAnyH_take (i := 3) (v := (.agg (enl ⟨ed, ek, ea⟩).toArray)) rfl (by kernel_rfl) (by kernel_rfl) (by kernel_rfl) (fun _ _ _ h => h) (yieldsIf_load_mid (by rfl) 98 (.tmp 19) rfl _ _ rfl _ _ (fun _ h => HR1.out _ h) Tryd.underlying98 rfl (by kernel_rfl)) (by assumption) ?_
      simp only [Act.put, List.getElem_toArray, List.getElem_cons_succ, List.getElem_cons_zero, List.setIfInBounds_toArray, List.set_cons_zero, List.set_cons_succ]
      refine wpAnyH_take (i := 4) (v := (.slice (some ⟨b2, o2, none⟩) L.length cap2)) rfl (by kernel_rfl) (by kernel_rfl) (by kernel_rfl) (fun _ _ _ h => h) (Or.inl ⟨by rfl, fun wx hSw => by kernel_rfl⟩) (by assumption) ?_
      simp only [Act.put, List.getElem_toArray, List.getElem_cons_succ, List.getElem_cons_zero, List.setIfInBounds_toArray, List.set_cons_zero, List.set_cons_succ]
      refine wpAnyH_take (i := 5) (v := (.int .i64 k)) rfl (by kernel_rfl) (by kernel_rfl) (by kernel_rfl) (fun _ _ _ h => h) (Or.inl ⟨by rfl, fun wx hSw => by kernel_rfl⟩) (by assumption) ?_
      simp only [Act.put, List.getElem_toArray, List.getElem_cons_succ, List.getElem_cons_zero, List.setIfInBounds_toArray, List.set_cons_zero, List.set_cons_succ]
      refine wpAnyH_take (i := 6) (v := (.pointer (some ⟨b2, o2 + k * 3, none⟩))) rfl (by kernel_rfl) (by kernel_rfl) (by kernel_rfl) (fun _ _ _ h => h) (Or.inl ⟨by rfl, fun wx hSw => by ((try dsimp only at hSw); go_simp)⟩) (by assumption) ?_
      simp only [Act.put, List.getElem_toArray, List.getElem_cons_succ, List.getElem_cons_zero, List.setIfInBounds_toArray, List.set_cons_zero, List.set_cons_succ]
      refine wpAnyH_take (i := 7) (v := (.agg (enl ⟨ed, ek, ea⟩).toArray)) rfl (by kernel_rfl) (by kernel_rfl) (by kernel_rfl) (fun _ _ _ h => h) (yieldsIf_load_mid (by rfl) 98 (.tmp 23) rfl _ _ rfl _ _ (fun _ h => HR2.out _ h) Tryd.underlying98 rfl (by kernel_rfl)) (by assumption) ?_
      simp only [Act.put, List.getElem_toArray, List.getElem_cons_succ, List.getElem_cons_zero, List.setIfInBounds_toArray, List.set_cons_zero, List.set_cons_succ]
      have HB1 : Hid (Below w.heap.size w V1) := hHeld
      refine wpAnyH_take (i := 8) (v := (.bool false)) rfl (by kernel_rfl) (by kernel_rfl) (by kernel_rfl) (fun _ _ _ h => h) (Or.inl ⟨by rfl, fun wx hSw => by (unfold enl; go_simp)⟩) (by assumption) ?_
      simp only [Act.put, List.getElem_toArray, List.getElem_cons_succ, List.getElem_cons_zero, List.setIfInBounds_toArray, List.set_cons_zero, List.set_cons_succ]
      refine wpAnyH_done (by kernel_rfl) ?_ _
      clear hHeld HR1 HR2
      go_wp2
      exact ⟨⟨k + 1, hlt, rfl, HB1.out⟩, by simp [intOf]; omega⟩
    · obtain rfl : k = L.length := by omega
      have zk : ¬ (L.length : Int) < (L.length : Int) := by omega
      go_wp2
      go_ret
      exact ⟨rfl, HB.out⟩

/-- What told hands back. -/
def ToldPost (w : World) (t : Ln.Terms) (l : List Ln.Ev) (e : Ending) (w' : World) : Prop :=
  ∃ B E, e = .returned (.pointer (some ⟨B, 0, none⟩)) ∧ E.Perm l ∧ Lo w' B t E (Ln.start t) t.st [] (Wd (fun _ => False) w w') ∧ Below w.heap.size w w'
theorem Wd.comp {w w1 w2 : World} {b : Nat} (h12 : w1.heap.size ≤ w2.heap.size) (h01 : w.heap.size ≤ w1.heap.size) (h : Wd (Wd (fun _ => False) w w1) w1 w2 b) : Wd (fun _ => False) w w2 b := by
  rcases h with (h | h) | h
  · exact h.elim
  · exact .inr ⟨h.1, by omega⟩
  · exact .inr ⟨by omega, h.2⟩
theorem Lim.below {w w1 : World} (h : Lim w) (hb : Below w.heap.size w w1) : Lim w1 := h.keep (S := fun _ => False) (Keep.below hb) (fun x => x)
theorem add_zero {t : Ln.Terms} {E l : List Ln.Ev} {e : Ln.Ev} (k : Nat) (hp : E.Perm (l.take k)) (hk : k < l.length) (hl : l.length ≤ 40) (he : l[k] = e) (hg : evF t e = 0) (hd : l.Pairwise (fun a b => ¬ a.s = b.s)) : addC t E e = 0 := by
  have hlen : E.length = k := by rw [hp.length_eq, List.length_take]; omega
  rw [addC_eq, if_neg (by simp [hg]), if_neg (by omega)]
  have hs : ¬ hasS e.s E = true := by
    intro h
    obtain ⟨x, hx, hq⟩ := List.any_eq_true.1 h
    have hx2 := hp.mem_iff.1 hx
    obtain ⟨j, hj, rfl⟩ := List.getElem_of_mem hx2
    have hjk : j < k := by rw [List.length_take] at hj; omega
    rw [List.getElem_take] at hq
    have := List.pairwise_iff_getElem.1 hd j k (by omega) hk hjk
    rw [he] at this
    simp at hq
    exact this hq
  rw [if_neg hs]

set_option maxRecDepth 10000 in
set_option maxHeartbeats 2000000 in
theorem told_any (w : World) (t : Ln.Terms) (ht : rtB t = true) (Eb : Nat) (v : Value) (l : List Ln.Ev) (h : EvV w Eb v l) (hl : l.length ≤ 40) (hg : ∀ e ∈ l, evF t e = 0) (hd : l.Pairwise (fun a b => ¬ a.s = b.s)) (hlim : Lim w) :
    Calls Tryd.prog 22 #[tmV t, v] w (ToldPost w t l) := by
  obtain ⟨p, cap, rfl, hcap, hat⟩ := h
  have HAt : Hid (EvAt w Eb p l) := hat
  have HG : Hid (∀ e ∈ l, evF t e = 0) := hg
  have HD : Hid (l.Pairwise (fun a b => ¬ a.s = b.s)) := hd
  have HLm : Hid (Lim w) := hlim
  have a0 : At (w.alloc (.cells (tml t).toArray 41)) w.heap.size (tml t) := At.alloc w (tml t) _
  have b0 : Below w.heap.size w (w.alloc (.cells (tml t).toArray 41)) := (Below.refl _ _).alloc (Nat.le_refl _) _
  have hO := fun W => openL t W ht
  clear hat hg hd hlim
  unfold tmV at *
  go_enter Tryd.func22, Tryd.ntmps22
  go_upto_region 1 with fail
  change Code.wp _ _ _ _ (w.alloc (.cells (tml t).toArray 41))
  generalize w.alloc (.cells (tml t).toArray 41) = V at *
  refine wp_region_lit ?_
  refine wpList_load_mid rfl 41 (.tmp 2) rfl _ 0 rfl (tml t) _ a0.range Tryd.underlying41 rfl (by kernel_rfl) ?_
  simp only [Act.put, List.setIfInBounds_toArray, List.set_cons_zero, List.set_cons_succ]
  clear a0
  go_wp2_with fail
  refine (hO V).mono ?_
  rintro e w1 ⟨B, rfl, hLo, hb1⟩
  have hbw : Below w.heap.size w w1 := b0.trans (hb1.mono b0.size)
  have HLo : Hid (Lo w1 B t [] (Ln.start t) t.st [] (Wd (fun _ => False) w w1)) := hLo.mono (fun b _ hb => .inr ⟨Nat.le_trans b0.size (Wd.fresh hb), by rcases hb with h | h; exact h.elim; exact h.2⟩)
  have HBw : Hid (Below w.heap.size w w1) := hbw
  clear hO hLo hb1 hbw b0
  go_wp2
  go_loopw [7, 8] (fun i _ wr => ∃ (k : Nat) (E : List Ln.Ev), k ≤ l.length ∧ i = .int .i64 k ∧ E.Perm (l.take k) ∧ Lo wr B t E (Ln.start t) t.st [] (Wd (fun _ => False) w wr) ∧ Below w.heap.size w wr) (fun i _ _ => (l.length - intOf i).toNat)
  case atStart => exact ⟨0, [], Nat.zero_le _, rfl, by simp, HLo.out, HBw.out⟩
  case round =>
    obtain ⟨k, E, hk, rfl, hp, hLo, hb⟩ := hrel
    have HP : Hid (E.Perm (l.take k)) := hp
    have HLo2 : Hid (Lo wr B t E (Ln.start t) t.st [] (Wd (fun _ => False) w wr)) := hLo
    have HB2 : Hid (Below w.heap.size w wr) := hb
    clear hp hLo hb HLo HBw
    by_cases hlt : k < l.length
    · obtain ⟨o, rfl, hEl, hr⟩ := HAt.out.range k hlt
      have hr2 : wr.rangeAt Eb (o + k * 4) (evl l[k]) := fun j u hu => (World.cell?_of_block (w := w) (a := ⟨Eb, o + k * 4 + j, none⟩) (HB2.out.block Eb hEl)).trans (hr j u hu)
      have hA := addL wr B t E _ _ _ _ HLo2.out l[k] (HLm.out.below HB2.out)
      have hz := add_zero k HP.out hlt hl rfl (HG.out _ (List.getElem_mem hlt)) HD.out
      rw [hz] at hA
      have HPk : Hid (∀ E' : List Ln.Ev, E'.Perm (l[k] :: E) → E'.Perm (l.take (k + 1))) := fun E' h => by
        rw [List.take_succ_eq_append_getElem hlt]
        exact h.trans ((List.Perm.cons _ HP.out).trans (List.perm_append_singleton _ _).symm)
      clear hr hz
      generalize l[k] = e at *
      unfold evV at hA
      have zk : (k : Int) < (l.length : Int) := by omega
      go_upto_region 7 with fail
      refine wp_region_lit ?_
      refine wpList_val (.pointer (some ⟨B, 0, none⟩)) wr rfl rfl ?_
      simp only [Act.put, List.setIfInBounds_toArray, List.set_cons_zero, List.set_cons_succ]
      refine wpList_val (.slice (some ⟨Eb, o, none⟩) l.length cap) wr rfl rfl ?_
      simp only [Act.put, List.setIfInBounds_toArray, List.set_cons_zero, List.set_cons_succ]
      refine wpList_val (.int .i64 k) wr rfl rfl ?_
      simp only [Act.put, List.setIfInBounds_toArray, List.set_cons_zero, List.set_cons_succ]
      refine wpList_val (.pointer (some ⟨Eb, o + k * 4, none⟩)) wr rfl (by go_simp) ?_
      simp only [Act.put, List.setIfInBounds_toArray, List.set_cons_zero, List.set_cons_succ]
      refine wpList_load_mid rfl 53 (.tmp 29) rfl _ _ rfl (evl e) _ hr2 Tryd.underlying53 rfl (by kernel_rfl) ?_
      simp only [Act.put, List.setIfInBounds_toArray, List.set_cons_zero, List.set_cons_succ]
      clear hr2
      go_wp2_with fail
      refine hA.mono ?_
      rintro x w2 ⟨rfl, hk2, ⟨hn, _⟩ | ⟨_, E', hE', hLo'⟩⟩
      · simp at hn
      · have HB3 : Hid (Below w.heap.size w w2) := Keep.fresh HB2.out hk2 (fun b x => Wd.fresh x)
        have HL3 : Hid (Lo w2 B t E' (Ln.start t) t.st [] (Wd (fun _ => False) w w2)) := hLo'.mono (fun b _ hb => Wd.comp hk2.size HB2.out.size hb)
        have HE3 : Hid (E'.Perm (l.take (k + 1))) := HPk.out E' hE'
        clear hA hk2 hE' hLo' HPk HP HLo2 HB2
        go_wp2
        exact ⟨⟨k + 1, E', hlt, rfl, HE3.out, HL3.out, HB3.out⟩, by simp [intOf]; omega⟩
    · obtain rfl : k = l.length := by omega
      have HE : Hid (ToldPost w t l (.returned (.pointer (some ⟨B, 0, none⟩))) wr) := ⟨B, E, rfl, by have := HP.out; rwa [List.take_length] at this, HLo2.out, HB2.out⟩
      have zk : ¬ (l.length : Int) < (l.length : Int) := by omega
      clear HP HLo2 HB2
      go_wp2
      go_ret
      exact HE.out
end Go.Proofs.YtanndhoimpnhpaaDoor

/- A book that was put right says what must be; a book that is right stays as it is. (Plain.) -/
namespace Go.Proofs.YtanndhoimpnhpaaDoor
open Go.RowKit

theorem wrap_neg (s : Int) : wrap64 (s + wrap64 (-s)) = 0 := by
  unfold wrap64
  omega
theorem wrap_zero (a : Int) (h : I64 a) : wrap64 (0 + a) = a := by
  unfold I64 at h
  unfold wrap64
  omega
/-- What was put right for a day says what must be. -/
theorem sum_put (L : List En) (n : Int) (h am : Nat → Int) : ∀ (J j : Nat), 1 ≤ j → j ≤ J → (∀ i, 1 ≤ i → i ≤ J → h i = sumOf L n i) → I64 (am j) → sumOf (L ++ kindsW n h am J) n j = am j
  | 0, j, h1, h2, _, _ => by omega
  | J + 1, j, h1, h2, hh, ha => by
    have e : L ++ kindsW n h am (J + 1) = (L ++ kindsW n h am J) ++ kindW n (J + 1) (h (J + 1)) (am (J + 1)) := by
      simp only [kindsW, List.append_assoc]
    rw [e]
    by_cases hj : j ≤ J
    · rw [sumOf_append _ _ _ _ (fun x hx => by have := kindW_mem hx; omega)]
      exact sum_put L n h am J j h1 hj (fun i hi hi2 => hh i hi (by omega)) ha
    · obtain rfl : j = J + 1 := by omega
      have hs : sumOf (L ++ kindsW n h am J) n ((J + 1 : Nat) : Int) = h (J + 1) := by
        rw [sumOf_kinds L n h am J (J + 1) (by omega), hh (J + 1) (by omega) (Nat.le_refl _)]
      have hd : ∀ (M : List En) (x : Int), sumOf (M ++ [⟨n, ((J + 1 : Nat) : Int), x⟩]) n ((J + 1 : Nat) : Int) = wrap64 (sumOf M n ((J + 1 : Nat) : Int) + x) := fun M x => by
        rw [sumOf_snoc, if_pos ⟨rfl, rfl⟩]
      unfold kindW
      generalize h (J + 1) = is at *
      generalize am (J + 1) = a at *
      by_cases h3 : is = a
      · rw [if_pos h3, List.append_nil, hs, h3]
      · rw [if_neg h3]
        by_cases h4 : is = 0
        · rw [if_pos h4, List.nil_append]
          by_cases h5 : a = 0
          · omega
          · rw [if_neg h5, hd, hs, h4, wrap_zero a ha]
        · rw [if_neg h4]
          by_cases h5 : a = 0
          · rw [if_pos h5, List.append_nil, hd, hs, wrap_neg, h5]
          · rw [if_neg h5, ← List.append_assoc, hd, hd, hs, wrap_neg, wrap_zero a ha]
theorem kindsW_none (n : Int) (h am : Nat → Int) : ∀ J, (∀ j, 1 ≤ j → j ≤ J → h j = am j) → kindsW n h am J = []
  | 0, _ => rfl
  | J + 1, hh => by
    simp only [kindsW]
    rw [kindsW_none n h am J (fun j h1 h2 => hh j h1 (by omega)), List.nil_append]
    unfold kindW
    rw [if_pos (hh (J + 1) (by omega) (Nat.le_refl _))]
theorem kindsW_congr (n : Int) (h h' am : Nat → Int) : ∀ J, (∀ j, 1 ≤ j → j ≤ J → h j = h' j) → kindsW n h am J = kindsW n h' am J
  | 0, _ => rfl
  | J + 1, hh => by
    simp only [kindsW]
    rw [kindsW_congr n h h' am J (fun j h1 h2 => hh j h1 (by omega)), hh (J + 1) (by omega) (Nat.le_refl _)]
end Go.Proofs.YtanndhoimpnhpaaDoor

/- The book of a loan whose events were all known: day by day; it comes to the same in however many steps. (Plain.) -/
namespace Go.Proofs.YtanndhoimpnhpaaDoor
open Go.RowKit

/-- What the first k days write into an empty book. -/
def cleanB (st : Int) (am : Nat → Nat → Int) : Nat → List En
  | 0 => []
  | k + 1 => cleanB st am k ++ kindsW (st + k) (fun _ => 0) (am k) 12
theorem cleanB_mem {st : Int} {am : Nat → Nat → Int} {e : En} : ∀ {k : Nat}, e ∈ cleanB st am k → st ≤ e.d ∧ e.d < st + k ∧ 1 ≤ e.k ∧ e.k ≤ 12
  | 0, h => by simp [cleanB] at h
  | k + 1, h => by
    rcases List.mem_append.1 h with h | h
    · have := cleanB_mem h
      omega
    · have := kindsW_mem h
      omega
theorem sumOf_none (L : List En) (d k : Int) (h : ∀ e ∈ L, ¬ (d = e.d ∧ k = e.k)) : sumOf L d k = 0 := by
  have := sumOf_append [] L d k h
  rwa [List.nil_append] at this
theorem sum_clean (st : Int) (am : Nat → Nat → Int) (M : Nat) (ha : ∀ k j, k < M → 1 ≤ j → j ≤ 12 → I64 (am k j)) (j : Nat) (h1 : 1 ≤ j) (h12 : j ≤ 12) : ∀ p k : Nat, p ≤ M → k < p → sumOf (cleanB st am p) (st + k) j = am k j
  | 0, k, _, h => absurd h (Nat.not_lt_zero k)
  | p + 1, k, hM, h => by
    simp only [cleanB]
    by_cases hk : k < p
    · rw [sumOf_append _ _ _ _ (fun x hx => by have := kindsW_mem hx; omega)]
      exact sum_clean st am M ha j h1 h12 p k (by omega) hk
    · obtain rfl : k = p := by omega
      exact sum_put _ _ _ _ 12 j h1 h12 (fun i _ _ => (sumOf_none _ _ _ (fun x hx => by have := cleanB_mem hx; omega)).symm) (ha k j (by omega) h1 h12)
theorem bkP_clean (st : Int) (am : Nat → Nat → Int) (M : Nat) (ha : ∀ k j, k < M → 1 ≤ j → j ≤ 12 → I64 (am k j)) (p : Nat) (hp : p ≤ M) : ∀ m, bkP st am (cleanB st am p) m = cleanB st am (max p m)
  | 0 => by rw [Nat.max_eq_left (Nat.zero_le _)]; rfl
  | m + 1 => by
    simp only [bkP]
    rw [bkP_clean st am M ha p hp m]
    by_cases h : m < p
    · rw [Nat.max_eq_left (by omega), Nat.max_eq_left (by omega), kindsW_none _ _ _ 12 (fun j h1 h2 => sum_clean st am M ha j h1 h2 p m hp h), List.append_nil]
    · rw [Nat.max_eq_right (by omega), Nat.max_eq_right (by omega)]
      simp only [cleanB]
      rw [kindsW_congr _ _ (fun _ => 0) _ 12 (fun j _ _ => sumOf_none _ _ _ (fun x hx => by have := cleanB_mem hx; omega))]
/-- The sums of a book that was put right. -/
theorem bkP_mem {st : Int} {am : Nat → Nat → Int} {L : List En} {e : En} : ∀ {m : Nat}, e ∈ bkP st am L m → e ∈ L ∨ (st ≤ e.d ∧ e.d < st + m ∧ 1 ≤ e.k ∧ e.k ≤ 12)
  | 0, h => .inl h
  | m + 1, h => by
    rcases List.mem_append.1 h with h | h
    · rcases bkP_mem h with h | h
      · exact .inl h
      · exact .inr (by omega)
    · have := kindsW_mem h
      exact .inr (by omega)
theorem bkP_pre (st : Int) (am : Nat → Nat → Int) (L : List En) : ∀ m, ∃ M, bkP st am L m = L ++ M
  | 0 => ⟨[], (List.append_nil L).symm⟩
  | m + 1 => by
    obtain ⟨M, h⟩ := bkP_pre st am L m
    exact ⟨M ++ kindsW (st + m) (fun j => sumOf (bkP st am L m) (st + m) j) (am m) 12, by
      show bkP st am L m ++ _ = _
      rw [← List.append_assoc, ← h]⟩
theorem sum_bkP (st : Int) (am : Nat → Nat → Int) (M : Nat) (ha : ∀ k j, k < M → 1 ≤ j → j ≤ 12 → I64 (am k j)) (L : List En) (j : Nat) (h1 : 1 ≤ j) (h12 : j ≤ 12) : ∀ p k : Nat, p ≤ M → k < p → sumOf (bkP st am L p) (st + k) j = am k j
  | 0, k, _, h => absurd h (Nat.not_lt_zero k)
  | p + 1, k, hM, h => by
    simp only [bkP]
    by_cases hk : k < p
    · rw [sumOf_append _ _ _ _ (fun x hx => by have := kindsW_mem hx; omega)]
      exact sum_bkP st am M ha L j h1 h12 p k (by omega) hk
    · obtain rfl : k = p := by omega
      exact sum_put _ _ _ _ 12 j h1 h12 (fun i _ _ => rfl) (ha k j (by omega) h1 h12)
theorem cleanB_len (st : Int) (am : Nat → Nat → Int) : ∀ k, (cleanB st am k).length ≤ 24 * k
  | 0 => Nat.le_refl _
  | k + 1 => by
    have h1 := cleanB_len st am k
    have h2 := kindsW_len (st + k) (fun _ => 0) (am k) 12
    simp only [cleanB, List.length_append]
    omega
end Go.Proofs.YtanndhoimpnhpaaDoor

/- Two loans side by side, apart in memory. -/
namespace Go.Proofs.YtanndhoimpnhpaaDoor
open Go.ChangeShapes Go.WideShapes Go.RowKit Go.WideMaps Go.Maps Cal

/-- A loan in blocks F that are from w on; NT: a block that is not the loan's. -/
structure One (w : World) (NT : Nat) (B : Nat) (t : Ln.Terms) (E : List Ln.Ev) (g : Ln.St) (d : Int) (L : List En) (F : Nat → Prop) (wx : World) : Prop where
  lo : Lo wx B t E g d L F
  nt : ¬ F NT
  ge : ∀ b, F b → w.heap.size ≤ b
  lt : ∀ b, F b → b < wx.heap.size
structure Two (w : World) (NT : Nat) (t : Ln.Terms) (E : List Ln.Ev) (B1 B2 : Nat) (g1 : Ln.St) (d1 : Int) (L1 : List En) (g2 : Ln.St) (d2 : Int) (L2 : List En) (F1 F2 : Nat → Prop) (wx : World) : Prop where
  x : One w NT B1 t E g1 d1 L1 F1 wx
  y : One w NT B2 t E g2 d2 L2 F2 wx
  ap : ∀ b, F1 b → ¬ F2 b
  bl : Below w.heap.size w wx
theorem One.keep {S F : Nat → Prop} {w wx wy : World} {NT B : Nat} {t : Ln.Terms} {E : List Ln.Ev} {g : Ln.St} {d : Int} {L : List En} (h : One w NT B t E g d L F wx) (hk : Keep S wx wy) (hs : ∀ b, F b → ¬ S b) : One w NT B t E g d L F wy :=
  ⟨h.lo.keep hk (fun b _ hb => hs b hb), h.nt, h.ge, fun b hb => Nat.lt_of_lt_of_le (h.lt b hb) hk.size⟩
theorem One.below {F : Nat → Prop} {w wx wy : World} {NT B : Nat} {t : Ln.Terms} {E : List Ln.Ev} {g : Ln.St} {d : Int} {L : List En} (h : One w NT B t E g d L F wx) (hb : Below wx.heap.size wx wy) : One w NT B t E g d L F wy := h.keep (S := fun _ => False) (Keep.below hb) (fun _ _ x => x)
theorem Two.below {F1 F2 : Nat → Prop} {w wx wy : World} {NT B1 B2 : Nat} {t : Ln.Terms} {E : List Ln.Ev} {g1 g2 : Ln.St} {d1 d2 : Int} {L1 L2 : List En} (h : Two w NT t E B1 B2 g1 d1 L1 g2 d2 L2 F1 F2 wx) (hb : Below wx.heap.size wx wy) : Two w NT t E B1 B2 g1 d1 L1 g2 d2 L2 F1 F2 wy :=
  ⟨h.x.below hb, h.y.below hb, h.ap, h.bl.trans (hb.mono h.bl.size)⟩
theorem Two.drew {F1 F2 : Nat → Prop} {w wx : World} {NT B1 B2 : Nat} {t : Ln.Terms} {E : List Ln.Ev} {g1 g2 : Ln.St} {d1 d2 : Int} {L1 L2 : List En} (h : Two w NT t E B1 B2 g1 d1 L1 g2 d2 L2 F1 F2 wx) : Two w NT t E B1 B2 g1 d1 L1 g2 d2 L2 F1 F2 wx.drew := h.below (Below.refl _ _).drew
theorem One.run {F : Nat → Prop} {w wx : World} {NT B : Nat} {t : Ln.Terms} {E : List Ln.Ev} {g : Ln.St} {d : Int} {L : List En} (h : One w NT B t E g d L F wx) (hb : Below w.heap.size w wx) (hmv : Mv w) (hL : L.length ≤ 4000000000000) (m : Nat) (h0 : d ≤ t.st + m) (hm : m ≤ 3700) (hNT : NT < wx.heap.size) :
    Calls Tryd.prog 18 #[.pointer (some ⟨B, 0, none⟩), .int .i64 (t.st + m)] wx fun e wy => e = .returned (.int .i64 0) ∧ One w NT B t E (Ln.run t cdOf (wtOf t.ba) E m) (t.st + m) (bkP t.st (fun k => (yOf t E k).am) L m) (Wd F wx wy) wy ∧ Keep F wx wy := by
  have hg := hmv.lt
  refine (runL wx B t E g d L F h.lo hL m h0 hm (hmv.below hb) (fun x => by have := h.ge _ x; omega)).mono ?_
  rintro e wy ⟨rfl, h1, h2⟩
  refine ⟨rfl, ⟨h1, ?_, ?_, ?_⟩, h2⟩
  · rintro (x | x)
    · exact h.nt x
    · omega
  · rintro b (x | x)
    · exact h.ge b x
    · have := hb.size; omega
  · rintro b (x | x)
    · exact Nat.lt_of_lt_of_le (h.lt b x) h2.size
    · exact x.2
theorem Two.runX {F1 F2 : Nat → Prop} {w wx : World} {NT B1 B2 : Nat} {t : Ln.Terms} {E : List Ln.Ev} {g1 g2 : Ln.St} {d1 d2 : Int} {L1 L2 : List En} (h : Two w NT t E B1 B2 g1 d1 L1 g2 d2 L2 F1 F2 wx) (hmv : Mv w) (hL : L1.length ≤ 4000000000000) (m : Nat) (h0 : d1 ≤ t.st + m) (hm : m ≤ 3700) (hNT : At wx NT (tml t)) :
    Calls Tryd.prog 18 #[.pointer (some ⟨B1, 0, none⟩), .int .i64 (t.st + m)] wx fun e wy => e = .returned (.int .i64 0) ∧ (∃ F, Two w NT t E B1 B2 (Ln.run t cdOf (wtOf t.ba) E m) (t.st + m) (bkP t.st (fun k => (yOf t E k).am) L1 m) g2 d2 L2 F F2 wy) ∧ At wy NT (tml t) := by
  have hl := At.lt (v := .int .i64 t.st) hNT
  refine (h.x.run h.bl hmv hL m h0 hm hl).mono ?_
  rintro e wy ⟨rfl, h1, h2⟩
  refine ⟨rfl, ⟨_, h1, h.y.keep h2 (fun b hb hx => h.ap b hx hb), ?_, Keep.fresh h.bl h2 h.x.ge⟩, At.keep (v := .int .i64 t.st) hNT h2 h.x.nt⟩
  rintro b (x | x)
  · exact h.ap b x
  · intro y; have := h.y.lt b y; omega
theorem Two.runY {F1 F2 : Nat → Prop} {w wx : World} {NT B1 B2 : Nat} {t : Ln.Terms} {E : List Ln.Ev} {g1 g2 : Ln.St} {d1 d2 : Int} {L1 L2 : List En} (h : Two w NT t E B1 B2 g1 d1 L1 g2 d2 L2 F1 F2 wx) (hmv : Mv w) (hL : L2.length ≤ 4000000000000) (m : Nat) (h0 : d2 ≤ t.st + m) (hm : m ≤ 3700) (hNT : At wx NT (tml t)) :
    Calls Tryd.prog 18 #[.pointer (some ⟨B2, 0, none⟩), .int .i64 (t.st + m)] wx fun e wy => e = .returned (.int .i64 0) ∧ (∃ F, Two w NT t E B1 B2 g1 d1 L1 (Ln.run t cdOf (wtOf t.ba) E m) (t.st + m) (bkP t.st (fun k => (yOf t E k).am) L2 m) F1 F wy) ∧ At wy NT (tml t) := by
  have hl := At.lt (v := .int .i64 t.st) hNT
  refine (h.y.run h.bl hmv hL m h0 hm hl).mono ?_
  rintro e wy ⟨rfl, h1, h2⟩
  refine ⟨rfl, ⟨_, h.x.keep h2 (fun b hb hx => h.ap b hb hx), h1, ?_, Keep.fresh h.bl h2 h.y.ge⟩, At.keep (v := .int .i64 t.st) hNT h2 h.y.nt⟩
  intro b hb
  rintro (x | x)
  · exact h.ap b hb x
  · have := h.x.lt b hb; omega
/-- The facts of a loan's events, out of memory. -/
theorem Lo.facts {w : World} {B : Nat} {t : Ln.Terms} {E : List Ln.Ev} {g : Ln.St} {d : Int} {L : List En} {F : Nat → Prop} (h : Lo w B t E g d L F) : E.Pairwise So.Ah ∧ (∀ e ∈ E, Ln.OkE t e) ∧ E.length ≤ 40 ∧ Ln.OkT t := by
  obtain ⟨_, _, _, _, h1, _⟩ := h
  exact ⟨h1.so, h1.ok, h1.le, h1.ot⟩
/-- The amounts of a loan's days. -/
noncomputable def amOf (t : Ln.Terms) (E : List Ln.Ev) : Nat → Nat → Int := fun k => (yOf t E k).am
theorem amOf_bd {t : Ln.Terms} {E : List Ln.Ev} (hE : ∀ e ∈ E, Ln.OkE t e) (hl : E.length ≤ 40) (ht : Ln.OkT t) : ∀ k j, k < 3700 → 1 ≤ j → j ≤ 12 → I64 (amOf t E k j) := fun k j hk h1 h12 => by
  have := am_bd ht E hE hl k hk j h1 h12
  show -9223372036854775808 ≤ (yOf t E k).am j ∧ (yOf t E k).am j ≤ 9223372036854775807
  omega
/-- A book that was right at day p is right at day m. -/
theorem clean_on {t : Ln.Terms} {E : List Ln.Ev} (hE : ∀ e ∈ E, Ln.OkE t e) (hl : E.length ≤ 40) (ht : Ln.OkT t) (p m : Nat) (hp : p ≤ m) (hm : m ≤ 3700) : bkP t.st (fun k => (yOf t E k).am) (cleanB t.st (amOf t E) p) m = cleanB t.st (amOf t E) m := by
  have := bkP_clean t.st (amOf t E) 3700 (amOf_bd hE hl ht) p (by omega) m
  rw [Nat.max_eq_right hp] at this
  exact this
end Go.Proofs.YtanndhoimpnhpaaDoor

/- The accounts of the book that a loan's days write are what the loan owes; no number is out of bounds. (Plain.) -/
namespace Go.Proofs.YtanndhoimpnhpaaDoor
open Go.RowKit Cal

/-- What was lent by events ahead of day n; what was paid. -/
def lentTo (n : Int) : List Ln.Ev → Int
  | [] => 0
  | e :: r => (if e.d < n ∧ e.k = 1 then e.a else 0) + lentTo n r
def paidTo (n : Int) : List Ln.Ev → Int
  | [] => 0
  | e :: r => (if e.d < n ∧ e.k = 5 then e.a else 0) + paidTo n r
theorem lentTo_succ (n : Int) : ∀ l : List Ln.Ev, lentTo (n + 1) l = lentTo n l + Ln.drawns n l
  | [] => rfl
  | e :: r => by
    have ih := lentTo_succ n r
    simp only [lentTo, Ln.drawns, Ln.drawn, ih]
    by_cases hk : e.k = 1
    · by_cases h1 : e.d < n
      · rw [if_pos ⟨by omega, hk⟩, if_pos ⟨h1, hk⟩, if_neg (by omega)]; omega
      · by_cases h2 : e.d = n
        · rw [if_pos ⟨by omega, hk⟩, if_neg (by omega), if_pos ⟨h2, hk⟩]; omega
        · rw [if_neg (by omega), if_neg (by omega), if_neg (by omega)]; omega
    · rw [if_neg (by omega), if_neg (by omega), if_neg (by omega)]; omega
theorem paidTo_succ (n : Int) : ∀ l : List Ln.Ev, paidTo (n + 1) l = paidTo n l + Ln.repaids n l
  | [] => rfl
  | e :: r => by
    have ih := paidTo_succ n r
    simp only [paidTo, Ln.repaids, Ln.repaid, ih]
    by_cases hk : e.k = 5
    · by_cases h1 : e.d < n
      · rw [if_pos ⟨by omega, hk⟩, if_pos ⟨h1, hk⟩, if_neg (by omega)]; omega
      · by_cases h2 : e.d = n
        · rw [if_pos ⟨by omega, hk⟩, if_neg (by omega), if_pos ⟨h2, hk⟩]; omega
        · rw [if_neg (by omega), if_neg (by omega), if_neg (by omega)]; omega
    · rw [if_neg (by omega), if_neg (by omega), if_neg (by omega)]; omega
theorem lentTo_none (n : Int) : ∀ l : List Ln.Ev, (∀ e ∈ l, n ≤ e.d) → lentTo n l = 0
  | [], _ => rfl
  | e :: r, h => by
    have h1 := h e (by simp)
    simp only [lentTo, lentTo_none n r (fun x hx => h x (by simp [hx]))]
    rw [if_neg (by omega)]
    rfl
theorem paidTo_none (n : Int) : ∀ l : List Ln.Ev, (∀ e ∈ l, n ≤ e.d) → paidTo n l = 0
  | [], _ => rfl
  | e :: r, h => by
    have h1 := h e (by simp)
    simp only [paidTo, paidTo_none n r (fun x hx => h x (by simp [hx]))]
    rw [if_neg (by omega)]
    rfl
theorem lentTo_perm (n : Int) {l m : List Ln.Ev} (h : l.Perm m) : lentTo n l = lentTo n m := by
  induction h with
  | nil => rfl
  | cons x _ ih => simp only [lentTo, ih]
  | swap x y l => simp only [lentTo]; omega
  | trans _ _ ih1 ih2 => exact ih1.trans ih2
theorem paidTo_perm (n : Int) {l m : List Ln.Ev} (h : l.Perm m) : paidTo n l = paidTo n m := by
  induction h with
  | nil => rfl
  | cons x _ ih => simp only [paidTo, ih]
  | swap x y l => simp only [paidTo]; omega
  | trans _ _ ih1 ih2 => exact ih1.trans ih2
theorem lentTo_bd (t : Ln.Terms) (n : Int) : ∀ l : List Ln.Ev, (∀ e ∈ l, Ln.OkE t e) → 0 ≤ lentTo n l ∧ lentTo n l ≤ 100000000000 * l.length
  | [], _ => by simp [lentTo]
  | e :: r, h => by
    have h1 := h e (by simp)
    have h2 := lentTo_bd t n r (fun x hx => h x (by simp [hx]))
    have a0 := h1.a0
    have a1 := h1.a1
    simp only [lentTo, List.length_cons]
    split <;> omega
theorem paidTo_bd (t : Ln.Terms) (n : Int) : ∀ l : List Ln.Ev, (∀ e ∈ l, Ln.OkE t e) → 0 ≤ paidTo n l ∧ paidTo n l ≤ 100000000000 * l.length
  | [], _ => by simp [paidTo]
  | e :: r, h => by
    have h1 := h e (by simp)
    have h2 := paidTo_bd t n r (fun x hx => h x (by simp [hx]))
    have a0 := h1.a0
    have a1 := h1.a1
    simp only [paidTo, List.length_cons]
    split <;> omega
/-- What the accounts are behind m days. -/
structure AccI (t : Ln.Terms) (E : List Ln.Ev) (m : Nat) : Prop where
  a0 : acc 0 (cleanB t.st (amOf t E) m) = paidTo (t.st + m) E - ((if 0 < m then t.pr else 0) + lentTo (t.st + m) E)
  a1 : acc 1 (cleanB t.st (amOf t E) m) = (Ln.run t cdOf (wtOf t.ba) E m).pr
  a2 : acc 2 (cleanB t.st (amOf t E) m) = (Ln.run t cdOf (wtOf t.ba) E m).it
  a3 : acc 3 (cleanB t.st (amOf t E) m) = (Ln.run t cdOf (wtOf t.ba) E m).du
  a4 : acc 4 (cleanB t.st (amOf t E) m) = (Ln.run t cdOf (wtOf t.ba) E m).la
  a5 : acc 5 (cleanB t.st (amOf t E) m) = (Ln.run t cdOf (wtOf t.ba) E m).fi
  a6 : acc 6 (cleanB t.st (amOf t E) m) = - (Ln.run t cdOf (wtOf t.ba) E m).cr
  a7 : acc 7 (cleanB t.st (amOf t E) m) ≤ 0
  a8 : acc 8 (cleanB t.st (amOf t E) m) = - ((Ln.run t cdOf (wtOf t.ba) E m).fn / Ln.den t)
  al : acc 0 (cleanB t.st (amOf t E) m) + acc 1 (cleanB t.st (amOf t E) m) + acc 2 (cleanB t.st (amOf t E) m) + acc 3 (cleanB t.st (amOf t E) m) + acc 4 (cleanB t.st (amOf t E) m) + acc 5 (cleanB t.st (amOf t E) m) + acc 6 (cleanB t.st (amOf t E) m) + acc 7 (cleanB t.st (amOf t E) m) + acc 8 (cleanB t.st (amOf t E) m) = 0
theorem enter_am (y : Ln.Dy) (k : Nat) (a : Int) (j : Nat) (h : ¬ j = k) : (Ln.enter y k a).am j = y.am j := by
  show Ln.upd y.am k a j = y.am j
  unfold Ln.upd
  rw [if_neg h]
theorem pay_am (y : Ln.Dy) (a : Int) (j : Nat) (h : 11 ≤ j) : (Ln.pay y a).am j = y.am j := by
  unfold Ln.pay
  simp only []
  rw [enter_am _ _ _ _ (by omega), enter_am _ _ _ _ (by omega), enter_am _ _ _ _ (by omega), enter_am _ _ _ _ (by omega), enter_am _ _ _ _ (by omega), enter_am _ _ _ _ (by omega)]
theorem event_am (n : Int) (y : Ln.Dy) (e : Ln.Ev) (j : Nat) (h : 11 ≤ j) : (Ln.event n y e).am j = y.am j := by
  unfold Ln.event
  by_cases h0 : e.d ≠ n
  · rw [if_pos h0]
  · rw [if_neg h0]
    by_cases h1 : e.k = 1
    · rw [if_pos h1, enter_am _ _ _ _ (by omega)]
    · rw [if_neg h1]
      by_cases h2 : e.k = 2
      · rw [if_pos h2]
      · rw [if_neg h2]
        by_cases h3 : e.k = 3
        · rw [if_pos h3]
          split <;> rfl
        · rw [if_neg h3]
          by_cases h4 : e.k = 4
          · rw [if_pos h4, enter_am _ _ _ _ (by omega)]
          · rw [if_neg h4]
            by_cases h5 : e.k = 5
            · rw [if_pos h5, pay_am _ _ _ h]
            · rw [if_neg h5]
theorem events_am (n : Int) (j : Nat) (h : 11 ≤ j) : ∀ (l : List Ln.Ev) (y : Ln.Dy), (l.foldl (Ln.event n) y).am j = y.am j
  | [], _ => rfl
  | e :: r, y => (events_am n j h r (Ln.event n y e)).trans (event_am n y e j h)
theorem early_am (t : Ln.Terms) (n cd : Int) (g : Ln.St) (j : Nat) (h : 11 ≤ j) : (Ln.early t n cd g).am j = 0 := by
  unfold Ln.early
  by_cases hn : n = t.st
  · simp only [hn, if_true, ne_eq, not_true, false_and, if_false]
    rw [enter_am _ _ _ _ (by omega)]
  · simp only [hn, if_false, ne_eq, not_false_eq_true, true_and]
    split
    · rw [enter_am _ _ _ _ (by omega), enter_am _ _ _ _ (by omega)]
    · rfl
/-- What a day's fine is; that a day's interest is not below 0. -/
theorem day_twelve (t : Ln.Terms) (E : List Ln.Ev) (m : Nat) : (yOf t E m).am 12 = (Ln.run t cdOf (wtOf t.ba) E (m + 1)).fn / Ln.den t - (Ln.run t cdOf (wtOf t.ba) E m).fn / Ln.den t := by
  have fe := Ln.events_fn (t.st + m) E (Ln.early t (t.st + m) (cdOf (t.st + m)) (Ln.run t cdOf (wtOf t.ba) E m))
  rw [Ln.early_fn] at fe
  have h12 := events_am (t.st + m) 12 (by omega) E (Ln.early t (t.st + m) (cdOf (t.st + m)) (Ln.run t cdOf (wtOf t.ba) E m))
  rw [early_am _ _ _ _ 12 (by omega)] at h12
  have e1 : Ln.run t cdOf (wtOf t.ba) E (m + 1) = (yOf t E m).g := rfl
  rw [e1]
  unfold yOf Ln.day
  generalize E.foldl (Ln.event (t.st + m)) (Ln.early t (t.st + m) (cdOf (t.st + m)) (Ln.run t cdOf (wtOf t.ba) E m)) = y at *
  have e12 : (Ln.late t (wtOf t.ba (t.st + m)) y).am 12 = y.am 12 + (Ln.part t (y.g.fn + y.g.la * (t.fi * wtOf t.ba (t.st + m))) - Ln.part t y.g.fn) := rfl
  have g12 : (Ln.late t (wtOf t.ba (t.st + m)) y).g.fn = y.g.fn + y.g.la * (t.fi * wtOf t.ba (t.st + m)) := rfl
  rw [e12, g12, h12, Ln.part_den, Ln.part_den, fe]
  omega
theorem accI {t : Ln.Terms} (ht : Ln.OkT t) {E : List Ln.Ev} (hE : ∀ e ∈ E, Ln.OkE t e) (hl : E.length ≤ 40) : ∀ m, m ≤ 3700 → AccI t E m
  | 0, _ => by
    have hd : ∀ e ∈ E, t.st + (0 : Nat) ≤ e.d := fun e he => by have := (hE e he).d0; omega
    have l0 := lentTo_none (t.st + (0 : Nat)) E hd
    have p0 := paidTo_none (t.st + (0 : Nat)) E hd
    constructor <;> simp_all [cleanB, acc, Ln.run, Ln.start]
  | m + 1, hm => by
    have ih := accI ht hE hl m (by omega)
    have td := Ln.Tie.day t (t.st + m) (cdOf (t.st + m)) (wtOf t.ba (t.st + m)) E (Ln.run t cdOf (wtOf t.ba) E m)
    have e1 : Ln.run t cdOf (wtOf t.ba) E (m + 1) = (yOf t E m).g := rfl
    have td : Ln.Tie (Ln.run t cdOf (wtOf t.ba) E m) ((if t.st + (m : Int) = t.st then t.pr else 0) + Ln.drawns (t.st + m) E) (Ln.repaids (t.st + m) E) (yOf t E m) := td
    have hk : ∀ i : Int, acc i (cleanB t.st (amOf t E) (m + 1)) = acc i (cleanB t.st (amOf t E) m) + acc i (kindsW (t.st + m) (fun _ => 0) (amOf t E m) 12) := fun i => by
      simp only [cleanB]
      exact acc_append i _ _
    have hm12 := day_twelve t E m
    have hn11 := (am_bd ht E hE hl m (by omega) 11 (by omega) (by omega)).1
    have hls := lentTo_succ (t.st + m) E
    have hps := paidTo_succ (t.st + m) E
    rw [show t.st + (m : Int) + 1 = t.st + ((m + 1 : Nat) : Int) by omega] at hls hps
    have ham : amOf t E m = (yOf t E m).am := rfl
    obtain ⟨i0, i1, i2, i3, i4, i5, i6, i7, i8, il⟩ := ih
    obtain ⟨t1, t2, t3, t4, t5, t6, t7, t8⟩ := td
    have hif : (if (0 : Nat) < m then t.pr else 0) + (if t.st + (m : Int) = t.st then t.pr else 0) = t.pr := by
      by_cases hz : m = 0
      · subst hz; simp
      · rw [if_pos (by omega), if_neg (by omega)]; omega
    have k0 := hk 0
    have k1 := hk 1
    have k2 := hk 2
    have k3 := hk 3
    have k4 := hk 4
    have k5 := hk 5
    have k6 := hk 6
    have k7 := hk 7
    have k8 := hk 8
    rw [acc_kinds, ham] at k0 k1 k2 k3 k4 k5 k6 k7 k8
    simp [kTo, kFrom] at k0 k1 k2 k3 k4 k5 k6 k7 k8
    rw [e1] at hm12
    refine ⟨?_, ?_, ?_, ?_, ?_, ?_, ?_, ?_, ?_, ?_⟩
    · rw [if_pos (Nat.succ_pos m)]; omega
    · rw [e1]; omega
    · rw [e1]; omega
    · rw [e1]; omega
    · rw [e1]; omega
    · rw [e1]; omega
    · rw [e1]; omega
    · omega
    · rw [e1]; omega
    · omega
/-- What a loan owes behind m days, and its accounts: none is out of bounds. -/
structure StBd (g : Ln.St) : Prop where
  pr : 0 ≤ g.pr ∧ g.pr ≤ 8000000000000000000
  it : 0 ≤ g.it ∧ g.it ≤ 8000000000000000000
  du : 0 ≤ g.du ∧ g.du ≤ 8000000000000000000
  la : 0 ≤ g.la ∧ g.la ≤ 8000000000000000000
  fi : 0 ≤ g.fi ∧ g.fi ≤ 8000000000000000000
  cr : 0 ≤ g.cr ∧ g.cr ≤ 8000000000000000000
  rt : 0 ≤ g.rt ∧ g.rt ≤ 1000000
theorem run_bd {t : Ln.Terms} (ht : Ln.OkT t) {E : List Ln.Ev} (hE : ∀ e ∈ E, Ln.OkE t e) (hl : E.length ≤ 40) (m : Nat) (hm : m ≤ 3700) : StBd (Ln.run t cdOf (wtOf t.ba) E m) ∧ (Ln.run t cdOf (wtOf t.ba) E m).pr + (Ln.run t cdOf (wtOf t.ba) E m).it + (Ln.run t cdOf (wtOf t.ba) E m).du + (Ln.run t cdOf (wtOf t.ba) E m).la ≤ 656820000000000000 ∧ (Ln.run t cdOf (wtOf t.ba) E m).fi ≤ (Ln.run t cdOf (wtOf t.ba) E m).fn / Ln.den t ∧ (Ln.run t cdOf (wtOf t.ba) E m).fn / Ln.den t ≤ 8000000000000000000 ∧ (Ln.run t cdOf (wtOf t.ba) E m).cr ≤ 4100000000000 := by
  have hI := Ln.run_inv ht cdOf (wtOf t.ba) (wsOf t.ba t.st) (wsOf_le _ _) (wsOf_eq _ _) E hE m
  have hs := sw_bd t.ba t.st ht.st0 ht.st1 m hm
  have hb := Ln.tot_bound ht E hE hl m
  have hB := hI.bound hs hb
  have hf := Ln.run_fn_bd ht E hE hl m hm
  obtain ⟨h1, h2, h3, h4, h5, h6, h7, h8, _, _, _, h9, h10, _⟩ := hI
  refine ⟨⟨⟨h1, by omega⟩, ⟨h2, by omega⟩, ⟨h3, by omega⟩, ⟨h4, by omega⟩, ⟨h5, by omega⟩, ⟨h6, by omega⟩, ⟨h7, h8⟩⟩, hB, h10, hf, by omega⟩
theorem acc_in {t : Ln.Terms} (ht : Ln.OkT t) {E : List Ln.Ev} (hE : ∀ e ∈ E, Ln.OkE t e) (hl : E.length ≤ 40) (m : Nat) (hm : m ≤ 3700) (i : Nat) (hi : i < 9) : wacc (cleanB t.st (amOf t E) m) i = acc i (cleanB t.st (amOf t E) m) := by
  rw [wacc_acc _ (fun e he => by have := cleanB_mem he; omega)]
  obtain ⟨i0, i1, i2, i3, i4, i5, i6, i7, i8, il⟩ := accI ht hE hl m hm
  obtain ⟨⟨b1, b2, b3, b4, b5, b6, _⟩, hB, hf, hF, hc⟩ := run_bd ht hE hl m hm
  have l1 := lentTo_bd t (t.st + m) E hE
  have p1 := paidTo_bd t (t.st + m) E hE
  have hp0 := ht.pr0
  have hp1 := ht.pr1
  have hif : 0 ≤ (if 0 < m then t.pr else 0) ∧ (if 0 < m then t.pr else 0) ≤ 100000000000 := by split <;> omega
  have w64' : ∀ x : Int, -9223372036854775808 ≤ x → x ≤ 9223372036854775807 → wrap64 x = x := fun x h1 h2 => by unfold wrap64; omega
  rcases (show i = 0 ∨ i = 1 ∨ i = 2 ∨ i = 3 ∨ i = 4 ∨ i = 5 ∨ i = 6 ∨ i = 7 ∨ i = 8 by omega) with rfl | rfl | rfl | rfl | rfl | rfl | rfl | rfl | rfl
  · exact w64' _ (by show _ ≤ acc 0 _; omega) (by show acc 0 _ ≤ _; omega)
  · exact w64' _ (by show _ ≤ acc 1 _; omega) (by show acc 1 _ ≤ _; omega)
  · exact w64' _ (by show _ ≤ acc 2 _; omega) (by show acc 2 _ ≤ _; omega)
  · exact w64' _ (by show _ ≤ acc 3 _; omega) (by show acc 3 _ ≤ _; omega)
  · exact w64' _ (by show _ ≤ acc 4 _; omega) (by show acc 4 _ ≤ _; omega)
  · exact w64' _ (by show _ ≤ acc 5 _; omega) (by show acc 5 _ ≤ _; omega)
  · exact w64' _ (by show _ ≤ acc 6 _; omega) (by show acc 6 _ ≤ _; omega)
  · exact w64' _ (by show _ ≤ acc 7 _; omega) (by show acc 7 _ ≤ _; omega)
  · exact w64' _ (by show _ ≤ acc 8 _; omega) (by show acc 8 _ ≤ _; omega)
def sumTo (f : Nat → Int) : Nat → Int
  | 0 => 0
  | k + 1 => sumTo f k + f k
/-- What the accounts f of a loan that owes G are; c: the cash. -/
structure BF (f : Nat → Int) (G : Ln.St) (c : Int) : Prop where
  f0 : f 0 = c
  f1 : f 1 = G.pr
  f2 : f 2 = G.it
  f3 : f 3 = G.du
  f4 : f 4 = G.la
  f5 : f 5 = G.fi
  f6 : f 6 = - G.cr
  f7 : f 7 ≤ 0
  f8 : f 8 ≤ 0
  sm : sumTo f 9 = 0
  bd : StBd G
theorem bal_facts {t : Ln.Terms} (ht : Ln.OkT t) {E : List Ln.Ev} (hE : ∀ e ∈ E, Ln.OkE t e) (hl : E.length ≤ 40) (m : Nat) (hm : m ≤ 3700) :
    BF (wacc (cleanB t.st (amOf t E) m)) (Ln.run t cdOf (wtOf t.ba) E m) (paidTo (t.st + m) E - ((if 0 < m then t.pr else 0) + lentTo (t.st + m) E)) := by
  have ha := fun i hi => acc_in ht hE hl m hm i hi
  obtain ⟨i0, i1, i2, i3, i4, i5, i6, i7, i8, il⟩ := accI ht hE hl m hm
  obtain ⟨hst, _, hf, _, _⟩ := run_bd ht hE hl m hm
  have hfi := hst.fi.1
  have a0 := (ha 0 (by omega)).trans i0
  have a1 := (ha 1 (by omega)).trans i1
  have a2 := (ha 2 (by omega)).trans i2
  have a3 := (ha 3 (by omega)).trans i3
  have a4 := (ha 4 (by omega)).trans i4
  have a5 := (ha 5 (by omega)).trans i5
  have a6 := (ha 6 (by omega)).trans i6
  have a7 := ha 7 (by omega)
  have a8 := (ha 8 (by omega)).trans i8
  refine ⟨a0, a1, a2, a3, a4, a5, a6, by rw [a7]; exact i7, by rw [a8]; omega, ?_, hst⟩
  simp only [sumTo]
  rw [a0, a1, a2, a3, a4, a5, a6, a7, a8]
  rw [i0, i1, i2, i3, i4, i5, i6, i8] at il
  have il2 : _ + acc ((7 : Nat) : Int) (cleanB t.st (amOf t E) m) + _ = (0 : Int) := il
  omega
theorem lentTo_take (n : Int) (O : List Ln.Ev) (k : Nat) (hk : k < O.length) : lentTo n (O.take (k + 1)) = lentTo n (O.take k) + (if O[k].d < n ∧ O[k].k = 1 then O[k].a else 0) := by
  rw [List.take_succ_eq_append_getElem hk]
  generalize O[k] = e
  generalize O.take k = l
  induction l with
  | nil => simp [lentTo]
  | cons x r ih => simp only [List.cons_append, lentTo, ih]; omega
theorem paidTo_take (n : Int) (O : List Ln.Ev) (k : Nat) (hk : k < O.length) : paidTo n (O.take (k + 1)) = paidTo n (O.take k) + (if O[k].d < n ∧ O[k].k = 5 then O[k].a else 0) := by
  rw [List.take_succ_eq_append_getElem hk]
  generalize O[k] = e
  generalize O.take k = l
  induction l with
  | nil => simp [paidTo]
  | cons x r ih => simp only [List.cons_append, paidTo, ih]; omega
end Go.Proofs.YtanndhoimpnhpaaDoor
