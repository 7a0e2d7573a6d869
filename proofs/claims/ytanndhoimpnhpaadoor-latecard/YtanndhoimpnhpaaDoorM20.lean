/- Joined by program: AdK, KpJ. -/
import Derived.Test.YtanndhoimpnhpaaDoorM19
import Derived.Test.YtanndhoimpnhpaaDoorM18
/- An event is taken back: the program's Cancel. -/
namespace Go.Proofs.YtanndhoimpnhpaaDoor
open Go.ChangeShapes Go.WideShapes Go.RowKit Go.WideMaps Go.Maps Cal

theorem pos_get (q : Int) (l : List Ln.Ev) (h : hasS q l = true) : ∃ (i : Nat) (hi : i < l.length), posOf q l = i ∧ l[i].s = q := by
  unfold posOf
  unfold hasS at h
  cases hf : l.findIdx? (fun e => e.s == q) with
  | none =>
    rw [List.findIdx?_eq_none_iff] at hf
    obtain ⟨x, hx, hq⟩ := List.any_eq_true.1 h
    rw [hf x hx] at hq
    cases hq
  | some i =>
    obtain ⟨hi, hq, _⟩ := List.findIdx?_eq_some_iff_getElem.1 hf
    exact ⟨i, hi, rfl, by simpa using hq⟩
/-- What Cancel does to a loan. -/
def CanPost (w : World) (B : Nat) (t : Ln.Terms) (E : List Ln.Ev) (g : Ln.St) (day : Int) (L : List En) (F : Nat → Prop) (q : Int) (x : Ending) (w' : World) : Prop :=
  Keep F w w' ∧ ((hasS q E = false ∧ x = .returned (.int .i64 9) ∧ Lo w' B t E g day L (Wd F w w')) ∨
    (x = .returned (.int .i64 0) ∧ ∃ (i : Nat) (hi : i < E.length), posOf q E = i ∧ E[i].s = q ∧ Lo w' B t (E.eraseIdx i) g day L (Wd F w w')))

set_option maxRecDepth 10000 in
set_option maxHeartbeats 1000000 in
theorem cancelL (w : World) (B : Nat) (t : Ln.Terms) (E : List Ln.Ev) (g : Ln.St) (day : Int) (L : List En) (F : Nat → Prop) (h : Lo w B t E g day L F) (q : Int) :
    Calls Tryd.prog 26 #[.pointer (some ⟨B, 0, none⟩), .int .i64 q] w (CanPost w B t E g day L F q) := by
  obtain ⟨P, Mb, evv, bkv, h1, h2⟩ := h
  obtain ⟨Eb, hev, _⟩ := evs_evv h1.ev
  have hEl := h1.le
  have hPl := placeOfSeq_any w Eb evv E hev (by omega) q
  have c6 : w.cell? ⟨B, 6, none⟩ = some evv := h1.ln.cell 6 rfl
  clear hev
  cases hs : hasS q E with
  | false =>
    have hpos : posOf q E < 0 := by
      have := (pos_has q E).1
      rw [hs] at this
      simp at this
      exact this
    have HP : Hid (∀ w', Below w.heap.size w w' → CanPost w B t E g day L F q (.returned (.int .i64 9)) w') := fun w' hb => ⟨Keep.below hb, .inl ⟨hs, rfl, P, Mb, evv, bkv, h1.keep (S := fun _ => False) (Keep.below hb) (fun _ _ x => x), fun b hb => .inl (h2 b hb)⟩⟩
    obtain ⟨ep, ecap, rfl⟩ := own_slice h1.ev
    clear h1 h2 hs
    generalize posOf q E = pos at *
    go_enter Tryd.func26, Tryd.ntmps26
    go_wp2_with fail
    refine hPl.mono ?_
    rintro e w2 ⟨rfl, hb2⟩
    clear hPl c6
    have HP2 := HP.out w2 hb2
    clear HP hb2
    go_wp2
    go_ret
    exact HP2
  | true =>
    obtain ⟨i, hi, hpi, hsi⟩ := pos_get q E hs
    rw [hpi] at hPl
    have hBl : B < w.heap.size := At.lt (v := .int .i64 t.st) h1.ln
    obtain ⟨hl, hn | ⟨ge, cap, cur, rfl, hg1, hg2, hg3, hg4, hg5, hg6⟩⟩ := id h1.ev
    · exact absurd hn.2 (by omega)
    have hneB : ¬ ge = B := (h1.ne ge rfl).1
    have hgl : ge < w.heap.size := (own_base h1.ev (b := ge) rfl).2
    have hle : (E.eraseIdx i).length = E.length - 1 := List.length_eraseIdx_of_lt hi
    have HDel : Hid (∀ W, Below w.heap.size w W → Calls Tryd.prog 52 #[.slice (some ⟨ge, 0, none⟩) E.length cap, .int .i64 i, .int .i64 ((i : Int) + 1)] W fun e w' => e = .returned (.slice (some ⟨ge, 0, none⟩) (E.length - 1) cap) ∧ w'.ownsRow 0 53 4 (.slice (some ⟨ge, 0, none⟩) (E.length - 1) cap) (E.length - 1) (evs (E.eraseIdx i)) ∧ Keep (fun b => b = ge) W w') := fun W hW =>
      delete_any W ge cap cur E i ((hW.block ge hgl).trans hg2) hg5 hg6 hg3 hg4 hi (by omega)
    have HLn : Hid (∀ W, Keep (fun b => b = ge) w W → At W B (ll t (.slice (some ⟨ge, 0, none⟩) E.length cap) g day (.pointer (some ⟨P, 0, none⟩)))) := fun W hW => At.keep (v := .int .i64 t.st) h1.ln hW (fun x => hneB x.symm)
    have HP : Hid (∀ W W', Keep (fun b => b = ge) w W → W.ownsRow 0 53 4 (.slice (some ⟨ge, 0, none⟩) (E.length - 1) cap) (E.length - 1) (evs (E.eraseIdx i)) → W' = W.setCell ⟨B, 6, none⟩ (.slice (some ⟨ge, 0, none⟩) (E.length - 1) cap) → CanPost w B t E g day L F q (.returned (.int .i64 0)) W') := by
      rintro W W' hk ho rfl
      have kS : Keep (fun b => b = B) W (W.setCell ⟨B, 6, none⟩ (.slice (some ⟨ge, 0, none⟩) (E.length - 1) cap)) := (Keep.refl _ _).set (S := fun b => b = B) rfl 6 _
      have hkk : Keep (fun b => b = ge ∨ b = B) w (W.setCell ⟨B, 6, none⟩ (.slice (some ⟨ge, 0, none⟩) (E.length - 1) cap)) := (hk.mono (fun _ _ h => .inl h)).trans (kS.mono (fun _ _ h => .inr h))
      refine ⟨hkk.mono (fun b _ hb => hb.elim (fun e => h2 b (.inr (.inr (by rw [e]; rfl)))) (fun e => h2 b (.inl e))), .inr ⟨rfl, i, hi, hpi, hsi, P, Mb, .slice (some ⟨ge, 0, none⟩) (E.length - 1) cap, bkv, ⟨(HLn.out W hk).set 6 (show 6 < 16 by decide) _, h1.bk.keep hkk (fun b hb hx => ?_), ?_, h1.nb, h1.ne, h1.so.sublist (List.eraseIdx_sublist E i), fun e he => h1.ok e ((List.eraseIdx_sublist E i).subset he), by omega, h1.ot⟩, ?_⟩⟩
      · rcases hx with rfl | rfl
        · exact (h1.ne b rfl).2 hb
        · exact h1.nb hb
      · rw [hle]
        exact own_keep ho kS (fun b hb => by cases hb; exact hneB)
      · rintro b (hb | hb | hb)
        · exact .inl (h2 _ (.inl hb))
        · exact .inl (h2 _ (.inr (.inl hb)))
        · exact .inl (h2 _ (.inr (.inr hb)))
    clear h1 h2 hs hl hg1 hg2 hg3 hg4 hg5 hg6 hpi hsi hle
    have yw : IntKind.i64.wrap ((i : Int) + 1) = (i : Int) + 1 := by rw [IntKind.wrap_i64]; omega
    go_enter Tryd.func26, Tryd.ntmps26
    go_wp2_with fail
    refine hPl.mono ?_
    rintro e w2 ⟨rfl, hb2⟩
    clear hPl c6
    have hD := HDel.out w2 hb2
    have c62 : w2.cell? ⟨B, 6, none⟩ = some (.slice (some ⟨ge, 0, none⟩) E.length cap) := (HLn.out w2 (Keep.below hb2)).cell 6 rfl
    have zi : ¬ (i : Int) < 0 := by omega
    clear HDel
    go_wp2_with fail
    refine hD.mono ?_
    rintro e w3 ⟨rfl, ho3, hk3⟩
    clear hD c62
    have hkw : Keep (fun b => b = ge) w w3 := (Keep.below hb2).trans hk3
    have y6 : w3.cell? ⟨B, 6, none⟩ = some (.slice (some ⟨ge, 0, none⟩) E.length cap) := (HLn.out w3 hkw).cell 6 rfl
    have y7 : w3.frozen? ⟨B, 6, none⟩ = false := (HLn.out w3 hkw).free 6 rfl
    have HP3 : Hid (∀ W', W' = w3.setCell ⟨B, 6, none⟩ (.slice (some ⟨ge, 0, none⟩) (E.length - 1) cap) → CanPost w B t E g day L F q (.returned (.int .i64 0)) W') := fun W' hW' => HP.out w3 W' hkw ho3 hW'
    clear HP HLn hkw ho3 hk3 hb2
    go_wp2
    go_ret
    exact HP3.out _ rfl
end Go.Proofs.YtanndhoimpnhpaaDoor

/- A loan that hears of its events late: what the loop of Late keeps. -/
namespace Go.Proofs.YtanndhoimpnhpaaDoor
open Go.ChangeShapes Go.WideShapes Go.RowKit Go.WideMaps Go.Maps Cal

theorem EnV.pre {w : World} {p : Option Addr} {cap : Nat} {L M : List En} (h : EnV w (.slice p (L ++ M).length cap) (L ++ M)) : EnV w (.slice p L.length cap) L := by
  obtain ⟨p', cap', hv, h2, h3⟩ := h
  injection hv with e1 _ e3
  subst e1 e3
  have hl : (L ++ M).length = L.length + M.length := List.length_append
  refine ⟨p, cap, rfl, by omega, fun k hk => ?_⟩
  obtain ⟨b, o, h4, h5, h6⟩ := h3 k (by omega)
  rw [List.getElem_append_left hk] at h6
  exact ⟨b, o, h4, h5, h6⟩
theorem bslice_to (p : Option Addr) (n cap : Nat) (j : Nat) (hc : j ≤ cap) (W : World) :
    (Instr.sliceAt 55 (.slice p n cap) none (some (.int .i64 (j : Int))) none).run Tryd.prog W = .ok (.slice p j cap) W := by
  have hp : (if cap = 0 then p else Option.map (fun x => x.add 0) p) = p := by
    split
    · rfl
    · cases p <;> simp [Addr.add]
  simp [Instr.sliceAt, run_underlying Tryd.underlying55, Instr.slice, Instr.sliceBounds, Instr.sliceBound, asIntOf, Result.andThen, hc, hp]

/-- The loan B, told of the events E, run to day d, with book L, beside the list K of those that stay. -/
structure LtS (w : World) (NT B : Nat) (t : Ln.Terms) (p n : Nat) (E : List Ln.Ev) (g : Ln.St) (d : Int) (L : List En) (F : Nat → Prop) (vK : Value) (K : List Ln.Ev) (wx : World) : Prop where
  one : One w NT B t E g d L F wx
  bl : Below w.heap.size w wx
  ow : wx.ownsRow w.heap.size 53 4 vK K.length (evs K)
  ap : ∀ b, vK.ownBlock = some b → ¬ F b
  dp : d ≤ t.st + p
  inl : ∀ e ∈ L, t.st ≤ e.d ∧ e.d < t.st + p ∧ 1 ≤ e.k ∧ e.k ≤ 12
  len : L.length ≤ 21600 * n
theorem LtS.step {w wx wy : World} {NT B : Nat} {t : Ln.Terms} {p n p' n' : Nat} {E E' : List Ln.Ev} {g g' : Ln.St} {d d' : Int} {L L' : List En} {F : Nat → Prop} {vK : Value} {K : List Ln.Ev} (h : LtS w NT B t p n E g d L F vK K wx) (hNT : NT < w.heap.size) (hk : Keep F wx wy) (hlo : Lo wy B t E' g' d' L' (Wd F wx wy)) (hd : d' ≤ t.st + p') (hin : ∀ e ∈ L', t.st ≤ e.d ∧ e.d < t.st + p' ∧ 1 ≤ e.k ∧ e.k ≤ 12) (hlen : L'.length ≤ 21600 * n') : LtS w NT B t p' n' E' g' d' L' (Wd F wx wy) vK K wy := by
  have hs := h.bl.size
  refine ⟨⟨hlo, ?_, ?_, ?_⟩, Keep.fresh h.bl hk h.one.ge, own_keep h.ow hk (fun b hb => h.ap b hb), ?_, hd, hin, hlen⟩
  · rintro (x | x)
    · exact h.one.nt x
    · omega
  · rintro b (x | x)
    · exact h.one.ge b x
    · omega
  · rintro b (x | x)
    · exact Nat.lt_of_lt_of_le (h.one.lt b x) hk.size
    · exact x.2
  · rintro b hb (x | x)
    · exact h.ap b hb x
    · have := (own_base h.ow hb).2; omega
theorem LtS.below {w wx wy : World} {NT B : Nat} {t : Ln.Terms} {p n : Nat} {E : List Ln.Ev} {g : Ln.St} {d : Int} {L : List En} {F : Nat → Prop} {vK : Value} {K : List Ln.Ev} (h : LtS w NT B t p n E g d L F vK K wx) (hb : Below wx.heap.size wx wy) : LtS w NT B t p n E g d L F vK K wy :=
  ⟨h.one.below hb, h.bl.trans (hb.mono h.bl.size), own_keep h.ow (S := fun _ => False) (Keep.below hb) (fun _ _ x => x), h.ap, h.dp, h.inl, h.len⟩
theorem LtS.drew {w wx : World} {NT B : Nat} {t : Ln.Terms} {p n : Nat} {E : List Ln.Ev} {g : Ln.St} {d : Int} {L : List En} {F : Nat → Prop} {vK : Value} {K : List Ln.Ev} (h : LtS w NT B t p n E g d L F vK K wx) : LtS w NT B t p n E g d L F vK K wx.drew := h.below (Below.refl _ _).drew
theorem LtS.more {w wx : World} {NT B : Nat} {t : Ln.Terms} {p n : Nat} {E : List Ln.Ev} {g : Ln.St} {d : Int} {L : List En} {F : Nat → Prop} {vK : Value} {K : List Ln.Ev} (h : LtS w NT B t p n E g d L F vK K wx) : LtS w NT B t p (n + 1) E g d L F vK K wx :=
  ⟨h.one, h.bl, h.ow, h.ap, h.dp, h.inl, by have := h.len; omega⟩
/-- The next event is told. -/
def LtAdd (w : World) (NT B : Nat) (t : Ln.Terms) (p n : Nat) (E : List Ln.Ev) (g : Ln.St) (d : Int) (L : List En) (vK : Value) (K : List Ln.Ev) (e : Ln.Ev) (x : Ending) (wy : World) : Prop :=
  x = .returned (.int .i64 0) ∧ ∃ E' F', E'.Perm (e :: E) ∧ LtS w NT B t p n E' g d L F' vK K wy
theorem LtS.add {w wx : World} {NT B : Nat} {t : Ln.Terms} {p n : Nat} {E : List Ln.Ev} {g : Ln.St} {d : Int} {L : List En} {F : Nat → Prop} {vK : Value} {K : List Ln.Ev} (h : LtS w NT B t p n E g d L F vK K wx) (hNT : NT < w.heap.size) (hlim : Lim w) (e : Ln.Ev) (hc : addC t E e = 0) :
    Calls Tryd.prog 25 #[.pointer (some ⟨B, 0, none⟩), evV e] wx (LtAdd w NT B t p n E g d L vK K e) := by
  refine (addL wx B t E g d L F h.one.lo e (hlim.below h.bl)).mono ?_
  rintro x wy ⟨rfl, hk, ⟨hn, _⟩ | ⟨_, E', hE', hLo'⟩⟩
  · exact absurd hc hn
  · rw [hc]
    exact ⟨rfl, E', _, hE', h.step hNT hk hLo' h.dp h.inl h.len⟩
/-- The event is taken back. -/
def LtCan (w : World) (NT B : Nat) (t : Ln.Terms) (p n : Nat) (E0 : List Ln.Ev) (g : Ln.St) (d : Int) (L : List En) (vK : Value) (K : List Ln.Ev) (x : Ending) (wy : World) : Prop :=
  x = .returned (.int .i64 0) ∧ ∃ E' F', E'.Perm E0 ∧ LtS w NT B t p n E' g d L F' vK K wy
theorem erase_perm {E E0 : List Ln.Ev} {e : Ln.Ev} (hp : E.Perm (e :: E0)) (hd : ∀ x ∈ E0, ¬ x.s = e.s) (i : Nat) (hi : i < E.length) (hs : E[i].s = e.s) : (E.eraseIdx i).Perm E0 := by
  have hm : E[i] ∈ e :: E0 := hp.mem_iff.1 (List.getElem_mem hi)
  have he : E[i] = e := by
    rcases List.mem_cons.1 hm with h | h
    · exact h
    · exact absurd hs (hd _ h)
  have h1 : (e :: E.eraseIdx i).Perm E := by
    have e1 : E = E.take i ++ e :: E.drop (i + 1) := by rw [← he, ← List.drop_eq_getElem_cons hi, List.take_append_drop]
    rw [List.eraseIdx_eq_take_drop_succ]
    have e2 : (E.take i ++ e :: E.drop (i + 1)).Perm (e :: (E.take i ++ E.drop (i + 1))) := List.perm_middle
    rw [← e1] at e2
    exact e2.symm
  exact (h1.trans hp).cons_inv
theorem LtS.cancel {w wx : World} {NT B : Nat} {t : Ln.Terms} {p n : Nat} {E E0 : List Ln.Ev} {g : Ln.St} {d : Int} {L : List En} {F : Nat → Prop} {vK : Value} {K : List Ln.Ev} (h : LtS w NT B t p n E g d L F vK K wx) (hNT : NT < w.heap.size) (e : Ln.Ev) (hp : E.Perm (e :: E0)) (hd : ∀ x ∈ E0, ¬ x.s = e.s) :
    Calls Tryd.prog 26 #[.pointer (some ⟨B, 0, none⟩), .int .i64 e.s] wx (LtCan w NT B t p n E0 g d L vK K) := by
  refine (cancelL wx B t E g d L F h.one.lo e.s).mono ?_
  rintro x wy ⟨hk, ⟨hn, _, _⟩ | ⟨rfl, i, hi, _, hs, hLo⟩⟩
  · have : hasS e.s E = true := List.any_eq_true.2 ⟨e, hp.mem_iff.2 (by simp), by simp⟩
    rw [hn] at this
    cases this
  · exact ⟨rfl, _, _, erase_perm hp hd i hi hs, h.step hNT hk hLo h.dp h.inl h.len⟩
/-- The loan is run to a later day. -/
theorem LtS.run {w wx : World} {NT B : Nat} {t : Ln.Terms} {p n : Nat} {E : List Ln.Ev} {g : Ln.St} {d : Int} {L : List En} {F : Nat → Prop} {vK : Value} {K : List Ln.Ev} (h : LtS w NT B t p n E g d L F vK K wx) (hNT : NT < w.heap.size) (hmv : Mv w) (hn : n ≤ 100) (m : Nat) (hpm : p ≤ m) (hm : m ≤ 900) :
    Calls Tryd.prog 18 #[.pointer (some ⟨B, 0, none⟩), .int .i64 (t.st + m)] wx fun e wy => e = .returned (.int .i64 0) ∧ LtS w NT B t m (n + 1) E (Ln.run t cdOf (wtOf t.ba) E m) (t.st + m) (bkP t.st (amOf t E) L m) (Wd F wx wy) vK K wy ∧ Keep F wx wy := by
  have hs := h.bl.size
  have hl := h.len
  refine (h.one.run h.bl hmv (by omega) m (by have := h.dp; omega) (by omega) (by omega)).mono ?_
  rintro e wy ⟨rfl, h1, h2⟩
  refine ⟨rfl, h.step hNT h2 h1.lo (Int.le_refl _) (fun e he => ?_) ?_, h2⟩
  · rcases bkP_mem he with x | x
    · have := h.inl e x; omega
    · exact x
  · have := bkP_len t.st (amOf t E) L m
    show (bkP t.st (amOf t E) L m).length ≤ _
    omega
/-- The sums of the two books. -/
theorem late_same {t : Ln.Terms} {E : List Ln.Ev} (hE : ∀ e ∈ E, Ln.OkE t e) (hl : E.length ≤ 40) (ht : Ln.OkT t) (p : Nat) (hp : p ≤ 900) (L : List En) (hin : ∀ e ∈ L, t.st ≤ e.d ∧ e.d < t.st + p ∧ 1 ≤ e.k ∧ e.k ≤ 12) (j : Nat) :
    InL t.st (bkP t.st (amOf t E) L p) ∧ InL t.st (cleanB t.st (amOf t E) p) ∧ smF t.st (bkP t.st (amOf t E) L p) j = smF t.st (cleanB t.st (amOf t E) p) j := by
  have i1 : ∀ e ∈ bkP t.st (amOf t E) L p, t.st ≤ e.d ∧ e.d < t.st + p ∧ 1 ≤ e.k ∧ e.k ≤ 12 := fun e he => by
    rcases bkP_mem he with x | x
    · exact hin e x
    · exact x
  have i2 : ∀ e ∈ cleanB t.st (amOf t E) p, t.st ≤ e.d ∧ e.d < t.st + p ∧ 1 ≤ e.k ∧ e.k ≤ 12 := fun e he => cleanB_mem he
  have j1 : InL t.st (bkP t.st (amOf t E) L p) := fun e he => by have := i1 e he; omega
  have j2 : InL t.st (cleanB t.st (amOf t E) p) := fun e he => by have := i2 e he; omega
  have hb := amOf_bd hE hl ht
  refine ⟨j1, j2, smF_same t.st _ _ j1 j2 (fun m q h1 h2 => ?_) j⟩
  by_cases hm : m < p
  · rw [sum_bkP t.st (amOf t E) 3700 hb L q h1 h2 p m (by omega) hm, sum_clean t.st (amOf t E) 3700 hb q h1 h2 p m (by omega) hm]
  · rw [sumOf_none _ _ _ (fun e he => by have := i1 e he; omega), sumOf_none _ _ _ (fun e he => by have := i2 e he; omega)]
/-- What Add answers here: none of those told bears the event's number. -/
theorem late_add {t : Ln.Terms} {E K O : List Ln.Ev} (k : Nat) (hk : k < O.length) (hp : E.Perm K) (hs : K.Sublist (O.take k)) (hO : O.length ≤ 40) (hg : evF t O[k] = 0) (hd : O.Pairwise (fun a b => ¬ a.s = b.s)) : addC t E O[k] = 0 ∧ ∀ x ∈ E, ¬ x.s = O[k].s := by
  have hx : ∀ x ∈ E, ¬ x.s = O[k].s := fun x hx => by
    have h1 : x ∈ O.take k := hs.subset (hp.mem_iff.1 hx)
    obtain ⟨i, hi, rfl⟩ := List.getElem_of_mem h1
    rw [List.length_take] at hi
    rw [List.getElem_take]
    exact List.pairwise_iff_getElem.1 hd i k (by omega) hk (by omega)
  have hlen : E.length ≤ k := by
    rw [hp.length_eq]
    have := hs.length_le
    rw [List.length_take] at this
    omega
  refine ⟨?_, hx⟩
  rw [addC_eq, if_neg (by simp [hg]), if_neg (by omega), if_neg]
  intro h
  obtain ⟨x, h1, h2⟩ := List.any_eq_true.1 h
  exact hx x h1 (by simpa using h2)
end Go.Proofs.YtanndhoimpnhpaaDoor
