/- Joined by program: Bq, Bc, RnF, AdB, AdC0, AdC. -/
import Derived.Test.YtanndhoimpnhpaaGreatDoorM19
import Derived.Test.YtanndhoimpnhpaaGreatDoorM21
import Derived.Test.YtanndhoimpnhpaaGreatDoorM17
import Derived.Test.YtanndhoimpnhpaaGreatDoorM15
import Derived.Test.YtanndhoimpnhpaaGreatDoorM20
/- A book that was put right says what must be; a book that is right stays as it is. (Plain.) -/
namespace Go.Proofs.YtanndhoimpnhpaaGreatDoor
open Go.RowKit

theorem wrap_neg (s : Int) : wrap64 (s + wrap64 (-s)) = 0 := by
  unfold wrap64
  omega
theorem wrap_zero (a : Int) (h : I64 a) : wrap64 (0 + a) = a := by
  unfold I64 at h
  unfold wrap64
  omega
/-- What was put right for a day says what must be. -/
theorem sum_put (L : List En) (n : Int) (h am : Nat → Int) : ∀ (J j : Nat), 1 ≤ j → j ≤ J → (∀ i, 1 ≤ i → i ≤ J → h i = sumOf L n i) → I64 (am j) → sumOf (L ++ kindsW n h am J) n j = am j
  | 0, j, h1, h2, _, _ => by omega
  | J + 1, j, h1, h2, hh, ha => by
    have e : L ++ kindsW n h am (J + 1) = (L ++ kindsW n h am J) ++ kindW n (J + 1) (h (J + 1)) (am (J + 1)) := by
      simp only [kindsW, List.append_assoc]
    rw [e]
    by_cases hj : j ≤ J
    · rw [sumOf_append _ _ _ _ (fun x hx => by have := kindW_mem hx; omega)]
      exact sum_put L n h am J j h1 hj (fun i hi hi2 => hh i hi (by omega)) ha
    · obtain rfl : j = J + 1 := by omega
      have hs : sumOf (L ++ kindsW n h am J) n ((J + 1 : Nat) : Int) = h (J + 1) := by
        rw [sumOf_kinds L n h am J (J + 1) (by omega), hh (J + 1) (by omega) (Nat.le_refl _)]
      have hd : ∀ (M : List En) (x : Int), sumOf (M ++ [⟨n, ((J + 1 : Nat) : Int), x⟩]) n ((J + 1 : Nat) : Int) = wrap64 (sumOf M n ((J + 1 : Nat) : Int) + x) := fun M x => by
        rw [sumOf_snoc, if_pos ⟨rfl, rfl⟩]
      unfold kindW
      generalize h (J + 1) = is at *
      generalize am (J + 1) = a at *
      by_cases h3 : is = a
      · rw [if_pos h3, List.append_nil, hs, h3]
      · rw [if_neg h3]
        by_cases h4 : is = 0
        · rw [if_pos h4, List.nil_append]
          by_cases h5 : a = 0
          · omega
          · rw [if_neg h5, hd, hs, h4, wrap_zero a ha]
        · rw [if_neg h4]
          by_cases h5 : a = 0
          · rw [if_pos h5, List.append_nil, hd, hs, wrap_neg, h5]
          · rw [if_neg h5, ← List.append_assoc, hd, hd, hs, wrap_neg, wrap_zero a ha]
theorem kindsW_none (n : Int) (h am : Nat → Int) : ∀ J, (∀ j, 1 ≤ j → j ≤ J → h j = am j) → kindsW n h am J = []
  | 0, _ => rfl
  | J + 1, hh => by
    simp only [kindsW]
    rw [kindsW_none n h am J (fun j h1 h2 => hh j h1 (by omega)), List.nil_append]
    unfold kindW
    rw [if_pos (hh (J + 1) (by omega) (Nat.le_refl _))]
theorem kindsW_congr (n : Int) (h h' am : Nat → Int) : ∀ J, (∀ j, 1 ≤ j → j ≤ J → h j = h' j) → kindsW n h am J = kindsW n h' am J
  | 0, _ => rfl
  | J + 1, hh => by
    simp only [kindsW]
    rw [kindsW_congr n h h' am J (fun j h1 h2 => hh j h1 (by omega)), hh (J + 1) (by omega) (Nat.le_refl _)]
end Go.Proofs.YtanndhoimpnhpaaGreatDoor

/- The book of a loan whose events were all known: day by day; it comes to the same in however many steps. (Plain.) -/
namespace Go.Proofs.YtanndhoimpnhpaaGreatDoor
open Go.RowKit

/-- What the first k days write into an empty book. -/
def cleanB (st : Int) (am : Nat → Nat → Int) : Nat → List En
  | 0 => []
  | k + 1 => cleanB st am k ++ kindsW (st + k) (fun _ => 0) (am k) 12
theorem cleanB_mem {st : Int} {am : Nat → Nat → Int} {e : En} : ∀ {k : Nat}, e ∈ cleanB st am k → st ≤ e.d ∧ e.d < st + k ∧ 1 ≤ e.k ∧ e.k ≤ 12
  | 0, h => by simp [cleanB] at h
  | k + 1, h => by
    rcases List.mem_append.1 h with h | h
    · have := cleanB_mem h
      omega
    · have := kindsW_mem h
      omega
theorem sumOf_none (L : List En) (d k : Int) (h : ∀ e ∈ L, ¬ (d = e.d ∧ k = e.k)) : sumOf L d k = 0 := by
  have := sumOf_append [] L d k h
  rwa [List.nil_append] at this
theorem sum_clean (st : Int) (am : Nat → Nat → Int) (M : Nat) (ha : ∀ k j, k < M → 1 ≤ j → j ≤ 12 → I64 (am k j)) (j : Nat) (h1 : 1 ≤ j) (h12 : j ≤ 12) : ∀ p k : Nat, p ≤ M → k < p → sumOf (cleanB st am p) (st + k) j = am k j
  | 0, k, _, h => absurd h (Nat.not_lt_zero k)
  | p + 1, k, hM, h => by
    simp only [cleanB]
    by_cases hk : k < p
    · rw [sumOf_append _ _ _ _ (fun x hx => by have := kindsW_mem hx; omega)]
      exact sum_clean st am M ha j h1 h12 p k (by omega) hk
    · obtain rfl : k = p := by omega
      exact sum_put _ _ _ _ 12 j h1 h12 (fun i _ _ => (sumOf_none _ _ _ (fun x hx => by have := cleanB_mem hx; omega)).symm) (ha k j (by omega) h1 h12)
theorem bkP_clean (st : Int) (am : Nat → Nat → Int) (M : Nat) (ha : ∀ k j, k < M → 1 ≤ j → j ≤ 12 → I64 (am k j)) (p : Nat) (hp : p ≤ M) : ∀ m, bkP st am (cleanB st am p) m = cleanB st am (max p m)
  | 0 => by rw [Nat.max_eq_left (Nat.zero_le _)]; rfl
  | m + 1 => by
    simp only [bkP]
    rw [bkP_clean st am M ha p hp m]
    by_cases h : m < p
    · rw [Nat.max_eq_left (by omega), Nat.max_eq_left (by omega), kindsW_none _ _ _ 12 (fun j h1 h2 => sum_clean st am M ha j h1 h2 p m hp h), List.append_nil]
    · rw [Nat.max_eq_right (by omega), Nat.max_eq_right (by omega)]
      simp only [cleanB]
      rw [kindsW_congr _ _ (fun _ => 0) _ 12 (fun j _ _ => sumOf_none _ _ _ (fun x hx => by have := cleanB_mem hx; omega))]
/-- The sums of a book that was put right. -/
theorem bkP_mem {st : Int} {am : Nat → Nat → Int} {L : List En} {e : En} : ∀ {m : Nat}, e ∈ bkP st am L m → e ∈ L ∨ (st ≤ e.d ∧ e.d < st + m ∧ 1 ≤ e.k ∧ e.k ≤ 12)
  | 0, h => .inl h
  | m + 1, h => by
    rcases List.mem_append.1 h with h | h
    · rcases bkP_mem h with h | h
      · exact .inl h
      · exact .inr (by omega)
    · have := kindsW_mem h
      exact .inr (by omega)
theorem bkP_pre (st : Int) (am : Nat → Nat → Int) (L : List En) : ∀ m, ∃ M, bkP st am L m = L ++ M
  | 0 => ⟨[], (List.append_nil L).symm⟩
  | m + 1 => by
    obtain ⟨M, h⟩ := bkP_pre st am L m
    exact ⟨M ++ kindsW (st + m) (fun j => sumOf (bkP st am L m) (st + m) j) (am m) 12, by
      show bkP st am L m ++ _ = _
      rw [← List.append_assoc, ← h]⟩
theorem sum_bkP (st : Int) (am : Nat → Nat → Int) (M : Nat) (ha : ∀ k j, k < M → 1 ≤ j → j ≤ 12 → I64 (am k j)) (L : List En) (j : Nat) (h1 : 1 ≤ j) (h12 : j ≤ 12) : ∀ p k : Nat, p ≤ M → k < p → sumOf (bkP st am L p) (st + k) j = am k j
  | 0, k, _, h => absurd h (Nat.not_lt_zero k)
  | p + 1, k, hM, h => by
    simp only [bkP]
    by_cases hk : k < p
    · rw [sumOf_append _ _ _ _ (fun x hx => by have := kindsW_mem hx; omega)]
      exact sum_bkP st am M ha L j h1 h12 p k (by omega) hk
    · obtain rfl : k = p := by omega
      exact sum_put _ _ _ _ 12 j h1 h12 (fun i _ _ => rfl) (ha k j (by omega) h1 h12)
theorem cleanB_len (st : Int) (am : Nat → Nat → Int) : ∀ k, (cleanB st am k).length ≤ 24 * k
  | 0 => Nat.le_refl _
  | k + 1 => by
    have h1 := cleanB_len st am k
    have h2 := kindsW_len (st + k) (fun _ => 0) (am k) 12
    simp only [cleanB, List.length_append]
    omega
end Go.Proofs.YtanndhoimpnhpaaGreatDoor

/- The document's Run is that of the arithmetic; its book is the program's. -/
namespace Go.Proofs.YtanndhoimpnhpaaGreatDoor.Ln
open Go.Proofs.YtanndhoimpnhpaaGreatDoor Cal
/-- What interest comes to, in all. -/
theorem run_ea {t : Terms} (ht : OkT t) (l : List Ev) (hl : ∀ e ∈ l, OkE t e) (hn : l.length ≤ 40) : ∀ k : Nat, k ≤ 3700 → (run t cdOf (wtOf t.ba) l k).ea ≤ 656820000000000000000000 * (sw (wsOf t.ba t.st) k : Int)
  | 0, _ => by simp [run, start, sw]
  | k + 1, hk => by
    have ih := run_ea ht l hl hn k (by omega)
    have hI := run_inv ht cdOf (wtOf t.ba) (wsOf t.ba t.st) (wsOf_le _ _) (wsOf_eq _ _) l hl k
    have hs := sw_bd t.ba t.st ht.st0 ht.st1 k (by omega)
    have hlk := tot_bound ht l hl hn (k + 1)
    have ts := tot_succ t k l
    have I1 := Inv.events (t.st + k) l (hI.early (t.st + k) (cdOf (t.st + k)) ht) hl
    have hL : (if 0 < k then t.pr else 0) + tot t k l + (if t.st + (k : Int) = t.st then t.pr else 0) + lents (t.st + k) l ≤ 4100000000000 := by
      rw [if_pos (Nat.succ_pos k)] at hlk
      by_cases h0 : 0 < k
      · rw [if_pos h0, if_neg (by omega)]; omega
      · rw [if_neg h0, if_pos (by omega)]; omega
    have hb := I1.bound hs hL
    have g1 := I1.pr
    have g2 := I1.it
    have g3 := I1.du
    have g4 := I1.la
    have r0 := I1.rt0
    have r1 := I1.rt1
    have fe := events_ea (t.st + k) l (early t (t.st + k) (cdOf (t.st + k)) (run t cdOf (wtOf t.ba) l k))
    rw [early_ea] at fe
    have hw := wsOf_eq t.ba t.st k
    have hw3 := wsOf_le t.ba t.st k
    have e : (run t cdOf (wtOf t.ba) l (k + 1)).ea = (run t cdOf (wtOf t.ba) l k).ea + (l.foldl (event (t.st + k)) (early t (t.st + k) (cdOf (t.st + k)) (run t cdOf (wtOf t.ba) l k))).g.pr * ((l.foldl (event (t.st + k)) (early t (t.st + k) (cdOf (t.st + k)) (run t cdOf (wtOf t.ba) l k))).g.rt * wtOf t.ba (t.st + k)) := by
      rw [← fe]
      rfl
    rw [e, hw]
    generalize l.foldl (event (t.st + k)) (early t (t.st + k) (cdOf (t.st + k)) (run t cdOf (wtOf t.ba) l k)) = y at *
    have m1 : y.g.rt * (wsOf t.ba t.st k : Int) ≤ 1000000 * (wsOf t.ba t.st k : Int) := Int.mul_le_mul_of_nonneg_right r1 (by omega)
    have m0 : 0 ≤ y.g.rt * (wsOf t.ba t.st k : Int) := Int.mul_nonneg r0 (by omega)
    have m2 : y.g.pr * (y.g.rt * (wsOf t.ba t.st k : Int)) ≤ 656820000000000000 * (1000000 * (wsOf t.ba t.st k : Int)) := Int.mul_le_mul (by omega) m1 m0 (by decide)
    show _ ≤ 656820000000000000000000 * ((sw (wsOf t.ba t.st) k + wsOf t.ba t.st k : Nat) : Int)
    omega
theorem run_ea_bd {t : Terms} (ht : OkT t) (l : List Ev) (hl : ∀ e ∈ l, OkE t e) (hn : l.length ≤ 40) (k : Nat) (hk : k ≤ 3700) : (run t cdOf (wtOf t.ba) l k).ea / den t ≤ 8000000000000000000 := by
  have h := run_ea ht l hl hn k hk
  have hs := sw_bd t.ba t.st ht.st0 ht.st1 k hk
  have hd := den_bd t
  refine Int.le_trans (Int.ediv_le_ediv (b := 656820000000000000000000 * 4320) (by omega) (by omega)) ?_
  refine Int.ediv_le_of_le_mul (by omega) ?_
  omega
end Go.Proofs.YtanndhoimpnhpaaGreatDoor.Ln
namespace Go.Proofs.YtanndhoimpnhpaaGreatDoor
open Go.ChangeShapes Go.WideShapes Go.ChangeAt Go.RowKit Lg Cal

theorem doc_days {t : Ln.Terms} (ht : Ln.OkT t) (R : List Ln.Ev) (hl : ∀ e ∈ R, Ln.OkE t e) (hn : R.length ≤ 40) (m : Nat) (hm : m ≤ 3700) : DocDays t m R (yOf t R) (Ln.run t cdOf (wtOf t.ba) R) := by
  intro G E pa ecap k W S ev fv av cy cm cd hE hk hG hEv hok hnum h1 h2 hSG hSl
  obtain ⟨hs, hL, hfn⟩ := day_bd ht R hl hn k (by omega)
  have hea := Ln.run_ea_bd ht R hl hn (k + 1) (by omega)
  have s0 := ht.st0
  have s1 := ht.st1
  have hcd : cdOf (t.st + k) = cd := cdOf_is ⟨cy, cm, hok, hnum⟩
  have hy : yOf t R k = Ln.day t (t.st + k) cd (wsOf t.ba t.st k) R (Ln.run t cdOf (wtOf t.ba) R k) := by
    unfold yOf
    rw [hcd, wsOf_eq]
  have hea2 : (yOf t R k).g.ea / Ln.den t ≤ 8000000000000000000 := hea
  rw [hy] at hfn hea2 ⊢
  exact refday_any S W G pa ecap E t _ 0 ev fv av R (t.st + k) cy cm cd hG hn (fun hne => ⟨(hE hne).1, hEv hne, (hE hne).2⟩) hl (by omega) (by omega) hok hnum _ _ (Ln.run_inv ht cdOf (wtOf t.ba) (wsOf t.ba t.st) (wsOf_le _ _) (wsOf_eq _ _) R hl k) ht
    (wsOf t.ba t.st k) (wsOf_eq t.ba t.st k) (wsOf_le t.ba t.st k) hs hL hfn hea2 h1 h2 hSG hSl
theorem wrap_is (x : Int) : IntKind.i64.wrap x = wrap64 x := by
  first
    | rfl
    | (rw [IntKind.wrap_i64]; unfold wrap64; omega)
theorem hv_sum (st : Int) (L : List En) (h : ∀ e ∈ L, st ≤ e.d ∧ 1 ≤ e.k ∧ e.k ≤ 12) (m q : Nat) (hq : 1 ≤ q) (hq2 : q ≤ 12) : hv st L (13 * m + q) = sumOf L (st + m) q := by
  unfold hv sumOf
  have : ∀ (l : List En) (s : Int), (∀ e ∈ l, st ≤ e.d ∧ 1 ≤ e.k ∧ e.k ≤ 12) → l.foldl (fun s e => if 13 * (e.d - st) + e.k = ((13 * m + q : Nat) : Int) then IntKind.i64.wrap (s + e.a) else s) s = l.foldl (fun s e => if st + (m : Int) = e.d ∧ (q : Int) = e.k then wrap64 (s + e.a) else s) s := by
    intro l
    induction l with
    | nil => intro s _; rfl
    | cons e r ih =>
      intro s hl
      have he := hl e (by simp)
      simp only [List.foldl_cons]
      rw [ih _ (fun x hx => hl x (by simp [hx]))]
      congr 1
      by_cases hc : st + (m : Int) = e.d ∧ (q : Int) = e.k
      · rw [if_pos hc, if_pos (by omega), wrap_is]
      · rw [if_neg hc, if_neg (by omega)]
  exact this L 0 h
theorem sum_later (st : Int) (am : Nat → Nat → Int) (L : List En) (n j : Nat) : ∀ k : Nat, k ≤ n → sumOf (bkP st am L k) (st + n) j = sumOf L (st + n) j
  | 0, _ => rfl
  | k + 1, hk => by
    show sumOf (bkP st am L k ++ kindsW (st + k) _ (am k) 12) (st + n) j = _
    rw [sumOf_append _ _ _ _ (fun e he => by have := kindsW_mem he; omega)]
    exact sum_later st am L n j k (by omega)
theorem bookW_bkP (st : Int) (am : Nat → Nat → Int) (L : List En) (h : ∀ e ∈ L, st ≤ e.d ∧ 1 ≤ e.k ∧ e.k ≤ 12) : ∀ m, bookW st (hv st L) am L m = bkP st am L m
  | 0 => rfl
  | k + 1 => by
    show bookW st (hv st L) am L k ++ kindsW (st + k) (fun j => hv st L (13 * k + j)) (am k) 12 = bkP st am L k ++ kindsW (st + k) (fun j => sumOf (bkP st am L k) (st + k) j) (am k) 12
    rw [bookW_bkP st am L h k, kindsW_congr _ _ (fun j => sumOf (bkP st am L k) (st + k) j) _ 12 (fun j h1 h2 => by
      rw [hv_sum st L h k j h1 h2, sum_later st am L k j k (Nat.le_refl _)])]
/-- A loan of the document in memory: its events as they came. -/
structure DcX (w : World) (B : Nat) (t : Ln.Terms) (l : List Ln.Ev) (g : Ln.St) (day : Int) (L : List En) (evv bkv : Value) : Prop where
  ln : At w B (dl t evv g day bkv)
  ev : w.ownsRow (B + 1) 50 4 evv l.length (evs l)
  bk : w.ownsRow (B + 1) 114 3 bkv L.length (ens L)
  ap : ∀ b, evv.ownBlock = some b → ¬ bkv.ownBlock = some b
  ds : l.Pairwise (fun a b => ¬ a.s = b.s)
  ok : ∀ e ∈ l, Ln.OkE t e
  le : l.length ≤ 40
  ot : Ln.OkT t
  inl : ∀ e ∈ L, t.st ≤ e.d ∧ e.d < day ∧ 1 ≤ e.k ∧ e.k ≤ 12
  d0 : t.st ≤ day
  d1 : day ≤ t.st + 3700
/-- What Run does to it. -/
def DcRun (w : World) (B : Nat) (t : Ln.Terms) (l : List Ln.Ev) (L : List En) (m : Nat) (evv bk0 : Value) (e : Ending) (w' : World) : Prop :=
  e = .returned (.int .i64 0) ∧ ∃ R bkv, R.Perm l ∧ R.Pairwise So.Ah ∧ DcX w' B t l (Ln.run t cdOf (wtOf t.ba) R m) (t.st + m) (bkP t.st (fun k => (yOf t R k).am) L m) evv bkv ∧ OwnNew w bk0 bkv ∧ Keep (fun b => b = B ∨ bk0.ownBlock = some b) w w'
theorem refrun_any (w : World) (B : Nat) (t : Ln.Terms) (l : List Ln.Ev) (g0 : Ln.St) (day0 : Int) (L : List En) (evv bk0 : Value) (h : DcX w B t l g0 day0 L evv bk0) (hL : L.length ≤ 4000000000000) (m : Nat) (hd : day0 ≤ t.st + m) (hm : m ≤ 3700) :
    Calls Tryz.prog 60 #[.pointer (some ⟨B, 0, none⟩), .int .i64 (t.st + m)] w (DcRun w B t l L m evv bk0) := by
  obtain ⟨pa, ecap, rfl⟩ := own_slice h.ev
  obtain ⟨E0, hE0⟩ : ∃ E0, l ≠ [] → pa = some ⟨E0, 0, none⟩ ∧ At w E0 (evs l) := by
    by_cases hne : l = []
    · exact ⟨0, fun x => absurd hne x⟩
    · obtain ⟨x, r, hxr⟩ := List.exists_cons_of_ne_nil hne
      obtain ⟨ge, cape, he, _, _⟩ := h.ev.form (by rw [hxr]; simp)
      injection he with e1 _ _
      subst e1
      exact ⟨ge, fun _ => ⟨rfl, own_at h.ev⟩⟩
  have hin : ∀ e ∈ L, t.st ≤ e.d ∧ e.d < t.st + m ∧ 1 ≤ e.k ∧ e.k ≤ 12 := fun e he => by have := h.inl e he; omega
  refine (refrun_core w B E0 t pa ecap l g0 day0 bk0 L m (yOf t) (fun R => Ln.run t cdOf (wtOf t.ba) R) h.ln hE0 h.le h.ds h.bk hL h.ot.st0 h.ot.st1 hm hd hin (fun R => rfl) (fun R k => rfl) (fun R hp hs => doc_days h.ot R (fun e he => h.ok e (hp.mem_iff.1 he)) (by rw [hp.length_eq]; exact h.le) m hm)).mono ?_
  rintro e w' ⟨rfl, R, bkv, hp, hs, hA, ho, hon, hk⟩
  rw [bookW_bkP t.st (fun k => (yOf t R k).am) L (fun e he => by have := hin e he; omega) m] at ho
  refine ⟨rfl, R, bkv, hp, hs, ⟨hA, own_keep h.ev hk (fun b hb hx => ?_), ho, fun b hb hx => ?_, h.ds, h.ok, h.le, h.ot, fun e he => ?_, by omega, by omega⟩, hon, hk⟩
  · rcases hx with rfl | hx
    · have := (own_base h.ev hb).1
      omega
    · exact h.ap b hb hx
  · rcases hon with h1 | ⟨c, h1, h2⟩
    · exact h.ap b hb (h1.symm.trans hx)
    · have : c = b := by rw [h1] at hx; exact Option.some.inj hx
      have := (own_base h.ev hb).2
      omega
  · rcases bkP_mem he with x | x
    · exact hin e x
    · exact x
end Go.Proofs.YtanndhoimpnhpaaGreatDoor

/- Where the event with a number stands: the program's placeOfSeq. -/
namespace Go.Proofs.YtanndhoimpnhpaaGreatDoor
open Go.RowKit Cal

/-- Where the first event with number q stands; -1: there is none. -/
def posOf (q : Int) (l : List Ln.Ev) : Int := match l.findIdx? (fun e => e.s == q) with
  | some i => i
  | none => -1
theorem pos_none (q : Int) (l : List Ln.Ev) (h : ∀ j (hj : j < l.length), ¬ l[j].s = q) : posOf q l = -1 := by
  have : l.findIdx? (fun e => e.s == q) = none := by
    rw [List.findIdx?_eq_none_iff]
    intro x hx
    obtain ⟨j, hj, rfl⟩ := List.getElem_of_mem hx
    simpa using h j hj
  unfold posOf
  rw [this]
theorem pos_some (q : Int) (l : List Ln.Ev) (k : Nat) (hk : k < l.length) (h1 : l[k].s = q) (h : ∀ j (hj : j < l.length), j < k → ¬ l[j].s = q) : posOf q l = k := by
  have : l.findIdx? (fun e => e.s == q) = some k := by
    rw [List.findIdx?_eq_some_iff_getElem]
    exact ⟨hk, by simp [h1], fun j hj => by simpa using h j (by omega) hj⟩
  unfold posOf
  rw [this]
theorem EvAt.range {w : World} {E : Nat} {p : Option Addr} {l : List Ln.Ev} (h : EvAt w E p l) (k : Nat) (hk : k < l.length) : ∃ o, p = some ⟨E, o, none⟩ ∧ E < w.heap.size ∧ w.rangeAt E (o + k * 4) (evl l[k]) := by
  obtain ⟨o, h1, h2, c0, c1, c2, c3⟩ := h k hk
  refine ⟨o, h1, h2, fun j v hv => ?_⟩
  match j, hv with
  | 0, hv => cases hv; exact c0
  | 1, hv => cases hv; exact c1
  | 2, hv => cases hv; exact c2
  | 3, hv => cases hv; exact c3
theorem seqPred (W : World) (N : Nat) (q : Int) (hN : N < W.heap.size) (hc : W.cell? ⟨N, 0, none⟩ = some (.int .i64 q)) (x : Ln.Ev) :
    Calls Tryz.prog 84 #[evV x, .pointer (some ⟨N, 0, none⟩)] W fun e w' => e = .returned (.bool (x.s == q)) ∧ Below W.heap.size W w' := by
  have hne : N ≠ W.heap.size := by omega
  unfold evV evl
  go_enter Tryz.func84, Tryz.ntmps84
  go_wp2
  go_ret
  exact ⟨rfl, (Below.refl _ _).alloc (Nat.le_refl _) _⟩

set_option maxRecDepth 10000 in
set_option maxHeartbeats 4000000 in
theorem indexFunc_any (w : World) (E : Nat) (v : Value) (l : List Ln.Ev) (h : EvV w E v l) (hl : l.length ≤ 1000000) (N : Nat) (q : Int) (hN : N < w.heap.size) (hc : w.cell? ⟨N, 0, none⟩ = some (.int .i64 q)) :
    Calls Tryz.prog 83 #[v, .func (.func 84) #[] #[.pointer (some ⟨N, 0, none⟩)]] w fun e w' => e = .returned (.int .i64 (posOf q l)) ∧ Below w.heap.size w w' := by
  obtain ⟨p, cap, rfl, hcap, hat⟩ := h
  have HAt : Hid (EvAt w E p l) := hat
  have HC : Hid (w.cell? ⟨N, 0, none⟩ = some (.int .i64 q)) := hc
  clear hat hc
  go_enter Tryz.func83, Tryz.ntmps83
  go_wp2
  go_loopw [5, 8] (fun _ i wr => ∃ k : Nat, k ≤ l.length ∧ i = .int .i64 k ∧ Below w.heap.size w wr ∧ ∀ j (hj : j < l.length), j < k → ¬ l[j].s = q) (fun _ i _ => (l.length - intOf i).toNat)
  case atStart => exact ⟨0, Nat.zero_le _, rfl, Below.refl _ _, fun j _ h => absurd h (Nat.not_lt_zero j)⟩
  case round =>
    obtain ⟨k, hk, rfl, hbw, hlow⟩ := hrel
    have HB : Hid (Below w.heap.size w wr) := hbw
    have HL : Hid (∀ j (hj : j < l.length), j < k → ¬ l[j].s = q) := hlow
    clear hlow hbw
    by_cases hlt : k < l.length
    · obtain ⟨o, rfl, hEl, hr⟩ := HAt.out.range k hlt
      have hbk := HB.out.block E hEl
      have hr2 : wr.rangeAt E (o + k * 4) (evl l[k]) := fun j u hu => (World.cell?_of_block (w := w) (a := ⟨E, o + k * 4 + j, none⟩) hbk).trans (hr j u hu)
      have hcW : wr.cell? ⟨N, 0, none⟩ = some (.int .i64 q) := (HB.out.cell (p := ⟨N, 0, none⟩) hN).trans HC.out
      have hp := seqPred wr N q (Nat.lt_of_lt_of_le hN HB.out.size) hcW l[k]
      have HC1 : Hid (l[k].s = q → posOf q l = k) := fun he => pos_some q l k hlt he HL.out
      have HD : Hid (¬ l[k].s = q → ∀ j (hj : j < l.length), j < k + 1 → ¬ l[j].s = q) := fun he j hj hjk => by
        by_cases e : j = k
        · subst e; exact he
        · exact HL.out j hj (by omega)
      clear HL hr hcW
      unfold evV at hp
      generalize l[k] = x at *
      have hlt2 : (k : Int) < (l.length : Int) := by omega
      go_upto_region 4 with fail
      refine wp_region_lit ?_
      refine wpList_val (.func (.func 84) #[] #[.pointer (some ⟨N, 0, none⟩)]) wr rfl rfl ?_
      simp only [Act.put, List.setIfInBounds_toArray, List.set_cons_zero, List.set_cons_succ]
      refine wpList_val (.slice (some ⟨E, o, none⟩) l.length cap) wr rfl rfl ?_
      simp only [Act.put, List.setIfInBounds_toArray, List.set_cons_zero, List.set_cons_succ]
      refine wpList_val (.int .i64 k) wr rfl rfl ?_
      simp only [Act.put, List.setIfInBounds_toArray, List.set_cons_zero, List.set_cons_succ]
      refine wpList_val (.pointer (some ⟨E, o + k * 4, none⟩)) wr rfl (by go_simp) ?_
      simp only [Act.put, List.setIfInBounds_toArray, List.set_cons_zero, List.set_cons_succ]
      refine wpList_load_mid rfl 50 (.tmp 14) rfl _ _ rfl (evl x) _ hr2 Tryz.underlying50 rfl (by kernel_rfl) ?_
      simp only [Act.put, List.setIfInBounds_toArray, List.set_cons_zero, List.set_cons_succ]
      clear hr2 hbk
      cases hq : (x.s == q) with
      | true =>
        have hq2 : x.s = q := by simpa using hq
        rw [hq] at hp
        have HX : Hid (posOf q l = k) := HC1.out hq2
        clear HC1 HD hq hq2
        go_wp2_with fail
        refine hp.mono ?_
        rintro e w' ⟨rfl, hb'⟩
        go_wp2
        go_ret
        exact ⟨by rw [HX.out]; rfl, HB.out.trans (hb'.mono HB.out.size)⟩
      | false =>
        have hq2 : ¬ x.s = q := by simpa using hq
        rw [hq] at hp
        have HX := HD.out hq2
        have HX : Hid (∀ j (hj : j < l.length), j < k + 1 → ¬ l[j].s = q) := HX
        clear HC1 HD hq hq2
        go_wp2_with fail
        refine hp.mono ?_
        rintro e w' ⟨rfl, hb'⟩
        go_wp2
        exact ⟨⟨k + 1, hlt, rfl, HB.out.trans (hb'.mono HB.out.size), HX.out⟩, by simp [intOf]; omega⟩
    · obtain rfl : k = l.length := by omega
      have HX : Hid (posOf q l = -1) := pos_none q l (fun j hj => HL.out j hj hj)
      go_wp2
      go_ret
      exact ⟨by rw [HX.out]; rfl, HB.out⟩

set_option maxHeartbeats 1000000 in
theorem placeOfSeq_any (w : World) (E : Nat) (v : Value) (l : List Ln.Ev) (h : EvV w E v l) (hl : l.length ≤ 1000000) (q : Int) :
    Calls Tryz.prog 50 #[v, .int .i64 q] w fun e w' => e = .returned (.int .i64 (posOf q l)) ∧ Below w.heap.size w w' := by
  have b0 : Below w.heap.size w (w.alloc (.cells #[.int .i64 q] 3)) := (Below.refl _ _).alloc (Nat.le_refl _) _
  have hI := indexFunc_any (w.alloc (.cells #[.int .i64 q] 3)) E v l (h.keep (S := fun _ => False) (Keep.below b0) (fun _ x => x)) hl w.heap.size q (by simp) (by simp)
  obtain ⟨p, cap, rfl, _⟩ := h
  go_enter Tryz.func50, Tryz.ntmps50
  go_wp2_with fail
  refine hI.mono ?_
  rintro e w1 ⟨rfl, hb1⟩
  clear hI
  go_wp2
  go_ret
  exact ⟨rfl, b0.trans (hb1.mono b0.size)⟩
end Go.Proofs.YtanndhoimpnhpaaGreatDoor

/- How two events are compared; where an event belongs: the program's compareEvents, slices.BinarySearchFunc. -/
namespace Go.Proofs.YtanndhoimpnhpaaGreatDoor
open Go.RowKit Cal

def cmpI (x y : Int) : Int := if x < y then -1 else if y < x then 1 else 0
def orI (a b c : Int) : Int := if ¬ a = 0 then a else if ¬ b = 0 then b else c
/-- The order of events as a number. -/
def cmpE (a b : Ln.Ev) : Int := orI (cmpI a.d b.d) (cmpI a.k b.k) (cmpI a.s b.s)
theorem cmpE_lt (a b : Ln.Ev) : cmpE a b < 0 ↔ So.Ah a b := by
  rw [So.ah_iff]
  unfold cmpE orI cmpI
  by_cases h1 : a.d < b.d
  · simp [h1]
  · by_cases h2 : b.d < a.d
    · simp [h1, h2]
      omega
    · have h3 : a.d = b.d := by omega
      simp [h3]
      by_cases h4 : a.k < b.k
      · simp [h4]
      · by_cases h5 : b.k < a.k
        · simp [h4, h5]
          omega
        · have h6 : a.k = b.k := by omega
          simp [h6]
          by_cases h7 : a.s < b.s
          · simp [h7]
          · simp [h7]
            split <;> omega
theorem cmp_any (x y : Int) (w : World) :
    Calls Tryz.prog 86 #[.int .i64 x, .int .i64 y] w fun e w' => e = .returned (.int .i64 (cmpI x y)) ∧ w' = w := by
  unfold cmpI
  by_cases h1 : x < y
  · rw [if_pos h1]
    go_enter Tryz.func86, Tryz.ntmps86
    go_wp2
    go_ret
    exact ⟨rfl, rfl⟩
  · by_cases h2 : y < x
    · rw [if_neg h1, if_pos h2]
      go_enter Tryz.func86, Tryz.ntmps86
      go_wp2
      go_ret
      exact ⟨rfl, rfl⟩
    · rw [if_neg h1, if_neg h2]
      go_enter Tryz.func86, Tryz.ntmps86
      go_wp2
      go_ret
      exact ⟨rfl, rfl⟩
set_option maxHeartbeats 1000000 in
theorem or_any (a b c : Int) (N cap : Nat) (w : World) (h0 : w.cell? ⟨N, 0, none⟩ = some (.int .i64 a)) (h1 : w.cell? ⟨N, 1, none⟩ = some (.int .i64 b)) (h2 : w.cell? ⟨N, 2, none⟩ = some (.int .i64 c)) :
    Calls Tryz.prog 85 #[.slice (some ⟨N, 0, none⟩) 3 cap] w fun e w' => e = .returned (.int .i64 (orI a b c)) ∧ w' = w := by
  have HR : Hid (orI a b c = if ¬ a = 0 then a else if ¬ b = 0 then b else c) := rfl
  generalize orI a b c = r at *
  go_enter Tryz.func85, Tryz.ntmps85
  go_wp2
  go_loop [5, 8] (fun _ i => ∃ k : Nat, k ≤ 3 ∧ i = .int .i64 k ∧ (1 ≤ k → a = 0) ∧ (2 ≤ k → b = 0) ∧ (3 ≤ k → c = 0)) (fun _ i => (3 - intOf i).toNat)
  case atStart => exact ⟨0, Nat.zero_le _, rfl, fun h => by omega, fun h => by omega, fun h => by omega⟩
  case round =>
    obtain ⟨k, hk, rfl, ha, hb, hc⟩ := hrel
    rcases (show k = 0 ∨ k = 1 ∨ k = 2 ∨ k = 3 by omega) with rfl | rfl | rfl | rfl
    · clear ha hb hc
      by_cases z : a = 0
      · have hz : (a != 0) = false := by simp [z]
        go_wp2
        exact ⟨⟨1, by omega, rfl, fun _ => z, fun h => by omega, fun h => by omega⟩, by simp [intOf]⟩
      · have hz : (a != 0) = true := by simp [z]
        go_wp2
        go_ret
        exact ⟨by rw [HR.out, if_pos z]; rfl, rfl⟩
    · have za := ha (by omega)
      have ZA : Hid (a = 0) := za
      clear ha hb hc za
      by_cases z : b = 0
      · have hz : (b != 0) = false := by simp [z]
        go_wp2
        exact ⟨⟨2, by omega, rfl, fun _ => ZA.out, fun _ => z, fun h => by omega⟩, by simp [intOf]⟩
      · have hz : (b != 0) = true := by simp [z]
        go_wp2
        go_ret
        exact ⟨by rw [HR.out, if_neg (by simp [ZA.out]), if_pos z]; rfl, rfl⟩
    · have ZA : Hid (a = 0) := ha (by omega)
      have ZB : Hid (b = 0) := hb (by omega)
      clear ha hb hc
      by_cases z : c = 0
      · have hz : (c != 0) = false := by simp [z]
        go_wp2
        exact ⟨⟨3, by omega, rfl, fun _ => ZA.out, fun _ => ZB.out, fun _ => z⟩, by simp [intOf]⟩
      · have hz : (c != 0) = true := by simp [z]
        go_wp2
        go_ret
        exact ⟨by rw [HR.out, if_neg (by simp [ZA.out]), if_neg (by simp [ZB.out])]; rfl, rfl⟩
    · have ZA : Hid (a = 0) := ha (by omega)
      have ZB : Hid (b = 0) := hb (by omega)
      have ZC : Hid (c = 0) := hc (by omega)
      clear ha hb hc
      go_wp2
      go_ret
      exact ⟨by rw [HR.out, if_neg (by simp [ZA.out]), if_neg (by simp [ZB.out]), ZC.out]; rfl, rfl⟩

end Go.Proofs.YtanndhoimpnhpaaGreatDoor

/- How two events are compared: the program's compareEvents. -/
namespace Go.Proofs.YtanndhoimpnhpaaGreatDoor
open Go.RowKit Cal

def CeS (w : World) (a b : Ln.Ev) (wx : World) : Prop := At wx w.heap.size (evl a) ∧ At wx (w.heap.size + 1) (evl b) ∧ Below w.heap.size w wx
theorem CeS.below {w W W' : World} {a b : Ln.Ev} (h : CeS w a b W) (hb : Below W.heap.size W W') : CeS w a b W' :=
  ⟨At.keep (S := fun _ => False) (v := .int .i64 a.d) h.1 (Keep.below hb) (fun x => x), At.keep (S := fun _ => False) (v := .int .i64 b.d) h.2.1 (Keep.below hb) (fun x => x), h.2.2.trans (hb.mono h.2.2.size)⟩
theorem CeS.drew {w W : World} {a b : Ln.Ev} (h : CeS w a b W) : CeS w a b W.drew := ⟨h.1.drew, h.2.1.drew, h.2.2.drew⟩
theorem or_alloc (a b c : Int) (W : World) :
    Calls Tryz.prog 85 #[.slice (some ⟨W.heap.size, 0, none⟩) 3 3] (W.alloc (.cells #[.int .i64 a, .int .i64 b, .int .i64 c] 3)) fun e w' => e = .returned (.int .i64 (orI a b c)) ∧ w' = W.alloc (.cells #[.int .i64 a, .int .i64 b, .int .i64 c] 3) :=
  or_any a b c W.heap.size 3 _ (by simp) (by simp) (by simp)

set_option maxRecDepth 10000 in
set_option maxHeartbeats 8000000 in
theorem compareEvents_any (a b : Ln.Ev) (w : World) :
    Calls Tryz.prog 52 #[evV a, evV b] w fun x w' => x = .returned (.int .i64 (cmpE a b)) ∧ Below w.heap.size w w' := by
  have hD := fun W => cmp_any a.d b.d W
  have hK := fun W => cmp_any a.k b.k W
  have hS := fun W => cmp_any a.s b.s W
  have hO := fun W => or_alloc (cmpI a.d b.d) (cmpI a.k b.k) (cmpI a.s b.s) W
  have HE : Hid (orI (cmpI a.d b.d) (cmpI a.k b.k) (cmpI a.s b.s) = cmpE a b) := rfl
  have HS0 : Hid (CeS w a b ((w.alloc (.cells (evl a).toArray 50)).alloc (.cells (evl b).toArray 50))) := by
    have b1 : Below w.heap.size w (w.alloc (.cells (evl a).toArray 50)) := (Below.refl _ _).alloc (Nat.le_refl _) _
    have z1 : (w.alloc (.cells (evl a).toArray 50)).heap.size = w.heap.size + 1 := by simp
    refine ⟨At.over (v := .int .i64 a.d) (At.alloc w (evl a) _) _, ?_, b1.alloc (by omega) _⟩
    have := At.alloc (w.alloc (.cells (evl a).toArray 50)) (evl b) 50
    rw [z1] at this
    exact this
  generalize cmpI a.d b.d = x1 at *
  generalize cmpI a.k b.k = x2 at *
  generalize cmpI a.s b.s = x3 at *
  generalize cmpE a b = code at *
  generalize orI x1 x2 x3 = orr at *
  unfold evV
  go_enter Tryz.func52, Tryz.ntmps52
  go_upto_region 1 with fail
  change Code.wp _ _ _ _ ((w.alloc (.cells (evl a).toArray 50)).alloc (.cells (evl b).toArray 50))
  generalize (w.alloc (.cells (evl a).toArray 50)).alloc (.cells (evl b).toArray 50) = V at *
  try simp only [size_alloc]
  refine wp_region_held_drew (S := CeS w a b) (by kernel_rfl) HS0.out.drew (fun hHeld => ?_)
  clear HS0
  generalize V.drew = V1 at *
  refine wpAnyH_take (i := 0) (v := (.pointer (some ⟨w.heap.size, 0, none⟩))) rfl (by kernel_rfl) (by kernel_rfl) (by kernel_rfl) (fun _ _ _ h => h) (Or.inl ⟨by rfl, fun wx hSw => by ((try dsimp only at hSw); go_simp)⟩) (by assumption) ?_
  simp only [Act.put, List.getElem_toArray, List.getElem_cons_zero, List.setIfInBounds_toArray, List.set_cons_zero, List.set_cons_succ]
  refine wpAnyH_take (i := 1) (v := (.int .i64 a.d)) rfl (by kernel_rfl) (by kernel_rfl) (by kernel_rfl) (fun _ _ _ h => h) (Or.inl ⟨by rfl, fun wx hSw => by (have hc : wx.cell? ⟨w.heap.size, 0, none⟩ = some (.int .i64 a.d) := hSw.1.cell 0 rfl; go_simp)⟩) (by assumption) ?_
  simp only [Act.put, List.getElem_toArray, List.getElem_cons_succ, List.getElem_cons_zero, List.setIfInBounds_toArray, List.set_cons_zero, List.set_cons_succ]
  refine wpAnyH_take (i := 2) (v := (.pointer (some ⟨w.heap.size + 1, 0, none⟩))) rfl (by kernel_rfl) (by kernel_rfl) (by kernel_rfl) (fun _ _ _ h => h) (Or.inl ⟨by rfl, fun wx hSw => by ((try dsimp only at hSw); go_simp)⟩) (by assumption) ?_
  simp only [Act.put, List.getElem_toArray, List.getElem_cons_succ, List.getElem_cons_zero, List.setIfInBounds_toArray, List.set_cons_zero, List.set_cons_succ]
  refine wpAnyH_take (i := 3) (v := (.int .i64 b.d)) rfl (by kernel_rfl) (by kernel_rfl) (by kernel_rfl) (fun _ _ _ h => h) (Or.inl ⟨by rfl, fun wx hSw => by (have hc : wx.cell? ⟨w.heap.size + 1, 0, none⟩ = some (.int .i64 b.d) := hSw.2.1.cell 0 rfl; go_simp)⟩) (by assumption) ?_
  simp only [Act.put, List.getElem_toArray, List.getElem_cons_succ, List.getElem_cons_zero, List.setIfInBounds_toArray, List.set_cons_zero, List.set_cons_succ]
  refine wpAnyH_take (i := 5) (v := (.pointer (some ⟨w.heap.size, 1, none⟩))) rfl (by kernel_rfl) (by kernel_rfl) (by kernel_rfl) (fun _ _ _ h => h) (Or.inl ⟨by rfl, fun wx hSw => by ((try dsimp only at hSw); go_simp)⟩) (by assumption) ?_
  simp only [Act.put, List.getElem_toArray, List.getElem_cons_succ, List.getElem_cons_zero, List.setIfInBounds_toArray, List.set_cons_zero, List.set_cons_succ]
  refine wpAnyH_take (i := 6) (v := (.int .i64 a.k)) rfl (by kernel_rfl) (by kernel_rfl) (by kernel_rfl) (fun _ _ _ h => h) (Or.inl ⟨by rfl, fun wx hSw => by (have hc : wx.cell? ⟨w.heap.size, 1, none⟩ = some (.int .i64 a.k) := hSw.1.cell 1 rfl; go_simp)⟩) (by assumption) ?_
  simp only [Act.put, List.getElem_toArray, List.getElem_cons_succ, List.getElem_cons_zero, List.setIfInBounds_toArray, List.set_cons_zero, List.set_cons_succ]
  refine wpAnyH_take (i := 7) (v := (.pointer (some ⟨w.heap.size + 1, 1, none⟩))) rfl (by kernel_rfl) (by kernel_rfl) (by kernel_rfl) (fun _ _ _ h => h) (Or.inl ⟨by rfl, fun wx hSw => by ((try dsimp only at hSw); go_simp)⟩) (by assumption) ?_
  simp only [Act.put, List.getElem_toArray, List.getElem_cons_succ, List.getElem_cons_zero, List.setIfInBounds_toArray, List.set_cons_zero, List.set_cons_succ]
  refine wpAnyH_take (i := 8) (v := (.int .i64 b.k)) rfl (by kernel_rfl) (by kernel_rfl) (by kernel_rfl) (fun _ _ _ h => h) (Or.inl ⟨by rfl, fun wx hSw => by (have hc : wx.cell? ⟨w.heap.size + 1, 1, none⟩ = some (.int .i64 b.k) := hSw.2.1.cell 1 rfl; go_simp)⟩) (by assumption) ?_
  simp only [Act.put, List.getElem_toArray, List.getElem_cons_succ, List.getElem_cons_zero, List.setIfInBounds_toArray, List.set_cons_zero, List.set_cons_succ]
  refine wpAnyH_take (i := 10) (v := (.pointer (some ⟨w.heap.size, 2, none⟩))) rfl (by kernel_rfl) (by kernel_rfl) (by kernel_rfl) (fun _ _ _ h => h) (Or.inl ⟨by rfl, fun wx hSw => by ((try dsimp only at hSw); go_simp)⟩) (by assumption) ?_
  simp only [Act.put, List.getElem_toArray, List.getElem_cons_succ, List.getElem_cons_zero, List.setIfInBounds_toArray, List.set_cons_zero, List.set_cons_succ]
  refine wpAnyH_take (i := 11) (v := (.int .i64 a.s)) rfl (by kernel_rfl) (by kernel_rfl) (by kernel_rfl) (fun _ _ _ h => h) (Or.inl ⟨by rfl, fun wx hSw => by (have hc : wx.cell? ⟨w.heap.size, 2, none⟩ = some (.int .i64 a.s) := hSw.1.cell 2 rfl; go_simp)⟩) (by assumption) ?_
  simp only [Act.put, List.getElem_toArray, List.getElem_cons_succ, List.getElem_cons_zero, List.setIfInBounds_toArray, List.set_cons_zero, List.set_cons_succ]
  refine wpAnyH_take (i := 12) (v := (.pointer (some ⟨w.heap.size + 1, 2, none⟩))) rfl (by kernel_rfl) (by kernel_rfl) (by kernel_rfl) (fun _ _ _ h => h) (Or.inl ⟨by rfl, fun wx hSw => by ((try dsimp only at hSw); go_simp)⟩) (by assumption) ?_
  simp only [Act.put, List.getElem_toArray, List.getElem_cons_succ, List.getElem_cons_zero, List.setIfInBounds_toArray, List.set_cons_zero, List.set_cons_succ]
  refine wpAnyH_take (i := 13) (v := (.int .i64 b.s)) rfl (by kernel_rfl) (by kernel_rfl) (by kernel_rfl) (fun _ _ _ h => h) (Or.inl ⟨by rfl, fun wx hSw => by (have hc : wx.cell? ⟨w.heap.size + 1, 2, none⟩ = some (.int .i64 b.s) := hSw.2.1.cell 2 rfl; go_simp)⟩) (by assumption) ?_
  simp only [Act.put, List.getElem_toArray, List.getElem_cons_succ, List.getElem_cons_zero, List.setIfInBounds_toArray, List.set_cons_zero, List.set_cons_succ]
  refine wpAnyH_ready (rs := [4]) (by kernel_rfl) (by simp) ?_
  refine AllReadyH.cons rfl (fun K hK' => ?_) AllReadyH.nil
  go_simp
  refine (hD _).mono ?_
  rintro x w' ⟨rfl, hw'⟩
  obtain rfl := hw'.symm
  go_wp2_with fail
  refine hK'.out _ _ hHeld (fun hHeld => ?_)
  clear hK' K
  try simp only [Act.put, List.getElem_toArray, List.getElem_cons_succ, List.getElem_cons_zero, List.setIfInBounds_toArray, List.set_cons_zero, List.set_cons_succ]
  refine wpAnyH_ready (rs := [9]) (by kernel_rfl) (by simp) ?_
  refine AllReadyH.cons rfl (fun K hK' => ?_) AllReadyH.nil
  go_simp
  refine (hK _).mono ?_
  rintro x w' ⟨rfl, hw'⟩
  obtain rfl := hw'.symm
  go_wp2_with fail
  refine hK'.out _ _ hHeld (fun hHeld => ?_)
  clear hK' K
  try simp only [Act.put, List.getElem_toArray, List.getElem_cons_succ, List.getElem_cons_zero, List.setIfInBounds_toArray, List.set_cons_zero, List.set_cons_succ]
  refine wpAnyH_ready (rs := [14]) (by kernel_rfl) (by simp) ?_
  refine AllReadyH.cons rfl (fun K hK' => ?_) AllReadyH.nil
  go_simp
  refine (hS _).mono ?_
  rintro x w' ⟨rfl, hw'⟩
  obtain rfl := hw'.symm
  go_wp2_with fail
  refine hK'.out _ _ hHeld (fun hHeld => ?_)
  clear hK' K
  try simp only [Act.put, List.getElem_toArray, List.getElem_cons_succ, List.getElem_cons_zero, List.setIfInBounds_toArray, List.set_cons_zero, List.set_cons_succ]
  refine wpAnyH_ready (rs := [15]) (by kernel_rfl) (by simp) ?_
  refine AllReadyH.cons rfl (fun K hK' => ?_) AllReadyH.nil
  have hO1 := hO V1
  have b1 : Below V1.heap.size V1 (V1.alloc (.cells #[.int .i64 x1, .int .i64 x2, .int .i64 x3] 3)) := (Below.refl _ _).alloc (Nat.le_refl _) _
  rw [if_pos (by rfl)]
  refine wp_valD (.slice (some ⟨V1.heap.size, 0, none⟩) 3 3) (V1.alloc (.cells #[.int .i64 x1, .int .i64 x2, .int .i64 x3] 3)) (by kernel_rfl) ?_
  refine hK'.out _ _ (hHeld.below b1) (fun hHeld9 => ?_)
  clear hK' K b1
  try simp only [Act.put, List.getElem_toArray, List.getElem_cons_succ, List.getElem_cons_zero, List.setIfInBounds_toArray, List.set_cons_zero, List.set_cons_succ]
  generalize V1.alloc (.cells #[.int .i64 x1, .int .i64 x2, .int .i64 x3] 3) = V2 at *
  generalize V1.heap.size = N2 at *
  refine wpAnyH_ready (rs := [16]) (by kernel_rfl) (by simp) ?_
  refine AllReadyH.cons rfl (fun K hK' => ?_) AllReadyH.nil
  go_simp
  refine hO1.mono ?_
  rintro x w5 ⟨rfl, hw'⟩
  obtain rfl := hw'.symm
  clear hw'
  go_wp2_with fail
  refine hK'.out _ _ hHeld9 (fun hHeld10 => ?_)
  clear hK' K hO1
  have HB : Hid (Below w.heap.size w V2) := hHeld10.2.2
  try simp only [Act.put, List.getElem_toArray, List.getElem_cons_succ, List.getElem_cons_zero, List.setIfInBounds_toArray, List.set_cons_zero, List.set_cons_succ]
  refine wpAnyH_take (i := 17) (v := (.int .i64 orr)) rfl (by kernel_rfl) (by kernel_rfl) (by kernel_rfl) (fun _ _ _ h => h) (Or.inl ⟨by rfl, fun wx hSw => by ((try dsimp only at hSw); go_simp)⟩) (by assumption) ?_
  simp only [Act.put, List.getElem_toArray, List.getElem_cons_succ, List.getElem_cons_zero, List.setIfInBounds_toArray, List.set_cons_zero, List.set_cons_succ]
  refine wpAnyH_done (by kernel_rfl) ?_ _
  clear hHeld9 hHeld10 hO
  obtain rfl := HE.out
  go_wp2
  go_ret
  exact ⟨rfl, HB.out⟩
end Go.Proofs.YtanndhoimpnhpaaGreatDoor
