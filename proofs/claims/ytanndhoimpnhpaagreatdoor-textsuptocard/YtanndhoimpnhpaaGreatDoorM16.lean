/- Joined by program: TyF, TyG, TyH. -/
import Derived.Test.YtanndhoimpnhpaaGreatDoorM15
import Derived.Test.YtanndhoimpnhpaaGreatDoorM8
namespace Go.Proofs.YtanndhoimpnhpaaGreatDoor
def joinL : List (List UInt8) → List UInt8
  | [] => []
  | l :: r => l ++ 10 :: joinL r
theorem cutL_join : ∀ s : List UInt8, joinL (cutL s).1 ++ (cutL s).2 = s
  | [] => rfl
  | c :: r => by
    have ih := cutL_join r
    rw [cutL]
    by_cases hc : c = 10
    · rw [if_pos hc]
      subst hc
      simp only [joinL, List.nil_append, List.cons_append, ih]
    · rw [if_neg hc]
      cases h : (cutL r).1 with
      | nil =>
        rw [h] at ih
        simp only [joinL, List.nil_append] at ih ⊢
        rw [ih]
      | cons x y =>
        rw [h] at ih
        simp only [joinL, List.append_assoc, List.cons_append] at ih ⊢
        rw [ih]
def txtP (sv : Sv) : Nat → List UInt8
  | 0 => lineB wLoan (tmN sv.t)
  | 1 => lineB wLoan (tmN sv.t) ++ evT sv.l
  | 2 => lineB wLoan (tmN sv.t) ++ evT sv.l ++ lineB wAt [sv.day]
  | 3 => lineB wLoan (tmN sv.t) ++ evT sv.l ++ lineB wAt [sv.day] ++ lineB wNow (nwN sv.g)
  | 4 => lineB wLoan (tmN sv.t) ++ evT sv.l ++ lineB wAt [sv.day] ++ lineB wNow (nwN sv.g) ++ enT sv.L
  | _ => txtB sv.t sv.l sv.g sv.day sv.L
structure Pfx (j : Nat) (sv : Sv) (p : List UInt8) : Prop where
  tx : p = txtP sv j
  rg : Rg sv.t sv.l sv.g sv.day sv.L
  l0 : j < 1 → sv.l = []
  L0 : j < 4 → sv.L = []
def Pfs (j : Int) (σ : Option Sv) (p : List UInt8) : Prop := (j = -1 ∧ p = []) ∨ ∃ (k : Nat) (sv : Sv), j = k ∧ σ = some sv ∧ Pfx k sv p
theorem lineB_eq (word : List UInt8) (ns : List Int) : lineB word ns = (word ++ lnum ns) ++ [10] := rfl
theorem pfs_step {j : Int} {σ : Option Sv} {p line : List UInt8} {k : Nat} {ns : List Int} {s' : Sv} (h : Pfs j σ p) (hl : Lnk k ns line) (hn : nextOk j k = true) (hs : stepK σ k ns = some s') : Pfs k (some s') (p ++ (line ++ [10])) := by
  obtain ⟨hr, word, hw, hc, rfl⟩ := hl
  obtain ⟨hk, hw⟩ := wds_wdk hw
  rw [cnk_cnt hk] at hc
  have hc := Option.some.inj hc
  subst hw
  have hn : ((k = 1 ∨ k = 4) ∧ (k : Int) = j) ∨ (k : Int) = j + 1 ∨ ((k : Int) = j + 2 ∧ (k = 2 ∨ k = 5)) := of_decide_eq_true hn
  refine .inr ⟨k, s', rfl, rfl, ?_⟩
  have hx : ∀ {i : Nat} {sv : Sv}, j = i → σ = some sv → Pfx i sv p → sv.read k ns = some s' → ¬ k = 0 → Pfx k s' (p ++ (wdk k ++ lnum ns ++ [10])) := by
    rintro i sv rfl rfl ⟨rfl, hg, h0, h4⟩ hs hk0
    match k, ns, hs, hc, hn, hr with
    | 1, [d, kd, q, a], hs, _, hn, hr =>
      simp only [Sv.read] at hs
      split at hs
      · injection hs with hs
        subst hs
        refine ⟨?_, ⟨hg.tm, fun e he => ?_, hg.nw, hg.dy, hg.en⟩, fun h => absurd h (by decide), fun _ => h4 (by omega)⟩
        · have hi : i = 0 ∨ i = 1 := by omega
          have e1 : txtP sv i = lineB wLoan (tmN sv.t) ++ evT sv.l := by
            rcases hi with rfl | rfl
            · rw [h0 (by decide)]; simp [txtP, evT]
            · rfl
          rw [e1]
          show _ = lineB wLoan (tmN sv.t) ++ evT (sv.l ++ [⟨d, kd, q, a⟩])
          rw [evT_app]
          simp [evT, evN, lineB, wdk, wds]
        · rcases List.mem_append.1 he with he | he
          · exact hg.ev e he
          · obtain rfl := List.mem_singleton.1 he
            exact hr
      · cases hs
    | 2, [n], hs, _, hn, hr =>
      simp only [Sv.read] at hs
      split at hs
      · injection hs with hs
        subst hs
        refine ⟨?_, ⟨hg.tm, hg.ev, hg.nw, hr n (by simp), hg.en⟩, fun h => absurd h (by decide), fun _ => h4 (by omega)⟩
        have hi : i = 0 ∨ i = 1 := by omega
        have e1 : txtP sv i = lineB wLoan (tmN sv.t) ++ evT sv.l := by
          rcases hi with rfl | rfl
          · rw [h0 (by decide)]; simp [txtP, evT]
          · rfl
        rw [e1]
        rfl
      · cases hs
    | 3, [a, b, c, d, e, f, r], hs, _, hn, hr =>
      simp only [Sv.read] at hs
      injection hs with hs
      subst hs
      refine ⟨?_, ⟨hg.tm, hg.ev, hr, hg.dy, hg.en⟩, fun h => absurd h (by decide), fun _ => h4 (by omega)⟩
      obtain rfl : i = 2 := by omega
      rfl
    | 4, [d, kd, a], hs, _, hn, hr =>
      simp only [Sv.read] at hs
      split at hs
      · injection hs with hs
        subst hs
        refine ⟨?_, ⟨hg.tm, hg.ev, hg.nw, hg.dy, fun e he => ?_⟩, fun h => absurd h (by decide), fun h => absurd h (by decide)⟩
        · have hi : i = 3 ∨ i = 4 := by omega
          have e1 : txtP sv i = txtP sv 3 ++ enT sv.L := by
            rcases hi with rfl | rfl
            · rw [h4 (by decide)]; simp [enT]
            · rfl
          rw [e1]
          show _ = txtP sv 3 ++ enT (sv.L ++ [⟨d, kd, a⟩])
          rw [enT_app]
          simp [enT, enN, lineB, wdk, wds]
        · rcases List.mem_append.1 he with he | he
          · exact hg.en e he
          · obtain rfl := List.mem_singleton.1 he
            exact hr
      · cases hs
    | 5, [], hs, _, hn, hr =>
      simp only [Sv.read] at hs
      injection hs with hs
      subst hs
      refine ⟨?_, hg, fun h => absurd h (by decide), fun h => absurd h (by decide)⟩
      have hi : i = 3 ∨ i = 4 := by omega
      have e1 : txtP sv i = txtP sv 4 := by
        rcases hi with rfl | rfl
        · show _ = txtP sv 3 ++ enT sv.L
          rw [h4 (by decide)]; simp [enT]
        · rfl
      rw [e1]
      rfl
  rcases h with ⟨hj, rfl⟩ | ⟨i, sv, hj, hσ, hp⟩
  · obtain rfl : k = 0 := by omega
    unfold stepK at hs
    rw [if_pos rfl] at hs
    match ns, hs, hr with
    | [a, b, c, d, e, f], hs, hr =>
      simp only [Sv.first] at hs
      split at hs
      · rename_i ht
        injection hs with hs
        subst hs
        refine ⟨rfl, ⟨hr, fun e he => by simp at he, ?_, hr a (by simp), fun e he => by simp at he⟩, fun _ => rfl, fun _ => rfl⟩
        have h3 := hr c (by simp)
        have z : InR 0 := by unfold InR; omega
        intro n hn
        simp only [nwN, Ln.start, List.mem_cons, List.not_mem_nil, or_false] at hn
        rcases hn with rfl | rfl | rfl | rfl | rfl | rfl | rfl
        all_goals first | exact z | exact h3
      · cases hs
  · have hk0 : ¬ k = 0 := by omega
    unfold stepK at hs
    rw [if_neg hk0] at hs
    subst hσ
    exact hx hj rfl hp hs hk0
theorem fin_txt : ∀ (ls : List (List UInt8)) (j : Int) (σ : Option Sv) (p : List UInt8) (sv : Sv), Pfs j σ p → fin j σ ls = some sv → p ++ joinL ls = txtB sv.t sv.l sv.g sv.day sv.L ∧ Rg sv.t sv.l sv.g sv.day sv.L
  | [], j, σ, p, sv, h, hf => by
    rw [fin] at hf
    split at hf
    · rename_i hj
      rcases h with ⟨h1, _⟩ | ⟨k, s1, h1, rfl, h2⟩
      · omega
      · injection hf with hf
        subst hf
        obtain rfl : k = 5 := by omega
        refine ⟨?_, h2.rg⟩
        rw [h2.tx]
        simp [joinL, txtP]
    · cases hf
  | line :: r, j, σ, p, sv, h, hf => by
    rw [fin] at hf
    cases hc : cls line with
    | none => rw [hc] at hf; cases hf
    | some q =>
      obtain ⟨k, ns⟩ := q
      rw [hc] at hf
      simp only at hf
      split at hf
      · rename_i hn
        cases hs : stepK σ k ns with
        | none => rw [hs] at hf; cases hf
        | some s' =>
          rw [hs] at hf
          simp only at hf
          have ih := fin_txt r k (some s') _ sv (pfs_step h (cls_some hc) hn hs) hf
          refine ⟨?_, ih.2⟩
          rw [← ih.1]
          simp [joinL]
      · cases hf
theorem told_txt {s : List UInt8} {sv : Sv} (h : told s = some sv) : s = txtB sv.t sv.l sv.g sv.day sv.L ∧ Rg sv.t sv.l sv.g sv.day sv.L := by
  unfold told at h
  split at h
  · rename_i hc
    have h1 := fin_txt _ (-1) none [] sv (.inl ⟨rfl, rfl⟩) h
    refine ⟨?_, h1.2⟩
    rw [← h1.1, List.nil_append]
    have := cutL_join s
    rw [hc, List.append_nil] at this
    exact this.symm
  · cases h
theorem itoa_some (n : Int) : 1 ≤ (Lib.itoa n).length := by
  have hd : ∀ u : Nat, 1 ≤ (Lib.decDigits u).length := fun u => by
    rw [Lib.decDigits_length]
    exact Lib.nDigits_pos u
  unfold Lib.itoa
  split
  · simp
  · exact hd _
theorem enT_more : ∀ L : List En, 10 * L.length ≤ (enT L).length
  | [] => by simp
  | e :: r => by
    have := enT_more r
    have h1 := itoa_some e.d
    have h2 := itoa_some e.k
    have h3 := itoa_some e.a
    have h4 : wEntry.length = 5 := rfl
    simp only [enT, enN, lnum, List.length_append, List.length_cons, lineB_eq, List.length_nil]
    omega
theorem txtB_more (t : Ln.Terms) (E : List Ln.Ev) (g : Ln.St) (day : Int) (L : List En) : 10 * L.length ≤ (txtB t E g day L).length := by
  have := enT_more L
  unfold txtB
  simp only [List.length_append]
  omega
end Go.Proofs.YtanndhoimpnhpaaGreatDoor
namespace Go.Proofs.YtanndhoimpnhpaaGreatDoor
open Go.ChangeShapes Go.WideShapes Go.ChangeAt Go.RowKit Lg Cal
def RlPost (w : World) (b0 : Nat) (s : List UInt8) (e : Ending) (w' : World) : Prop :=
  Below b0 w w' ∧ ((∃ sv B F, told s = some sv ∧ e = .returned (.tuple #[.pointer (some ⟨B, 0, none⟩), .bool true]) ∧ IsL w' B sv F ∧ ∀ x, F x → w.heap.size ≤ x ∧ x < w'.heap.size) ∨ (told s = none ∧ ∃ q, e = .returned (.tuple #[.pointer q, .bool false])))
theorem wd_in {F : Nat → Prop} {a : Nat} {w w' : World} (h : ∀ x, F x → a ≤ x ∧ x < w.heap.size) (ha : a ≤ w.heap.size) (hs : w.heap.size ≤ w'.heap.size) : ∀ x, Wd F w w' x → a ≤ x ∧ x < w'.heap.size := by
  rintro x (hx | hx)
  · have := h x hx; omega
  · omega
theorem six_is {l : List Int} (h : l.length = 6) : ∃ a b c d e f, l = [a, b, c, d, e, f] := by
  match l, h with
  | [a, b, c, d, e, f], _ => exact ⟨a, b, c, d, e, f, rfl⟩
set_option maxRecDepth 10000 in
set_option maxHeartbeats 4000000 in
theorem readloan_any (w : World) (R b0 : Nat) (s : List UInt8) (hR : At w R [.string (bs s)]) (hb0 : b0 ≤ R) (hs : Sh s) (hg : ∀ wx, Below b0 w wx → Gl wx ∧ Lim wx) :
    Calls Tryz.prog 33 #[.pointer (some ⟨R, 0, none⟩)] w (RlPost w b0 s) := by
  have hRl : R < w.heap.size := At.lt hR
  obtain ⟨N, hN⟩ : ∃ N, N = w.heap.size := ⟨_, rfl⟩
  have hB1 : Below w.heap.size w (w.alloc (.cells #[.int .i64 0, .int .i64 0, .int .i64 0, .int .i64 0, .int .i64 0, .int .i64 0] 23)) := (Below.refl _ _).alloc (Nat.le_refl _) _
  have hA1 : At (w.alloc (.cells #[.int .i64 0, .int .i64 0, .int .i64 0, .int .i64 0, .int .i64 0, .int .i64 0] 23)) N [.int .i64 0, .int .i64 0, .int .i64 0, .int .i64 0, .int .i64 0, .int .i64 0] := by rw [hN]; exact At.alloc w [.int .i64 0, .int .i64 0, .int .i64 0, .int .i64 0, .int .i64 0, .int .i64 0] _
  have hR1 := hR.lower hB1
  have HN : Hid (N = w.heap.size) := hN
  have HG : Hid (∀ wx, Below b0 w wx → Gl wx ∧ Lim wx) := hg
  have HB1 : Hid (Below w.heap.size w (w.alloc (.cells #[.int .i64 0, .int .i64 0, .int .i64 0, .int .i64 0, .int .i64 0, .int .i64 0] 23))) := hB1
  have HS1 : Hid (w.heap.size < (w.alloc (.cells #[.int .i64 0, .int .i64 0, .int .i64 0, .int .i64 0, .int .i64 0, .int .i64 0] 23)).heap.size) := by
    show w.heap.size < _
    have := At.lt hA1
    rw [hN] at this
    exact this
  have HA1 : Hid (At (w.alloc (.cells #[.int .i64 0, .int .i64 0, .int .i64 0, .int .i64 0, .int .i64 0, .int .i64 0] 23)) N [.int .i64 0, .int .i64 0, .int .i64 0, .int .i64 0, .int .i64 0, .int .i64 0]) := hA1
  have HR1 : Hid (At (w.alloc (.cells #[.int .i64 0, .int .i64 0, .int .i64 0, .int .i64 0, .int .i64 0, .int .i64 0] 23)) R [.string (bs s)]) := hR1
  clear hR hg hB1 hA1 hR1
  go_enter Tryz.func33, Tryz.ntmps33
  go_upto_region 2 with fail
  rw [← hN]
  clear hN
  generalize w.alloc (.cells #[.int .i64 0, .int .i64 0, .int .i64 0, .int .i64 0, .int .i64 0, .int .i64 0] 23) = w1 at *
  have hB2 : Below w1.heap.size w1 (w1.drew.alloc (.cells (ptrs N 0 6).toArray 110)) := (Below.refl _ _).drew.alloc (Nat.le_refl _) _
  have hz1 := HB1.out.size
  have hz2 := HS1.out
  have hz3 := HN.out
  have hCn := termsNumbers_any w1 N 0
  have hb2 : Below b0 w (w1.drew.alloc (.cells (ptrs N 0 6).toArray 110)) := (HB1.out.mono (by omega)).trans (hB2.mono (by omega))
  have hRd := read_any (w1.drew.alloc (.cells (ptrs N 0 6).toArray 110)) R s wLoan N 0 6 [.int .i64 0, .int .i64 0, .int .i64 0, .int .i64 0, .int .i64 0, .int .i64 0] _ (HR1.out.lower hB2) hs (Pt.made w1 R N 0 6 (by omega) (by omega)) (HA1.out.lower hB2) (show 0 + 6 ≤ 6 by decide) (by omega) (noB_wdk 0 (by omega)) (noL_wdk 0 (by omega)) (by decide) (by omega) (HG.out _ hb2).1
  have HB2 : Hid (Below b0 w (w1.drew.alloc (.cells (ptrs N 0 6).toArray 110)) ∧ w1.heap.size ≤ (w1.drew.alloc (.cells (ptrs N 0 6).toArray 110)).heap.size) := ⟨hb2, hB2.size⟩
  clear hB2 hz1 hz2 hz3 hb2
  go_wp2_with fail
  refine hCn.mono ?_
  rintro e w6 ⟨rfl, rfl⟩
  clear hCn
  generalize w1.drew.alloc (.cells (ptrs N 0 6).toArray 110) = w2 at *
  go_wp2_with fail
  refine hRd.mono ?_
  rintro e w3 hx
  clear hRd
  rcases hx with ⟨ns, r, hnx, rfl, hR3, hN3, hk3⟩ | ⟨hno, rfl, hb3⟩
  · obtain ⟨a, b, c, d, e, f, rfl⟩ := six_is hnx.2.1
    obtain ⟨t, ht⟩ : ∃ t : Ln.Terms, t = ⟨a, b, c, d, e, f⟩ := ⟨_, rfl⟩
    have HNx : Hid (Nx s (wdk 0) (cnk 0) [a, b, c, d, e, f] r) := hnx
    have HR3 : Hid (At w3 R [.string (bs r)]) := hR3
    have hN3 : At w3 N (tml t) := by rw [ht]; exact hN3
    have HB3 : Hid (Below b0 w w3 ∧ w1.heap.size ≤ w3.heap.size) := by
      refine ⟨⟨hk3.os.trans HB2.out.1.os, hk3.tape.trans HB2.out.1.tape, hk3.output.trans HB2.out.1.output, Nat.le_trans HB2.out.1.size hk3.size, fun b hb => (hk3.block b ?_ ?_).trans (HB2.out.1.block b hb)⟩, Nat.le_trans HB2.out.2 hk3.size⟩
      · have := HB2.out.2; have := HS1.out; omega
      · intro h
        have := HN.out
        rcases h with h | h <;> omega
    have HFst : Hid (Sv.first [a, b, c, d, e, f] = if rtB t = true then some ⟨t, [], Ln.start t, t.st, []⟩ else none) := by rw [ht]; exact rfl
    have hr3 : w3.rangeAt N 0 (tml t) := hN3.range
    clear ht hnx hR3 hN3 hk3 HB2
    go_upto_region 4 with fail
    refine wp_region_lit ?_
    refine wpList_load_mid rfl 23 (.tmp 4) rfl N 0 rfl (tml t) _ hr3 Tryz.underlying23 rfl (by kernel_rfl) ?_
    simp only [Act.put, List.setIfInBounds_toArray, List.set_cons_zero, List.set_cons_succ]
    clear hr3
    cases hrt : rtB t with
    | false =>
      have hO := open_bad t w3 hrt
      have HTo : Hid (told s = none) := by
        show told s = none
        rw [told_tl]
        refine tl_fail (k := 0) (by omega) HNx.out ?_
        unfold stepK
        rw [if_pos rfl, HFst.out, hrt]
        rfl
      clear hrt HFst
      unfold tmV at hO
      go_wp2_with fail
      refine hO.mono ?_
      rintro x w4 ⟨rfl, hb4⟩
      have HE : Hid (RlPost w b0 s (.returned (.tuple #[.pointer none, .bool false])) w4) := ⟨HB3.out.1.trans (hb4.mono (by have := HB3.out.2; have := HS1.out; omega)), .inr ⟨HTo.out, none, rfl⟩⟩
      clear hO hb4
      go_wp2
      go_ret2
      exact HE.out
    | true =>
      have hO := openL t w3 hrt
      have hrt2 := rt_ok hrt
      have HSt : Hid (0 ≤ t.st ∧ t.st ≤ 105872) := ⟨hrt2.st0, hrt2.st1⟩
      have HTo : Hid (told s = tl 1 (some ⟨t, [], Ln.start t, t.st, []⟩) r) := by
        show told s = _
        rw [told_tl, ← tl_01]
        refine tl_go (j := -1) (k := 0) (by omega) HNx.out (by decide) ?_
        unfold stepK
        rw [if_pos rfl, HFst.out, hrt]
        rfl
      have HLr : Hid (Lq r s) := Lq.nx (noL_wdk 0 (by omega)) HNx.out
      clear hrt HFst hrt2 HNx
      unfold tmV at hO
      go_wp2_with fail
      refine hO.mono ?_
      rintro x w4 ⟨B, rfl, hLo, hb4⟩
      have hq1 := HB3.out.2
      have hq2 := HS1.out
      have hq3 := HN.out
      have hq4 := hb4.size
      have hq5 := HLr.out
      have hF4 : ∀ x, Wd (fun _ => False) w3 w4 x → w3.heap.size ≤ x ∧ x < w4.heap.size := fun x hx => hx.elim (fun h => h.elim) (fun h => h)
      have hb04 : Below b0 w w4 := HB3.out.1.trans (hb4.mono (by omega))
      have hEv := readevents_any w4 B R b0 r ⟨t, [], Ln.start t, t.st, []⟩ (Wd (fun _ => False) w3 w4) hLo (HR3.out.lower hb4) (fun x hx => by have := hF4 x hx; omega) hb0 (hq5.2 hs) (fun wx hx => HG.out wx (hb04.trans hx))
      have HF4 : Hid (∀ x, Wd (fun _ => False) w3 w4 x → w3.heap.size ≤ x ∧ x < w4.heap.size) := hF4
      have HB4 : Hid (Below b0 w w4 ∧ w3.heap.size ≤ w4.heap.size ∧ R < w3.heap.size ∧ N < w3.heap.size ∧ w.heap.size ≤ w3.heap.size) := ⟨hb04, hq4, by omega, by omega, by omega⟩
      generalize hsv0 : (⟨t, [], Ln.start t, t.st, []⟩ : Sv) = sv0 at *
      generalize hF0 : Wd (fun _ => False) w3 w4 = F0 at *
      have HS0 : Hid (sv0.t = t ∧ sv0.L = []) := by rw [← hsv0]; exact ⟨rfl, rfl⟩
      clear hO hLo hb4 hq1 hq2 hq3 hq4 hq5 hF4 hb04 hsv0 hF0 HB3 HR3
      go_wp2_with fail
      refine hEv.mono ?_
      rintro x w5 ⟨hb5, ⟨s1, sv1, rfl, htl1, hne1, hR5, hL5, hl1, hl2, ht1, hd1⟩ | ⟨rfl, htl1⟩⟩
      · have hq1 := HB4.out
        have hq5 := HLr.out
        have hz5 := hb5.size
        have hF5 := wd_in HF4.out hq1.2.1 hz5
        have hb05 : Below b0 w w5 := HB4.out.1.trans hb5
        have hNw := readnow_any w5 B R b0 s1 sv1 (Wd F0 w4 w5) hL5 hR5 (fun x hx => by have := hF5 x hx; omega) hb0 ((hl1.trans hq5).2 hs) hne1 (fun wx hx => (HG.out wx (hb05.trans hx)).1)
        have HTo1 : Hid (told s = tl 1 (some sv1) s1) := HTo.out.trans htl1
        have HF5 : Hid (∀ x, Wd F0 w4 w5 x → w3.heap.size ≤ x ∧ x < w5.heap.size) := hF5
        have HB5 : Hid (Below b0 w w5 ∧ w3.heap.size ≤ w5.heap.size) := ⟨hb05, by omega⟩
        have HS1b : Hid (sv1.t = t ∧ sv1.L.length + s1.length ≤ r.length ∧ Lq s1 s) := ⟨ht1.trans HS0.out.1, by have := HS0.out.2; rw [this] at hl2; simpa using hl2, hl1.trans hq5⟩
        generalize hF0 : Wd F0 w4 w5 = F1 at *
        clear hEv htl1 hne1 hR5 hL5 hl1 hl2 ht1 hd1 hq1 hq5 hz5 hF5 hb05 hb5 hF0
        go_wp2_with fail
        refine hNw.mono ?_
        rintro x w6 ⟨hb6, ⟨s2, sv2, rfl, htl2, hR6, hL6, hl1, hLe, ht2, hd1, hd2⟩ | ⟨rfl, htl2⟩⟩
        · have hq1 := HB4.out
          have hq2 := HB5.out
          have hq5 := HLr.out
          have hq6 := HS1b.out
          have hz6 := hb6.size
          have hF6 := wd_in HF5.out hq2.2 hz6
          have hb06 : Below b0 w w6 := HB5.out.1.trans hb6
          have hst := HSt.out
          rw [hq6.1] at hd1 hd2
          have hBk := readbook_any w6 B R b0 s2 sv2 (Wd F1 w5 w6) hL6 hR6 (fun x hx => by have := hF6 x hx; omega) hb0 ((hl1.trans hq6.2.2).2 hs) (by rw [hLe]; have := hs.2; have := hl1.1; have := hq5.1; omega) (by omega) (by omega) (fun wx hx => (HG.out wx (hb06.trans hx)).1)
          have HTo2 : Hid (told s = tl 4 (some sv2) s2) := (HTo1.out.trans htl2).trans (tl_34 _ _)
          have HF6 : Hid (∀ x, Wd F1 w5 w6 x → w3.heap.size ≤ x ∧ x < w6.heap.size) := hF6
          have HB6 : Hid (Below b0 w w6 ∧ w3.heap.size ≤ w6.heap.size ∧ Lq s2 s) := ⟨hb06, by omega, hl1.trans hq6.2.2⟩
          generalize hF0 : Wd F1 w5 w6 = F2 at *
          clear hNw htl2 hR6 hL6 hl1 hLe ht2 hd1 hd2 hq1 hq2 hq5 hq6 hz6 hF6 hb06 hst hb6 hF0
          go_wp2_with fail
          refine hBk.mono ?_
          rintro x w7 ⟨hb7, ⟨s3, sv3, rfl, htl3, hne3, hR7, hL7, hl1, hl2, ht3, hd3⟩ | ⟨rfl, htl3⟩⟩
          · have hq1 := HB4.out
            have hq2 := HB6.out
            have hz7 := hb7.size
            have hF7 := wd_in HF6.out hq2.2.1 hz7
            have hb07 : Below b0 w w7 := HB6.out.1.trans hb7
            have hEd := read_any w7 R s3 wEnd N 0 0 [] (.slice none 0 0) hR7 ((hl1.trans hq2.2.2).2 hs) ⟨none, 0, rfl, Nat.le_refl _, fun k hk => absurd hk (Nat.not_lt_zero k)⟩ (fun k v hk => by simp at hk) (Nat.le_refl _) (by have := HN.out; omega) (noB_wdk 5 (by omega)) (noL_wdk 5 (by omega)) (by decide) (by omega) (HG.out _ hb07).1
            have HTo3 : Hid (told s = tl 4 (some sv3) s3) := HTo2.out.trans htl3
            have HF7 : Hid (∀ x, Wd F2 w6 w7 x → w3.heap.size ≤ x ∧ x < w7.heap.size) := hF7
            have HB7 : Hid (Below b0 w w7 ∧ w3.heap.size ≤ w7.heap.size) := ⟨hb07, by omega⟩
            have HL7 : Hid (IsL w7 B sv3 (Wd F2 w6 w7)) := hL7
            have HNe3 : Hid (¬ ∃ ns r, Nx s3 wEntry 3 ns r) := hne3
            generalize hF0 : Wd F2 w6 w7 = F3 at *
            clear hBk htl3 hne3 hR7 hL7 hl1 hl2 ht3 hd3 hq1 hq2 hz7 hF7 hb07 hb7 hF0
            go_wp2_with fail
            refine hEd.mono ?_
            rintro x w8 hx
            rcases hx with ⟨ns, s4, hnx, rfl, hR8, _, hk8⟩ | ⟨hno, rfl, hb8⟩
            · have hns : ns = [] := List.length_eq_zero_iff.1 hnx.2.1
              subst hns
              have hq1 := HB4.out
              have HB8 : Hid (Below b0 w w8) := by
                have hq2 := HB7.out
                refine ⟨hk8.os.trans hq2.1.os, hk8.tape.trans hq2.1.tape, hk8.output.trans hq2.1.output, Nat.le_trans hq2.1.size hk8.size, fun b hb => (hk8.block b ?_ ?_).trans (hq2.1.block b hb)⟩
                · omega
                · intro h
                  have := HN.out
                  rcases h with h | h <;> omega
              have HL8 : Hid (IsL w8 B sv3 F3) := HL7.out.keep hk8 (fun b hb h => by
                have := HF7.out b hb
                rcases h with h | h <;> omega)
              have HTo4 : Hid (told s = if s4 = [] then some sv3 else none) := by
                refine HTo3.out.trans (Eq.trans ?_ (tl_end _ _))
                exact tl_go (j := 4) (k := 5) (by omega) hnx (by decide) rfl
              have HZ8 : Hid (w7.heap.size ≤ w8.heap.size) := hk8.size
              have hAe := atend_any w8 R s4 hR8
              obtain ⟨y, hy⟩ : ∃ y, decide (s4 = []) = y := ⟨_, rfl⟩
              rw [hy] at hAe
              have HE : Hid (RlPost w b0 s (.returned (.tuple #[.pointer (some ⟨B, 0, none⟩), .bool y])) w8) := by
                refine ⟨HB8.out, ?_⟩
                have h4 := HTo4.out
                cases y with
                | true =>
                  rw [if_pos (of_decide_eq_true hy)] at h4
                  exact .inl ⟨sv3, B, F3, h4, rfl, HL8.out, fun x hx => by have := HF7.out x hx; have := HZ8.out; omega⟩
                | false =>
                  rw [if_neg (of_decide_eq_false hy)] at h4
                  exact .inr ⟨h4, _, rfl⟩
              clear hEd hnx hR8 hk8 hq1 hy
              go_wp2_with fail
              refine hAe.mono ?_
              rintro x w9 ⟨rfl, rfl⟩
              clear hAe
              go_wp2
              go_ret2
              exact HE.out
            · have HE : Hid (RlPost w b0 s (.returned (.tuple #[.pointer (some ⟨B, 0, none⟩), .bool false])) w8) := by
                refine ⟨HB7.out.1.trans (hb8.mono (by have := HB7.out; have := HB4.out; omega)), .inr ⟨HTo3.out.trans (tl_none (by decide) (fun k hk hn => ?_)), _, rfl⟩⟩
                match k, hk with
                | 0, _ => exact absurd hn (by decide)
                | 1, _ => exact absurd hn (by decide)
                | 2, _ => exact absurd hn (by decide)
                | 3, _ => exact absurd hn (by decide)
                | 4, _ => exact HNe3.out
                | 5, _ => exact hno
              clear hEd hno hb8
              go_wp2
              go_ret2
              exact HE.out
          · have HE : Hid (RlPost w b0 s (.returned (.tuple #[.pointer (some ⟨B, 0, none⟩), .bool false])) w7) := ⟨HB6.out.1.trans hb7, .inr ⟨HTo2.out.trans htl3, _, rfl⟩⟩
            clear hBk hb7 htl3
            go_wp2
            go_ret2
            exact HE.out
        · have HE : Hid (RlPost w b0 s (.returned (.tuple #[.pointer (some ⟨B, 0, none⟩), .bool false])) w6) := ⟨HB5.out.1.trans hb6, .inr ⟨HTo1.out.trans htl2, _, rfl⟩⟩
          clear hNw hb6 htl2
          go_wp2
          go_ret2
          exact HE.out
      · have HE : Hid (RlPost w b0 s (.returned (.tuple #[.pointer (some ⟨B, 0, none⟩), .bool false])) w5) := ⟨HB4.out.1.trans hb5, .inr ⟨HTo.out.trans htl1, _, rfl⟩⟩
        clear hEv hb5 htl1
        go_wp2
        go_ret2
        exact HE.out
  · have HE : Hid (RlPost w b0 s (.returned (.tuple #[.pointer none, .bool false])) w3) := by
      refine ⟨HB2.out.1.trans (hb3.mono (by have := HB2.out.2; have := HS1.out; omega)), .inr ⟨?_, _, rfl⟩⟩
      rw [told_tl]
      refine tl_none (by decide) (fun k hk hn => ?_)
      match k, hk with
      | 0, _ => exact hno
      | 1, _ => exact absurd hn (by decide)
      | 2, _ => exact absurd hn (by decide)
      | 3, _ => exact absurd hn (by decide)
      | 4, _ => exact absurd hn (by decide)
      | 5, _ => exact absurd hn (by decide)
    clear hno hb3
    go_wp2
    go_ret2
    exact HE.out
end Go.Proofs.YtanndhoimpnhpaaGreatDoor
namespace Go.Proofs.YtanndhoimpnhpaaGreatDoor
def cents (g : Ln.St) : Ln.St := ⟨g.pr, g.it, g.du, g.la, g.fi, g.cr, g.rt, 0, 0, 0⟩
structure Tel (t : Ln.Terms) (E : List Ln.Ev) (day : Int) (L : List En) : Prop where
  rt : rtB t = true
  ev : ∀ i (hi : i < E.length), (∀ x, (E.take i).getLast? = some x → aheadB x E[i] = true) ∧ addC t (E.take i) E[i] = 0
  d0 : t.st ≤ day
  d1 : day ≤ t.st + 3700
  en : ∀ e ∈ L, t.st ≤ e.d ∧ e.d < day ∧ 1 ≤ e.k ∧ e.k ≤ 12 ∧ ¬ e.a = 0
theorem nx_lineB {word : List UInt8} {ns : List Int} (r : List UInt8) (h : ∀ m ∈ ns, InR m) : Nx (lineB word ns ++ r) word ns.length ns r :=
  ⟨by simp [lineB], rfl, h⟩
theorem tl_events (t : Ln.Terms) (g : Ln.St) (day : Int) (E : List Ln.Ev) (hr : ∀ e ∈ E, ∀ n ∈ evN e, InR n) (h : ∀ i (hi : i < E.length), (∀ x, (E.take i).getLast? = some x → aheadB x E[i] = true) ∧ addC t (E.take i) E[i] = 0) (r : List UInt8) :
    ∀ n, n ≤ E.length → tl 1 (some ⟨t, [], g, day, []⟩) (evT E ++ r) = tl 1 (some ⟨t, E.take n, g, day, []⟩) (evT (E.drop n) ++ r)
  | 0, _ => by simp
  | n + 1, hn => by
    rw [tl_events t g day E hr h r n (by omega)]
    have hd : E.drop n = E[n] :: E.drop (n + 1) := List.drop_eq_getElem_cons (by omega)
    rw [hd]
    simp only [evT, List.append_assoc]
    refine tl_go (j := 1) (k := 1) (ns := evN E[n]) (by omega) (nx_lineB _ (hr _ (List.getElem_mem _))) (by decide) ?_
    have h1 := h n (by omega)
    unfold stepK
    rw [if_neg (by decide)]
    show (if (∀ x, (E.take n).getLast? = some x → aheadB x ⟨E[n].d, E[n].k, E[n].s, E[n].a⟩ = true) ∧ addC t (E.take n) ⟨E[n].d, E[n].k, E[n].s, E[n].a⟩ = 0 then some (⟨t, E.take n ++ [⟨E[n].d, E[n].k, E[n].s, E[n].a⟩], g, day, []⟩ : Sv) else none) = _
    rw [if_pos h1, List.take_succ_eq_append_getElem (by omega)]
theorem tl_entries (t : Ln.Terms) (E : List Ln.Ev) (g : Ln.St) (day : Int) (L : List En) (hr : ∀ e ∈ L, ∀ n ∈ enN e, InR n) (h : ∀ e ∈ L, t.st ≤ e.d ∧ e.d < day ∧ 1 ≤ e.k ∧ e.k ≤ 12 ∧ ¬ e.a = 0) (r : List UInt8) :
    ∀ n, n ≤ L.length → tl 4 (some ⟨t, E, g, day, []⟩) (enT L ++ r) = tl 4 (some ⟨t, E, g, day, L.take n⟩) (enT (L.drop n) ++ r)
  | 0, _ => by simp
  | n + 1, hn => by
    rw [tl_entries t E g day L hr h r n (by omega)]
    have hd : L.drop n = L[n] :: L.drop (n + 1) := List.drop_eq_getElem_cons (by omega)
    rw [hd]
    simp only [enT, List.append_assoc]
    refine tl_go (j := 4) (k := 4) (ns := enN L[n]) (by omega) (nx_lineB _ (hr _ (List.getElem_mem _))) (by decide) ?_
    have h1 := h L[n] (List.getElem_mem _)
    unfold stepK
    rw [if_neg (by decide)]
    show (if t.st ≤ L[n].d ∧ L[n].d < day ∧ 1 ≤ L[n].k ∧ L[n].k ≤ 12 ∧ ¬ L[n].a = 0 then some (⟨t, E, g, day, L.take n ++ [⟨L[n].d, L[n].k, L[n].a⟩]⟩ : Sv) else none) = _
    rw [if_pos h1, List.take_succ_eq_append_getElem (by omega)]
theorem txt_told {t : Ln.Terms} {E : List Ln.Ev} {g : Ln.St} {day : Int} {L : List En} (h : Tel t E day L) (hr : Rg t E g day L) : told (txtB t E g day L) = some ⟨t, E, cents g, day, L⟩ := by
  have e1 : txtB t E g day L = lineB wLoan (tmN t) ++ (evT E ++ (lineB wAt [day] ++ (lineB wNow (nwN g) ++ (enT L ++ (lineB wEnd [] ++ []))))) := by
    unfold txtB
    simp only [List.append_assoc, List.append_nil]
  rw [told_tl, e1]
  have s0 := tl_go (j := -1) (σ := none) (k := 0) (ns := tmN t) (s' := ⟨t, [], Ln.start t, t.st, []⟩) (by omega) (nx_lineB (evT E ++ (lineB wAt [day] ++ (lineB wNow (nwN g) ++ (enT L ++ (lineB wEnd [] ++ []))))) hr.tm) (by decide) (by
    show Sv.first [t.st, t.pr, t.rt, t.fi, t.ba, t.du] = _
    simp only [Sv.first]
    rw [if_pos h.rt])
  rw [show lineB wLoan (tmN t) = lineB (wdk 0) (tmN t) from rfl, s0]
  show tl 0 _ _ = _
  rw [tl_01, tl_events t (Ln.start t) t.st E hr.ev h.ev _ E.length (Nat.le_refl _), List.take_length, List.drop_length]
  have s2 := tl_go (j := 1) (σ := some ⟨t, E, Ln.start t, t.st, []⟩) (k := 2) (ns := [day]) (s' := ⟨t, E, Ln.start t, day, []⟩) (by omega) (nx_lineB (lineB wNow (nwN g) ++ (enT L ++ (lineB wEnd [] ++ []))) (fun m hm => by rw [List.mem_singleton.1 hm]; exact hr.dy)) (by decide) (by
    show (if t.st ≤ day ∧ day ≤ t.st + 3700 then some (⟨t, E, Ln.start t, day, []⟩ : Sv) else none) = _
    rw [if_pos ⟨h.d0, h.d1⟩])
  show tl 1 _ (lineB (wdk 2) [day] ++ _) = _
  rw [s2]
  have s3 := tl_go (j := 2) (σ := some ⟨t, E, Ln.start t, day, []⟩) (k := 3) (ns := nwN g) (s' := ⟨t, E, cents g, day, []⟩) (by omega) (nx_lineB (enT L ++ (lineB wEnd [] ++ [])) hr.nw) (by decide) rfl
  show tl 2 _ (lineB (wdk 3) (nwN g) ++ _) = _
  rw [s3]
  show tl 3 _ _ = _
  rw [tl_34, tl_entries t E (cents g) day L hr.en h.en _ L.length (Nat.le_refl _), List.take_length, List.drop_length]
  have s5 := tl_go (j := 4) (σ := some ⟨t, E, cents g, day, L⟩) (k := 5) (ns := []) (s' := ⟨t, E, cents g, day, L⟩) (by omega) (nx_lineB [] (fun m hm => by simp at hm)) (by decide) rfl
  show tl 4 _ (lineB (wdk 5) [] ++ []) = _
  rw [s5]
  show tl 5 _ _ = _
  rw [tl_end, if_pos rfl]
end Go.Proofs.YtanndhoimpnhpaaGreatDoor
