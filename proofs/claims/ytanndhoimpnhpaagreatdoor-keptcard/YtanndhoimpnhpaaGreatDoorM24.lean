/- Joined by program: TyG, TxG, TxK, TxL, TxM, TxO, TxQ. -/
import Derived.Test.YtanndhoimpnhpaaGreatDoorM23
import Derived.Test.YtanndhoimpnhpaaGreatDoorM9
import Derived.Test.YtanndhoimpnhpaaGreatDoorM7
import Derived.Test.YtanndhoimpnhpaaGreatDoorM2
import Derived.Test.YtanndhoimpnhpaaGreatDoorM8
import Derived.Test.YtanndhoimpnhpaaGreatDoorM1
import Derived.Laws.OwnMore
import Derived.OwnWalk
import Derived.Test.YtanndhoimpnhpaaGreatDoorM19
import Derived.Test.YtanndhoimpnhpaaGreatDoorM14
import Derived.BigQuiet
import Derived.Deep.RegionHeld3
import Derived.Test.YtanndhoimpnhpaaGreatDoorM21
import Derived.Test.YtanndhoimpnhpaaGreatDoorM13
import Derived.Deep.CutRange
import Derived.Deep.CutBlock
import Derived.Test.YtanndhoimpnhpaaGreatDoorM20
namespace Go.Proofs.YtanndhoimpnhpaaGreatDoor
open Go.ChangeShapes Go.WideShapes Go.ChangeAt Go.RowKit Lg Cal
def RlPost (w : World) (b0 : Nat) (s : List UInt8) (e : Ending) (w' : World) : Prop :=
  Below b0 w w' ∧ ((∃ sv B F, told s = some sv ∧ e = .returned (.tuple #[.pointer (some ⟨B, 0, none⟩), .bool true]) ∧ IsL w' B sv F ∧ ∀ x, F x → w.heap.size ≤ x ∧ x < w'.heap.size) ∨ (told s = none ∧ ∃ q, e = .returned (.tuple #[.pointer q, .bool false])))
theorem wd_in {F : Nat → Prop} {a : Nat} {w w' : World} (h : ∀ x, F x → a ≤ x ∧ x < w.heap.size) (ha : a ≤ w.heap.size) (hs : w.heap.size ≤ w'.heap.size) : ∀ x, Wd F w w' x → a ≤ x ∧ x < w'.heap.size := by
  rintro x (hx | hx)
  · have := h x hx; omega
  · omega
theorem six_is {l : List Int} (h : l.length = 6) : ∃ a b c d e f, l = [a, b, c, d, e, f] := by
  match l, h with
  | [a, b, c, d, e, f], _ => exact ⟨a, b, c, d, e, f, rfl⟩
set_option maxRecDepth 10000 in
set_option maxHeartbeats 4000000 in
theorem readloan_any (w : World) (R b0 : Nat) (s : List UInt8) (hR : At w R [.string (bs s)]) (hb0 : b0 ≤ R) (hs : Sh s) (hg : ∀ wx, Below b0 w wx → Gl wx ∧ Lim wx) :
    Calls Tryz.prog 33 #[.pointer (some ⟨R, 0, none⟩)] w (RlPost w b0 s) := by
  have hRl : R < w.heap.size := At.lt hR
  obtain ⟨N, hN⟩ : ∃ N, N = w.heap.size := ⟨_, rfl⟩
  have hB1 : Below w.heap.size w (w.alloc (.cells #[.int .i64 0, .int .i64 0, .int .i64 0, .int .i64 0, .int .i64 0, .int .i64 0] 23)) := (Below.refl _ _).alloc (Nat.le_refl _) _
  have hA1 : At (w.alloc (.cells #[.int .i64 0, .int .i64 0, .int .i64 0, .int .i64 0, .int .i64 0, .int .i64 0] 23)) N [.int .i64 0, .int .i64 0, .int .i64 0, .int .i64 0, .int .i64 0, .int .i64 0] := by rw [hN]; exact At.alloc w [.int .i64 0, .int .i64 0, .int .i64 0, .int .i64 0, .int .i64 0, .int .i64 0] _
  have hR1 := hR.lower hB1
  have HN : Hid (N = w.heap.size) := hN
  have HG : Hid (∀ wx, Below b0 w wx → Gl wx ∧ Lim wx) := hg
  have HB1 : Hid (Below w.heap.size w (w.alloc (.cells #[.int .i64 0, .int .i64 0, .int .i64 0, .int .i64 0, .int .i64 0, .int .i64 0] 23))) := hB1
  have HS1 : Hid (w.heap.size < (w.alloc (.cells #[.int .i64 0, .int .i64 0, .int .i64 0, .int .i64 0, .int .i64 0, .int .i64 0] 23)).heap.size) := by
    show w.heap.size < _
    have := At.lt hA1
    rw [hN] at this
    exact this
  have HA1 : Hid (At (w.alloc (.cells #[.int .i64 0, .int .i64 0, .int .i64 0, .int .i64 0, .int .i64 0, .int .i64 0] 23)) N [.int .i64 0, .int .i64 0, .int .i64 0, .int .i64 0, .int .i64 0, .int .i64 0]) := hA1
  have HR1 : Hid (At (w.alloc (.cells #[.int .i64 0, .int .i64 0, .int .i64 0, .int .i64 0, .int .i64 0, .int .i64 0] 23)) R [.string (bs s)]) := hR1
  clear hR hg hB1 hA1 hR1
  go_enter Tryz.func33, Tryz.ntmps33
  go_upto_region 2 with fail
  rw [← hN]
  clear hN
  generalize w.alloc (.cells #[.int .i64 0, .int .i64 0, .int .i64 0, .int .i64 0, .int .i64 0, .int .i64 0] 23) = w1 at *
  have hB2 : Below w1.heap.size w1 (w1.drew.alloc (.cells (ptrs N 0 6).toArray 110)) := (Below.refl _ _).drew.alloc (Nat.le_refl _) _
  have hz1 := HB1.out.size
  have hz2 := HS1.out
  have hz3 := HN.out
  have hCn := termsNumbers_any w1 N 0
  have hb2 : Below b0 w (w1.drew.alloc (.cells (ptrs N 0 6).toArray 110)) := (HB1.out.mono (by omega)).trans (hB2.mono (by omega))
  have hRd := read_any (w1.drew.alloc (.cells (ptrs N 0 6).toArray 110)) R s wLoan N 0 6 [.int .i64 0, .int .i64 0, .int .i64 0, .int .i64 0, .int .i64 0, .int .i64 0] _ (HR1.out.lower hB2) hs (Pt.made w1 R N 0 6 (by omega) (by omega)) (HA1.out.lower hB2) (show 0 + 6 ≤ 6 by decide) (by omega) (noB_wdk 0 (by omega)) (noL_wdk 0 (by omega)) (by decide) (by omega) (HG.out _ hb2).1
  have HB2 : Hid (Below b0 w (w1.drew.alloc (.cells (ptrs N 0 6).toArray 110)) ∧ w1.heap.size ≤ (w1.drew.alloc (.cells (ptrs N 0 6).toArray 110)).heap.size) := ⟨hb2, hB2.size⟩
  clear hB2 hz1 hz2 hz3 hb2
  go_wp2_with fail
  refine hCn.mono ?_
  rintro e w6 ⟨rfl, rfl⟩
  clear hCn
  generalize w1.drew.alloc (.cells (ptrs N 0 6).toArray 110) = w2 at *
  go_wp2_with fail
  refine hRd.mono ?_
  rintro e w3 hx
  clear hRd
  rcases hx with ⟨ns, r, hnx, rfl, hR3, hN3, hk3⟩ | ⟨hno, rfl, hb3⟩
  · obtain ⟨a, b, c, d, e, f, rfl⟩ := six_is hnx.2.1
    obtain ⟨t, ht⟩ : ∃ t : Ln.Terms, t = ⟨a, b, c, d, e, f⟩ := ⟨_, rfl⟩
    have HNx : Hid (Nx s (wdk 0) (cnk 0) [a, b, c, d, e, f] r) := hnx
    have HR3 : Hid (At w3 R [.string (bs r)]) := hR3
    have hN3 : At w3 N (tml t) := by rw [ht]; exact hN3
    have HB3 : Hid (Below b0 w w3 ∧ w1.heap.size ≤ w3.heap.size) := by
      refine ⟨⟨hk3.os.trans HB2.out.1.os, hk3.tape.trans HB2.out.1.tape, hk3.output.trans HB2.out.1.output, Nat.le_trans HB2.out.1.size hk3.size, fun b hb => (hk3.block b ?_ ?_).trans (HB2.out.1.block b hb)⟩, Nat.le_trans HB2.out.2 hk3.size⟩
      · have := HB2.out.2; have := HS1.out; omega
      · intro h
        have := HN.out
        rcases h with h | h <;> omega
    have HFst : Hid (Sv.first [a, b, c, d, e, f] = if rtB t = true then some ⟨t, [], Ln.start t, t.st, []⟩ else none) := by rw [ht]; exact rfl
    have hr3 : w3.rangeAt N 0 (tml t) := hN3.range
    clear ht hnx hR3 hN3 hk3 HB2
    go_upto_region 4 with fail
    refine wp_region_lit ?_
    refine wpList_load_mid rfl 23 (.tmp 4) rfl N 0 rfl (tml t) _ hr3 Tryz.underlying23 rfl (by kernel_rfl) ?_
    simp only [Act.put, List.setIfInBounds_toArray, List.set_cons_zero, List.set_cons_succ]
    clear hr3
    cases hrt : rtB t with
    | false =>
      have hO := open_bad t w3 hrt
      have HTo : Hid (told s = none) := by
        show told s = none
        rw [told_tl]
        refine tl_fail (k := 0) (by omega) HNx.out ?_
        unfold stepK
        rw [if_pos rfl, HFst.out, hrt]
        rfl
      clear hrt HFst
      unfold tmV at hO
      go_wp2_with fail
      refine hO.mono ?_
      rintro x w4 ⟨rfl, hb4⟩
      have HE : Hid (RlPost w b0 s (.returned (.tuple #[.pointer none, .bool false])) w4) := ⟨HB3.out.1.trans (hb4.mono (by have := HB3.out.2; have := HS1.out; omega)), .inr ⟨HTo.out, none, rfl⟩⟩
      clear hO hb4
      go_wp2
      go_ret2
      exact HE.out
    | true =>
      have hO := openL t w3 hrt
      have hrt2 := rt_ok hrt
      have HSt : Hid (0 ≤ t.st ∧ t.st ≤ 105872) := ⟨hrt2.st0, hrt2.st1⟩
      have HTo : Hid (told s = tl 1 (some ⟨t, [], Ln.start t, t.st, []⟩) r) := by
        show told s = _
        rw [told_tl, ← tl_01]
        refine tl_go (j := -1) (k := 0) (by omega) HNx.out (by decide) ?_
        unfold stepK
        rw [if_pos rfl, HFst.out, hrt]
        rfl
      have HLr : Hid (Lq r s) := Lq.nx (noL_wdk 0 (by omega)) HNx.out
      clear hrt HFst hrt2 HNx
      unfold tmV at hO
      go_wp2_with fail
      refine hO.mono ?_
      rintro x w4 ⟨B, rfl, hLo, hb4⟩
      have hq1 := HB3.out.2
      have hq2 := HS1.out
      have hq3 := HN.out
      have hq4 := hb4.size
      have hq5 := HLr.out
      have hF4 : ∀ x, Wd (fun _ => False) w3 w4 x → w3.heap.size ≤ x ∧ x < w4.heap.size := fun x hx => hx.elim (fun h => h.elim) (fun h => h)
      have hb04 : Below b0 w w4 := HB3.out.1.trans (hb4.mono (by omega))
      have hEv := readevents_any w4 B R b0 r ⟨t, [], Ln.start t, t.st, []⟩ (Wd (fun _ => False) w3 w4) hLo (HR3.out.lower hb4) (fun x hx => by have := hF4 x hx; omega) hb0 (hq5.2 hs) (fun wx hx => HG.out wx (hb04.trans hx))
      have HF4 : Hid (∀ x, Wd (fun _ => False) w3 w4 x → w3.heap.size ≤ x ∧ x < w4.heap.size) := hF4
      have HB4 : Hid (Below b0 w w4 ∧ w3.heap.size ≤ w4.heap.size ∧ R < w3.heap.size ∧ N < w3.heap.size ∧ w.heap.size ≤ w3.heap.size) := ⟨hb04, hq4, by omega, by omega, by omega⟩
      generalize hsv0 : (⟨t, [], Ln.start t, t.st, []⟩ : Sv) = sv0 at *
      generalize hF0 : Wd (fun _ => False) w3 w4 = F0 at *
      have HS0 : Hid (sv0.t = t ∧ sv0.L = []) := by rw [← hsv0]; exact ⟨rfl, rfl⟩
      clear hO hLo hb4 hq1 hq2 hq3 hq4 hq5 hF4 hb04 hsv0 hF0 HB3 HR3
      go_wp2_with fail
      refine hEv.mono ?_
      rintro x w5 ⟨hb5, ⟨s1, sv1, rfl, htl1, hne1, hR5, hL5, hl1, hl2, ht1, hd1⟩ | ⟨rfl, htl1⟩⟩
      · have hq1 := HB4.out
        have hq5 := HLr.out
        have hz5 := hb5.size
        have hF5 := wd_in HF4.out hq1.2.1 hz5
        have hb05 : Below b0 w w5 := HB4.out.1.trans hb5
        have hNw := readnow_any w5 B R b0 s1 sv1 (Wd F0 w4 w5) hL5 hR5 (fun x hx => by have := hF5 x hx; omega) hb0 ((hl1.trans hq5).2 hs) hne1 (fun wx hx => (HG.out wx (hb05.trans hx)).1)
        have HTo1 : Hid (told s = tl 1 (some sv1) s1) := HTo.out.trans htl1
        have HF5 : Hid (∀ x, Wd F0 w4 w5 x → w3.heap.size ≤ x ∧ x < w5.heap.size) := hF5
        have HB5 : Hid (Below b0 w w5 ∧ w3.heap.size ≤ w5.heap.size) := ⟨hb05, by omega⟩
        have HS1b : Hid (sv1.t = t ∧ sv1.L.length + s1.length ≤ r.length ∧ Lq s1 s) := ⟨ht1.trans HS0.out.1, by have := HS0.out.2; rw [this] at hl2; simpa using hl2, hl1.trans hq5⟩
        generalize hF0 : Wd F0 w4 w5 = F1 at *
        clear hEv htl1 hne1 hR5 hL5 hl1 hl2 ht1 hd1 hq1 hq5 hz5 hF5 hb05 hb5 hF0
        go_wp2_with fail
        refine hNw.mono ?_
        rintro x w6 ⟨hb6, ⟨s2, sv2, rfl, htl2, hR6, hL6, hl1, hLe, ht2, hd1, hd2⟩ | ⟨rfl, htl2⟩⟩
        · have hq1 := HB4.out
          have hq2 := HB5.out
          have hq5 := HLr.out
          have hq6 := HS1b.out
          have hz6 := hb6.size
          have hF6 := wd_in HF5.out hq2.2 hz6
          have hb06 : Below b0 w w6 := HB5.out.1.trans hb6
          have hst := HSt.out
          rw [hq6.1] at hd1 hd2
          have hBk := readbook_any w6 B R b0 s2 sv2 (Wd F1 w5 w6) hL6 hR6 (fun x hx => by have := hF6 x hx; omega) hb0 ((hl1.trans hq6.2.2).2 hs) (by rw [hLe]; have := hs.2; have := hl1.1; have := hq5.1; omega) (by omega) (by omega) (fun wx hx => (HG.out wx (hb06.trans hx)).1)
          have HTo2 : Hid (told s = tl 4 (some sv2) s2) := (HTo1.out.trans htl2).trans (tl_34 _ _)
          have HF6 : Hid (∀ x, Wd F1 w5 w6 x → w3.heap.size ≤ x ∧ x < w6.heap.size) := hF6
          have HB6 : Hid (Below b0 w w6 ∧ w3.heap.size ≤ w6.heap.size ∧ Lq s2 s) := ⟨hb06, by omega, hl1.trans hq6.2.2⟩
          generalize hF0 : Wd F1 w5 w6 = F2 at *
          clear hNw htl2 hR6 hL6 hl1 hLe ht2 hd1 hd2 hq1 hq2 hq5 hq6 hz6 hF6 hb06 hst hb6 hF0
          go_wp2_with fail
          refine hBk.mono ?_
          rintro x w7 ⟨hb7, ⟨s3, sv3, rfl, htl3, hne3, hR7, hL7, hl1, hl2, ht3, hd3⟩ | ⟨rfl, htl3⟩⟩
          · have hq1 := HB4.out
            have hq2 := HB6.out
            have hz7 := hb7.size
            have hF7 := wd_in HF6.out hq2.2.1 hz7
            have hb07 : Below b0 w w7 := HB6.out.1.trans hb7
            have hEd := read_any w7 R s3 wEnd N 0 0 [] (.slice none 0 0) hR7 ((hl1.trans hq2.2.2).2 hs) ⟨none, 0, rfl, Nat.le_refl _, fun k hk => absurd hk (Nat.not_lt_zero k)⟩ (fun k v hk => by simp at hk) (Nat.le_refl _) (by have := HN.out; omega) (noB_wdk 5 (by omega)) (noL_wdk 5 (by omega)) (by decide) (by omega) (HG.out _ hb07).1
            have HTo3 : Hid (told s = tl 4 (some sv3) s3) := HTo2.out.trans htl3
            have HF7 : Hid (∀ x, Wd F2 w6 w7 x → w3.heap.size ≤ x ∧ x < w7.heap.size) := hF7
            have HB7 : Hid (Below b0 w w7 ∧ w3.heap.size ≤ w7.heap.size) := ⟨hb07, by omega⟩
            have HL7 : Hid (IsL w7 B sv3 (Wd F2 w6 w7)) := hL7
            have HNe3 : Hid (¬ ∃ ns r, Nx s3 wEntry 3 ns r) := hne3
            generalize hF0 : Wd F2 w6 w7 = F3 at *
            clear hBk htl3 hne3 hR7 hL7 hl1 hl2 ht3 hd3 hq1 hq2 hz7 hF7 hb07 hb7 hF0
            go_wp2_with fail
            refine hEd.mono ?_
            rintro x w8 hx
            rcases hx with ⟨ns, s4, hnx, rfl, hR8, _, hk8⟩ | ⟨hno, rfl, hb8⟩
            · have hns : ns = [] := List.length_eq_zero_iff.1 hnx.2.1
              subst hns
              have hq1 := HB4.out
              have HB8 : Hid (Below b0 w w8) := by
                have hq2 := HB7.out
                refine ⟨hk8.os.trans hq2.1.os, hk8.tape.trans hq2.1.tape, hk8.output.trans hq2.1.output, Nat.le_trans hq2.1.size hk8.size, fun b hb => (hk8.block b ?_ ?_).trans (hq2.1.block b hb)⟩
                · omega
                · intro h
                  have := HN.out
                  rcases h with h | h <;> omega
              have HL8 : Hid (IsL w8 B sv3 F3) := HL7.out.keep hk8 (fun b hb h => by
                have := HF7.out b hb
                rcases h with h | h <;> omega)
              have HTo4 : Hid (told s = if s4 = [] then some sv3 else none) := by
                refine HTo3.out.trans (Eq.trans ?_ (tl_end _ _))
                exact tl_go (j := 4) (k := 5) (by omega) hnx (by decide) rfl
              have HZ8 : Hid (w7.heap.size ≤ w8.heap.size) := hk8.size
              have hAe := atend_any w8 R s4 hR8
              obtain ⟨y, hy⟩ : ∃ y, decide (s4 = []) = y := ⟨_, rfl⟩
              rw [hy] at hAe
              have HE : Hid (RlPost w b0 s (.returned (.tuple #[.pointer (some ⟨B, 0, none⟩), .bool y])) w8) := by
                refine ⟨HB8.out, ?_⟩
                have h4 := HTo4.out
                cases y with
                | true =>
                  rw [if_pos (of_decide_eq_true hy)] at h4
                  exact .inl ⟨sv3, B, F3, h4, rfl, HL8.out, fun x hx => by have := HF7.out x hx; have := HZ8.out; omega⟩
                | false =>
                  rw [if_neg (of_decide_eq_false hy)] at h4
                  exact .inr ⟨h4, _, rfl⟩
              clear hEd hnx hR8 hk8 hq1 hy
              go_wp2_with fail
              refine hAe.mono ?_
              rintro x w9 ⟨rfl, rfl⟩
              clear hAe
              go_wp2
              go_ret2
              exact HE.out
            · have HE : Hid (RlPost w b0 s (.returned (.tuple #[.pointer (some ⟨B, 0, none⟩), .bool false])) w8) := by
                refine ⟨HB7.out.1.trans (hb8.mono (by have := HB7.out; have := HB4.out; omega)), .inr ⟨HTo3.out.trans (tl_none (by decide) (fun k hk hn => ?_)), _, rfl⟩⟩
                match k, hk with
                | 0, _ => exact absurd hn (by decide)
                | 1, _ => exact absurd hn (by decide)
                | 2, _ => exact absurd hn (by decide)
                | 3, _ => exact absurd hn (by decide)
                | 4, _ => exact HNe3.out
                | 5, _ => exact hno
              clear hEd hno hb8
              go_wp2
              go_ret2
              exact HE.out
          · have HE : Hid (RlPost w b0 s (.returned (.tuple #[.pointer (some ⟨B, 0, none⟩), .bool false])) w7) := ⟨HB6.out.1.trans hb7, .inr ⟨HTo2.out.trans htl3, _, rfl⟩⟩
            clear hBk hb7 htl3
            go_wp2
            go_ret2
            exact HE.out
        · have HE : Hid (RlPost w b0 s (.returned (.tuple #[.pointer (some ⟨B, 0, none⟩), .bool false])) w6) := ⟨HB5.out.1.trans hb6, .inr ⟨HTo1.out.trans htl2, _, rfl⟩⟩
          clear hNw hb6 htl2
          go_wp2
          go_ret2
          exact HE.out
      · have HE : Hid (RlPost w b0 s (.returned (.tuple #[.pointer (some ⟨B, 0, none⟩), .bool false])) w5) := ⟨HB4.out.1.trans hb5, .inr ⟨HTo.out.trans htl1, _, rfl⟩⟩
        clear hEv hb5 htl1
        go_wp2
        go_ret2
        exact HE.out
  · have HE : Hid (RlPost w b0 s (.returned (.tuple #[.pointer none, .bool false])) w3) := by
      refine ⟨HB2.out.1.trans (hb3.mono (by have := HB2.out.2; have := HS1.out; omega)), .inr ⟨?_, _, rfl⟩⟩
      rw [told_tl]
      refine tl_none (by decide) (fun k hk hn => ?_)
      match k, hk with
      | 0, _ => exact hno
      | 1, _ => exact absurd hn (by decide)
      | 2, _ => exact absurd hn (by decide)
      | 3, _ => exact absurd hn (by decide)
      | 4, _ => exact absurd hn (by decide)
      | 5, _ => exact absurd hn (by decide)
    clear hno hb3
    go_wp2
    go_ret2
    exact HE.out
end Go.Proofs.YtanndhoimpnhpaaGreatDoor
namespace Go.Proofs.YtanndhoimpnhpaaGreatDoor
open Go.ChangeShapes Go.WideShapes Go.ChangeAt Go.RowKit Lg Cal Txt
end Go.Proofs.YtanndhoimpnhpaaGreatDoor
namespace Go.Proofs.YtanndhoimpnhpaaGreatDoor
open Go.ChangeShapes Go.WideShapes Go.ChangeAt Go.RowKit Go.WideMaps Go.Maps Lg Cal
def IsD (w : World) (B : Nat) (s : Sv) (F : Nat → Prop) : Prop := Dc w B s.t s.l s.g s.day s.L F
end Go.Proofs.YtanndhoimpnhpaaGreatDoor
namespace Go.Proofs.YtanndhoimpnhpaaGreatDoor
open Go.ChangeShapes Go.WideShapes Go.ChangeAt Go.RowKit Go.WideMaps Go.Maps Lg Cal
end Go.Proofs.YtanndhoimpnhpaaGreatDoor
namespace Go.Proofs.YtanndhoimpnhpaaGreatDoor
open Go.ChangeShapes Go.WideShapes Go.ChangeAt Go.RowKit Go.WideMaps Go.Maps Lg Cal
end Go.Proofs.YtanndhoimpnhpaaGreatDoor
namespace Go.Proofs.YtanndhoimpnhpaaGreatDoor
open Go.ChangeShapes Go.WideShapes Go.ChangeAt Go.RowKit Go.WideMaps Go.Maps Lg Cal
end Go.Proofs.YtanndhoimpnhpaaGreatDoor
namespace Go.Proofs.YtanndhoimpnhpaaGreatDoor
open Go.ChangeShapes Go.WideShapes Go.ChangeAt Go.RowKit Lg Cal
theorem infoByte : (Tryz.prog.info? 5).map (fun i => (i.zero, i.size, i.bytes)) = some (some (.int .u8 0), 1, 1) := by kernel_rfl
set_option maxRecDepth 10000 in
set_option maxHeartbeats 4000000 in
theorem wline_any (w : World) (W : Nat) (txt word : List UInt8) (nv : Value) (ns : List Int) (hW : Wr w W txt) (hN : Nm w W nv ns) (hr : ∀ n ∈ ns, InR n) (hl : txt.length + word.length + 22 * ns.length ≤ 100000000000000) (htab : Lib.TabBelow Tryz.prog W w "internal/strconv.uint64pow10" .u64 Lib.pow10Tab) :
    Calls Tryz.prog 42 #[.pointer (some ⟨W, 0, none⟩), .string (bs word), nv] w fun e w' => e = .returned (.tuple #[]) ∧ Wr w' W (txt ++ lineB word ns) ∧ Wf W w w' := by
  obtain ⟨i0, hi, hz0, hz1, hz2⟩ := info_parts infoByte
  obtain ⟨v, hA, ho⟩ := hW
  obtain ⟨p0, cap0, rfl⟩ := own_slice ho
  obtain ⟨pn, capn, rfl, hcapn, hcells⟩ := id hN
  have HN : Hid (∀ wx, Wf W w wx → ∀ k (hk : k < ns.length), ∃ b o c d, pn = some ⟨b, o, none⟩ ∧ wx.cell? ⟨b, o + k, none⟩ = some (.pointer (some ⟨c, d, none⟩)) ∧ wx.cell? ⟨c, d, none⟩ = some (.int .i64 ns[k]) ∧ Sf wx W b ∧ Sf wx W c) := fun wx hx => by
    obtain ⟨p, cap, h1, _, h3⟩ := hN.keep hx
    injection h1 with e1 _ _
    subst e1
    exact h3
  have HR : Hid (∀ n ∈ ns, InR n) := hr
  have HTab : Hid (∀ wx, Wf W w wx → Lib.TabBelow Tryz.prog (W + 1) wx "internal/strconv.uint64pow10" .u64 Lib.pow10Tab) := fun wx hx => tab_on htab hx
  have hWl : W < w.heap.size := At.lt hA
  have c0 : w.cell? ⟨W, 0, none⟩ = some (.slice p0 txt.length cap0) := hA.cell 0 rfl
  have HSz : Hid ((bs word).size = word.length) := bs_size word
  have hsz : txt.length + (bs word).size ≤ 100000000000000 := by rw [bs_size]; omega
  have HSt : Hid (Lib.strCells (bs word) = Lib.byteCells word) := by show _ = _; rw [Lib.strCells_eq, bs_list]
  have HA0 : Hid (At w W [.slice p0 txt.length cap0]) := hA
  have HO0 : Hid (w.ownsRow (W + 1) 5 1 (.slice p0 txt.length cap0) txt.length (Lib.byteCells txt)) := ho
  clear hN hcells hr htab hA hcapn
  generalize bs word = Wo at *
  go_enter Tryz.func42, Tryz.ntmps42
  go_wp2_with (at_builtin; refine Lib.wpList_append_own_string _ rfl _ _ 101 9 rfl (W + 1) 5 i0 Tryz.underlying101 Tryz.underlying9 hi hz0 hz1 hz2 _ _ _ rfl ho Wo rfl ?c1 ?c2 ?c3 ?_)
  case c1 => unfold maxLen; omega
  case c2 => omega
  case c3 => omega
  intro v1 w1 ho1 hg1 _
  obtain ⟨aw1, hf1, a2, o2⟩ := Wr.put HA0.out HO0.out hg1 ho1
  obtain ⟨p1, cap1, rfl⟩ := own_slice ho1
  have c1 : w1.cell? ⟨W, 0, none⟩ = some (.slice p0 txt.length cap0) := aw1.cell 0 rfl
  have f1 : w1.frozen? ⟨W, 0, none⟩ = false := aw1.free 0 rfl
  have HW2 : Hid (Wr (w1.setCell ⟨W, 0, none⟩ (.slice p1 (txt.length + Wo.size) cap1)) W (txt ++ word)) := by
    refine ⟨_, a2, ?_⟩
    rw [List.length_append, Lib.byteCells_append, ← HSt.out, ← HSz.out]
    exact o2
  have HF2 : Hid (Wf W w (w1.setCell ⟨W, 0, none⟩ (.slice p1 (txt.length + Wo.size) cap1))) := hf1
  clear c0 ho ho1 hg1 aw1 hf1 a2 o2 HA0 HO0
  go_wp2
  go_loopw [7, 19] (fun _ s19 wr => ∃ k : Nat, k ≤ ns.length ∧ s19 = .int .i64 k ∧ Wr wr W (txt ++ word ++ lnum (ns.take k)) ∧ Wf W w wr) (fun _ s19 _ => ns.length - (intOf s19).toNat)
  case atStart => exact ⟨0, Nat.zero_le _, rfl, by simpa [lnum] using HW2.out, HF2.out⟩
  case round =>
    clear HW2 HF2 c1 f1
    obtain ⟨k, hk, rfl, ⟨v, hA, ho⟩, hf⟩ := hrel
    have HF : Hid (Wf W w wr) := hf
    have hS1 : (lnum (ns.take k)).length ≤ 22 * ns.length := by
      have := lnum_len (ns.take k) (fun n hn => HR.out n (List.mem_of_mem_take hn))
      rw [List.length_take] at this
      omega
    have hS2 : (txt ++ word ++ lnum (ns.take k)).length ≤ 100000000000000 := by rw [List.length_append, List.length_append]; omega
    clear hS1
    have hWr : W < wr.heap.size := At.lt hA
    obtain ⟨p2, cap2, rfl⟩ := own_slice ho
    clear hf
    by_cases hlt : k < ns.length
    · have zk : (k : Int) < (ns.length : Int) := by omega
      obtain ⟨b, o, c, d, rfl, hb1, hb2, hb3, hb4⟩ := HN.out wr HF.out k hlt
      have HTk : Hid (txt ++ word ++ lnum (ns.take (k + 1)) = (txt ++ word ++ lnum (ns.take k) ++ [32]) ++ Lib.itoa ns[k]) := by
        show _ = _
        rw [lnum_take ns k hlt]
        simp
      have HIn : Hid (InR ns[k]) := HR.out _ (List.getElem_mem hlt)
      have HSf : Hid (Sf wr W c) := hb4
      have HCn : Hid (wr.cell? ⟨c, d, none⟩ = some (.int .i64 ns[k])) := hb2
      clear hb3 hb2 hb4
      generalize ns[k] = nn at *
      have HX : Hid (txt ++ word ++ lnum (ns.take k) = txt ++ word ++ lnum (ns.take k)) := rfl
      generalize hX : txt ++ word ++ lnum (ns.take k) = X at *
      clear hX HX
      have c0 : wr.cell? ⟨W, 0, none⟩ = some (.slice p2 X.length cap2) := hA.cell 0 rfl
      have HA0 : Hid (At wr W [.slice p2 X.length cap2]) := hA
      have hB : Below wr.heap.size wr (wr.alloc (.cells #[.int .u8 32] 5)) := (Below.refl _ _).alloc (Nat.le_refl _) _
      have HFa : Hid (Wf W wr (wr.alloc (.cells #[.int .u8 32] 5))) := Wf.below hB (by omega)
      have hA1 : At (wr.alloc (.cells #[.int .u8 32] 5)) W [.slice p2 X.length cap2] := At.keep (S := fun _ => False) hA (Keep.below hB) (fun x => x)
      have ho1 : (wr.alloc (.cells #[.int .u8 32] 5)).ownsRow (W + 1) 5 1 (.slice p2 X.length cap2) X.length (Lib.byteCells X) := own_keep (S := fun _ => False) ho (Keep.below hB) (fun _ _ x => x)
      have hne : ∀ i u, [Value.int .u8 32][i]? = some u → (wr.alloc (.cells #[.int .u8 32] 5)).cell? ((⟨wr.heap.size, 0, none⟩ : Addr).add i) = some u := fun i u hu => by
        have := (At.alloc wr [Value.int .u8 32] 5 i u hu).1
        rw [Addr.add_lit, Nat.zero_add]
        exact this
      clear hA ho
      go_upto_region 4 with fail
      refine wp_region_lit ?_
      refine wpList_val (.pointer (some ⟨W, 0, none⟩)) wr rfl rfl ?_
      simp only [Act.put, List.setIfInBounds_toArray, List.set_cons_zero, List.set_cons_succ]
      refine wpList_val (.pointer (some ⟨W, 0, none⟩)) wr rfl rfl ?_
      simp only [Act.put, List.setIfInBounds_toArray, List.set_cons_zero, List.set_cons_succ]
      refine wpList_val (.pointer (some ⟨W, 0, none⟩)) wr rfl (by go_simp) ?_
      simp only [Act.put, List.setIfInBounds_toArray, List.set_cons_zero, List.set_cons_succ]
      refine wpList_val (.pointer (some ⟨W, 0, none⟩)) wr rfl (by go_simp) ?_
      simp only [Act.put, List.setIfInBounds_toArray, List.set_cons_zero, List.set_cons_succ]
      refine wpList_val (.slice p2 X.length cap2) wr rfl (by go_simp) ?_
      simp only [Act.put, List.setIfInBounds_toArray, List.set_cons_zero, List.set_cons_succ]
      refine wpList_val (.slice (some ⟨wr.heap.size, 0, none⟩) 1 1) (wr.alloc (.cells #[.int .u8 32] 5)) rfl (by kernel_rfl) ?_
      simp only [Act.put, List.setIfInBounds_toArray, List.set_cons_zero, List.set_cons_succ]
      refine wpList_append_own _ rfl (.tmp 27) (.tmp 28) 101 rfl (W + 1) 5 i0 (.int .u8 0) 1 1 Tryz.underlying101 hi hz0 hz1 hz2 rfl (by omega) _ X.length _ rfl ho1 ⟨wr.heap.size, 0, none⟩ 1 1 _ rfl rfl hne (fun u hu => ?_) (by unfold maxLen; omega) (by omega) (by simp; omega) ?_
      · rw [List.mem_singleton] at hu
        subst hu
        rfl
      intro v3 w3 ho3 hg3 _
      obtain ⟨aw3, hf3, a4, o4⟩ := Wr.put hA1 ho1 hg3 ho3
      obtain ⟨p3, cap3, rfl⟩ := own_slice ho3
      have c3 : w3.cell? ⟨W, 0, none⟩ = some (.slice p2 X.length cap2) := aw3.cell 0 rfl
      have f3 : w3.frozen? ⟨W, 0, none⟩ = false := aw3.free 0 rfl
      have HF4 : Hid (Wf W wr (w3.setCell ⟨W, 0, none⟩ (.slice p3 (X.length + 1) cap3))) := HFa.out.trans hf3
      have HA4 : Hid (At (w3.setCell ⟨W, 0, none⟩ (.slice p3 (X.length + 1) cap3)) W [.slice p3 (X.length + 1) cap3]) := a4
      have HO4 : Hid ((w3.setCell ⟨W, 0, none⟩ (.slice p3 (X.length + 1) cap3)).ownsRow (W + 1) 5 1 (.slice p3 (X.length + 1) cap3) (X.length + 1) (Lib.byteCells (X ++ [32]))) := by
        show World.ownsRow _ _ _ _ _ _ _
        rw [Lib.byteCells_append]
        exact o4
      clear ho3 hg3 aw3 hf3 a4 o4 hA1 ho1 hne HFa hB HA0 c0
      simp only [Act.put, List.setIfInBounds_toArray, List.set_cons_zero, List.set_cons_succ]
      go_upto_region 5 with fail
      clear c3 f3 hb1
      generalize w3.setCell ⟨W, 0, none⟩ (.slice p3 (X.length + 1) cap3) = w4 at *
      have HF5 : Hid (Wf W wr w4.drew) := HF4.out.drew
      have HA5 : Hid (At w4.drew W [.slice p3 (X.length + 1) cap3]) := HA4.out.drew
      have HO5 : Hid (w4.drew.ownsRow (W + 1) 5 1 (.slice p3 (X.length + 1) cap3) (X.length + 1) (Lib.byteCells (X ++ [32]))) := HO4.out.drew
      have HCx : Hid (∀ wx, Wf W wr wx → wx.cell? ⟨c, d, none⟩ = some (.int .i64 nn)) := fun wx hx => (World.cell?_of_block (w := wr) (a := ⟨c, d, none⟩) (HSf.out.same hx)).trans HCn.out
      refine wp_region_held_drew (S := fun wx => wx.cell? ⟨c, d, none⟩ = some (.int .i64 nn)) (by kernel_rfl) (HCx.out _ HF5.out) (fun hHeld => ?_)
      clear HF4 HA4 HO4
      generalize w4.drew = U0 at *
      refine wpAnyH_take (i := 0) (v := (.pointer (some ⟨W, 0, none⟩))) rfl (by kernel_rfl) (by kernel_rfl) (by kernel_rfl) (fun _ _ _ h => h) (Or.inl ⟨by rfl, fun wx hSw => by kernel_rfl⟩) (by assumption) ?_
      simp only [Act.put, List.getElem_toArray, List.getElem_cons_zero, List.setIfInBounds_toArray, List.set_cons_zero, List.set_cons_succ]
      refine wpAnyH_take (i := 1) (v := (.pointer (some ⟨W, 0, none⟩))) rfl (by kernel_rfl) (by kernel_rfl) (by kernel_rfl) (fun _ _ _ h => h) (Or.inl ⟨by rfl, fun wx hSw => by kernel_rfl⟩) (by assumption) ?_
      simp only [Act.put, List.getElem_toArray, List.getElem_cons_succ, List.getElem_cons_zero, List.setIfInBounds_toArray, List.set_cons_zero, List.set_cons_succ]
      refine wpAnyH_take (i := 2) (v := (.pointer (some ⟨W, 0, none⟩))) rfl (by kernel_rfl) (by kernel_rfl) (by kernel_rfl) (fun _ _ _ h => h) (Or.inl ⟨by rfl, fun wx hSw => by ((try dsimp only at hSw); go_simp)⟩) (by assumption) ?_
      simp only [Act.put, List.getElem_toArray, List.getElem_cons_succ, List.getElem_cons_zero, List.setIfInBounds_toArray, List.set_cons_zero, List.set_cons_succ]
      refine wpAnyH_take (i := 3) (v := (.pointer (some ⟨W, 0, none⟩))) rfl (by kernel_rfl) (by kernel_rfl) (by kernel_rfl) (fun _ _ _ h => h) (Or.inl ⟨by rfl, fun wx hSw => by ((try dsimp only at hSw); go_simp)⟩) (by assumption) ?_
      simp only [Act.put, List.getElem_toArray, List.getElem_cons_succ, List.getElem_cons_zero, List.setIfInBounds_toArray, List.set_cons_zero, List.set_cons_succ]
      refine wpAnyH_take (i := 5) (v := (.pointer (some ⟨c, d, none⟩))) rfl (by kernel_rfl) (by kernel_rfl) (by kernel_rfl) (fun _ _ _ h => h) (Or.inl ⟨by rfl, fun wx hSw => by kernel_rfl⟩) (by assumption) ?_
      simp only [Act.put, List.getElem_toArray, List.getElem_cons_succ, List.getElem_cons_zero, List.setIfInBounds_toArray, List.set_cons_zero, List.set_cons_succ]
      refine wpAnyH_take (i := 6) (v := (.pointer (some ⟨c, d, none⟩))) rfl (by kernel_rfl) (by kernel_rfl) (by kernel_rfl) (fun _ _ _ h => h) (Or.inl ⟨by rfl, fun wx hSw => by ((try dsimp only at hSw); go_simp)⟩) (by assumption) ?_
      simp only [Act.put, List.getElem_toArray, List.getElem_cons_succ, List.getElem_cons_zero, List.setIfInBounds_toArray, List.set_cons_zero, List.set_cons_succ]
      refine wpAnyH_take (i := 7) (v := (.int .i64 nn)) rfl (by kernel_rfl) (by kernel_rfl) (by kernel_rfl) (fun _ _ _ h => h) (Or.inl ⟨by rfl, fun wx hSw => by (have hc := hSw; go_simp)⟩) (by assumption) ?_
      simp only [Act.put, List.getElem_toArray, List.getElem_cons_succ, List.getElem_cons_zero, List.setIfInBounds_toArray, List.set_cons_zero, List.set_cons_succ]
      refine wpAnyH_ready (rs := [4]) (by kernel_rfl) (by simp) ?_
      refine AllReadyH.cons rfl (fun K hK => ?_) AllReadyH.nil
      rw [if_pos (by rfl)]
      refine wp_valD (.slice p3 (X.length + 1) cap3) U0 (by (have hc := HA5.out.cell 0 rfl; go_simp)) ?_
      refine hK.out _ _ hHeld (fun hHeld => ?_)
      clear hK K
      try simp only [Act.put, List.getElem_toArray, List.getElem_cons_succ, List.getElem_cons_zero, List.setIfInBounds_toArray, List.set_cons_zero, List.set_cons_succ]
      refine wpAnyH_ready (rs := [8]) (by kernel_rfl) (by simp) ?_
      refine AllReadyH.cons rfl (fun K hK => ?_) AllReadyH.nil
      have hC := Tryz.strconv_AppendInt_10 (W + 1) (X.length + 1) nn HIn.out.1 HIn.out.2 (.slice p3 (X.length + 1) cap3) (Lib.byteCells (X ++ [32])) U0 HO5.out (At.lt HA5.out) (by omega) (HTab.out _ (HF.out.trans HF5.out))
      go_simp
      refine hC.mono ?_
      rintro e w5 ⟨v5, rfl, ho5, hb5, hk5⟩
      obtain ⟨aw5, hf5, a6, o6⟩ := Wr.put2 HA5.out hb5 hk5 ho5
      have hf5b : Wf W U0 w5 := ⟨hb5.mono (Nat.le_succ W), fun k o h1 _ h3 => hk5 k o h1 (fun e => by cases e) h3⟩
      have HW6 : Hid (Wr (w5.setCell ⟨W, 0, none⟩ v5) W (txt ++ word ++ lnum (ns.take (k + 1)))) := by
        refine ⟨_, a6, ?_⟩
        rw [HTk.out, Lib.byteCells_append, List.length_append, List.length_append]
        exact o6
      have HF6 : Hid (Wf W w (w5.setCell ⟨W, 0, none⟩ v5)) := HF.out.trans (HF5.out.trans hf5)
      have hS5 := HCx.out w5 (HF5.out.trans hf5b)
      have HS6 : Hid ((w5.setCell ⟨W, 0, none⟩ v5).cell? ⟨c, d, none⟩ = some (.int .i64 nn)) := HCx.out _ (HF5.out.trans hf5)
      obtain ⟨p5, cap5, rfl⟩ := own_slice ho5
      have c5 : w5.cell? ⟨W, 0, none⟩ = some (.slice p3 (X.length + 1) cap3) := aw5.cell 0 rfl
      have f5 : w5.frozen? ⟨W, 0, none⟩ = false := aw5.free 0 rfl
      clear hC ho5 hb5 hk5 aw5 hf5 a6 o6 hf5b HA5 HO5 HF5 hHeld
      go_wp2_with fail
      refine hK.out _ _ hS5 (fun hHeld => ?_)
      clear hK K hS5
      try simp only [Act.put, List.getElem_toArray, List.getElem_cons_succ, List.getElem_cons_zero, List.setIfInBounds_toArray, List.set_cons_zero, List.set_cons_succ]
      refine wpAnyH_take (i := 9) (v := (.pointer (some ⟨W, 0, none⟩))) rfl (by kernel_rfl) (by kernel_rfl) (by kernel_rfl) (fun _ _ _ h => h) (Or.inl ⟨by rfl, fun wx hSw => by ((try dsimp only at hSw); go_simp)⟩) (by assumption) ?_
      simp only [Act.put, List.getElem_toArray, List.getElem_cons_succ, List.getElem_cons_zero, List.setIfInBounds_toArray, List.set_cons_zero, List.set_cons_succ]
      refine wpAnyH_take (i := 10) (v := (.pointer (some ⟨W, 0, none⟩))) rfl (by kernel_rfl) (by kernel_rfl) (by kernel_rfl) (fun _ _ _ h => h) (Or.inl ⟨by rfl, fun wx hSw => by ((try dsimp only at hSw); go_simp)⟩) (by assumption) ?_
      simp only [Act.put, List.getElem_toArray, List.getElem_cons_succ, List.getElem_cons_zero, List.setIfInBounds_toArray, List.set_cons_zero, List.set_cons_succ]
      refine wpAnyH_ready (rs := [11]) (by kernel_rfl) (by simp) ?_
      refine AllReadyH.cons rfl (fun K hK => ?_) AllReadyH.nil
      rw [if_pos (by rfl)]
      refine wp_skipD (w5.setCell ⟨W, 0, none⟩ (.slice p5 (X.length + 1 + (Lib.itoa nn).length) cap5)) (by go_simp) ?_
      refine hK.out _ _ HS6.out (fun _ => ?_)
      clear hK K hHeld HS6 c5 f5
      refine wpAnyH_done (by kernel_rfl) ?_ _
      generalize w5.setCell ⟨W, 0, none⟩ (.slice p5 (X.length + 1 + (Lib.itoa nn).length) cap5) = w6 at *
      go_wp2
      exact ⟨⟨k + 1, hlt, rfl, HW6.out, HF6.out⟩, by simp [intOf]; omega⟩
    · obtain rfl : k = ns.length := by omega
      have zk : ¬ (ns.length : Int) < (ns.length : Int) := by omega
      have HEq : Hid (txt ++ lineB word ns = (txt ++ word ++ lnum (ns.take ns.length)) ++ [10]) := by show _ = _; rw [List.take_length]; simp [lineB]
      generalize hX : txt ++ word ++ lnum (ns.take ns.length) = X at *
      clear hX
      have c0 : wr.cell? ⟨W, 0, none⟩ = some (.slice p2 X.length cap2) := hA.cell 0 rfl
      have hB : Below wr.heap.size wr (wr.alloc (.cells #[.int .u8 10] 5)) := (Below.refl _ _).alloc (Nat.le_refl _) _
      have HFa : Hid (Wf W wr (wr.alloc (.cells #[.int .u8 10] 5))) := Wf.below hB (by omega)
      have hA1 : At (wr.alloc (.cells #[.int .u8 10] 5)) W [.slice p2 X.length cap2] := At.keep (S := fun _ => False) hA (Keep.below hB) (fun x => x)
      have ho1 : (wr.alloc (.cells #[.int .u8 10] 5)).ownsRow (W + 1) 5 1 (.slice p2 X.length cap2) X.length (Lib.byteCells X) := own_keep (S := fun _ => False) ho (Keep.below hB) (fun _ _ x => x)
      have hne : ∀ i u, [Value.int .u8 10][i]? = some u → (wr.alloc (.cells #[.int .u8 10] 5)).cell? ((⟨wr.heap.size, 0, none⟩ : Addr).add i) = some u := fun i u hu => by
        have := (At.alloc wr [Value.int .u8 10] 5 i u hu).1
        rw [Addr.add_lit, Nat.zero_add]
        exact this
      clear hA ho
      go_upto_region 7 with fail
      refine wp_region_lit ?_
      refine wpList_val (.pointer (some ⟨W, 0, none⟩)) wr rfl rfl ?_
      simp only [Act.put, List.setIfInBounds_toArray, List.set_cons_zero, List.set_cons_succ]
      refine wpList_val (.pointer (some ⟨W, 0, none⟩)) wr rfl rfl ?_
      simp only [Act.put, List.setIfInBounds_toArray, List.set_cons_zero, List.set_cons_succ]
      refine wpList_val (.pointer (some ⟨W, 0, none⟩)) wr rfl (by go_simp) ?_
      simp only [Act.put, List.setIfInBounds_toArray, List.set_cons_zero, List.set_cons_succ]
      refine wpList_val (.pointer (some ⟨W, 0, none⟩)) wr rfl (by go_simp) ?_
      simp only [Act.put, List.setIfInBounds_toArray, List.set_cons_zero, List.set_cons_succ]
      refine wpList_val (.slice p2 X.length cap2) wr rfl (by go_simp) ?_
      simp only [Act.put, List.setIfInBounds_toArray, List.set_cons_zero, List.set_cons_succ]
      refine wpList_val (.slice (some ⟨wr.heap.size, 0, none⟩) 1 1) (wr.alloc (.cells #[.int .u8 10] 5)) rfl (by kernel_rfl) ?_
      simp only [Act.put, List.setIfInBounds_toArray, List.set_cons_zero, List.set_cons_succ]
      refine wpList_append_own _ rfl (.tmp 48) (.tmp 49) 101 rfl (W + 1) 5 i0 (.int .u8 0) 1 1 Tryz.underlying101 hi hz0 hz1 hz2 rfl (by omega) _ X.length _ rfl ho1 ⟨wr.heap.size, 0, none⟩ 1 1 _ rfl rfl hne (fun u hu => ?_) (by unfold maxLen; omega) (by omega) (by simp; omega) ?_
      · rw [List.mem_singleton] at hu
        subst hu
        rfl
      intro v3 w3 ho3 hg3 _
      obtain ⟨aw3, hf3, a4, o4⟩ := Wr.put hA1 ho1 hg3 ho3
      obtain ⟨p3, cap3, rfl⟩ := own_slice ho3
      have c3 : w3.cell? ⟨W, 0, none⟩ = some (.slice p2 X.length cap2) := aw3.cell 0 rfl
      have f3 : w3.frozen? ⟨W, 0, none⟩ = false := aw3.free 0 rfl
      have HF4 : Hid (Wf W w (w3.setCell ⟨W, 0, none⟩ (.slice p3 (X.length + 1) cap3))) := HF.out.trans (HFa.out.trans hf3)
      have HW4 : Hid (Wr (w3.setCell ⟨W, 0, none⟩ (.slice p3 (X.length + 1) cap3)) W (txt ++ lineB word ns)) := by
        refine ⟨_, a4, ?_⟩
        rw [HEq.out, Lib.byteCells_append, List.length_append]
        exact o4
      clear ho3 hg3 aw3 hf3 a4 o4 hA1 ho1 hne HFa hB c0
      simp only [Act.put, List.setIfInBounds_toArray, List.set_cons_zero, List.set_cons_succ]
      go_wp2_with fail
      go_end0
      exact ⟨rfl, HW4.out, HF4.out⟩
end Go.Proofs.YtanndhoimpnhpaaGreatDoor
