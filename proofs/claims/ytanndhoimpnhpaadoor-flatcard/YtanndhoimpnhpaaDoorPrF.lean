/- What the program does in a day's beginning: what is lent first, what falls due. -/
import Derived.Test.YtanndhoimpnhpaaDoorPrE
namespace Go.Proofs.YtanndhoimpnhpaaDoor
open Go.RowKit Cal

namespace Ln
theorem Inv.fit_over {t : Terms} {L : Int} {s : Nat} {g : St} (h : Inv t L s g) (hs : s ≤ 4320) (hL : L ≤ 4100000000000) (hfn : g.fn / den t ≤ 8000000000000000000) (am : Nat → Int) : Fit (enter ⟨g, am⟩ 2 g.du) := by
  have hf := h.fit hs hL hfn am
  have hb := h.bound hs hL
  have h1 := h.pr
  have h2 := h.it
  have h3 := h.du
  have h4 := h.la
  exact ⟨hf.pr0, hf.pr1, hf.it0, hf.it1, by show 0 ≤ g.du - g.du; omega, by show g.du - g.du ≤ _; omega, by show 0 ≤ g.la + g.du; omega, by show g.la + g.du ≤ _; omega, hf.fi0, hf.fi1, hf.cr0, hf.cr1⟩
theorem Inv.can_lent {t : Terms} {L : Int} {s : Nat} {g : St} (h : Inv t L s g) (hs : s ≤ 4320) (hL : L ≤ 4100000000000) (ht : OkT t) : CanEnter ⟨g, fun _ => 0⟩ 1 t.pr := by
  have hb := h.bound hs hL
  have h1 := h.pr
  have h2 := h.it
  have h3 := h.du
  have h4 := h.la
  have := ht.pr0
  have := ht.pr1
  exact ⟨by assumption, Int.le_refl _, by show 0 + t.pr ≤ _; omega, by show g.pr + t.pr ≤ _; omega⟩
theorem Inv.can_over {t : Terms} {L : Int} {s : Nat} {g : St} (h : Inv t L s g) (hs : s ≤ 4320) (hL : L ≤ 4100000000000) : CanEnter ⟨g, fun _ => 0⟩ 2 g.du := by
  have hb := h.bound hs hL
  have h1 := h.pr
  have h2 := h.it
  have h3 := h.du
  have h4 := h.la
  exact ⟨h3, Int.le_refl _, by show 0 + g.du ≤ _; omega, by show g.la + g.du ≤ _; omega, Int.le_refl _⟩
theorem Inv.can_fall {t : Terms} {L : Int} {s : Nat} {g : St} (h : Inv t L s g) (hs : s ≤ 4320) (hL : L ≤ 4100000000000) : CanEnter (enter ⟨g, fun _ => 0⟩ 2 g.du) 3 g.it := by
  have hb := h.bound hs hL
  have h1 := h.pr
  have h2 := h.it
  have h3 := h.du
  have h4 := h.la
  exact ⟨h2, Int.le_refl _, by show 0 + g.it ≤ _; omega, by show g.du - g.du + g.it ≤ _; omega, Int.le_refl _⟩
theorem early_start {t : Terms} (cd : Int) (g : St) : early t t.st cd g = enter ⟨g, fun _ => 0⟩ 1 t.pr := by
  unfold early
  simp
theorem early_due {t : Terms} {n : Int} (cd : Int) (g : St) (hn : ¬ n = t.st) (hd : cd = t.du ∧ g.fr ≤ n) : early t n cd g = enter (enter ⟨g, fun _ => 0⟩ 2 g.du) 3 g.it := by
  unfold early
  simp only [hn, if_false, not_false_eq_true, ne_eq, true_and]
  rw [if_pos hd]
  rfl
theorem early_not {t : Terms} {n : Int} (cd : Int) (g : St) (hn : ¬ n = t.st) (hd : ¬ (cd = t.du ∧ g.fr ≤ n)) : early t n cd g = ⟨g, fun _ => 0⟩ := by
  unfold early
  simp only [hn, if_false, not_false_eq_true, ne_eq, true_and]
  rw [if_neg hd]
end Ln

set_option maxRecDepth 10000 in
set_option maxHeartbeats 1000000 in
theorem pbegin_any (w : World) (P : Nat) (t : Ln.Terms) (n : Int) (g : Ln.St) (n0 : 0 ≤ n) (n1 : n ≤ 109573) (h : Pas w P t n ⟨g, fun _ => 0⟩) (hm : Mv w) (hP : ¬ P = 1) (L : Int) (s : Nat) (hI : Ln.Inv t L s g) (hs : s ≤ 4320) (hL : L ≤ 4100000000000) (hfn : g.fn / Ln.den t ≤ 8000000000000000000) (ht : Ln.OkT t) :
    Calls Tryd.prog 64 #[.pointer (some ⟨P, 0, none⟩)] w fun e w' => e = .returned (.tuple #[]) ∧ Pas w' P t n (Ln.early t n (cdOf n) g) ∧ Keep (fun b => b = P) w w' := by
  have hf := hI.fit hs hL hfn (fun _ => 0)
  obtain ⟨c, i, f, hA⟩ := id h
  have c0 : w.cell? ⟨P, 0, none⟩ = some (.int .i64 t.st) := hA.cell 0 rfl
  have c1 : w.cell? ⟨P, 1, none⟩ = some (.int .i64 t.pr) := hA.cell 1 rfl
  have c5 : w.cell? ⟨P, 5, none⟩ = some (.int .i64 t.du) := hA.cell 5 rfl
  have c6 : w.cell? ⟨P, 6, none⟩ = some (.int .i64 n) := hA.cell 6 rfl
  have c17 : w.cell? ⟨P, 17, none⟩ = some (.int .i64 g.fr) := hA.cell 17 rfl
  by_cases hn : n = t.st
  · subst hn
    have hE := penter_any w.drew P t t.st _ h.drew hm.drew hP hf 1 t.pr (hI.can_lent hs hL ht)
    rw [← Ln.early_start (cdOf t.st)] at hE
    clear hI hf h hA c5 c17 ht hm
    generalize Ln.early t t.st (cdOf t.st) g = y at *
    go_enter Tryd.func64, Tryd.ntmps64
    go_wp2
    go_region
    go_wp2_with fail
    refine hE.mono ?_
    rintro e w1 ⟨rfl, hg1, hk1⟩
    clear hE
    go_wp2
    go_end0
    exact ⟨rfl, hg1, (Keep.refl _ w).drew.trans hk1⟩
  · have e1 : (n == t.st) = false := by simpa using hn
    have hF : ∀ b : Bool, Hid (b = decide (cdOf n = t.du ∧ g.fr ≤ n)) → Calls Tryd.prog 79 #[.pointer (some ⟨P, 0, none⟩)] w.drew fun e w' => e = .returned (.bool b) ∧ Below w.drew.heap.size w.drew w' :=
      fun b hb => fallsDue_core P t.du n g.fr (cdOf n) w.drew c5 c6 c17 (fun W => dayOfMonth_any n W n0 n1) b hb
    by_cases hd : cdOf n = t.du ∧ g.fr ≤ n
    · have hE2 : ∀ W : World, Keep (fun _ => False) w.drew W → Calls Tryd.prog 78 #[.pointer (some ⟨P, 0, none⟩), .int .i64 2, .int .i64 g.du] W fun e w' => e = .returned (.tuple #[]) ∧ Pas w' P t n (Ln.enter ⟨g, fun _ => 0⟩ 2 g.du) ∧ Keep (fun b => b = P) W w' :=
        fun W k => penter_any W P t n _ (h.drew.keep k (fun x => x)) (hm.drew.keep k (fun x => x)) hP hf 2 g.du (hI.can_over hs hL)
      have hE3 : ∀ W : World, Keep (fun b => b = P) w.drew W → Pas W P t n (Ln.enter ⟨g, fun _ => 0⟩ 2 g.du) → Calls Tryd.prog 78 #[.pointer (some ⟨P, 0, none⟩), .int .i64 3, .int .i64 g.it] W fun e w' => e = .returned (.tuple #[]) ∧ Pas w' P t n (Ln.enter (Ln.enter ⟨g, fun _ => 0⟩ 2 g.du) 3 g.it) ∧ Keep (fun b => b = P) W w' :=
        fun W k hp => penter_any W P t n _ hp (hm.drew.keep k (fun e => hP e.symm)) hP (hI.fit_over hs hL hfn _) 3 g.it (hI.can_fall hs hL)
      rw [Ln.early_due (cdOf n) g hn hd]
      have hF' := hF true (by show true = decide _; simp [hd])
      have c10 : w.cell? ⟨P, 10, none⟩ = some (.int .i64 g.du) := hA.cell 10 rfl
      have hl : P < w.heap.size := h.lt
      clear hF hI hf hA ht hm hd
      go_enter Tryd.func64, Tryd.ntmps64
      go_wp2
      go_region
      go_wp2_with fail
      refine hF'.mono ?_
      rintro e w1 ⟨rfl, hb1⟩
      clear hF'
      have k1 : Keep (fun _ => False) w.drew w1 := Keep.below hb1
      have d10 : w1.cell? ⟨P, 10, none⟩ = some (.int .i64 g.du) := (hb1.cell (p := ⟨P, 10, none⟩) hl).trans c10
      go_wp2_with fail
      refine (hE2 _ k1).mono ?_
      rintro e w2 ⟨rfl, hg2, k2⟩
      have k2' : Keep (fun b => b = P) w.drew w2 := (k1.mono (fun _ _ h => h.elim)).trans k2
      have d9 : w2.cell? ⟨P, 9, none⟩ = some (.int .i64 g.it) := by
        obtain ⟨c', i', f', hA'⟩ := hg2
        exact hA'.cell 9 rfl
      clear hE2
      go_wp2_with fail
      refine (hE3 _ k2' hg2).mono ?_
      rintro e w3 ⟨rfl, hg3, k3⟩
      clear hE3
      go_wp2
      go_end0
      exact ⟨rfl, hg3, ((Keep.refl _ w).drew.trans k2').trans k3⟩
    · rw [Ln.early_not (cdOf n) g hn hd]
      have hF' := hF false (by show false = decide _; simp [hd])
      clear hF hI hf hA ht hm
      go_enter Tryd.func64, Tryd.ntmps64
      go_wp2
      go_region
      go_wp2_with fail
      refine hF'.mono ?_
      rintro e w1 ⟨rfl, hb1⟩
      clear hF'
      go_wp2
      go_end0
      have k1 : Keep (fun b => b = P) w w1 := (Keep.refl _ w).drew.trans (Keep.below hb1)
      exact ⟨rfl, h.keep (S := fun _ => False) ((Keep.refl _ w).drew.trans (Keep.below hb1)) (fun x => x), k1⟩
end Go.Proofs.YtanndhoimpnhpaaDoor
