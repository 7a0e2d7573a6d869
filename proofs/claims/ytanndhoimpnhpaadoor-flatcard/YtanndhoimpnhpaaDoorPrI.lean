/- A day's end, over the loan's arithmetic. -/
import Derived.Test.YtanndhoimpnhpaaDoorPrH
namespace Go.Proofs.YtanndhoimpnhpaaDoor
open Go.RowKit Cal

namespace Ln
theorem quo_more (d x y : Int) (hd : 0 < d) : (x % d + y) / d = (x + y) / d - x / d := by
  have h := Int.mul_ediv_add_emod x d
  have e : x + y = (x % d + y) + x / d * d := by rw [Int.mul_comm (x / d) d]; omega
  rw [e, Int.add_mul_ediv_right _ _ (by omega)]
  omega
theorem rem_more (d x y : Int) : (x % d + y) % d = (x + y) % d := by
  rw [Int.add_emod, Int.emod_emod_of_dvd x (Int.dvd_refl d), ← Int.add_emod]
/-- The day with its two sums, ahead of the last two entries. -/
def sums (t : Terms) (w : Int) (y : Dy) : Dy := ⟨{ y.g with ea := y.g.ea + y.g.pr * (y.g.rt * w), fn := y.g.fn + y.g.la * (t.fi * w) }, y.am⟩
theorem late_eq (t : Terms) (w : Int) (y : Dy) : late t w y = enter (enter (sums t w y) 11 ((y.g.ea % den t + y.g.pr * (y.g.rt * w)) / den t)) 12 ((y.g.fn % den t + y.g.la * (t.fi * w)) / den t) := by
  have hd := den_bd t
  rw [quo_more _ _ _ (by omega), quo_more _ _ _ (by omega)]
  unfold late sums
  simp only [part_den]
theorem Fit.of_g {y z : Dy} (h : Fit y) (a : z.g.pr = y.g.pr) (b : z.g.it = y.g.it) (c : z.g.du = y.g.du) (d : z.g.la = y.g.la) (e : z.g.fi = y.g.fi) (f : z.g.cr = y.g.cr) : Fit z := by
  obtain ⟨h1, h2, h3, h4, h5, h6, h7, h8, h9, h10, h11, h12⟩ := h
  exact ⟨by omega, by omega, by omega, by omega, by omega, by omega, by omega, by omega, by omega, by omega, by omega, by omega⟩
theorem Inv.late_can {t : Terms} {L : Int} {s : Nat} {y : Dy} (h : Inv t L s y.g) (ht : OkT t) (w : Nat) (hw : w ≤ 3) (hs : s + w ≤ 4320) (hL : L ≤ 4100000000000) (hfn : (y.g.fn + y.g.la * (t.fi * w)) / den t ≤ 8000000000000000000) (hA : Am y L) :
    CanEnter (sums t w y) 11 ((y.g.ea % den t + y.g.pr * (y.g.rt * w)) / den t) ∧ Fit (sums t w y) ∧
    CanEnter (enter (sums t w y) 11 ((y.g.ea % den t + y.g.pr * (y.g.rt * w)) / den t)) 12 ((y.g.fn % den t + y.g.la * (t.fi * w)) / den t) ∧ Fit (enter (sums t w y) 11 ((y.g.ea % den t + y.g.pr * (y.g.rt * w)) / den t)) := by
  have hd := den_bd t
  have hI := h.late ht w hw
  have hb := hI.bound hs hL
  have hw0 : (0 : Int) ≤ w := by omega
  have m2 : 0 ≤ y.g.la * (t.fi * w) := Int.mul_nonneg h.la (Int.mul_nonneg ht.fi0 hw0)
  have q2 : y.g.fn / den t ≤ (y.g.fn + y.g.la * (t.fi * w)) / den t := Int.ediv_le_ediv (by omega) (by omega)
  have hf := h.fit (by omega) hL (by omega) y.am
  have m1 : 0 ≤ y.g.pr * (y.g.rt * w) := Int.mul_nonneg h.pr (Int.mul_nonneg h.rt0 hw0)
  have e1 : 0 ≤ (y.g.ea % den t + y.g.pr * (y.g.rt * w)) / den t := Int.ediv_nonneg (by have := Int.emod_nonneg y.g.ea (show den t ≠ 0 by omega); omega) (by omega)
  have e2 : 0 ≤ (y.g.fn % den t + y.g.la * (t.fi * w)) / den t := Int.ediv_nonneg (by have := Int.emod_nonneg y.g.fn (show den t ≠ 0 by omega); omega) (by omega)
  have e2' : y.g.fi + (y.g.fn % den t + y.g.la * (t.fi * w)) / den t ≤ 8000000000000000000 := by
    rw [quo_more _ _ _ (by omega)]
    have := h.fi1
    omega
  rw [late_eq] at hI hb
  have i1 := hI.pr
  have i2 := hI.du
  have i3 := hI.la
  generalize (y.g.ea % den t + y.g.pr * (y.g.rt * w)) / den t = a at *
  generalize (y.g.fn % den t + y.g.la * (t.fi * w)) / den t = b at *
  have hb' : y.g.pr + (y.g.it + a) + y.g.du + y.g.la ≤ 656820000000000000 := hb
  have g1 := h.pr
  have g2 := h.it
  have g3 := h.du
  have g4 := h.la
  have f1 : Fit (sums t w y) := hf.of_g rfl rfl rfl rfl rfl rfl
  refine ⟨⟨e1, hA.nn 11, ?_, ?_⟩, f1, ⟨e2, ?_, ?_, ?_⟩, ?_⟩
  · show y.am 11 + a ≤ _
    have := hA.a11
    omega
  · show y.g.it + a ≤ _
    omega
  · show 0 ≤ upd y.am 11 a 12
    rw [upd_ne _ _ _ _ (by decide)]
    exact hA.nn 12
  · show upd y.am 11 a 12 + b ≤ _
    rw [upd_ne _ _ _ _ (by decide), hA.a12]
    have := h.fi
    omega
  · show y.g.fi + b ≤ _
    omega
  · exact ⟨f1.pr0, f1.pr1, by show 0 ≤ y.g.it + a; omega, by show y.g.it + a ≤ _; omega, f1.du0, f1.du1, f1.la0, f1.la1, f1.fi0, f1.fi1, f1.cr0, f1.cr1⟩
end Ln

theorem At.drewN {w : World} {b : Nat} {l : List Value} (h : At w b l) (n : Nat) : At (w.drewN n) b l := h.block rfl
theorem Keep.drewN {S : Nat → Prop} {a w : World} (h : Keep S a w) (n : Nat) : Keep S a (w.drewN n) := ⟨h.os, h.tape, h.output, h.size, h.block⟩

set_option maxRecDepth 10000 in
theorem pend_any (w : World) (P : Nat) (t : Ln.Terms) (n : Int) (y : Ln.Dy) (h : Pas w P t n y) (hm : Mv w) (hP : ¬ P = 1) (n0 : 0 ≤ n) (n1 : n ≤ 109572) (L : Int) (s : Nat) (hI : Ln.Inv t L s y.g) (wt : Nat) (hwt : wtOf t.ba n = wt) (hw3 : wt ≤ 3) (hs : s + wt ≤ 4320) (hL : L ≤ 4100000000000)
    (hfn : (y.g.fn + y.g.la * (t.fi * wt)) / Ln.den t ≤ 8000000000000000000) (ht : Ln.OkT t) (hA : Ln.Am y L) :
    Calls Tryd.prog 66 #[.pointer (some ⟨P, 0, none⟩)] w fun e w' => e = .returned (.tuple #[]) ∧ Pas w' P t n (Ln.late t wt y) ∧ Keep (fun b => b = P) w w' := by
  obtain ⟨k11, f1, k12, f2⟩ := hI.late_can ht wt hw3 hs hL hfn hA
  have hd := Ln.den_bd t
  have hY : Ln.year t = 365 ∨ Ln.year t = 360 := by unfold Ln.year; split <;> simp
  have hb := hI.bound (by omega) hL
  have g1 := hI.pr
  have g2 := hI.it
  have g3 := hI.du
  have g4 := hI.la
  have hw0 : (0 : Int) ≤ wt := by omega
  have hw3' : (wt : Int) ≤ 3 := by omega
  have rw0 : 0 ≤ y.g.rt * wt := Int.mul_nonneg hI.rt0 hw0
  have rw1 : y.g.rt * wt ≤ 1000000 * 3 := Int.mul_le_mul hI.rt1 hw3' hw0 (by decide)
  have fw0 : 0 ≤ t.fi * wt := Int.mul_nonneg ht.fi0 hw0
  have fw1 : t.fi * wt ≤ 1000000 * 3 := Int.mul_le_mul ht.fi1 hw3' hw0 (by decide)
  have qa : 0 ≤ y.g.ea % Ln.den t ∧ y.g.ea % Ln.den t < 1000000 * Ln.year t := ⟨Int.emod_nonneg _ (by omega), Int.emod_lt_of_pos _ (by omega)⟩
  have qb : 0 ≤ y.g.fn % Ln.den t ∧ y.g.fn % Ln.den t < 1000000 * Ln.year t := ⟨Int.emod_nonneg _ (by omega), Int.emod_lt_of_pos _ (by omega)⟩
  obtain ⟨c, i, f, hA0⟩ := id h
  have hlt := h.lt
  rw [Ln.late_eq]
  refine pend_core w P t.ba n wt (Ln.year t) y.g.pr y.g.rt (y.g.ea % Ln.den t) y.g.la t.fi (y.g.fn % Ln.den t)
    ((y.g.ea % Ln.den t + y.g.pr * (y.g.rt * wt)) / Ln.den t) ((y.g.ea % Ln.den t + y.g.pr * (y.g.rt * wt)) % Ln.den t)
    ((y.g.fn % Ln.den t + y.g.la * (t.fi * wt)) / Ln.den t) ((y.g.fn % Ln.den t + y.g.la * (t.fi * wt)) % Ln.den t) n0 n1
    (hA0.cell 3 rfl) (hA0.cell 4 rfl) (hA0.cell 6 rfl) (hA0.cell 8 rfl) (hA0.cell 11 rfl) (hA0.cell 16 rfl) (hA0.cell 18 rfl) (hA0.free 18 rfl) (hA0.cell 19 rfl) (hA0.free 19 rfl)
    rw0 rw1 fw0 fw1 (fun W => by rw [← hwt]; exact weight_day t.ba n W n0 n1) (fun W => year_any t W)
    (fun W => perYear_any _ _ _ _ hY g1 (by omega) rw0 rw1 qa.1 qa.2 W) (fun W => perYear_any _ _ _ _ hY g4 (by omega) fw0 fw1 qb.1 qb.2 W) _ ?_
  intro W k1 V k2 hbW hV
  have hkW : Keep (fun b => b = P) w W := Keep.below hbW
  have hAW : At W P (pl t n y c i f) := At.keep (S := fun _ => False) (v := .int .i64 t.st) hA0 (Keep.below hbW) (fun x => x)
  rw [Ln.rem_more]
  rw [Ln.rem_more] at hV
  subst hV
  have hR := ((((hAW.drewN k1).set 18 (show 18 < 33 by decide) (.int .u64 ((y.g.ea + y.g.pr * (y.g.rt * wt)) % Ln.den t))).drewN k2).set 19 (show 19 < 33 by decide) (.int .u64 ((y.g.fn + y.g.la * (t.fi * wt)) % Ln.den t)))
  have kR : Keep (fun b => b = P) w ((((W.drewN k1).setCell ⟨P, 18, none⟩ (.int .u64 ((y.g.ea + y.g.pr * (y.g.rt * wt)) % Ln.den t))).drewN k2).setCell ⟨P, 19, none⟩ (.int .u64 ((y.g.fn + y.g.la * (t.fi * wt)) % Ln.den t))) :=
    ((((hkW.drewN k1).set (S := fun b => b = P) rfl 18 _).drewN k2).set rfl 19 _)
  refine (penter_any _ P t n (Ln.sums t wt y) ⟨c, i, f, hR⟩ (hm.keep kR (fun e => hP e.symm)) hP f1 11 _ k11).mono ?_
  rintro e w1 ⟨rfl, p1, kk1⟩
  refine ⟨rfl, ?_⟩
  have k1' := kR.trans kk1
  refine (penter_any w1 P t n _ p1 (hm.keep k1' (fun e => hP e.symm)) hP f2 12 _ k12).mono ?_
  rintro e w2 ⟨rfl, p2, kk2⟩
  exact ⟨rfl, p2, k1'.trans kk2⟩
end Go.Proofs.YtanndhoimpnhpaaDoor
