/- Two loans without events, day by day: the document's first one up to its first due day; one that never falls due. -/
import Derived.Test.YtanndhoimpnhpaaDoorSw
namespace Go.Proofs.YtanndhoimpnhpaaDoor.Ln
open Cal

theorem run_nil_succ (t : Terms) (cd wt : Int → Int) (k : Nat) : run t cd wt [] (k + 1) = (late t (wt (t.st + k)) (early t (t.st + k) (cd (t.st + k)) (run t cd wt [] k))).g := rfl
theorem e_start {t : Terms} {n : Int} (cd : Int) (g : St) (hn : n = t.st) : early t n cd g = enter ⟨g, fun _ => 0⟩ 1 t.pr := by
  subst hn
  unfold early
  simp
theorem e_not {t : Terms} {n : Int} (cd : Int) (g : St) (hn : ¬ n = t.st) (hd : ¬ cd = t.du) : early t n cd g = ⟨g, fun _ => 0⟩ := by
  unfold early
  simp [hn, hd]
theorem e_due {t : Terms} {n : Int} (cd : Int) (g : St) (hn : ¬ n = t.st) (hd : cd = t.du) (hf : g.fr ≤ n) : early t n cd g = enter (enter ⟨g, fun _ => 0⟩ 2 g.du) 3 g.it := by
  unfold early
  simp [hn, hd, hf]
  rfl

/-! ### A loan that never falls due -/
def fT (p r b : Int) : Terms := ⟨0, p, r, 1000000, b, 28⟩
def fS (p r b : Int) (e : Int) : St := ⟨p, part (fT p r b) e, 0, 0, 0, 0, r, 0, e, 0⟩
theorem cd_first (k : Nat) (hk : k ≤ 30) : cdOf (0 + (k : Int)) = k + 1 :=
  cdOf_is ⟨1900, 1, ok_mk (by decide) (by decide) (by decide) (by decide) (by omega) (by simp [dim]; omega), by unfold num; rw [ys_first, cum_one]; omega⟩
theorem part_zero (t : Terms) : part t 0 = 0 := by unfold part; simp
theorem late_flat (p r b e : Int) (a : Nat → Int) : (late (fT p r b) 1 ⟨fS p r b e, a⟩).g = fS p r b (e + p * (r * 1)) := by
  unfold late fS
  simp only [enter, move, part_zero, Int.zero_mul, Int.add_zero]
  have : part (fT p r b) e + (part (fT p r b) (e + p * (r * 1)) - part (fT p r b) e) = part (fT p r b) (e + p * (r * 1)) := by omega
  rw [this]
  simp
theorem run_flat (p r b : Int) (hb : ¬ b = 3) : ∀ k : Nat, k ≤ 26 → run (fT p r b) cdOf (wtOf b) [] (k + 1) = fS p r b (p * (r * 1) * (k + 1 : Nat))
  | 0, _ => by
    rw [run_nil_succ, wtOf_one _ hb, e_start _ _ (by show (0 : Int) + ((0 : Nat) : Int) = 0; rfl)]
    have e : enter ⟨run (fT p r b) cdOf (wtOf b) [] 0, fun _ => 0⟩ 1 (fT p r b).pr = ⟨fS p r b 0, upd (fun _ => 0) 1 p⟩ := by
      show (⟨⟨0 + p, 0, 0, 0, 0, 0, r, 0, 0, 0⟩, upd (fun _ => 0) 1 p⟩ : Dy) = _
      unfold fS
      rw [part_zero, Int.zero_add]
    rw [e, late_flat]
    simp
  | k + 1, hk => by
    have ih := run_flat p r b hb k (by omega)
    rw [run_nil_succ, wtOf_one _ hb, ih, e_not _ _ (by show ¬ (0 : Int) + ((k + 1 : Nat) : Int) = 0; omega) (by
      show ¬ cdOf (0 + ((k + 1 : Nat) : Int)) = 28
      rw [cd_first (k + 1) (by omega)]; omega), late_flat]
    congr 1
    have e : ((k + 1 + 1 : Nat) : Int) = ((k + 1 : Nat) : Int) + 1 := by omega
    rw [e, Int.mul_add (p * (r * 1)), Int.mul_one (p * (r * 1))]

/-! ### The document's loan -/
def aT : Terms := ⟨36524, 36500000, 10000, 0, 1, 15⟩
def aS (k : Int) : St := ⟨36500000, 1000 * k, 0, 0, 0, 0, 10000, 0, 365000000000 * k, 0⟩
theorem cd_doc (k : Nat) (hk : k ≤ 30) : cdOf (36524 + (k : Int)) = k + 1 :=
  cdOf_is ⟨2000, 1, ok_mk (by decide) (by decide) (by decide) (by decide) (by omega) (by simp [dim]; omega), by unfold num; rw [cum_one]; have : ys 2000 = 36524 := by decide
                                                                                                                omega⟩
theorem part_doc (x : Int) : part aT x = x / 1000000 / 365 := rfl
theorem late_doc (k : Int) (a : Nat → Int) : (late aT 1 ⟨aS k, a⟩).g = aS (k + 1) := by
  have h1 : part aT (365000000000 * k + 36500000 * (10000 * 1)) - part aT (365000000000 * k) = 1000 := by
    rw [part_doc, part_doc]
    omega
  unfold late aS
  simp only [enter, move]
  rw [h1]
  have e1 : 1000 * k + 1000 = 1000 * (k + 1) := by omega
  have e2 : 365000000000 * k + 36500000 * (10000 * 1) = 365000000000 * (k + 1) := by omega
  rw [e1, e2]
  rfl
theorem run_doc : ∀ k : Nat, k ≤ 13 → run aT cdOf (wtOf 1) [] (k + 1) = aS (k + 1 : Nat)
  | 0, _ => by
    rw [run_nil_succ, wtOf_one _ (by decide), e_start _ _ (by show (36524 : Int) + ((0 : Nat) : Int) = 36524; rfl)]
    have e : enter ⟨run aT cdOf (wtOf 1) [] 0, fun _ => 0⟩ 1 aT.pr = ⟨aS 0, upd (fun _ => 0) 1 36500000⟩ := rfl
    rw [e, late_doc 0]
    rfl
  | k + 1, hk => by
    have ih := run_doc k (by omega)
    rw [run_nil_succ, wtOf_one _ (by decide), ih, e_not _ _ (by show ¬ (36524 : Int) + ((k + 1 : Nat) : Int) = 36524; omega) (by
      show ¬ cdOf (36524 + ((k + 1 : Nat) : Int)) = 15
      rw [cd_doc (k + 1) (by omega)]; omega), late_doc _]
    rfl
theorem run_awake : run aT cdOf (wtOf 1) [] 15 = ⟨36500000, 1000, 14000, 0, 0, 0, 10000, 0, 5475000000000, 0⟩ := by
  have ih := run_doc 13 (by decide)
  rw [run_nil_succ, wtOf_one _ (by decide), ih, e_due _ _ (by decide) (by show cdOf (36524 + ((14 : Nat) : Int)) = 15; rw [cd_doc 14 (by decide)]; rfl) (by decide)]
  rfl
end Go.Proofs.YtanndhoimpnhpaaDoor.Ln
