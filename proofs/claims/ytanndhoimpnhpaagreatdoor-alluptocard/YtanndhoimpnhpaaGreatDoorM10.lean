import Derived.Test.YtanndhoimpnhpaaGreatDoorM9
import Derived.Test.YtanndhoimpnhpaaGreatDoorM8
namespace Go.Proofs.YtanndhoimpnhpaaGreatDoor
open Go.ChangeShapes Go.WideShapes Go.ChangeAt Go.RowKit Lg
theorem LongIs.more {S T : Nat → Prop} {w : World} {v : Value} {x : Int} (h : LongIs S w v x) (hst : ∀ b, b < w.heap.size → T b → S b) : LongIs T w v x := by
  rcases h with h | ⟨b, cap, l, hv, hb, hs, hl, hd, hi, hx⟩
  · exact .inl h
  · exact .inr ⟨b, cap, l, hv, hb, fun t => hs (hst b hb t), hl, hd, hi, hx⟩
theorem LongIs.slice {S : Nat → Prop} {w : World} {v : Value} {x : Int} (h : LongIs S w v x) : ∃ p n c, v = .slice p n c := by
  rcases h with ⟨rfl, _⟩ | ⟨b, cap, l, rfl, _⟩
  · exact ⟨_, _, _, rfl⟩
  · exact ⟨_, _, _, rfl⟩
def DB (w : World) (G : Nat) : Nat → Prop := fun b => b = G ∨ b = w.heap.size + 1
def DS (S : Nat → Prop) (w : World) : Nat → Prop := fun b => S b ∨ b = w.heap.size + 1
structure DayW (S : Nat → Prop) (w : World) (G : Nat) (t : Ln.Terms) (y : Ln.Dy) (dy : Int) (ev fv : Value) (x1 x2 : Int) (wz : World) : Prop where
  gon : Gon wz G (w.heap.size + 1) t y dy ev fv
  l1 : LongIs (DS S w) wz ev x1
  l2 : LongIs (DS S w) wz fv x2
  kp : Keep (DB w G) w wz
  sg : S G
  slt : ∀ b, S b → b < w.heap.size
theorem DB.to {S : Nat → Prop} {w : World} {G : Nat} (sg : S G) {W W' : World} (h : Keep (DB w G) W W') : Keep (DS S w) W W' :=
  h.mono (fun b _ hb => by rcases hb with rfl | hb; exact .inl sg; exact .inr hb)
theorem DayW.below {S : Nat → Prop} {w : World} {G : Nat} {t : Ln.Terms} {y : Ln.Dy} {dy : Int} {ev fv : Value} {x1 x2 : Int} {W W' : World} (h : DayW S w G t y dy ev fv x1 x2 W) (hb : Below W.heap.size W W') : DayW S w G t y dy ev fv x1 x2 W' :=
  ⟨h.gon.below hb, h.l1.keep (Keep.below hb), h.l2.keep (Keep.below hb), h.kp.trans (Keep.below hb), h.sg, h.slt⟩
theorem DayW.drew {S : Nat → Prop} {w : World} {G : Nat} {t : Ln.Terms} {y : Ln.Dy} {dy : Int} {ev fv : Value} {x1 x2 : Int} {W : World} (h : DayW S w G t y dy ev fv x1 x2 W) : DayW S w G t y dy ev fv x1 x2 W.drew := h.below ((Below.refl _ _).drew)
theorem DayW.cell {S : Nat → Prop} {w : World} {G : Nat} {t : Ln.Terms} {y : Ln.Dy} {dy : Int} {ev fv : Value} {x1 x2 : Int} {W : World} (h : DayW S w G t y dy ev fv x1 x2 W) (i : Nat) (hi : i < 17) {v : Value} (hv : ∀ av, (gl t y.g dy ev fv av)[i]? = some v) : W.cell? ⟨G, i, none⟩ = some v ∧ W.frozen? ⟨G, i, none⟩ = false := by
  obtain ⟨⟨ne, ⟨cap, hg⟩, hA⟩, _, _, kp, _, slt⟩ := h
  have _ := hi
  exact hg i v (hv _)
theorem DayW.lt {S : Nat → Prop} {w : World} {G : Nat} {t : Ln.Terms} {y : Ln.Dy} {dy : Int} {ev fv : Value} {x1 x2 : Int} {W : World} (h : DayW S w G t y dy ev fv x1 x2 W) : ∀ b, DS S w b → b < W.heap.size := by
  obtain ⟨⟨ne, ⟨cap, hg⟩, hA⟩, _, _, kp, _, slt⟩ := h
  intro b hb
  rcases hb with hb | rfl
  · exact Nat.lt_of_lt_of_le (slt b hb) kp.size
  · exact At.lt (v := .int .i64 (y.am 0)) hA
theorem DayW.set14 {S : Nat → Prop} {w : World} {G : Nat} {t : Ln.Terms} {y : Ln.Dy} {dy : Int} {ev fv : Value} {x1 x2 : Int} {W : World} (h : DayW S w G t y dy ev fv x1 x2 W) (r : Value) (x : Int) (hr : LongIs (DS S w) W r x) : DayW S w G t y dy r fv x x2 (W.setCell ⟨G, 14, none⟩ r) := by
  have hk : Keep (DB w G) W (W.setCell ⟨G, 14, none⟩ r) := (Keep.refl _ W).set (S := DB w G) (.inl rfl) 14 r
  obtain ⟨⟨ne, ⟨cap, hg⟩, hA⟩, l1, l2, kp, sg, slt⟩ := h
  have hk2 := DB.to sg hk
  exact ⟨⟨ne, ⟨cap, hg.set 14 (show 14 < 18 by decide) r⟩, hA.other (fun x => ne x.symm) 14 r⟩, hr.keep hk2, l2.keep hk2, kp.trans hk, sg, slt⟩
theorem DayW.set15 {S : Nat → Prop} {w : World} {G : Nat} {t : Ln.Terms} {y : Ln.Dy} {dy : Int} {ev fv : Value} {x1 x2 : Int} {W : World} (h : DayW S w G t y dy ev fv x1 x2 W) (r : Value) (x : Int) (hr : LongIs (DS S w) W r x) : DayW S w G t y dy ev r x1 x (W.setCell ⟨G, 15, none⟩ r) := by
  have hk : Keep (DB w G) W (W.setCell ⟨G, 15, none⟩ r) := (Keep.refl _ W).set (S := DB w G) (.inl rfl) 15 r
  obtain ⟨⟨ne, ⟨cap, hg⟩, hA⟩, l1, l2, kp, sg, slt⟩ := h
  have hk2 := DB.to sg hk
  exact ⟨⟨ne, ⟨cap, hg.set 15 (show 15 < 18 by decide) r⟩, hA.other (fun x => ne x.symm) 15 r⟩, l1.keep hk2, hr.keep hk2, kp.trans hk, sg, slt⟩
theorem DayW.enter {S : Nat → Prop} {w : World} {G : Nat} {t : Ln.Terms} {y : Ln.Dy} {dy : Int} {ev fv : Value} {x1 x2 : Int} {W : World} (h : DayW S w G t y dy ev fv x1 x2 W) (k : Nat) (a : Int) (hf : Ln.Fit y) (hc : Ln.CanEnter y k a) :
    Calls Tryz.prog 119 #[.pointer (some ⟨G, 0, none⟩), .int .i64 k, .int .i64 a] W fun e w' => e = .returned (.tuple #[]) ∧ DayW S w G t (Ln.enter y k a) dy ev fv x1 x2 w' := by
  refine (enter_any W G _ t y dy ev fv h.gon hf k a hc).mono ?_
  rintro e w' ⟨rfl, hg, hk⟩
  exact ⟨rfl, hg, h.l1.keep (DB.to h.sg hk), h.l2.keep (DB.to h.sg hk), h.kp.trans hk, h.sg, h.slt⟩
end Go.Proofs.YtanndhoimpnhpaaGreatDoor
