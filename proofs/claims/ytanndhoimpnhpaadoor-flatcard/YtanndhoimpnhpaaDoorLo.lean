/- A loan of the program in memory, with the blocks that are its own; Open and Run on it. -/
import Derived.Test.YtanndhoimpnhpaaDoorPvD
import Derived.Laws.OwnMore
namespace Go.Proofs.YtanndhoimpnhpaaDoor
open Go.ChangeShapes Go.WideShapes Go.RowKit Go.WideMaps Go.Maps Cal

structure LoX (w : World) (B P Mb : Nat) (t : Ln.Terms) (E : List Ln.Ev) (g : Ln.St) (day : Int) (L : List En) (evv bkv : Value) : Prop where
  ln : At w B (ll t evv g day (.pointer (some ⟨P, 0, none⟩)))
  bk : BkIs w P bkv Mb L
  ev : w.ownsRow 0 53 4 evv E.length (evs E)
  nb : ¬ BkS P Mb bkv B
  ne : ∀ b, evv.ownBlock = some b → ¬ b = B ∧ ¬ BkS P Mb bkv b
  so : E.Pairwise So.Ah
  ok : ∀ e ∈ E, Ln.OkE t e
  le : E.length ≤ 40
  ot : Ln.OkT t
/-- The blocks of a loan. -/
def Fo (B P Mb : Nat) (evv bkv : Value) (b : Nat) : Prop := b = B ∨ BkS P Mb bkv b ∨ evv.ownBlock = some b
/-- A loan whose blocks are among F. -/
def Lo (w : World) (B : Nat) (t : Ln.Terms) (E : List Ln.Ev) (g : Ln.St) (day : Int) (L : List En) (F : Nat → Prop) : Prop :=
  ∃ P Mb evv bkv, LoX w B P Mb t E g day L evv bkv ∧ ∀ b, Fo B P Mb evv bkv b → F b
/-- What was F, and what is new between two worlds. -/
def Wd (F : Nat → Prop) (w w' : World) (b : Nat) : Prop := F b ∨ (w.heap.size ≤ b ∧ b < w'.heap.size)

theorem evs_evv {w : World} {evv : Value} {E : List Ln.Ev} (h : w.ownsRow 0 53 4 evv E.length (evs E)) : ∃ Eb, EvV w Eb evv E ∧ (E ≠ [] → evv.ownBlock = some Eb) := by
  obtain ⟨hl, hn | ⟨g, cap, cur, rfl, hg⟩⟩ := id h
  · obtain ⟨rfl, hz⟩ := hn
    have hE : E = [] := List.length_eq_zero_iff.1 hz
    subst hE
    exact ⟨0, ⟨none, 0, rfl, Nat.le_refl _, fun k hk => absurd hk (Nat.not_lt_zero k)⟩, fun h => absurd rfl h⟩
  · have hlt := (own_base h (b := g) rfl).2
    refine ⟨g, ⟨some ⟨g, 0, none⟩, cap, rfl, hg.2.2.1, fun k hk => ⟨0, rfl, hlt, ?_⟩⟩, fun _ => rfl⟩
    obtain ⟨q0, q1, q2, q3⟩ := evs_at E k hk
    rw [Nat.zero_add]
    exact ⟨(h.cellAt _ (by omega)).trans q0, (h.cellAt _ (by omega)).trans q1, (h.cellAt _ (by omega)).trans q2, (h.cellAt _ (by omega)).trans q3⟩
theorem LoX.is {w : World} {B P Mb : Nat} {t : Ln.Terms} {E : List Ln.Ev} {g : Ln.St} {day : Int} {L : List En} {evv bkv : Value} (h : LoX w B P Mb t E g day L evv bkv) : ∃ Eb, LoanIs w B P Mb Eb t E g day L evv bkv ∧ (E ≠ [] → evv.ownBlock = some Eb) := by
  obtain ⟨Eb, h1, h2⟩ := evs_evv h.ev
  exact ⟨Eb, ⟨h.ln, h.bk, h1, h.nb, fun hE => (h.ne Eb (h2 hE)).2, h.so, h.ok, h.le, h.ot⟩, h2⟩
theorem LoX.foLt {w : World} {B P Mb : Nat} {t : Ln.Terms} {E : List Ln.Ev} {g : Ln.St} {day : Int} {L : List En} {evv bkv : Value} (h : LoX w B P Mb t E g day L evv bkv) (b : Nat) (hb : Fo B P Mb evv bkv b) : b < w.heap.size := by
  rcases hb with rfl | hb | hb
  · exact At.lt (v := .int .i64 t.st) h.ln
  · have h1 := At.lt h.bk.pl
    have h2 := h.bk.lt
    rcases hb with rfl | rfl | hb
    · exact h1
    · omega
    · exact (h.bk.own hb).2
  · exact (own_base h.ev hb).2
theorem LoX.keep {S : Nat → Prop} {w w' : World} {B P Mb : Nat} {t : Ln.Terms} {E : List Ln.Ev} {g : Ln.St} {day : Int} {L : List En} {evv bkv : Value} (h : LoX w B P Mb t E g day L evv bkv) (hk : Keep S w w') (hs : ∀ b, Fo B P Mb evv bkv b → ¬ S b) : LoX w' B P Mb t E g day L evv bkv :=
  ⟨At.keep (v := .int .i64 t.st) h.ln hk (hs B (.inl rfl)), h.bk.keep hk (fun b hb => hs b (.inr (.inl hb))), own_keep h.ev hk (fun b hb => hs b (.inr (.inr hb))), h.nb, h.ne, h.so, h.ok, h.le, h.ot⟩
theorem Lo.keep {S F : Nat → Prop} {w w' : World} {B : Nat} {t : Ln.Terms} {E : List Ln.Ev} {g : Ln.St} {day : Int} {L : List En} (h : Lo w B t E g day L F) (hk : Keep S w w') (hs : ∀ b, b < w.heap.size → F b → ¬ S b) : Lo w' B t E g day L F := by
  obtain ⟨P, Mb, evv, bkv, h1, h2⟩ := h
  exact ⟨P, Mb, evv, bkv, h1.keep hk (fun b hb => hs b (h1.foLt b hb) (h2 b hb)), h2⟩
theorem Lo.below {F : Nat → Prop} {w w' : World} {B : Nat} {t : Ln.Terms} {E : List Ln.Ev} {g : Ln.St} {day : Int} {L : List En} (h : Lo w B t E g day L F) (hb : Below w.heap.size w w') : Lo w' B t E g day L F :=
  h.keep (S := fun _ => False) (Keep.below hb) (fun _ _ _ x => x)
theorem Lo.mono {F G : Nat → Prop} {w : World} {B : Nat} {t : Ln.Terms} {E : List Ln.Ev} {g : Ln.St} {day : Int} {L : List En} (h : Lo w B t E g day L F) (hs : ∀ b, b < w.heap.size → F b → G b) : Lo w B t E g day L G := by
  obtain ⟨P, Mb, evv, bkv, h1, h2⟩ := h
  exact ⟨P, Mb, evv, bkv, h1, fun b hb => hs b (h1.foLt b hb) (h2 b hb)⟩
theorem Lo.drew {F : Nat → Prop} {w : World} {B : Nat} {t : Ln.Terms} {E : List Ln.Ev} {g : Ln.St} {day : Int} {L : List En} (h : Lo w B t E g day L F) : Lo w.drew B t E g day L F :=
  h.keep (S := fun _ => False) ((Keep.refl _ _).drew) (fun _ _ _ x => x)
theorem Lo.block {F : Nat → Prop} {w : World} {B : Nat} {t : Ln.Terms} {E : List Ln.Ev} {g : Ln.St} {day : Int} {L : List En} (h : Lo w B t E g day L F) : F B ∧ B < w.heap.size := by
  obtain ⟨P, Mb, evv, bkv, h1, h2⟩ := h
  exact ⟨h2 B (.inl rfl), h1.foLt B (.inl rfl)⟩

theorem rt_ok {t : Ln.Terms} (h : rtB t = true) : Ln.OkT t := by
  unfold rtB at h
  simp at h
  obtain ⟨⟨⟨⟨⟨h1, h2⟩, h3⟩, h4⟩, h5⟩, h6⟩ := h
  exact ⟨h1.1, h1.2, h2.1, h2.2, h3.1, h3.2, h4.1, h4.2, h5.1, h5.2⟩
theorem openL (t : Ln.Terms) (w : World) (h : rtB t = true) :
    Calls Tryd.prog 17 #[tmV t] w fun e w' => ∃ B, e = .returned (.tuple #[.pointer (some ⟨B, 0, none⟩), .int .i64 0]) ∧ Lo w' B t [] (Ln.start t) t.st [] (Wd (fun _ => False) w w') ∧ Below w.heap.size w w' := by
  refine (open_good t w h).mono ?_
  rintro e w' ⟨⟨B, P, Mb, rfl, hB, hM, hPB, hA, hbk⟩, hb⟩
  have hMP := hbk.lt
  refine ⟨B, rfl, ⟨P, Mb, .slice none 0 0, .slice none 0 0, ⟨hA, hbk, World.ownsRow_nil _ _ _ _, ?_, fun b hb => (by cases hb), List.Pairwise.nil, fun e he => (by simp at he), (by simp), rt_ok h⟩, ?_⟩, hb⟩
  · rintro (h1 | h1 | h1)
    · omega
    · omega
    · cases h1
  · have hBl := At.lt (v := .int .i64 t.st) hA
    rintro b (rfl | (rfl | rfl | h1) | h1)
    · exact .inr ⟨hB, hBl⟩
    · exact .inr ⟨by omega, by omega⟩
    · exact .inr ⟨hM, by omega⟩
    · cases h1
    · cases h1
theorem runL (w : World) (B : Nat) (t : Ln.Terms) (E : List Ln.Ev) (g0 : Ln.St) (day0 : Int) (L : List En) (F : Nat → Prop) (h : Lo w B t E g0 day0 L F) (hL : L.length ≤ 4000000000000) (m : Nat) (h0 : day0 ≤ t.st + m) (hm : m ≤ 3700) (hmv : Mv w) (hgm : ¬ F 1) :
    Calls Tryd.prog 18 #[.pointer (some ⟨B, 0, none⟩), .int .i64 (t.st + m)] w fun e w' => e = .returned (.int .i64 0) ∧ Lo w' B t E (Ln.run t cdOf (wtOf t.ba) E m) (t.st + m) (bkP t.st (fun k => (yOf t E k).am) L m) (Wd F w w') ∧ Keep F w w' := by
  obtain ⟨P, Mb, evv, bkv, h1, h2⟩ := h
  obtain ⟨Eb, h3, h4⟩ := h1.is
  refine (run_any w B P Mb Eb t E g0 day0 L evv bkv h3 hL m h0 hm hmv (fun x => hgm (h2 _ (.inr (.inl x))))).mono ?_
  rintro e w' ⟨rfl, bkv', hA, hbk, hon, hk⟩
  have hBl := h1.foLt B (.inl rfl)
  refine ⟨rfl, ⟨P, Mb, evv, bkv', ⟨hA, hbk, own_keep h1.ev hk (fun b hb x => ?_), BkS.new hon hBl h1.nb, fun b hb => ⟨(h1.ne b hb).1, BkS.new hon (own_base h1.ev hb).2 (h1.ne b hb).2⟩, h1.so, h1.ok, h1.le, h1.ot⟩, ?_⟩, hk.mono (fun b _ hb => hb.elim (fun e => h2 b (.inl e)) (fun e => h2 b (.inr (.inl e))))⟩
  · have := h1.ne b hb
    exact x.elim this.1 this.2
  · rintro b (rfl | (rfl | rfl | hb) | hb)
    · exact .inl (h2 _ (.inl rfl))
    · exact .inl (h2 _ (.inr (.inl (.inl rfl))))
    · exact .inl (h2 _ (.inr (.inl (.inr (.inl rfl)))))
    · rcases hon with e | ⟨c, e1, e2⟩
      · exact .inl (h2 _ (.inr (.inl (.inr (.inr (e.symm.trans hb))))))
      · have : c = b := by rw [e1] at hb; exact Option.some.inj hb
        subst this
        exact .inr ⟨e2, (hbk.own hb).2⟩
    · exact .inl (h2 _ (.inr (.inr hb)))
end Go.Proofs.YtanndhoimpnhpaaDoor
