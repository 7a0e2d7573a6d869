/- The program's book in memory: its entries, the map of its sums. -/
import Derived.Test.YtanndhoimpnhpaaDoorMp
import Derived.Test.YtanndhoimpnhpaaDoorRow
import Derived.Test.YtanndhoimpnhpaaDoorOw
import Derived.Deep.RegionLawGrows
namespace Go.Proofs.YtanndhoimpnhpaaDoor
open Go.ChangeShapes Go.WideShapes Go.RowKit Go.WideMaps Go.Maps

/-- What entries make of a day and a kind, as a sum of 64 bits. -/
def sumOf (l : List En) (d k : Int) : Int := l.foldl (fun s e => if d = e.d ∧ k = e.k then wrap64 (s + e.a) else s) 0
theorem sumOf_snoc (l : List En) (e : En) (d k : Int) : sumOf (l ++ [e]) d k = if d = e.d ∧ k = e.k then wrap64 (sumOf l d k + e.a) else sumOf l d k := by
  unfold sumOf
  rw [List.foldl_append]
  rfl
theorem wrap64_i64 (n : Int) : I64 (wrap64 n) := by
  unfold I64 wrap64
  omega
theorem sumOf_i64 (l : List En) (d k : Int) : I64 (sumOf l d k) := by
  suffices h : ∀ (l : List En) (s : Int), I64 s → I64 (l.foldl (fun s e => if d = e.d ∧ k = e.k then wrap64 (s + e.a) else s) s) from h l 0 (by unfold I64; decide)
  intro l
  induction l with
  | nil => intro s h; exact h
  | cons e r ih =>
    intro s h
    refine ih _ ?_
    show I64 (if d = e.d ∧ k = e.k then wrap64 (s + e.a) else s)
    split
    · exact wrap64_i64 _
    · exact h

theorem infoEntry : (Tryd.prog.info? 98).map (fun i => (i.zero, i.size, i.bytes)) = some (some (.agg #[.int .i64 0, .int .i64 0, .int .i64 0]), 3, 24) := by kernel_rfl

/-- The program's book. -/
structure BkIs (w : World) (P : Nat) (bkv : Value) (Mb : Nat) (L : List En) : Prop where
  pl : At w P [bkv, .map (some Mb)]
  ow : w.ownsRow (P + 1) 98 3 bkv L.length (ens L)
  mp : MapIs w Mb L.length (sumOf L)
  lt : Mb < P
/-- Which of its blocks a book's writing changes. -/
def BkS (P Mb : Nat) (bkv : Value) (b : Nat) : Prop := b = P ∨ b = Mb ∨ bkv.ownBlock = some b
theorem BkIs.own {w : World} {P : Nat} {bkv : Value} {Mb : Nat} {L : List En} (h : BkIs w P bkv Mb L) {b : Nat} (hb : bkv.ownBlock = some b) : P < b ∧ b < w.heap.size := own_base h.ow hb
theorem BkIs.keep {S : Nat → Prop} {w w' : World} {P : Nat} {bkv : Value} {Mb : Nat} {L : List En} (h : BkIs w P bkv Mb L) (hk : Keep S w w') (hs : ∀ b, BkS P Mb bkv b → ¬ S b) : BkIs w' P bkv Mb L :=
  ⟨At.keep h.pl hk (hs P (.inl rfl)), own_keep h.ow hk (fun b hb => hs b (.inr (.inr hb))), h.mp.block (hk.block Mb h.mp.lt (hs Mb (.inr (.inl rfl)))), h.lt⟩
theorem BkIs.drew {w : World} {P : Nat} {bkv : Value} {Mb : Nat} {L : List En} (h : BkIs w P bkv Mb L) : BkIs w.drew P bkv Mb L := ⟨h.pl.drew, h.ow.drew, h.mp, h.lt⟩
end Go.Proofs.YtanndhoimpnhpaaDoor
