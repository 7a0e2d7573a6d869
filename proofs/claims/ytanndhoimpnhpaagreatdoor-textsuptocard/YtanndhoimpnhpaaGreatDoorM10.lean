/- Joined by program: AdA, PvC, PvD, Lo, TxZ, TyA, TyB. -/
import Derived.Test.YtanndhoimpnhpaaGreatDoorM9
import Derived.Test.YtanndhoimpnhpaaGreatDoorM2
import Derived.Test.YtanndhoimpnhpaaGreatDoorM7
import Derived.Test.YtanndhoimpnhpaaGreatDoorM1
import Derived.Test.YtanndhoimpnhpaaGreatDoorM3
import Derived.Test.YtanndhoimpnhpaaGreatDoorM8
import Derived.Test.YtanndhoimpnhpaaGreatDoorM5
import Derived.Laws.OwnMore
import Derived.Deep.RegionHeld3
import Derived.Deep.CutRange
namespace Go.Proofs.YtanndhoimpnhpaaGreatDoor
open Go.RowKit Cal
def evl (e : Ln.Ev) : List Value := [.int .i64 e.d, .int .i64 e.k, .int .i64 e.s, .int .i64 e.a]
def evV (e : Ln.Ev) : Value := .agg (evl e).toArray
def liml : List Value := [.int .i64 0, .int .i64 0, .int .i64 1, .int .i64 100000000000, .int .i64 0, .int .i64 1000000, .int .i64 1, .int .i64 400, .int .i64 0, .int .i64 0, .int .i64 1, .int .i64 100000000000]
def Lim (w : World) : Prop := ∀ i v, liml[i]? = some v → w.cell? ⟨0, i, none⟩ = some v
theorem Lim.keep {S : Nat → Prop} {w w' : World} (h : Lim w) (k : Keep S w w') (hs : ¬ S 0) : Lim w' := by
  intro i v hv
  have h1 := h i v hv
  exact (World.cell?_of_block (w := w) (a := ⟨0, i, none⟩) (k.block _ (World.block_lt_of_cell? _ _ h1) hs)).trans h1
theorem Lim.lt {w : World} (h : Lim w) : 0 < w.heap.size := World.block_lt_of_cell? _ _ (h 0 _ rfl)
set_option maxHeartbeats 1000000 in
theorem span_any (t : Ln.Terms) (w : World) (h0 : 0 ≤ t.st) (h1 : t.st ≤ 105872) :
    Calls Tryz.prog 35 #[tmV t] w fun e w' => e = .returned (.agg #[.int .i64 t.st, .int .i64 (t.st + 3700)]) ∧ Below w.heap.size w w' := by
  unfold tmV
  go_enter Tryz.func35, Tryz.ntmps35
  go_wp2
  exact bodyPost_ret (v := .agg #[.int .i64 t.st, .int .i64 (t.st + 3700)]) (by simp [results, Tryz.results35, go_sem]) rfl ⟨rfl, ((Below.refl _ _).alloc (Nat.le_refl _) _).alloc (by simp) _⟩
def evF (t : Ln.Terms) (e : Ln.Ev) : Int :=
  if e.k < 1 ∨ 5 < e.k then 4
  else if e.d < t.st ∨ t.st + 3700 < e.d then 5
  else if fitsB e.k e.a = false then 6
  else 0
theorem fits_lim (k a : Int) (n : Nat) (hn : k = n) (h1 : 1 ≤ n) (h5 : n ≤ 5) : ∃ lo hi : Int, liml[2 * n]? = some (.int .i64 lo) ∧ liml[2 * n + 1]? = some (.int .i64 hi) ∧ fitsB k a = decide (lo ≤ a ∧ a ≤ hi) := by
  subst hn
  rcases (show n = 1 ∨ n = 2 ∨ n = 3 ∨ n = 4 ∨ n = 5 by omega) with rfl | rfl | rfl | rfl | rfl
  · exact ⟨1, 100000000000, rfl, rfl, by simp [fitsB]⟩
  · exact ⟨0, 1000000, rfl, rfl, by simp [fitsB]⟩
  · exact ⟨1, 400, rfl, rfl, by simp [fitsB]⟩
  · refine ⟨0, 0, rfl, rfl, ?_⟩
    show decide (a = 0) = _
    by_cases h : a = 0
    · simp [h]
    · rw [decide_eq_false h, decide_eq_false (by omega)]
  · exact ⟨1, 100000000000, rfl, rfl, by simp [fitsB]⟩
def EfS (w : World) (t : Ln.Terms) (e : Ln.Ev) (wx : World) : Prop := At wx w.heap.size (tml t) ∧ At wx (w.heap.size + 1) (evl e) ∧ Below w.heap.size w wx
theorem EfS.below {w W W' : World} {t : Ln.Terms} {e : Ln.Ev} (h : EfS w t e W) (hb : Below W.heap.size W W') : EfS w t e W' :=
  ⟨At.keep (S := fun _ => False) (v := .int .i64 t.st) h.1 (Keep.below hb) (fun x => x), At.keep (S := fun _ => False) (v := .int .i64 e.d) h.2.1 (Keep.below hb) (fun x => x), h.2.2.trans (hb.mono h.2.2.size)⟩
theorem EfS.drew {w W : World} {t : Ln.Terms} {e : Ln.Ev} (h : EfS w t e W) : EfS w t e W.drew := ⟨h.1.drew, h.2.1.drew, h.2.2.drew⟩
set_option maxRecDepth 10000 in
set_option maxHeartbeats 4000000 in
theorem eventFault_any (t : Ln.Terms) (e : Ln.Ev) (w : World) (h0 : 0 ≤ t.st) (h1 : t.st ≤ 105872) (hlim : Lim w) :
    Calls Tryz.prog 49 #[tmV t, evV e] w fun x w' => x = .returned (.int .i64 (evF t e)) ∧ Below w.heap.size w w' := by
  have hsp := fun W => span_any t W h0 h1
  have hal := fun W => allow_any t.st (t.st + 3700) e.d W
  obtain ⟨xb, hxb⟩ : ∃ xb, xb = decide (t.st ≤ e.d ∧ e.d ≤ t.st + 3700) := ⟨_, rfl⟩
  rw [← hxb] at hal
  have HXB : Hid (xb = decide (t.st ≤ e.d ∧ e.d ≤ t.st + 3700)) := hxb
  clear hxb
  have hgl := hlim.lt
  have HC : Hid (evF t e = if e.k < 1 ∨ 5 < e.k then 4 else if e.d < t.st ∨ t.st + 3700 < e.d then 5 else if fitsB e.k e.a = false then 6 else 0) := rfl
  have HF : Hid (∀ n : Nat, e.k = n → 1 ≤ n → n ≤ 5 → ∃ lo hi : Int, liml[2 * n]? = some (.int .i64 lo) ∧ liml[2 * n + 1]? = some (.int .i64 hi) ∧ fitsB e.k e.a = decide (lo ≤ e.a ∧ e.a ≤ hi)) := fun n => fits_lim e.k e.a n
  have HL : Hid (Lim w) := hlim
  have HS0 : Hid (EfS w t e ((w.alloc (.cells (tml t).toArray 23)).alloc (.cells (evl e).toArray 50))) := by
    have b1 : Below w.heap.size w (w.alloc (.cells (tml t).toArray 23)) := (Below.refl _ _).alloc (Nat.le_refl _) _
    have z1 : (w.alloc (.cells (tml t).toArray 23)).heap.size = w.heap.size + 1 := by simp
    refine ⟨At.over (v := .int .i64 t.st) (At.alloc w (tml t) _) _, ?_, b1.alloc (by omega) _⟩
    have := At.alloc (w.alloc (.cells (tml t).toArray 23)) (evl e) 50
    rw [z1] at this
    exact this
  clear hlim
  generalize evF t e = code at *
  generalize fitsB e.k e.a = fb at *
  unfold tmV evV
  have k1 : ((w.alloc (.cells (tml t).toArray 23)).alloc (.cells (evl e).toArray 50)).cell? ⟨w.heap.size + 1, 1, none⟩ = some (.int .i64 e.k) := HS0.out.2.1.cell 1 rfl
  go_enter Tryz.func49, Tryz.ntmps49
  go_upto_region 1 with fail
  have HZ : Hid ((w.alloc (.cells (tml t).toArray 23)).heap.size = w.heap.size + 1) := by show _ = _; simp
  change Code.wp _ _ _ _ ((w.alloc (.cells (tml t).toArray 23)).alloc (.cells (evl e).toArray 50))
  generalize (w.alloc (.cells (tml t).toArray 23)).alloc (.cells (evl e).toArray 50) = V at *
  try simp only [size_alloc]
  by_cases c1 : e.k < 1
  · have E : Hid (code = 4) := by show code = 4; rw [HC.out, if_pos (Or.inl c1)]
    have HB : Hid (Below w.heap.size w V) := HS0.out.2.2
    clear HC HS0 HF HL hsp hal
    obtain rfl := E.out
    go_wp2
    go_ret
    exact ⟨rfl, HB.out⟩
  by_cases c2 : 5 < e.k
  · have E : Hid (code = 4) := by show code = 4; rw [HC.out, if_pos (Or.inr c2)]
    have HB : Hid (Below w.heap.size w V) := HS0.out.2.2
    clear HC HS0 HF HL hsp hal
    obtain rfl := E.out
    go_wp2
    go_ret
    exact ⟨rfl, HB.out⟩
  go_upto_region 3 with fail
  refine wp_region_held_drew (S := EfS w t e) (by kernel_rfl) HS0.out.drew (fun hHeld => ?_)
  clear HS0 k1
  refine wpAnyH_take (i := 0) (v := (.agg (tml t).toArray)) rfl (by kernel_rfl) (by kernel_rfl) (by kernel_rfl) (fun _ _ _ h => h) (yieldsIf_load_mid (by rfl) 23 (.tmp 2) rfl _ _ rfl _ _ (fun _ h => h.1.range) Tryz.underlying23 rfl (by kernel_rfl)) (by assumption) ?_
  simp only [Act.put, List.getElem_toArray, List.getElem_cons_zero, List.setIfInBounds_toArray, List.set_cons_zero, List.set_cons_succ]
  refine wpAnyH_take (i := 2) (v := (.pointer (some ⟨w.heap.size + 1, 0, none⟩))) rfl (by kernel_rfl) (by kernel_rfl) (by kernel_rfl) (fun _ _ _ h => h) (Or.inl ⟨by rfl, fun wx hSw => by ((try dsimp only at hSw); go_simp)⟩) (by assumption) ?_
  simp only [Act.put, List.getElem_toArray, List.getElem_cons_succ, List.getElem_cons_zero, List.setIfInBounds_toArray, List.set_cons_zero, List.set_cons_succ]
  refine wpAnyH_take (i := 3) (v := (.int .i64 e.d)) rfl (by kernel_rfl) (by kernel_rfl) (by kernel_rfl) (fun _ _ _ h => h) (Or.inl ⟨by rfl, fun wx hSw => by (have hc : wx.cell? ⟨w.heap.size + 1, 0, none⟩ = some (.int .i64 e.d) := hSw.2.1.cell 0 rfl; go_simp)⟩) (by assumption) ?_
  simp only [Act.put, List.getElem_toArray, List.getElem_cons_succ, List.getElem_cons_zero, List.setIfInBounds_toArray, List.set_cons_zero, List.set_cons_succ]
  generalize V.drew = V1 at *
  refine wpAnyH_ready (rs := [1]) (by kernel_rfl) (by simp) ?_
  refine AllReadyH.cons rfl (fun K hK => ?_) AllReadyH.nil
  go_simp
  refine (hsp _).mono ?_
  rintro x w2 ⟨rfl, hb2⟩
  go_wp2_with fail
  refine hK.out _ _ (hHeld.below hb2) (fun hHeld2 => ?_)
  clear hK K hHeld hb2 hsp
  refine wpAnyH_ready (rs := [4]) (by kernel_rfl) (by simp) ?_
  refine AllReadyH.cons rfl (fun K hK => ?_) AllReadyH.nil
  go_simp
  refine (hal _).mono ?_
  rintro x w3 ⟨rfl, hb3⟩
  go_wp2_with fail
  refine hK.out _ _ (hHeld2.below hb3) (fun hHeld3 => ?_)
  clear hK K hHeld2 hb3 hal
  try simp only [Act.put, List.getElem_toArray, List.getElem_cons_succ, List.getElem_cons_zero, List.setIfInBounds_toArray, List.set_cons_zero, List.set_cons_succ]
  cases xb with
  | true =>
    have c3 : t.st ≤ e.d ∧ e.d ≤ t.st + 3700 := of_decide_eq_true HXB.out.symm
    refine wpAnyH_take (i := 5) (v := (.bool false)) rfl (by kernel_rfl) (by kernel_rfl) (by kernel_rfl) (fun _ _ _ h => h) (Or.inl ⟨by rfl, fun wx hSw => by ((try dsimp only at hSw); go_simp)⟩) (by assumption) ?_
    simp only [Act.put, List.getElem_toArray, List.getElem_cons_succ, List.getElem_cons_zero, List.setIfInBounds_toArray, List.set_cons_zero, List.set_cons_succ]
    refine wpAnyH_done (by kernel_rfl) ?_ _
    obtain ⟨n, hn, n1, n5⟩ : ∃ n : Nat, e.k = n ∧ 1 ≤ n ∧ n ≤ 5 := ⟨e.k.toNat, by omega, by omega, by omega⟩
    obtain ⟨lo, hi, l1, l2, l3⟩ := HF.out n hn n1 n5
    have HLR : Hid (∀ wx, EfS w t e wx → wx.rangeAt 0 (n * 2) [.int .i64 lo, .int .i64 hi]) := fun wx hx j v hv => by
      have hb := hx.2.2.block 0 hgl
      match j, hv with
      | 0, hv =>
        cases hv
        exact (World.cell?_of_block (w := w) (a := ⟨0, n * 2 + 0, none⟩) hb).trans (HL.out (n * 2) _ (by rw [Nat.mul_comm]; exact l1))
      | 1, hv =>
        cases hv
        exact (World.cell?_of_block (w := w) (a := ⟨0, n * 2 + 1, none⟩) hb).trans (HL.out (n * 2 + 1) _ (by rw [Nat.mul_comm]; exact l2))
    have HK : Hid (code = if fb = false then 6 else 0) := by show _ = _; rw [HC.out, if_neg (by omega), if_neg (by omega)]
    have hal2 := fun W => allow_any lo hi e.a W
    rw [← l3] at hal2
    have HH : Hid (EfS w t e w3) := hHeld3
    clear HC HF HL l1 l2 l3 c3 hHeld3
    go_upto_region 5 with fail
    refine wp_region_held_drew (S := EfS w t e) (by kernel_rfl) HH.out.drew (fun hHeld4 => ?_)
    clear HH
    refine wpAnyH_take (i := 0) (v := (.pointer (some ⟨w.heap.size + 1, 1, none⟩))) rfl (by kernel_rfl) (by kernel_rfl) (by kernel_rfl) (fun _ _ _ h => h) (Or.inl ⟨by rfl, fun wx hSw => by ((try dsimp only at hSw); go_simp)⟩) (by assumption) ?_
    simp only [Act.put, List.getElem_toArray, List.getElem_cons_zero, List.setIfInBounds_toArray, List.set_cons_zero, List.set_cons_succ]
    refine wpAnyH_take (i := 1) (v := (.int .i64 n)) rfl (by kernel_rfl) (by kernel_rfl) (by kernel_rfl) (fun _ _ _ h => h) (Or.inl ⟨by rfl, fun wx hSw => by (have hc : wx.cell? ⟨w.heap.size + 1, 1, none⟩ = some (.int .i64 e.k) := hSw.2.1.cell 1 rfl; rw [hn] at hc; go_simp)⟩) (by assumption) ?_
    simp only [Act.put, List.getElem_toArray, List.getElem_cons_succ, List.getElem_cons_zero, List.setIfInBounds_toArray, List.set_cons_zero, List.set_cons_succ]
    have hn6 : (0 : Int) ≤ n ∧ (n : Int) < 6 := by omega
    refine wpAnyH_take (i := 2) (v := (.pointer (some ⟨0, n * 2, none⟩))) rfl (by kernel_rfl) (by kernel_rfl) (by kernel_rfl) (fun _ _ _ h => h) (Or.inl ⟨by rfl, fun wx hSw => by ((try dsimp only at hSw); go_simp)⟩) (by assumption) ?_
    simp only [Act.put, List.getElem_toArray, List.getElem_cons_succ, List.getElem_cons_zero, List.setIfInBounds_toArray, List.set_cons_zero, List.set_cons_succ]
    refine wpAnyH_take (i := 3) (v := (.agg #[.int .i64 lo, .int .i64 hi])) rfl (by kernel_rfl) (by kernel_rfl) (by kernel_rfl) (fun _ _ _ h => h) (yieldsIf_load_mid (by rfl) 86 (.tmp 21) rfl _ _ rfl _ _ (fun _ h => HLR.out _ h) Tryz.underlying86 rfl (by kernel_rfl)) (by assumption) ?_
    simp only [Act.put, List.getElem_toArray, List.getElem_cons_succ, List.getElem_cons_zero, List.setIfInBounds_toArray, List.set_cons_zero, List.set_cons_succ]
    refine wpAnyH_take (i := 4) (v := (.pointer (some ⟨w.heap.size + 1, 3, none⟩))) rfl (by kernel_rfl) (by kernel_rfl) (by kernel_rfl) (fun _ _ _ h => h) (Or.inl ⟨by rfl, fun wx hSw => by ((try dsimp only at hSw); go_simp)⟩) (by assumption) ?_
    simp only [Act.put, List.getElem_toArray, List.getElem_cons_succ, List.getElem_cons_zero, List.setIfInBounds_toArray, List.set_cons_zero, List.set_cons_succ]
    refine wpAnyH_take (i := 5) (v := (.int .i64 e.a)) rfl (by kernel_rfl) (by kernel_rfl) (by kernel_rfl) (fun _ _ _ h => h) (Or.inl ⟨by rfl, fun wx hSw => by (have hc : wx.cell? ⟨w.heap.size + 1, 3, none⟩ = some (.int .i64 e.a) := hSw.2.1.cell 3 rfl; go_simp)⟩) (by assumption) ?_
    simp only [Act.put, List.getElem_toArray, List.getElem_cons_succ, List.getElem_cons_zero, List.setIfInBounds_toArray, List.set_cons_zero, List.set_cons_succ]
    generalize w3.drew = V2 at *
    refine wpAnyH_ready (rs := [6]) (by kernel_rfl) (by simp) ?_
    refine AllReadyH.cons rfl (fun K hK => ?_) AllReadyH.nil
    go_simp
    refine (hal2 _).mono ?_
    rintro x w5 ⟨rfl, hb5⟩
    go_wp2_with fail
    refine hK.out _ _ (hHeld4.below hb5) (fun hHeld5 => ?_)
    clear hK K hHeld4 hb5 hal2
    have HB : Hid (Below w.heap.size w w5) := hHeld5.2.2
    try simp only [Act.put, List.getElem_toArray, List.getElem_cons_succ, List.getElem_cons_zero, List.setIfInBounds_toArray, List.set_cons_zero, List.set_cons_succ]
    refine wpAnyH_take (i := 7) (v := (.bool (!fb))) rfl (by kernel_rfl) (by kernel_rfl) (by kernel_rfl) (fun _ _ _ h => h) (Or.inl ⟨by rfl, fun wx hSw => by ((try dsimp only at hSw); go_simp)⟩) (by assumption) ?_
    simp only [Act.put, List.getElem_toArray, List.getElem_cons_succ, List.getElem_cons_zero, List.setIfInBounds_toArray, List.set_cons_zero, List.set_cons_succ]
    refine wpAnyH_done (by kernel_rfl) ?_ _
    clear hHeld5 HLR
    cases fb with
    | true =>
      have E : Hid (code = 0) := by show code = 0; rw [HK.out]; rfl
      obtain rfl := E.out
      go_wp2
      go_ret
      exact ⟨rfl, HB.out⟩
    | false =>
      have E : Hid (code = 6) := by show code = 6; rw [HK.out]; rfl
      obtain rfl := E.out
      go_wp2
      go_ret
      exact ⟨rfl, HB.out⟩
  | false =>
    have c3 : ¬ (t.st ≤ e.d ∧ e.d ≤ t.st + 3700) := of_decide_eq_false HXB.out.symm
    refine wpAnyH_take (i := 5) (v := (.bool true)) rfl (by kernel_rfl) (by kernel_rfl) (by kernel_rfl) (fun _ _ _ h => h) (Or.inl ⟨by rfl, fun wx hSw => by ((try dsimp only at hSw); go_simp)⟩) (by assumption) ?_
    simp only [Act.put, List.getElem_toArray, List.getElem_cons_succ, List.getElem_cons_zero, List.setIfInBounds_toArray, List.set_cons_zero, List.set_cons_succ]
    refine wpAnyH_done (by kernel_rfl) ?_ _
    have E : Hid (code = 5) := by show code = 5; rw [HC.out, if_neg (by omega), if_pos (by omega)]
    have HB : Hid (Below w.heap.size w w3) := hHeld3.2.2
    clear HC HF HL hHeld3
    obtain rfl := E.out
    go_wp2
    go_ret
    exact ⟨rfl, HB.out⟩
end Go.Proofs.YtanndhoimpnhpaaGreatDoor
namespace Go.Proofs.YtanndhoimpnhpaaGreatDoor
open Go.ChangeShapes Go.WideShapes Go.RowKit Go.WideMaps Go.Maps Cal
theorem tml_mid (t : Ln.Terms) (v : Value) (g : Ln.St) (day : Int) (bk : Value) : ∀ j u, (tml t)[j]? = some u → (ll t v g day bk)[0 + j]? = some u := by
  intro j u h
  rw [Nat.zero_add]
  match j, h with
  | 0, h => exact h
  | 1, h => exact h
  | 2, h => exact h
  | 3, h => exact h
  | 4, h => exact h
  | 5, h => exact h
  | j + 6, h => exact absurd h (by simp [tml])
theorem Keep.undrew {S : Nat → Prop} {w w' : World} (h : Keep S w.drew w') : Keep S w w' := ⟨h.os, h.tape, h.output, h.size, h.block⟩
end Go.Proofs.YtanndhoimpnhpaaGreatDoor
namespace Go.Proofs.YtanndhoimpnhpaaGreatDoor
open Go.ChangeShapes Go.WideShapes Go.RowKit Go.WideMaps Go.Maps Cal
end Go.Proofs.YtanndhoimpnhpaaGreatDoor
namespace Go.Proofs.YtanndhoimpnhpaaGreatDoor
open Go.ChangeShapes Go.WideShapes Go.RowKit Go.WideMaps Go.Maps Cal
structure LoX (w : World) (B P Mb : Nat) (t : Ln.Terms) (E : List Ln.Ev) (g : Ln.St) (day : Int) (L : List En) (evv bkv : Value) : Prop where
  ln : At w B (ll t evv g day (.pointer (some ⟨P, 0, none⟩)))
  bk : BkIs w P bkv Mb L
  ev : w.ownsRow 0 50 4 evv E.length (evs E)
  nb : ¬ BkS P Mb bkv B
  ne : ∀ b, evv.ownBlock = some b → ¬ b = B ∧ ¬ BkS P Mb bkv b
  so : E.Pairwise So.Ah
  ok : ∀ e ∈ E, Ln.OkE t e
  le : E.length ≤ 40
  ot : Ln.OkT t
def Fo (B P Mb : Nat) (evv bkv : Value) (b : Nat) : Prop := b = B ∨ BkS P Mb bkv b ∨ evv.ownBlock = some b
def Lo (w : World) (B : Nat) (t : Ln.Terms) (E : List Ln.Ev) (g : Ln.St) (day : Int) (L : List En) (F : Nat → Prop) : Prop :=
  ∃ P Mb evv bkv, LoX w B P Mb t E g day L evv bkv ∧ ∀ b, Fo B P Mb evv bkv b → F b
def Wd (F : Nat → Prop) (w w' : World) (b : Nat) : Prop := F b ∨ (w.heap.size ≤ b ∧ b < w'.heap.size)
theorem evs_evv {w : World} {evv : Value} {E : List Ln.Ev} (h : w.ownsRow 0 50 4 evv E.length (evs E)) : ∃ Eb, EvV w Eb evv E ∧ (E ≠ [] → evv.ownBlock = some Eb) := by
  obtain ⟨hl, hn | ⟨g, cap, cur, rfl, hg⟩⟩ := id h
  · obtain ⟨rfl, hz⟩ := hn
    have hE : E = [] := List.length_eq_zero_iff.1 hz
    subst hE
    exact ⟨0, ⟨none, 0, rfl, Nat.le_refl _, fun k hk => absurd hk (Nat.not_lt_zero k)⟩, fun h => absurd rfl h⟩
  · have hlt := (own_base h (b := g) rfl).2
    refine ⟨g, ⟨some ⟨g, 0, none⟩, cap, rfl, hg.2.2.1, fun k hk => ⟨0, rfl, hlt, ?_⟩⟩, fun _ => rfl⟩
    obtain ⟨q0, q1, q2, q3⟩ := evs_at E k hk
    rw [Nat.zero_add]
    exact ⟨(h.cellAt _ (by omega)).trans q0, (h.cellAt _ (by omega)).trans q1, (h.cellAt _ (by omega)).trans q2, (h.cellAt _ (by omega)).trans q3⟩
theorem LoX.foLt {w : World} {B P Mb : Nat} {t : Ln.Terms} {E : List Ln.Ev} {g : Ln.St} {day : Int} {L : List En} {evv bkv : Value} (h : LoX w B P Mb t E g day L evv bkv) (b : Nat) (hb : Fo B P Mb evv bkv b) : b < w.heap.size := by
  rcases hb with rfl | hb | hb
  · exact At.lt (v := .int .i64 t.st) h.ln
  · have h1 := At.lt h.bk.pl
    have h2 := h.bk.lt
    rcases hb with rfl | rfl | hb
    · exact h1
    · omega
    · exact (h.bk.own hb).2
  · exact (own_base h.ev hb).2
theorem LoX.keep {S : Nat → Prop} {w w' : World} {B P Mb : Nat} {t : Ln.Terms} {E : List Ln.Ev} {g : Ln.St} {day : Int} {L : List En} {evv bkv : Value} (h : LoX w B P Mb t E g day L evv bkv) (hk : Keep S w w') (hs : ∀ b, Fo B P Mb evv bkv b → ¬ S b) : LoX w' B P Mb t E g day L evv bkv :=
  ⟨At.keep (v := .int .i64 t.st) h.ln hk (hs B (.inl rfl)), h.bk.keep hk (fun b hb => hs b (.inr (.inl hb))), own_keep h.ev hk (fun b hb => hs b (.inr (.inr hb))), h.nb, h.ne, h.so, h.ok, h.le, h.ot⟩
theorem Lo.keep {S F : Nat → Prop} {w w' : World} {B : Nat} {t : Ln.Terms} {E : List Ln.Ev} {g : Ln.St} {day : Int} {L : List En} (h : Lo w B t E g day L F) (hk : Keep S w w') (hs : ∀ b, b < w.heap.size → F b → ¬ S b) : Lo w' B t E g day L F := by
  obtain ⟨P, Mb, evv, bkv, h1, h2⟩ := h
  exact ⟨P, Mb, evv, bkv, h1.keep hk (fun b hb => hs b (h1.foLt b hb) (h2 b hb)), h2⟩
theorem Lo.mono {F G : Nat → Prop} {w : World} {B : Nat} {t : Ln.Terms} {E : List Ln.Ev} {g : Ln.St} {day : Int} {L : List En} (h : Lo w B t E g day L F) (hs : ∀ b, b < w.heap.size → F b → G b) : Lo w B t E g day L G := by
  obtain ⟨P, Mb, evv, bkv, h1, h2⟩ := h
  exact ⟨P, Mb, evv, bkv, h1, fun b hb => hs b (h1.foLt b hb) (h2 b hb)⟩
theorem Lo.drew {F : Nat → Prop} {w : World} {B : Nat} {t : Ln.Terms} {E : List Ln.Ev} {g : Ln.St} {day : Int} {L : List En} (h : Lo w B t E g day L F) : Lo w.drew B t E g day L F :=
  h.keep (S := fun _ => False) ((Keep.refl _ _).drew) (fun _ _ _ x => x)
theorem rt_ok {t : Ln.Terms} (h : rtB t = true) : Ln.OkT t := by
  unfold rtB at h
  simp at h
  obtain ⟨⟨⟨⟨⟨h1, h2⟩, h3⟩, h4⟩, h5⟩, h6⟩ := h
  exact ⟨h1.1, h1.2, h2.1, h2.2, h3.1, h3.2, h4.1, h4.2, h5.1, h5.2⟩
theorem openL (t : Ln.Terms) (w : World) (h : rtB t = true) :
    Calls Tryz.prog 23 #[tmV t] w fun e w' => ∃ B, e = .returned (.tuple #[.pointer (some ⟨B, 0, none⟩), .int .i64 0]) ∧ Lo w' B t [] (Ln.start t) t.st [] (Wd (fun _ => False) w w') ∧ Below w.heap.size w w' := by
  refine (open_good t w h).mono ?_
  rintro e w' ⟨⟨B, P, Mb, rfl, hB, hM, hPB, hA, hbk⟩, hb⟩
  have hMP := hbk.lt
  refine ⟨B, rfl, ⟨P, Mb, .slice none 0 0, .slice none 0 0, ⟨hA, hbk, World.ownsRow_nil _ _ _ _, ?_, fun b hb => (by cases hb), List.Pairwise.nil, fun e he => (by simp at he), (by simp), rt_ok h⟩, ?_⟩, hb⟩
  · rintro (h1 | h1 | h1)
    · omega
    · omega
    · cases h1
  · have hBl := At.lt (v := .int .i64 t.st) hA
    rintro b (rfl | (rfl | rfl | h1) | h1)
    · exact .inr ⟨hB, hBl⟩
    · exact .inr ⟨by omega, by omega⟩
    · exact .inr ⟨hM, by omega⟩
    · cases h1
    · cases h1
end Go.Proofs.YtanndhoimpnhpaaGreatDoor
namespace Go.Proofs.YtanndhoimpnhpaaGreatDoor
open Go.ChangeShapes Go.WideShapes Go.ChangeAt Go.RowKit Lg Cal
theorem LoX.book {w w' : World} {B P Mb : Nat} {t : Ln.Terms} {E : List Ln.Ev} {g : Ln.St} {day : Int} {L L' : List En} {evv bkv bkv' : Value} (h : LoX w B P Mb t E g day L evv bkv) (hb : BkIs w' P bkv' Mb L') (ho : OwnNew w bkv bkv') (hk : Keep (BkS P Mb bkv) w w') : LoX w' B P Mb t E g day L' evv bkv' := by
  have hBl : B < w.heap.size := At.lt (v := .int .i64 t.st) h.ln
  have hS : ∀ x, x < w.heap.size → BkS P Mb bkv' x → BkS P Mb bkv x := fun x hx hs => by
    rcases hs with h1 | h1 | h1
    · exact .inl h1
    · exact .inr (.inl h1)
    · rcases ho with h2 | ⟨b, h2, h3⟩
      · exact .inr (.inr (h2.symm.trans h1))
      · rw [h2] at h1
        injection h1 with h1
        omega
  exact ⟨At.keep (v := .int .i64 t.st) h.ln hk h.nb, hb, own_keep h.ev hk (fun b hb => (h.ne b hb).2), fun x => h.nb (hS B hBl x), fun b hb => ⟨(h.ne b hb).1, fun x => (h.ne b hb).2 (hS b (own_base h.ev hb).2 x)⟩, h.so, h.ok, h.le, h.ot⟩
def IsL (w : World) (B : Nat) (s : Sv) (F : Nat → Prop) : Prop := Lo w B s.t s.l s.g s.day s.L F
theorem IsL.book {w : World} {B : Nat} {sv : Sv} {F : Nat → Prop} (h : IsL w B sv F) (d k a : Int) (ha : ¬ a = 0) (hd : I64 d) (hk : I64 k) (ha2 : I64 a) (hl : sv.L.length + 1 ≤ 5000000000000) : ∃ P, w.cell? ⟨B, 15, none⟩ = some (.pointer (some ⟨P, 0, none⟩)) ∧
    Calls Tryz.prog 81 #[.pointer (some ⟨P, 0, none⟩), .agg #[.int .i64 d, .int .i64 k, .int .i64 a]] w fun e w' => e = .returned (.tuple #[]) ∧ IsL w' B { sv with L := sv.L ++ [⟨d, k, a⟩] } (Wd F w w') ∧ Keep F w w' ∧ w'.cell? ⟨B, 15, none⟩ = some (.pointer (some ⟨P, 0, none⟩)) := by
  obtain ⟨P, Mb, evv, bkv, h1, h2⟩ := h
  refine ⟨P, h1.ln.cell 15 rfl, ?_⟩
  refine (write_any w P bkv Mb sv.L h1.bk hl d k a hd hk ha2).mono ?_
  rintro e w' ⟨rfl, bkv', hb, ho, hkp⟩
  rw [if_neg ha] at hb
  refine ⟨rfl, ⟨P, Mb, evv, bkv', h1.book hb ho hkp, fun b hb2 => ?_⟩, hkp.mono (fun x _ hx => h2 x (.inr (.inl hx))), (h1.book hb ho hkp).ln.cell 15 rfl⟩
  rcases hb2 with h3 | (h3 | h3 | h3) | h3
  · exact .inl (h2 b (.inl h3))
  · exact .inl (h2 b (.inr (.inl (.inl h3))))
  · exact .inl (h2 b (.inr (.inl (.inr (.inl h3)))))
  · rcases ho with h4 | ⟨c, h4, h5⟩
    · exact .inl (h2 b (.inr (.inl (.inr (.inr (h4.symm.trans h3))))))
    · rw [h4] at h3
      injection h3 with h3
      subst h3
      exact .inr ⟨h5, (hb.own h4).2⟩
  · exact .inl (h2 b (.inr (.inr h3)))
theorem IsL.keep {S F : Nat → Prop} {w w' : World} {B : Nat} {sv : Sv} (h : IsL w B sv F) (hk : Keep S w w') (hs : ∀ b, F b → ¬ S b) : IsL w' B sv F := Lo.keep h hk (fun b _ hb => hs b hb)
theorem IsL.at {w : World} {B : Nat} {sv : Sv} {F : Nat → Prop} (h : IsL w B sv F) : ∃ evv bk, At w B (ll sv.t evv sv.g sv.day bk) ∧ F B := by
  obtain ⟨P, Mb, evv, bkv, h1, h2⟩ := h
  exact ⟨_, _, h1.ln, h2 B (.inl rfl)⟩
theorem Pt.made (w : World) (R c d n : Nat) (hR : R < w.heap.size) (hc : c < w.heap.size) : Pt (w.drew.alloc (.cells (ptrs c d n).toArray 110)) R (.slice (some ⟨w.heap.size, 0, none⟩) n n) c d n := by
  refine ⟨_, _, rfl, Nat.le_refl _, fun k hk => ⟨w.heap.size, 0, rfl, ?_, by omega, by omega, ?_⟩⟩
  · show w.heap.size < (w.heap.push _).size
    rw [Array.size_push]
    omega
  · rw [Nat.zero_add]
    exact (At.alloc w.drew (ptrs c d n) 110 k _ (ptrs_at c d n k hk)).1
end Go.Proofs.YtanndhoimpnhpaaGreatDoor
namespace Go.Proofs.YtanndhoimpnhpaaGreatDoor
open Go.ChangeShapes Go.WideShapes Go.ChangeAt Go.RowKit Lg Cal
def RbPost (w : World) (B R b0 : Nat) (s : List UInt8) (sv : Sv) (F : Nat → Prop) (e : Ending) (w' : World) : Prop :=
  Below b0 w w' ∧ ((∃ s' sv', e = .returned (.bool true) ∧ tl 4 (some sv) s = tl 4 (some sv') s' ∧ (¬ ∃ ns r, Nx s' wEntry 3 ns r) ∧ At w' R [.string (bs s')] ∧ IsL w' B sv' (Wd F w w') ∧ Lq s' s ∧ sv'.L.length + s'.length ≤ sv.L.length + s.length ∧ sv'.t = sv.t ∧ sv'.day = sv.day) ∨ (e = .returned (.bool false) ∧ tl 4 (some sv) s = none))
def RbI (w w1 : World) (B R N b0 : Nat) (s : List UInt8) (sv : Sv) (F : Nat → Prop) (wr : World) : Prop :=
  ∃ s1 sv1 x0 x1 x2, tl 4 (some sv) s = tl 4 (some sv1) s1 ∧ At wr R [.string (bs s1)] ∧ At wr N [.int .i64 x0, .int .i64 x1, .int .i64 x2] ∧ IsL wr B sv1 (Wd F w1 wr) ∧ Lq s1 s ∧ sv1.L.length + s1.length ≤ sv.L.length + s.length ∧ sv1.t = sv.t ∧ sv1.day = sv.day ∧ Below b0 w wr ∧ w1.heap.size ≤ wr.heap.size
def rdLen (R : Nat) (w : World) : Nat := match w.cell? ⟨R, 0, none⟩ with
  | some (.string S) => S.size
  | _ => 0
theorem rdLen_at {w : World} {R : Nat} {s : List UInt8} (h : At w R [.string (bs s)]) : rdLen R w = s.length := by
  unfold rdLen
  rw [h.cell 0 rfl]
  exact bs_size s
theorem nx_less {s word : List UInt8} {n : Nat} {ns : List Int} {r : List UInt8} (h : Nx s word n ns r) : r.length < s.length := by
  rw [h.1, List.length_append, List.length_cons]
  omega
theorem reB_iff {t : Ln.Terms} {day d k a : Int} : reB t day d k a = true ↔ (t.st ≤ d ∧ d < day ∧ 1 ≤ k ∧ k ≤ 12 ∧ ¬ a = 0) := by
  unfold reB
  rw [Bool.and_eq_true, Bool.and_eq_true, decide_eq_true_eq, decide_eq_true_eq, decide_eq_true_eq]
  omega
theorem three_of {l : List Int} (h : l.length = 3) : ∃ a0 a1 a2, l = [a0, a1, a2] := by
  match l, h with
  | [a0, a1, a2], _ => exact ⟨a0, a1, a2, rfl⟩
set_option maxRecDepth 10000 in
set_option maxHeartbeats 4000000 in
theorem readbook_any (w : World) (B R b0 : Nat) (s : List UInt8) (sv : Sv) (F : Nat → Prop) (hL : IsL w B sv F) (hR : At w R [.string (bs s)]) (hF : ∀ x, F x → b0 ≤ x ∧ x < w.heap.size ∧ ¬ x = R) (hb0 : b0 ≤ R) (hs : Sh s) (hl : sv.L.length + s.length ≤ 4000000000000) (hd0 : -1000000 ≤ sv.day) (hd1 : sv.day ≤ 1000000) (hg : ∀ wx, Below b0 w wx → Gl wx) :
    Calls Tryz.prog 76 #[.pointer (some ⟨B, 0, none⟩), .pointer (some ⟨R, 0, none⟩)] w (RbPost w B R b0 s sv F) := by
  have hRl : R < w.heap.size := At.lt hR
  have hB1 : Below w.heap.size w (w.alloc (.cells #[.int .i64 0, .int .i64 0, .int .i64 0] 114)) := (Below.refl _ _).alloc (Nat.le_refl _) _
  have hA1 : At (w.alloc (.cells #[.int .i64 0, .int .i64 0, .int .i64 0] 114)) w.heap.size [.int .i64 0, .int .i64 0, .int .i64 0] := At.alloc w [.int .i64 0, .int .i64 0, .int .i64 0] _
  have HI0 : Hid (RbI w (w.alloc (.cells #[.int .i64 0, .int .i64 0, .int .i64 0] 114)) B R w.heap.size b0 s sv F (w.alloc (.cells #[.int .i64 0, .int .i64 0, .int .i64 0] 114))) :=
    ⟨s, sv, 0, 0, 0, rfl, hR.lower hB1, hA1, (hL.keep (S := fun _ => False) (Keep.below hB1) (fun _ _ x => x)).mono (fun _ _ h => .inl h), Lq.refl _, Nat.le_refl _, rfl, rfl, hB1.mono (Nat.le_trans hb0 (Nat.le_of_lt hRl)), Nat.le_refl _⟩
  have hsz : (w.alloc (.cells #[.int .i64 0, .int .i64 0, .int .i64 0] 114)).heap.size = w.heap.size + 1 := by simp
  obtain ⟨N, hN⟩ : ∃ N, N = w.heap.size := ⟨_, rfl⟩
  have HN : Hid (N = w.heap.size) := hN
  have HG : Hid (∀ wx, Below b0 w wx → Gl wx) := hg
  have HF : Hid (∀ x, F x → b0 ≤ x ∧ x < w.heap.size ∧ ¬ x = R) := hF
  have HW1 : Hid ((w.alloc (.cells #[.int .i64 0, .int .i64 0, .int .i64 0] 114)).heap.size = w.heap.size + 1) := hsz
  rw [← hN] at HI0
  clear hL hR hF hg hB1 hA1 hsz
  go_enter Tryz.func76, Tryz.ntmps76
  go_wp2
  rw [← hN]
  clear hN
  generalize w.alloc (.cells #[.int .i64 0, .int .i64 0, .int .i64 0] 114) = w1 at *
  go_loopw [4] (fun _ wr => RbI w w1 B R N b0 s sv F wr) (fun _ wr => rdLen R wr)
  case atStart => exact HI0.out
  case round =>
    clear HI0
    obtain ⟨s1, sv1, x0, x1, x2, htl, hR1, hN1, hL1, hs1, hl1, ht1, hdy1, hb1, hsz1⟩ := hrel
    have hRl1 : R < wr.heap.size := At.lt hR1
    have hNl1 : N < wr.heap.size := At.lt hN1
    have hNR : ¬ N = R := by have := HN.out; omega
    have hB2 : Below wr.heap.size wr (wr.drew.alloc (.cells (ptrs N 0 3).toArray 110)) := (Below.refl _ _).drew.alloc (Nat.le_refl _) _
    have hb2 : Below b0 w (wr.drew.alloc (.cells (ptrs N 0 3).toArray 110)) := hb1.trans (hB2.mono (by omega))
    have hCn := entryNumbers_any wr N 0
    have hRd := read_any (wr.drew.alloc (.cells (ptrs N 0 3).toArray 110)) R s1 wEntry N 0 3 [.int .i64 x0, .int .i64 x1, .int .i64 x2] _ (hR1.lower hB2) (hs1.2 hs) (Pt.made wr R N 0 3 hRl1 hNl1) (hN1.lower hB2) (show 0 + 3 ≤ 3 by decide) hNR (noB_wdk 4 (by omega)) (noL_wdk 4 (by omega)) (by decide) (by omega) (HG.out _ hb2)
    have HR1 : Hid (rdLen R wr = s1.length) := rdLen_at hR1
    have HL2 : Hid (IsL (wr.drew.alloc (.cells (ptrs N 0 3).toArray 110)) B sv1 (Wd F w1 wr)) := hL1.keep (S := fun _ => False) (Keep.below hB2) (fun _ _ x => x)
    have HB2 : Hid (Below b0 w (wr.drew.alloc (.cells (ptrs N 0 3).toArray 110)) ∧ wr.heap.size ≤ (wr.drew.alloc (.cells (ptrs N 0 3).toArray 110)).heap.size) := ⟨hb2, hB2.size⟩
    have HRa : Hid (At (wr.drew.alloc (.cells (ptrs N 0 3).toArray 110)) R [.string (bs s1)]) := hR1.lower hB2
    have HTl : Hid (tl 4 (some sv) s = tl 4 (some sv1) s1) := htl
    have HWd : Hid (∀ x, Wd F w1 wr x → b0 ≤ x ∧ ¬ x = R ∧ ¬ x = N ∧ x < wr.heap.size ∧ (F x ∨ w.heap.size ≤ x)) := fun x hx => by
      have h1 := HN.out
      have h2 := HW1.out
      rcases hx with h | ⟨h3, h4⟩
      · have := HF.out x h
        exact ⟨this.1, this.2.2, by omega, by omega, .inl h⟩
      · exact ⟨by omega, by omega, by omega, h4, .inr (by omega)⟩
    have HEq : Hid (sv1.t = sv.t ∧ sv1.day = sv.day ∧ w1.heap.size ≤ wr.heap.size) := ⟨ht1, hdy1, hsz1⟩
    clear hR1 hN1 hL1 hb1 hB2 hb2 htl ht1 hdy1 hsz1
    go_wp2_with fail
    refine hCn.mono ?_
    rintro e w6 ⟨rfl, rfl⟩
    clear hCn
    generalize wr.drew.alloc (.cells (ptrs N 0 3).toArray 110) = w2 at *
    go_wp2_with fail
    refine hRd.mono ?_
    rintro e w3 hx
    clear hRd
    rcases hx with ⟨ns, r, hnx, rfl, hR3, hN3, hk3⟩ | ⟨hno, rfl, hb3⟩
    · obtain ⟨d, k, a, rfl⟩ := three_of hnx.2.1
      have HNx : Hid (Nx s1 (wdk 4) (cnk 4) [d, k, a] r) := hnx
      have HR3 : Hid (At w3 R [.string (bs r)]) := hR3
      have HN3 : Hid (At w3 N [.int .i64 d, .int .i64 k, .int .i64 a]) := hN3
      have HL3 : Hid (IsL w3 B sv1 (Wd F w1 wr)) := HL2.out.keep hk3 (fun b hb h => by
        have := HWd.out b hb
        rcases h with h | h
        · exact this.2.1 h
        · exact this.2.2.1 h)
      have HB3 : Hid (Below b0 w w3 ∧ wr.heap.size ≤ w3.heap.size) := by
        refine ⟨⟨hk3.os.trans HB2.out.1.os, hk3.tape.trans HB2.out.1.tape, hk3.output.trans HB2.out.1.output, Nat.le_trans HB2.out.1.size hk3.size, fun b hb => (hk3.block b ?_ ?_).trans (HB2.out.1.block b hb)⟩, Nat.le_trans HB2.out.2 hk3.size⟩
        · have := HB2.out.2; omega
        · intro h
          have := HN.out
          rcases h with h | h <;> omega
      obtain ⟨evv, bk, hA3, _⟩ := HL3.out.at
      have hRe := rightentry_any w3 B sv1.t evv sv1.g sv1.day bk hA3 (by rw [HEq.out.2.1]; exact hd0) (by rw [HEq.out.2.1]; exact hd1) d k a
      have hr3 : w3.rangeAt N 0 [.int .i64 d, .int .i64 k, .int .i64 a] := hN3.range
      clear hnx hR3 hN3 hk3 hA3 HL2 HB2
      go_upto_region 3 with fail
      refine wp_region_lit ?_
      refine wpList_val (.pointer (some ⟨B, 0, none⟩)) w3 rfl rfl ?_
      simp only [Act.put, List.setIfInBounds_toArray, List.set_cons_zero, List.set_cons_succ]
      refine wpList_load_mid rfl 114 (.tmp 5) rfl N 0 rfl [.int .i64 d, .int .i64 k, .int .i64 a] _ hr3 Tryz.underlying114 rfl (by kernel_rfl) ?_
      simp only [Act.put, List.setIfInBounds_toArray, List.set_cons_zero, List.set_cons_succ]
      clear hr3
      go_wp2_with fail
      refine hRe.mono ?_
      rintro e w4 ⟨rfl, hb4⟩
      clear hRe
      have HB4 : Hid (Below w3.heap.size w3 w4) := hb4
      clear hb4
      cases hre : reB sv1.t sv1.day d k a with
      | false =>
        have HE : Hid (RbPost w B R b0 s sv F (.returned (.bool false)) w4) := by
          refine ⟨HB3.out.1.trans (HB4.out.mono (by have := HB3.out.2; omega)), .inr ⟨rfl, ?_⟩⟩
          rw [HTl.out]
          refine tl_fail (by omega) HNx.out ?_
          show (some sv1).bind (fun s => s.read 4 [d, k, a]) = none
          show sv1.read 4 [d, k, a] = none
          simp only [Sv.read]
          rw [if_neg (fun h => by rw [reB_iff.2 h] at hre; cases hre)]
        clear hre
        go_wp2
        go_ret
        exact HE.out
      | true =>
        have hcond := reB_iff.1 hre
        have HCond : Hid (sv1.t.st ≤ d ∧ d < sv1.day ∧ 1 ≤ k ∧ k ≤ 12 ∧ ¬ a = 0) := hcond
        have hIn : ∀ m ∈ [d, k, a], InR m := HNx.out.2.2
        have HU : Hid (Below w3.heap.size w3 w4.drew) := HB4.out.drew
        have hLU : IsL w4.drew B sv1 (Wd F w1 wr) := HL3.out.keep (S := fun _ => False) (Keep.below HU.out) (fun _ _ x => x)
        obtain ⟨P, hP, hCw⟩ := hLU.book d k a hcond.2.2.2.2 (hIn d (by simp)) (hIn k (by simp)) (hIn a (by simp)) (by omega)
        have hNU : At w4.drew N [.int .i64 d, .int .i64 k, .int .i64 a] := HN3.out.lower HU.out
        have HRU : Hid (At w4.drew R [.string (bs r)]) := HR3.out.lower HU.out
        have HNU : Hid (At w4.drew N [.int .i64 d, .int .i64 k, .int .i64 a]) := hNU
        have HS0 : Hid (w4.drew.cell? ⟨B, 15, none⟩ = some (.pointer (some ⟨P, 0, none⟩)) ∧ w4.drew.rangeAt N 0 [.int .i64 d, .int .i64 k, .int .i64 a]) := ⟨hP, hNU.range⟩
        clear hre hcond hIn hLU hP hNU
        go_upto_region 5 with fail
        refine wp_region_held_drew (S := fun wx => wx.cell? ⟨B, 15, none⟩ = some (.pointer (some ⟨P, 0, none⟩)) ∧ wx.rangeAt N 0 [.int .i64 d, .int .i64 k, .int .i64 a]) (by kernel_rfl) HS0.out (fun hHeld => ?_)
        generalize w4.drew = U at *
        refine wpAnyH_take (i := 0) (v := (.pointer (some ⟨B, 0, none⟩))) rfl (by kernel_rfl) (by kernel_rfl) (by kernel_rfl) (fun _ _ _ h => h) (Or.inl ⟨by rfl, fun wx hSw => by kernel_rfl⟩) (by assumption) ?_
        simp only [Act.put, List.getElem_toArray, List.getElem_cons_zero, List.setIfInBounds_toArray, List.set_cons_zero, List.set_cons_succ]
        refine wpAnyH_take (i := 1) (v := (.pointer (some ⟨B, 0, none⟩))) rfl (by kernel_rfl) (by kernel_rfl) (by kernel_rfl) (fun _ _ _ h => h) (Or.inl ⟨by rfl, fun wx hSw => by ((try dsimp only at hSw); go_simp)⟩) (by assumption) ?_
        simp only [Act.put, List.getElem_toArray, List.getElem_cons_succ, List.getElem_cons_zero, List.setIfInBounds_toArray, List.set_cons_zero, List.set_cons_succ]
        refine wpAnyH_take (i := 2) (v := (.pointer (some ⟨B, 15, none⟩))) rfl (by kernel_rfl) (by kernel_rfl) (by kernel_rfl) (fun _ _ _ h => h) (Or.inl ⟨by rfl, fun wx hSw => by ((try dsimp only at hSw); go_simp)⟩) (by assumption) ?_
        simp only [Act.put, List.getElem_toArray, List.getElem_cons_succ, List.getElem_cons_zero, List.setIfInBounds_toArray, List.set_cons_zero, List.set_cons_succ]
        refine wpAnyH_take (i := 3) (v := (.pointer (some ⟨P, 0, none⟩))) rfl (by kernel_rfl) (by kernel_rfl) (by kernel_rfl) (fun _ _ _ h => h) (Or.inl ⟨by rfl, fun wx hSw => by (have hc := hSw.1; go_simp)⟩) (by assumption) ?_
        simp only [Act.put, List.getElem_toArray, List.getElem_cons_succ, List.getElem_cons_zero, List.setIfInBounds_toArray, List.set_cons_zero, List.set_cons_succ]
        refine wpAnyH_take (i := 4) (v := (.agg #[.int .i64 d, .int .i64 k, .int .i64 a])) rfl (by kernel_rfl) (by kernel_rfl) (by kernel_rfl) (fun _ _ _ h => h) (yieldsIf_load_mid (by rfl) 114 (.tmp 5) rfl _ _ rfl _ _ (fun _ h => h.2) Tryz.underlying114 rfl (by kernel_rfl)) (by assumption) ?_
        simp only [Act.put, List.getElem_toArray, List.getElem_cons_succ, List.getElem_cons_zero, List.setIfInBounds_toArray, List.set_cons_zero, List.set_cons_succ]
        refine wpAnyH_ready (rs := [5]) (by kernel_rfl) (by simp) ?_
        refine AllReadyH.cons rfl (fun K hK => ?_) AllReadyH.nil
        go_simp
        refine hCw.mono ?_
        rintro e w5 ⟨rfl, hL5, hk5, hc5⟩
        have hNw : ¬ Wd F w1 wr N := fun h => (HWd.out N h).2.2.1 rfl
        have hRw : ¬ Wd F w1 wr R := fun h => (HWd.out R h).2.1 rfl
        have hN5 : At w5 N [.int .i64 d, .int .i64 k, .int .i64 a] := HNU.out.block (hk5.block N (At.lt HNU.out) hNw)
        have hR5 : At w5 R [.string (bs r)] := HRU.out.block (hk5.block R (At.lt HRU.out) hRw)
        have hbU : Below b0 w U := HB3.out.1.trans (HU.out.mono (by have := HB3.out.2; omega))
        have HI5 : Hid (RbI w w1 B R N b0 s sv F w5) := by
          refine ⟨r, _, d, k, a, ?_, hR5, hN5, Lo.mono hL5 (fun x _ hx => ?_), ?_, ?_, HEq.out.1, HEq.out.2.1, ?_, ?_⟩
          · rw [HTl.out]
            refine tl_go (j := 4) (k := 4) (by omega) HNx.out (by decide) ?_
            show sv1.read 4 [d, k, a] = _
            simp only [Sv.read]
            rw [if_pos HCond.out]
          · rcases hx with (h | ⟨h1, h2⟩) | ⟨h1, h2⟩
            · exact .inl h
            · exact .inr ⟨h1, by have := HB3.out.2; have := HU.out.size; have := hk5.size; omega⟩
            · exact .inr ⟨by have := HEq.out.2.2; have := HB3.out.2; have := HU.out.size; omega, h2⟩
          · exact (Lq.nx (noL_wdk 4 (by omega)) HNx.out).trans hs1
          · have := nx_less HNx.out
            show (sv1.L ++ [_]).length + _ ≤ _
            rw [List.length_append, List.length_singleton]
            omega
          · refine ⟨hk5.os.trans hbU.os, hk5.tape.trans hbU.tape, hk5.output.trans hbU.output, Nat.le_trans hbU.size hk5.size, fun b hb => (hk5.block b ?_ ?_).trans (hbU.block b hb)⟩
            · have := HB3.out.2; have := HU.out.size; omega
            · intro h
              have := (HWd.out b h).1
              omega
          · have := HEq.out.2.2; have := HB3.out.2; have := HU.out.size; have := hk5.size; omega
        have HM5 : Hid (rdLen R w5 < rdLen R wr) := by
          show _ < _
          rw [rdLen_at hR5, HR1.out]
          exact nx_less HNx.out
        have hS5 : w5.cell? ⟨B, 15, none⟩ = some (.pointer (some ⟨P, 0, none⟩)) ∧ w5.rangeAt N 0 [.int .i64 d, .int .i64 k, .int .i64 a] := ⟨hc5, hN5.range⟩
        clear hCw hL5 hk5 hc5 hN5 hR5 hbU hNw hRw
        go_wp2_with fail
        refine hK.out _ _ hS5 (fun _ => ?_)
        clear hK K hS5 hHeld
        refine wpAnyH_done (by kernel_rfl) ?_ _
        go_wp2
        exact ⟨HI5.out, HM5.out⟩
    · have HE : Hid (RbPost w B R b0 s sv F (.returned (.bool true)) w3) := by
        refine ⟨HB2.out.1.trans (hb3.mono (by have := HB2.out.2; omega)), .inl ⟨s1, sv1, rfl, HTl.out, hno, ?_, ?_, hs1, hl1, HEq.out.1, HEq.out.2.1⟩⟩
        · exact HRa.out.lower hb3
        · refine Lo.mono (HL2.out.keep (S := fun _ => False) (Keep.below hb3) (fun _ _ x => x)) (fun x _ hx => ?_)
          have h1 := HWd.out x hx
          rcases h1.2.2.2.2 with h | h
          · exact .inl h
          · exact .inr ⟨h, by have := HB2.out.2; have := hb3.size; omega⟩
      clear hno hb3
      go_wp2
      go_ret
      exact HE.out
end Go.Proofs.YtanndhoimpnhpaaGreatDoor
namespace Go.Proofs.YtanndhoimpnhpaaGreatDoor
theorem ah_all {E : List Ln.Ev} {e : Ln.Ev} (hE : E.Pairwise So.Ah) (h : ∀ x, E.getLast? = some x → So.Ah x e) : (E ++ [e]).Pairwise So.Ah := by
  rw [List.pairwise_append]
  refine ⟨hE, List.pairwise_singleton _ _, fun x hx y hy => ?_⟩
  rw [List.mem_singleton] at hy
  subst hy
  cases hl : E.getLast? with
  | none =>
    rw [List.getLast?_eq_none_iff] at hl
    subst hl
    exact absurd hx List.not_mem_nil
  | some z =>
    have hz := h z hl
    obtain ⟨init, rfl⟩ := List.getLast?_eq_some_iff.1 hl
    rcases List.mem_append.1 hx with h1 | h1
    · exact So.ah_trans ((List.pairwise_append.1 hE).2.2 x h1 z (by simp)) hz
    · rw [List.mem_singleton] at h1
      subst h1
      exact hz
theorem last_iff {E E' : List Ln.Ev} {e : Ln.Ev} (hp : E'.Perm (e :: E)) (hs : E'.Pairwise So.Ah) (hE : E.Pairwise So.Ah) :
    (E'.getLast? = some e ∧ E' = E ++ [e] ∧ ∀ x, E.getLast? = some x → So.Ah x e) ∨ (¬ E'.getLast? = some e ∧ ¬ ∀ x, E.getLast? = some x → So.Ah x e) := by
  have hp2 : E'.Perm (E ++ [e]) := hp.trans (List.perm_append_singleton e E).symm
  by_cases h : ∀ x, E.getLast? = some x → So.Ah x e
  · have e1 : E' = E ++ [e] := So.sorted_one hp2 hs (ah_all hE h)
    exact .inl ⟨by rw [e1]; simp, e1, h⟩
  · refine .inr ⟨fun hl => h ?_, h⟩
    obtain ⟨init, rfl⟩ := List.getLast?_eq_some_iff.1 hl
    have h1 : init.Perm E := (List.perm_append_right_iff [e]).1 hp2
    have h2 := List.pairwise_append.1 hs
    have h3 : init = E := So.sorted_one h1 h2.1 hE
    subst h3
    intro x hx
    exact h2.2.2 x (List.mem_of_getLast? hx) e (by simp)
end Go.Proofs.YtanndhoimpnhpaaGreatDoor
