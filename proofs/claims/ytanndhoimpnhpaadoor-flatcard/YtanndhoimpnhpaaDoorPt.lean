/- What the program's PutRight does: each kind of a day is compared with what the book has of it. -/
import Derived.Test.YtanndhoimpnhpaaDoorWr
import Derived.Test.YtanndhoimpnhpaaDoorPrJ0
namespace Go.Proofs.YtanndhoimpnhpaaDoor
open Go.ChangeShapes Go.WideShapes Go.RowKit Go.WideMaps Go.Maps

theorem sumOf_append (l m : List En) (d k : Int) (h : ∀ e ∈ m, ¬ (d = e.d ∧ k = e.k)) : sumOf (l ++ m) d k = sumOf l d k := by
  unfold sumOf
  rw [List.foldl_append]
  generalize l.foldl (fun s e => if d = e.d ∧ k = e.k then wrap64 (s + e.a) else s) 0 = s
  induction m generalizing s with
  | nil => rfl
  | cons e r ih =>
    rw [List.foldl_cons, if_neg (h e (by simp))]
    exact ih (fun x hx => h x (by simp [hx])) s
theorem kindW_mem {n : Int} {k : Nat} {is am : Int} {e : En} (h : e ∈ kindW n k is am) : e.d = n ∧ e.k = k := by
  unfold kindW at h
  split at h
  · simp at h
  · rcases List.mem_append.1 h with h | h
    · split at h
      · simp at h
      · simp at h; subst h; exact ⟨rfl, rfl⟩
    · split at h
      · simp at h
      · simp at h; subst h; exact ⟨rfl, rfl⟩
theorem kindsW_mem {n : Int} {h am : Nat → Int} {e : En} : ∀ {j : Nat}, e ∈ kindsW n h am j → e.d = n ∧ 1 ≤ e.k ∧ e.k ≤ j
  | 0, he => by simp [kindsW] at he
  | j + 1, he => by
    rcases List.mem_append.1 he with he | he
    · have := kindsW_mem he
      omega
    · have := kindW_mem he
      omega
theorem sumOf_kinds (L : List En) (n : Int) (h am : Nat → Int) (j k : Nat) (hk : j < k) : sumOf (L ++ kindsW n h am j) n k = sumOf L n k :=
  sumOf_append _ _ _ _ (fun e he hh => by have := kindsW_mem he; omega)

theorem OwnNew.comp {V wr : World} {a b c : Value} (h : OwnNew V a b) (k : OwnNew wr b c) (hs : V.heap.size ≤ wr.heap.size) : OwnNew V a c := by
  rcases k with k | ⟨x, k1, k2⟩
  · rcases h with h | ⟨x, h1, h2⟩
    · exact .inl (k.trans h)
    · exact .inr ⟨x, k.trans h1, h2⟩
  · exact .inr ⟨x, k1, Nat.le_trans hs k2⟩
theorem BkS.comp {V wr w' : World} {P Mb : Nat} {bkv bkvr : Value} (ho : OwnNew V bkv bkvr) (hk : Keep (BkS P Mb bkv) V wr) (h2 : Keep (BkS P Mb bkvr) wr w') : Keep (BkS P Mb bkv) V w' := by
  refine ⟨h2.os.trans hk.os, h2.tape.trans hk.tape, h2.output.trans hk.output, Nat.le_trans hk.size h2.size, fun b hb hs => ?_⟩
  refine (h2.block b (Nat.lt_of_lt_of_le hb hk.size) (fun h => ?_)).trans (hk.block b hb hs)
  rcases h with h | h | h
  · exact hs (.inl h)
  · exact hs (.inr (.inl h))
  · rcases ho with h4 | ⟨c, h5, h6⟩
    · exact hs (.inr (.inr (h4.symm.trans h)))
    · rw [h5] at h
      cases h
      omega
/-- Under way: the book has these entries; the day's amounts lie in block A. -/
def PtW (V : World) (P Mb : Nat) (bkv : Value) (A : Nat) (am : Nat → Int) (M : List En) (wr : World) : Prop :=
  ∃ bkvr, BkIs wr P bkvr Mb M ∧ OwnNew V bkv bkvr ∧ Keep (BkS P Mb bkv) V wr ∧ At wr A (hc 13 am)
theorem PtW.write {V : World} {P Mb : Nat} {bkv : Value} {A : Nat} {am : Nat → Int} {M : List En} {wr w' : World} {bkvr bkv' : Value} {N : List En} (h : PtW V P Mb bkv A am M wr) (hA : ¬ BkS P Mb bkv A) (hAl : A < V.heap.size) (ho : OwnNew V bkv bkvr) (h1 : BkIs w' P bkv' Mb N) (h2 : OwnNew wr bkvr bkv') (h3 : Keep (BkS P Mb bkvr) wr w') : PtW V P Mb bkv A am N w' := by
  obtain ⟨_, _, _, hk, ha⟩ := h
  have hk' := BkS.comp ho hk h3
  refine ⟨bkv', h1, ho.comp h2 hk.size, hk', ha.block ((hk'.block A hAl hA).trans (hk.block A hAl hA).symm)⟩

set_option maxRecDepth 100000 in
set_option maxHeartbeats 4000000 in
theorem putright_any (w : World) (P : Nat) (bkv : Value) (Mb : Nat) (L : List En) (h : BkIs w P bkv Mb L) (hL : L.length + 24 ≤ 5000000000000) (n : Int) (hn : I64 n) (am : Nat → Int) (ha : ∀ k, 1 ≤ k → k ≤ 12 → I64 (am k)) :
    Calls Tryd.prog 45 #[.pointer (some ⟨P, 0, none⟩), .int .i64 n, amV am] w fun e w' => e = .returned (.tuple #[]) ∧ ∃ bkv', BkIs w' P bkv' Mb (L ++ kindsW n (fun k => sumOf L n k) am 12) ∧ OwnNew w bkv bkv' ∧ Keep (BkS P Mb bkv) w w' := by
  have HB : Hid (BkIs w P bkv Mb L) := h
  have HA : Hid (∀ k, 1 ≤ k → k ≤ 12 → I64 (am k)) := ha
  have HN : Hid (I64 n) := hn
  clear h ha hn
  unfold amV
  go_enter Tryd.func45, Tryd.ntmps45
  go_wp2_with fail
  have HE : Hid (PtW (w.alloc (.cells (hc 13 am).toArray 91)) P Mb bkv w.heap.size am L (w.alloc (.cells (hc 13 am).toArray 91))) := ⟨bkv, HB.out.keep (Keep.below (S := fun _ => False) ((Below.refl _ _).alloc (Nat.le_refl _) _)) (fun _ _ h => h), .inl rfl, Keep.refl _ _, At.alloc w _ _⟩
  have HK0 : Hid (Keep (fun _ => False) w (w.alloc (.cells (hc 13 am).toArray 91))) := Keep.below ((Below.refl _ _).alloc (Nat.le_refl _) _)
  have HAl : Hid (w.heap.size < (w.alloc (.cells (hc 13 am).toArray 91)).heap.size) := by show _ < _; simp
  have HPE : Hid (¬ BkS P Mb bkv w.heap.size) := fun hb => by
    have h1 := At.lt HB.out.pl
    have h2 := HB.out.lt
    rcases hb with hb | hb | hb
    · omega
    · omega
    · have := (HB.out.own hb).2; omega
  change Code.wp _ _ _ _ (w.alloc (.cells (hc 13 am).toArray 91))
  generalize w.alloc (.cells (hc 13 am).toArray 91) = V at *
  generalize w.heap.size = A at *
  go_loopw [6] (fun i wr => ∃ q : Nat, q ≤ 12 ∧ i = .int .i64 (q + 1) ∧ PtW V P Mb bkv A am (L ++ kindsW n (fun k => sumOf L n k) am q) wr) (fun i _ => (13 - intOf i).toNat)
  case atStart => exact ⟨0, by omega, rfl, by rw [kindsW, List.append_nil]; exact HE.out⟩
  case round =>
    obtain ⟨q, hq, rfl, hw⟩ := hrel
    by_cases hlt : q < 12
    · have HW : Hid (PtW V P Mb bkv A am (L ++ kindsW n (fun k => sumOf L n k) am q) wr) := hw
      obtain ⟨bkvr, hb, ho, hk, hat⟩ := hw
      have c1 : wr.cell? ⟨P, 1, none⟩ = some (.map (some Mb)) := hb.pl.cell 1 rfl
      have hlk := hb.mp.look n (q + 1) HN.out (by unfold I64; omega)
      have hsm : sumOf (L ++ kindsW n (fun k => sumOf L n k) am q) n (q + 1) = sumOf L n (q + 1) := sumOf_kinds L n _ am q (q + 1) (by omega)
      rw [hsm] at hlk
      have ca : wr.cell? ⟨A, q + 1, none⟩ = some (.int .i64 (am (q + 1))) := hat.cell (q + 1) (hc_at 13 am (q + 1) (by omega))
      have HKW : Hid (L ++ kindsW n (fun k => sumOf L n k) am (q + 1) = (L ++ kindsW n (fun k => sumOf L n k) am q) ++ kindW n (q + 1) (sumOf L n (q + 1)) (am (q + 1))) := by
        show _ = _
        rw [kindsW, List.append_assoc]
        rfl
      have hlen : (L ++ kindsW n (fun k => sumOf L n k) am q).length + 2 ≤ 5000000000000 := by
        have := kindsW_len n (fun k => sumOf L n k) am q
        rw [List.length_append]
        omega
      have hsi := sumOf_i64 L n (q + 1)
      have hai := HA.out (q + 1) (by omega) (by omega)
      have HBr : Hid (BkIs wr P bkvr Mb (L ++ kindsW n (fun k => sumOf L n k) am q)) := hb
      have HOr : Hid (OwnNew V bkv bkvr) := ho
      clear hb ho hk hat hsm
      generalize L ++ kindsW n (fun k => sumOf L n k) am q = M at *
      generalize sumOf L n (q + 1) = is at *
      generalize hav : am (q + 1) = av at *
      have hav : Hid (am (q + 1) = av) := hav
      by_cases heq : is = av
      · have heb : (is == av) = true := by simp [heq]
        go_wp2_with fail
        refine ⟨⟨q + 1, by omega, by simp, ?_⟩, by simp [intOf]; omega⟩
        rw [HKW.out, show kindW n (q + 1) is av = [] by unfold kindW; rw [if_pos heq], List.append_nil]
        exact HW.out
      · have heb : (is == av) = false := by simp [heq]
        have HEQ : Hid (¬ is = av) := heq
        clear heq
        go_wp2_with fail
        refine (write_any wr P bkvr Mb M HBr.out (by omega) n (q + 1) (wrap64 (-is)) HN.out (by unfold I64; omega) (wrap64_i64 _)).mono ?_
        rintro e w1 ⟨rfl, bkv1, hb1, ho1, hk1⟩
        have hw1 := PtW.write HW.out HPE.out HAl.out HOr.out hb1 ho1 hk1
        have HO1 : Hid (OwnNew V bkv bkv1) := HOr.out.comp ho1 (by obtain ⟨_, _, _, hk, _⟩ := HW.out; exact hk.size)
        have HW1 : Hid (PtW V P Mb bkv A am (M ++ if wrap64 (-is) = 0 then [] else [⟨n, q + 1, wrap64 (-is)⟩]) w1) := hw1
        have hlen1 : (M ++ if wrap64 (-is) = 0 then [] else [(⟨n, q + 1, wrap64 (-is)⟩ : En)]).length + 1 ≤ 5000000000000 := by
          rw [List.length_append]
          split
          · simp; omega
          · simp; omega
        have HB1 : Hid (BkIs w1 P bkv1 Mb (M ++ if wrap64 (-is) = 0 then [] else [⟨n, q + 1, wrap64 (-is)⟩])) := hb1
        have ca1 : w1.cell? ⟨A, q + 1, none⟩ = some (.int .i64 av) := by
          obtain ⟨_, _, _, _, hat⟩ := hw1
          rw [← hav.out]
          exact hat.cell (q + 1) (hc_at 13 am (q + 1) (by omega))
        clear hw1 hb1 ho1 hk1
        have HKK : Hid (M ++ kindW n (q + 1) is av = (M ++ if wrap64 (-is) = 0 then [] else [⟨n, q + 1, wrap64 (-is)⟩]) ++ if av = 0 then [] else [⟨n, q + 1, av⟩]) := by
          show _ = _
          unfold kindW
          rw [if_neg HEQ.out, List.append_assoc]
          have hz : wrap64 (-is) = 0 ↔ is = 0 := by
            have := hsi
            unfold I64 at this
            unfold wrap64
            omega
          by_cases h0 : is = 0
          · rw [if_pos h0, if_pos (hz.2 h0)]
            rfl
          · rw [if_neg h0, if_neg (fun h => h0 (hz.1 h))]
            rfl
        generalize (M ++ if wrap64 (-is) = 0 then [] else [(⟨n, q + 1, wrap64 (-is)⟩ : En)]) = M1 at *
        go_wp2_with fail
        refine (write_any w1 P bkv1 Mb M1 HB1.out hlen1 n (q + 1) av HN.out (by unfold I64; omega) hai).mono ?_
        rintro e w2 ⟨rfl, bkv2, hb2, ho2, hk2⟩
        have hw2 := PtW.write HW1.out HPE.out HAl.out HO1.out hb2 ho2 hk2
        clear hb2 ho2 hk2
        have HW2 : Hid (PtW V P Mb bkv A am (M1 ++ if av = 0 then [] else [⟨n, q + 1, av⟩]) w2) := hw2
        clear hw2
        go_wp2_with fail
        refine ⟨⟨q + 1, by omega, by simp, ?_⟩, by simp [intOf]; omega⟩
        rw [HKW.out, HKK.out]
        exact HW2.out
    · obtain rfl : q = 12 := by omega
      go_wp2_with fail
      go_end0
      obtain ⟨bkvr, hb, ho, hk, hat⟩ := hw
      refine ⟨rfl, bkvr, hb, ?_, ?_⟩
      · rcases ho with h | ⟨b, h1, h2⟩
        · exact .inl h
        · exact .inr ⟨b, h1, Nat.le_trans HK0.out.size h2⟩
      · exact (HK0.out.mono (fun _ _ h => h.elim)).trans hk
end Go.Proofs.YtanndhoimpnhpaaDoor
