/- Joined by program: BsS, Opl, Opm, Mvl, Liml. -/
import Derived.Test.YtanndhoimpnhpaaGreatDoorM36
import Derived.Test.YtanndhoimpnhpaaGreatDoorM35
import Derived.Deep.Slices
import Derived.ChangeSame
import Derived.Test.YtanndhoimpnhpaaGreatDoorM7
import Derived.Lib.LaidU8
import Derived.Test.YtanndhoimpnhpaaGreatDoorM20
/- known, Books over whatever played is known to do. -/
namespace Go.Proofs.YtanndhoimpnhpaaGreatDoor
open Go.ChangeShapes Go.WideShapes Go.ChangeAt Go.RowKit Go.WideMaps Go.Maps Lg Cal

set_option maxRecDepth 10000 in
set_option maxHeartbeats 8000000 in
theorem known_gen (most : Int) (w : World) (hmv : Mv w) (hpl : ∀ (wx : World) (va : Value), SpV wx va ksc → Below w.heap.size w wx → Calls Tryz.prog 9 #[tmV kt, tmV kt, va, .int .i64 most] wx fun e w' => e = .returned (.bool true) ∧ Below wx.heap.size wx w') :
    Calls Tryz.prog 8 #[.int .i64 most] w fun e w' => e = .returned (.bool true) ∧ Below w.heap.size w w' := by
  have HMv : Hid (Mv w) := hmv
  have HPl : Hid (∀ (wx : World) (va : Value), SpV wx va ksc → Below w.heap.size w wx → Calls Tryz.prog 9 #[tmV kt, tmV kt, va, .int .i64 most] wx fun e w' => e = .returned (.bool true) ∧ Below wx.heap.size wx w') := hpl
  have hgl := hmv.lt
  have HA : Hid (At (w.alloc (.cells (tml kt).toArray 23)) w.heap.size (tml kt)) := At.alloc w _ _
  have HB : Hid (Below w.heap.size w (w.alloc (.cells (tml kt).toArray 23))) := (Below.refl _ _).alloc (Nat.le_refl _) _
  clear hmv hpl
  go_enter Tryz.func8, Tryz.ntmps8
  go_upto_region 2 with (first | (refine wpList_store_new rfl 23 (.tmp 3) (.tmp 9) rfl (tml kt).toArray _ rfl rfl (by kernel_rfl) rfl (by kernel_rfl) ?_) | fail)
  change Code.wp _ _ _ _ (w.alloc (.cells (tml kt).toArray 23))
  generalize w.alloc (.cells (tml kt).toArray 23) = V0 at *
  have hO := openL kt V0 (by decide)
  unfold tmV at hO
  refine wp_region_lit ?_
  refine wpList_load_mid rfl 23 (.tmp 3) rfl _ 0 rfl (tml kt) _ HA.out.range Tryz.underlying23 rfl (by kernel_rfl) ?_
  simp only [Act.put, List.setIfInBounds_toArray, List.set_cons_zero, List.set_cons_succ]
  go_wp2_with fail
  refine hO.mono ?_
  rintro x w1 ⟨B, rfl, hLo, hb1⟩
  clear hO
  have hbw1 : Below w.heap.size w w1 := HB.out.trans (hb1.mono HB.out.size)
  have hR : Calls Tryz.prog 17 #[.pointer (some ⟨B, 0, none⟩), .int .i64 36526] w1 _ := runL w1 B kt [] _ _ _ _ hLo (by simp) 2 (by decide) (by omega) (HMv.out.below hbw1) (fun x => by have := Wd.fresh x; have := HB.out.size; omega)
  go_wp2_with fail
  refine hR.mono ?_
  rintro x w2 ⟨rfl, hLo2, hk2⟩
  clear hR
  have HB2 : Hid (Below V0.heap.size V0 w2) := dfresh hb1 hk2 (fun b x => Wd.fresh x) hb1.size
  have hBa := balanceL w2 B _ _ _ _ _ _ hLo2
  have Hit : Hid ((Ln.run kt cdOf (wtOf kt.ba) [] 2).it = 2000) := kt_it
  clear hLo hLo2 hk2 hbw1 hb1
  generalize Ln.run kt cdOf (wtOf kt.ba) [] 2 = G at *
  generalize kt.st + ((2 : Nat) : Int) = dy at *
  go_wp2_with fail
  refine hBa.mono ?_
  rintro x w3 ⟨rfl, hb3⟩
  clear hBa
  unfold blV
  have hb4 : Below V0.heap.size V0 (w3.alloc (.cells (bll G dy).toArray 52)) := (HB2.out.trans (hb3.mono HB2.out.size)).alloc (Nat.le_trans HB2.out.size hb3.size) _
  have HN7 : Hid (At (w3.alloc (.cells (bll G dy).toArray 52)) w3.heap.size (bll G dy)) := At.alloc w3 _ _
  have HB4 : Hid (Below w.heap.size w (w3.alloc (.cells (bll G dy).toArray 52))) := HB.out.trans (hb4.mono HB.out.size)
  have HA4 : Hid (At (w3.alloc (.cells (bll G dy).toArray 52)) w.heap.size (tml kt)) := At.keep (S := fun _ => False) (v := .int .i64 kt.st) HA.out (Keep.below hb4) (fun x => x)
  clear HB2 hb3 hb4 HA HB
  go_upto_region 7 with (first | (refine wpList_store_new rfl 52 (.tmp 7) (.tmp 24) rfl (bll G dy).toArray _ rfl rfl (by kernel_rfl) rfl (by kernel_rfl) ?_) | fail)
  generalize w3.alloc (.cells (bll G dy).toArray 52) = V3 at *
  generalize w3.heap.size = N7 at *
  refine wp_region_lit ?_
  refine wpList_load_mid rfl 23 (.tmp 3) rfl _ 0 rfl (tml kt) _ HA4.out.range Tryz.underlying23 rfl (by kernel_rfl) ?_
  simp only [Act.put, List.setIfInBounds_toArray, List.set_cons_zero, List.set_cons_succ]
  refine wpList_load_mid rfl 23 (.tmp 3) rfl _ 0 rfl (tml kt) _ HA4.out.range Tryz.underlying23 rfl (by kernel_rfl) ?_
  simp only [Act.put, List.setIfInBounds_toArray, List.set_cons_zero, List.set_cons_succ]
  refine wpList_val (.agg #[.int .i64 3, .int .i64 0, .int .i64 0, .int .i64 0, .int .i64 0, .int .i64 0, .int .i64 36526, .string ByteArray.empty]) V3 rfl (by kernel_rfl) ?_
  simp only [Act.put, List.setIfInBounds_toArray, List.set_cons_zero, List.set_cons_succ]
  refine wpList_val (.agg #[.int .i64 7, .int .i64 0, .int .i64 0, .int .i64 0, .int .i64 0, .int .i64 0, .int .i64 0, .string ByteArray.empty]) V3 rfl (by kernel_rfl) ?_
  simp only [Act.put, List.setIfInBounds_toArray, List.set_cons_zero, List.set_cons_succ]
  refine wpList_val (.agg #[.int .i64 36525, .int .i64 5, .int .i64 0, .int .i64 500]) V3 rfl (by kernel_rfl) ?_
  simp only [Act.put, List.setIfInBounds_toArray, List.set_cons_zero, List.set_cons_succ]
  refine wpList_val (.agg #[.int .i64 1, .int .i64 0, .int .i64 36525, .int .i64 5, .int .i64 0, .int .i64 500, .int .i64 0, .string ByteArray.empty]) V3 rfl (by kernel_rfl) ?_
  simp only [Act.put, List.setIfInBounds_toArray, List.set_cons_zero, List.set_cons_succ]
  refine wpList_val (.agg #[.int .i64 3, .int .i64 0, .int .i64 0, .int .i64 0, .int .i64 0, .int .i64 0, .int .i64 36539, .string ByteArray.empty]) V3 rfl (by kernel_rfl) ?_
  simp only [Act.put, List.setIfInBounds_toArray, List.set_cons_zero, List.set_cons_succ]
  have hsz : Below V3.heap.size V3 (V3.alloc (.cells (scl ksc).toArray 60)) := (Below.refl _ _).alloc (Nat.le_refl _) _
  have HB5 : Hid (Below w.heap.size w (V3.alloc (.cells (scl ksc).toArray 60))) := HB4.out.alloc HB4.out.size _
  have HN5 : Hid (At (V3.alloc (.cells (scl ksc).toArray 60)) N7 (bll G dy)) := At.keep (S := fun _ => False) (v := .int .i64 G.pr) HN7.out (Keep.below hsz) (fun x => x)
  have hRow : At (V3.alloc (.cells (scl ksc).toArray 60)) V3.heap.size (scl ksc) := At.alloc V3 _ _
  have hSp : SpV (V3.alloc (.cells (scl ksc).toArray 60)) (.slice (some ⟨V3.heap.size, 0, none⟩) 4 4) ksc := ⟨some ⟨V3.heap.size, 0, none⟩, 4, rfl, Nat.le_refl _, fun k hk => ⟨V3.heap.size, 0, rfl, At.lt (v := .int .i64 3) hRow, by rw [Nat.zero_add]; exact hRow.mid (k * 8) _ (ksc_mid k hk)⟩⟩
  have hPl := HPl.out _ _ hSp HB5.out
  unfold tmV at hPl
  refine wpList_val (.slice (some ⟨V3.heap.size, 0, none⟩) 4 4) (V3.alloc (.cells (scl ksc).toArray 60)) rfl (by kernel_rfl) ?_
  simp only [Act.put, List.setIfInBounds_toArray, List.set_cons_zero, List.set_cons_succ]
  clear hRow hSp hsz HB4 HA4 HN7
  generalize V3.alloc (.cells (scl ksc).toArray 60) = V5 at *
  go_wp2_with fail
  refine hPl.mono ?_
  rintro x w6 ⟨rfl, hb6⟩
  clear hPl
  have q1 : w6.cell? ⟨N7, 1, none⟩ = some (.int .i64 2000) := by
    have := (At.keep (S := fun _ => False) (v := .int .i64 G.pr) HN5.out (Keep.below hb6) (fun x => x)).cell 1 rfl
    rw [this, Hit.out]
  have HE : Hid (Below w.heap.size w w6) := HB5.out.trans (hb6.mono HB5.out.size)
  clear hb6 HN5 HB5
  go_wp2
  go_ret
  exact ⟨rfl, HE.out⟩
set_option maxRecDepth 10000 in
set_option maxHeartbeats 4000000 in
theorem books_gen (w : World) (ta tb : Ln.Terms) (v : Value) (sc : List Sp) (hv : SpV w v sc) (hkn : ∀ wx : World, Below w.heap.size w wx → Calls Tryz.prog 8 #[.int .i64 6] wx fun e w' => e = .returned (.bool true) ∧ Below wx.heap.size wx w') (hpl : ∀ wx : World, Below w.heap.size w wx → Calls Tryz.prog 9 #[tmV ta, tmV tb, v, .int .i64 6] wx fun e w' => e = .returned (.bool true) ∧ Below wx.heap.size wx w') :
    Calls Tryz.prog 4 #[tmV ta, tmV tb, v] w fun e w' => e = .returned (.bool true) ∧ Below w.heap.size w w' := by
  have s1 : (w.alloc (.cells (tml ta).toArray 23)).heap.size = w.heap.size + 1 := Array.size_push _
  have b1 : Below w.heap.size w (w.alloc (.cells (tml ta).toArray 23)) := (Below.refl _ _).alloc (Nat.le_refl _) _
  have b2 : Below w.heap.size w ((w.alloc (.cells (tml ta).toArray 23)).alloc (.cells (tml tb).toArray 23)) := b1.alloc b1.size _
  have k12 : Below (w.alloc (.cells (tml ta).toArray 23)).heap.size (w.alloc (.cells (tml ta).toArray 23)) ((w.alloc (.cells (tml ta).toArray 23)).alloc (.cells (tml tb).toArray 23)) := (Below.refl _ _).alloc (Nat.le_refl _) _
  have HA : Hid (At ((w.alloc (.cells (tml ta).toArray 23)).alloc (.cells (tml tb).toArray 23)) w.heap.size (tml ta)) := At.keep (S := fun _ => False) (v := .int .i64 ta.st) (At.alloc w (tml ta) _) (Keep.below k12) (fun x => x)
  have HB : Hid (At ((w.alloc (.cells (tml ta).toArray 23)).alloc (.cells (tml tb).toArray 23)) (w.heap.size + 1) (tml tb)) := by
    have h := At.alloc (w.alloc (.cells (tml ta).toArray 23)) (tml tb) 23
    rw [s1] at h
    exact h
  have HBl : Hid (Below w.heap.size w ((w.alloc (.cells (tml ta).toArray 23)).alloc (.cells (tml tb).toArray 23))) := b2
  obtain ⟨sp, scap, rfl, _, _⟩ := hv
  have HKn : Hid (∀ wx : World, Below w.heap.size w wx → Calls Tryz.prog 8 #[.int .i64 6] wx fun e w' => e = .returned (.bool true) ∧ Below wx.heap.size wx w') := hkn
  have HPl : Hid (∀ wx : World, Below w.heap.size w wx → Calls Tryz.prog 9 #[tmV ta, tmV tb, .slice sp sc.length scap, .int .i64 6] wx fun e w' => e = .returned (.bool true) ∧ Below wx.heap.size wx w') := hpl
  clear s1 b1 b2 k12 hkn hpl
  unfold tmV
  go_enter Tryz.func4, Tryz.ntmps4
  go_upto_region 1 with fail
  change Code.wp _ _ _ _ ((w.alloc (.cells (tml ta).toArray 23)).alloc (.cells (tml tb).toArray 23))
  generalize (w.alloc (.cells (tml ta).toArray 23)).alloc (.cells (tml tb).toArray 23) = V0 at *
  have hK := HKn.out V0 HBl.out
  go_wp2_with fail
  refine hK.mono ?_
  rintro x w1 ⟨rfl, hb1⟩
  clear hK
  have HB1 : Hid (Below w.heap.size w w1) := HBl.out.trans (hb1.mono HBl.out.size)
  have ra : w1.rangeAt w.heap.size 0 (tml ta) := (At.keep (S := fun _ => False) (v := .int .i64 ta.st) HA.out (Keep.below hb1) (fun x => x)).range
  have rb : w1.rangeAt (w.heap.size + 1) 0 (tml tb) := (At.keep (S := fun _ => False) (v := .int .i64 tb.st) HB.out (Keep.below hb1) (fun x => x)).range
  have hP := HPl.out w1 HB1.out
  unfold tmV at hP
  clear hb1 HA HB HBl
  go_upto_region 2 with fail
  refine wp_region_lit ?_
  refine wpList_load_mid rfl 23 (.tmp 3) rfl _ 0 rfl (tml ta) _ ra Tryz.underlying23 rfl (by kernel_rfl) ?_
  simp only [Act.put, List.setIfInBounds_toArray, List.set_cons_zero, List.set_cons_succ]
  refine wpList_load_mid rfl 23 (.tmp 4) rfl _ 0 rfl (tml tb) _ rb Tryz.underlying23 rfl (by kernel_rfl) ?_
  simp only [Act.put, List.setIfInBounds_toArray, List.set_cons_zero, List.set_cons_succ]
  clear ra rb
  go_wp2_with fail
  refine hP.mono ?_
  rintro x w2 ⟨rfl, hb2⟩
  clear hP
  have HE : Hid (Below w.heap.size w w2) := HB1.out.trans (hb2.mono HB1.out.size)
  clear hb2 HB1
  go_wp2
  go_ret
  exact ⟨rfl, HE.out⟩

/-- A step of the kinds up to Accounts. -/
theorem step6 (w wr : World) (hmv : Mv w) (hlim : Lim w) (W n : Nat) (pv dv : Nat → Value) (G : Nat → Nat → Prop) (B : Bv) (c : Nat) (Q : Nat → Prop) (s : Sp) (hs : s.kind ≤ 6) (h : WlG w wr W n pv dv G B c Q) (hn : n ≤ 30000000) (hc : c ≤ 60000000) : Calls Tryz.prog 25 #[.pointer (some ⟨W, 0, none⟩), .agg (spl s).toArray] wr (StepTo w W n c) := by
  obtain ⟨kind, on, e, m, sv⟩ := s
  refine (step_gen w wr W n pv dv G B c Q h (by omega) hmv hlim (by omega) kind on e m sv hs).mono ?_
  rintro x w' ⟨rfl, G', B', c', Q', hc', hW⟩
  exact ⟨rfl, pv, dv, G', B', c', Q', hc', hW⟩
theorem played6 (w : World) (ta tb : Ln.Terms) (v : Value) (sc : List Sp) (hv : SpV w v sc) (hsl : sc.length ≤ 30000000) (hmv : Mv w) (hlim : Lim w) :
    Calls Tryz.prog 9 #[tmV ta, tmV tb, v, .int .i64 6] w fun e w' => e = .returned (.bool true) ∧ Below w.heap.size w w' :=
  played_gen 6 (by omega) 0 w ta tb v sc hv (by omega) hmv (fun wr W n pv dv G B c Q s _ hk hW _ hn hc => step6 w wr hmv hlim W n pv dv G B c Q s hk hW hn hc)
theorem books_any (w : World) (ta tb : Ln.Terms) (v : Value) (sc : List Sp) (hv : SpV w v sc) (hsl : sc.length ≤ 30000000) (hmv : Mv w) (hlim : Lim w) :
    Calls Tryz.prog 4 #[tmV ta, tmV tb, v] w fun e w' => e = .returned (.bool true) ∧ Below w.heap.size w w' := by
  have hl : ∀ wx, Below w.heap.size w wx → Lim wx := fun wx hx => hlim.keep (S := fun _ => False) (Keep.below hx) (fun x => x)
  exact books_gen w ta tb v sc hv
    (fun wx hx => known_gen 6 wx (hmv.below hx) (fun wy va hs hy => played6 wy kt kt va ksc hs (by decide) (hmv.below (hx.trans (hy.mono hx.size))) (hl wy (hx.trans (hy.mono hx.size)))))
    (fun wx hx => played6 wx ta tb v sc (hv.below hx) hsl (hmv.below hx) (hl wx hx))
end Go.Proofs.YtanndhoimpnhpaaGreatDoor

/- Arguments opened: terms, a script. -/
namespace Go.Proofs.YtanndhoimpnhpaaGreatDoor
open Go.ChangeShapes Go.WideShapes Go.RowKit Go.Deep Cal

instance : Inhabited Sp := ⟨⟨0, 0, ⟨0, 0, 0, 0⟩, 0, .bool false⟩⟩
section
variable {H : Type} {enc : TypeId × Value → H}

set_option maxRecDepth 100000 in
theorem open_Terms {W : World} {b0 : Nat} {v : Value} {d : DataW H} {ps : List MemPlace} (hok : Value.okWide Tryz.prog W .any b0 23 v) (h : DataW.Trod enc Tryz.prog W 0 (fun _ => true) true 23 v d ps) : ∃ t : Ln.Terms, v = tmV t := by
  obtain ⟨cs, rfl, hsz⟩ := okWide_struct Tryz.underlying23 hok
  obtain ⟨n, hn⟩ := h
  have hn2 : DataW.trod enc Tryz.prog W 0 (fun _ => true) true n 23 cs.toList = some (d, ps) := hn
  rw [show Tryz.prog.cellsOf 23 = 6 by kernel_rfl] at hsz
  obtain ⟨xs, k, hk, hxy, _, hxl, hf⟩ := DataW.trod_struct Tryz.underlying23 hn2
  obtain ⟨l⟩ := cs
  match l, hsz with
  | [u0, u1, u2, u3, u4, u5], _ =>
    match xs, hxl with
    | [y0, y1, y2, y3, y4, y5], _ =>
      have g0 := hf 0 _ rfl
      have g1 := hf 1 _ rfl
      have g2 := hf 2 _ rfl
      have g3 := hf 3 _ rfl
      have g4 := hf 4 _ rfl
      have g5 := hf 5 _ rfl
      have c1 : Tryz.prog.cellsOf 3 = 1 := by kernel_rfl
      simp [c1] at g0 g1 g2 g3 g4 g5
      obtain ⟨z0, e0, _, w0⟩ := DataW.trod_int Tryz.underlying3 g0
      obtain ⟨z1, e1, _, w1⟩ := DataW.trod_int Tryz.underlying3 g1
      obtain ⟨z2, e2, _, w2⟩ := DataW.trod_int Tryz.underlying3 g2
      obtain ⟨z3, e3, _, w3⟩ := DataW.trod_int Tryz.underlying3 g3
      obtain ⟨z4, e4, _, w4⟩ := DataW.trod_int Tryz.underlying3 g4
      obtain ⟨z5, e5, _, w5⟩ := DataW.trod_int Tryz.underlying3 g5
      simp only [List.cons.injEq, and_true] at e0 e1 e2 e3 e4 e5
      subst e0 e1 e2 e3 e4 e5
      exact ⟨⟨z0, z1, z2, z3, z4, z5⟩, rfl⟩
end
end Go.Proofs.YtanndhoimpnhpaaGreatDoor

/- Arguments opened: a script. -/
namespace Go.Proofs.YtanndhoimpnhpaaGreatDoor
open Go.ChangeShapes Go.WideShapes Go.RowKit Go.Deep Cal

section
variable {H : Type} {enc : TypeId × Value → H}

set_option maxRecDepth 100000 in
theorem open_SpV {W : World} {b0 : Nat} {v : Value} {d : DataW H} {ps : List MemPlace} (hok : Value.okWide Tryz.prog W .any b0 24 v) (h : DataW.Trod enc Tryz.prog W 0 (fun _ => true) true 24 v d ps) :
    ∃ sc : List Sp, SpV W v sc ∧ (sc = [] ∨ ∃ es sp, d = .slice es sp ∧ sc.length ≤ es.length + sp.length) := by
  obtain ⟨a0, len, cap, rfl⟩ := okWide_slice Tryz.underlying24 hok
  obtain ⟨n, hn⟩ := h
  have hn2 : DataW.trod enc Tryz.prog W 0 (fun _ => true) true n 24 [.slice a0 len cap] = some (d, ps) := hn
  rcases open_slice Tryz.underlying24 hn2 with ⟨hc, _⟩ | ⟨a, len', cap', m, n', D, Pl, hc, _, hl, hm, hmm, hz, hx⟩
  · simp only [List.cons.injEq, Value.slice.injEq, and_true] at hc
    obtain ⟨rfl, rfl, rfl⟩ := hc
    exact ⟨[], ⟨none, 0, rfl, Nat.le_refl _, fun k hk => absurd hk (Nat.not_lt_zero k)⟩, .inl rfl⟩
  · simp only [List.cons.injEq, Value.slice.injEq, and_true] at hc
    obtain ⟨rfl, rfl, rfl⟩ := hc
    simp only [if_true] at hmm
    subst hmm
    have ce : Tryz.prog.cellsOf 60 = 8 := by kernel_rfl
    have each : ∀ i, i < len → ∃ r : Sp, (∀ j u, (spl r)[j]? = some u → W.cell? (a.add (i * 8 + j)) = some u) := fun i hi => by
      obtain ⟨cs', h1, h2⟩ := hx i (by omega)
      rw [ce] at h1
      obtain ⟨_, hlen, hcell⟩ := World.cells?_some h1
      obtain ⟨xs, k, hk, hxy, _, hxl, hf⟩ := DataW.trod_struct Tryz.underlying60 h2
      match xs, hxl, cs', hlen with
      | [y0, y1, y2, y3, y4], _, [u0, u1, u2, u3, u4, u5, u6, u7], _ =>
        have g0 := hf 0 _ rfl
        have g1 := hf 1 _ rfl
        have g2 := hf 2 _ rfl
        have g3 := hf 3 _ rfl
        have c1 : Tryz.prog.cellsOf 3 = 1 := by kernel_rfl
        have c4 : Tryz.prog.cellsOf 50 = 4 := by kernel_rfl
        simp [c1, c4] at g0 g1 g2 g3
        obtain ⟨z0, e0, _, w0⟩ := DataW.trod_int Tryz.underlying3 g0
        obtain ⟨z1, e1, _, w1⟩ := DataW.trod_int Tryz.underlying3 g1
        obtain ⟨z3, e3, _, w3⟩ := DataW.trod_int Tryz.underlying3 g3
        obtain ⟨ys, k2, hk2, hyy, _, hyl, hg⟩ := DataW.trod_struct Tryz.underlying50 g2
        match ys, hyl with
        | [x0, x1, x2, x3], _ =>
          have f0 := hg 0 _ rfl
          have f1 := hg 1 _ rfl
          have f2 := hg 2 _ rfl
          have f3 := hg 3 _ rfl
          simp [c1] at f0 f1 f2 f3
          obtain ⟨q0, i0, _, _⟩ := DataW.trod_int Tryz.underlying3 f0
          obtain ⟨q1, i1, _, _⟩ := DataW.trod_int Tryz.underlying3 f1
          obtain ⟨q2, i2, _, _⟩ := DataW.trod_int Tryz.underlying3 f2
          obtain ⟨q3, i3, _, _⟩ := DataW.trod_int Tryz.underlying3 f3
          simp only [List.cons.injEq, and_true] at e0 e1 e3 i0 i1 i2 i3
          subst e0 e1 e3 i0 i1 i2 i3
          refine ⟨⟨z0, z1, ⟨q0, q1, q2, q3⟩, z3, u7⟩, fun j u hu => ?_⟩
          have hj : j < 8 := (List.getElem?_eq_some_iff.1 hu).1
          have hc := hcell j (by simpa using hj)
          rw [add_add] at hc
          rw [hc]
          exact hu
    obtain ⟨R, hR⟩ := choose_lt each
    have hrl : ((List.range len).map R).length = len := by simp
    have hm2 : m ≤ 9223372036854775807 := hm
    refine ⟨(List.range len).map R, ⟨some a, m, by rw [hrl], by omega, fun k hk => ?_⟩, .inr ?_⟩
    · have hk2 : k < len := by omega
      have hRk := hR k hk2
      have e : ((List.range len).map R)[k] = R k := by simp
      rw [e]
      obtain ⟨ab, ao, asp⟩ := a
      have h0 := hRk 0 _ rfl
      have hsp : asp = none := by
        have := World.cell?_spot (hR 0 (by omega) 0 _ rfl)
        simpa [Addr.add] using this
      subst hsp
      rw [Addr.add_lit] at h0
      refine ⟨ab, ao, rfl, World.block_lt_of_cell? W ⟨ab, ao + (k * 8 + 0), none⟩ h0, fun j u hj => ?_⟩
      have := hRk j u hj
      rw [Addr.add_lit, ← Nat.add_assoc] at this
      exact this
    · simp only [Prod.mk.injEq] at hz
      exact ⟨_, _, hz.1, by simp⟩
end
end Go.Proofs.YtanndhoimpnhpaaGreatDoor

/- The program's table of moves, out of what the row lists of it. -/
namespace Go.Proofs.YtanndhoimpnhpaaGreatDoor
open Go.RowKit

def mvz : List (List Int) := [[0, 0], [1, 0], [4, 3], [3, 2], [1, 2], [0, 5], [0, 4], [0, 3], [0, 2], [0, 1], [0, 6], [2, 7], [5, 8]]
def mvData {H : Type} : DataW H := .agg (mvz.map fun zs => .agg (zs.map fun z => .lit (.int .i64 z)))
theorem gMoves : Tryz.prog.globalNamed "accrue/owed.moves" = some 1 := by kernel_rfl
theorem mvl_at : ∀ j, j < 26 → mvl[j]? = ((mvz.getD (j / 2) []).map fun z => Value.int .i64 z)[j % 2]? := by
  intro j hj
  match j, hj with
  | 0, _ => rfl
  | 1, _ => rfl
  | 2, _ => rfl
  | 3, _ => rfl
  | 4, _ => rfl
  | 5, _ => rfl
  | 6, _ => rfl
  | 7, _ => rfl
  | 8, _ => rfl
  | 9, _ => rfl
  | 10, _ => rfl
  | 11, _ => rfl
  | 12, _ => rfl
  | 13, _ => rfl
  | 14, _ => rfl
  | 15, _ => rfl
  | 16, _ => rfl
  | 17, _ => rfl
  | 18, _ => rfl
  | 19, _ => rfl
  | 20, _ => rfl
  | 21, _ => rfl
  | 22, _ => rfl
  | 23, _ => rfl
  | 24, _ => rfl
  | 25, _ => rfl
  | j + 26, h => exact absurd h (by omega)
theorem mv_of_reads {W : World} (h : Lib.VarReads Tryz.prog W "accrue/owed.moves" mvData) : Mv W ∧ 1 < W.heap.size := by
  obtain ⟨g, t, cs, fuel, p, hg, hty, hvar, hd⟩ := h
  obtain rfl := Option.some.inj (gMoves.symm.trans hg)
  obtain rfl := Option.some.inj ((show (Tryz.prog.globals[1]?).map (·.type) = some 203 by kernel_rfl).symm.trans hty)
  have c2 : Tryz.prog.cellsOf 202 = 2 := by kernel_rfl
  have key : ∀ i, i < 13 → (cs.toList.drop (i * 2)).take 2 = (mvz.getD i []).map fun z => Value.int .i64 z := by
    intro i hi
    obtain ⟨fuel', d, q, hds, htr⟩ := Lib.array_elem Tryz.underlying203 hd i hi
    rw [c2] at htr
    have hz : mvz[i]? = some (mvz.getD i []) := by
      rw [List.getD_eq_getElem?_getD, List.getElem?_eq_getElem (show i < mvz.length from hi)]
      rfl
    rw [List.getElem?_map, hz] at hds
    obtain rfl := Option.some.inj hds
    refine Lib.ints_of_struct Tryz.underlying202 ?_ c2 htr
    intro j f hf
    match j, hf with
    | 0, hf =>
      obtain rfl := Option.some.inj hf
      exact ⟨Tryz.underlying3, rfl, by kernel_rfl⟩
    | 1, hf =>
      obtain rfl := Option.some.inj hf
      exact ⟨Tryz.underlying3, rfl, by kernel_rfl⟩
    | j + 2, hf => exact absurd hf (by simp)
  have hcell : ∀ j, j < 26 → W.cell? ⟨1, j, none⟩ = mvl[j]? := by
    intro j hj
    have hv := World.var?_cell hg hvar j
    have hk := congrArg (fun l => l[j % 2]?) (key (j / 2) (by omega))
    simp only [List.getElem?_take, List.getElem?_drop, show j % 2 < 2 by omega, if_true] at hk
    rw [show j / 2 * 2 + j % 2 = j by omega] at hk
    rw [hv, mvl_at j hj, ← hk, Array.getElem?_toList]
  have hall : Mv W := by
    intro j v hj
    have hlt : j < 26 := by
      have := (List.getElem?_eq_some_iff.1 hj).1
      exact this
    rw [hcell j hlt, hj]
  exact ⟨hall, World.block_lt_of_cell? _ _ (hall 0 _ rfl)⟩
end Go.Proofs.YtanndhoimpnhpaaGreatDoor

/- The program's table of limits, out of what the row lists of it. -/
namespace Go.Proofs.YtanndhoimpnhpaaGreatDoor
open Go.RowKit

def lmz : List (List Int) := [[0, 0], [1, 100000000000], [0, 1000000], [1, 400], [0, 0], [1, 100000000000]]
def lmData {H : Type} : DataW H := .agg (lmz.map fun zs => .agg (zs.map fun z => .lit (.int .i64 z)))
theorem gLimits : Tryz.prog.globalNamed "accrue/accrue.amountLimits" = some 0 := by kernel_rfl
theorem liml_at : ∀ j, j < 12 → liml[j]? = ((lmz.getD (j / 2) []).map fun z => Value.int .i64 z)[j % 2]? := by
  intro j hj
  match j, hj with
  | 0, _ => rfl
  | 1, _ => rfl
  | 2, _ => rfl
  | 3, _ => rfl
  | 4, _ => rfl
  | 5, _ => rfl
  | 6, _ => rfl
  | 7, _ => rfl
  | 8, _ => rfl
  | 9, _ => rfl
  | 10, _ => rfl
  | 11, _ => rfl
  | j + 12, h => exact absurd h (by omega)
theorem lim_of_reads {W : World} (h : Lib.VarReads Tryz.prog W "accrue/accrue.amountLimits" lmData) : Lim W := by
  obtain ⟨g, t, cs, fuel, p, hg, hty, hvar, hd⟩ := h
  obtain rfl := Option.some.inj (gLimits.symm.trans hg)
  obtain rfl := Option.some.inj ((show (Tryz.prog.globals[0]?).map (·.type) = some 154 by kernel_rfl).symm.trans hty)
  have c2 : Tryz.prog.cellsOf 86 = 2 := by kernel_rfl
  have key : ∀ i, i < 6 → (cs.toList.drop (i * 2)).take 2 = (lmz.getD i []).map fun z => Value.int .i64 z := by
    intro i hi
    obtain ⟨fuel', d, q, hds, htr⟩ := Lib.array_elem Tryz.underlying154 hd i hi
    rw [c2] at htr
    have hz : lmz[i]? = some (lmz.getD i []) := by
      rw [List.getD_eq_getElem?_getD, List.getElem?_eq_getElem (show i < lmz.length from hi)]
      rfl
    rw [List.getElem?_map, hz] at hds
    obtain rfl := Option.some.inj hds
    refine Lib.ints_of_struct Tryz.underlying86 ?_ c2 htr
    intro j f hf
    match j, hf with
    | 0, hf =>
      obtain rfl := Option.some.inj hf
      exact ⟨Tryz.underlying3, rfl, by kernel_rfl⟩
    | 1, hf =>
      obtain rfl := Option.some.inj hf
      exact ⟨Tryz.underlying3, rfl, by kernel_rfl⟩
    | j + 2, hf => exact absurd hf (by simp)
  have hcell : ∀ j, j < 12 → W.cell? ⟨0, j, none⟩ = liml[j]? := by
    intro j hj
    have hv := World.var?_cell hg hvar j
    have hk := congrArg (fun l => l[j % 2]?) (key (j / 2) (by omega))
    simp only [List.getElem?_take, List.getElem?_drop, show j % 2 < 2 by omega, if_true] at hk
    rw [show j / 2 * 2 + j % 2 = j by omega] at hk
    rw [hv, liml_at j hj, ← hk, Array.getElem?_toList]
  intro j v hj
  have hlt : j < 12 := by
    have := (List.getElem?_eq_some_iff.1 hj).1
    exact this
  rw [hcell j hlt, hj]
end Go.Proofs.YtanndhoimpnhpaaGreatDoor
