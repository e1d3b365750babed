import Derived.Test.YtaelfgdiboekpaaDoorNsRC
/-
  A call by the document: contracts that the claimed proof uses.
-/
namespace Go.Proofs.YtaelfgdiboekpaaDoor.Ns
set_option maxRecDepth 100000
open Go.RowKit
open Ce (u y ldW Mem row)
open Bi (Blk Drawn hasB hasB_iff hasB_not up_alloc up_drew up_trans i64_in ret_i ret_b grown_refl grown_trans grown_below)

/-- What is left of the document's slab behind a call. -/
def RLeft (r m gm b c : Nat) (S' : SS) (w w' : World) : Prop := ∃ gm' cap' i j, Rf w' r m gm' cap' S'.bs b c S'.h S'.f ∧ Fr i j w w' ∧ (i = r ∨ i = gm) ∧ (j = m ∨ j = gm) ∧ (gm' = gm ∨ w.heap.size ≤ gm')
/-- ... and what it answers. -/
def RAns (E : Int) (O : List Int) (e : Ending) (w' : World) : Prop := ∃ A k cp, e = .returned (.tuple #[.slice A k cp, .int .i64 E]) ∧ Li w' A O ∧ O.length = k
section
variable {w w' : World} {r m gm cap b c B : Nat} {S S' : SS} {L : List Nat}
theorem RLeft.pre {w1 : World} (hb : Below w.heap.size w w1) (h : RLeft r m gm b c S' w1 w') : RLeft r m gm b c S' w w' := by
  obtain ⟨gm', cap', i, j, h1, h2, h3, h4, h5⟩ := h
  exact ⟨gm', cap', i, j, h1, (Fr.of hb).trans h2, h3, h4, h5.imp id (fun z => Nat.le_trans hb.size z)⟩
theorem RLeft.post {w1 : World} (h : RLeft r m gm b c S' w w1) (hb : Below w1.heap.size w1 w') : RLeft r m gm b c S' w w' := by
  obtain ⟨gm', cap', i, j, h1, h2, h3, h4, h5⟩ := h
  exact ⟨gm', cap', i, j, h1.below hb, h2.trans (Fr.of hb), h3, h4, h5⟩
theorem RLeft.same (x : Rf w r m gm cap S.bs b c S.h S.f) (hb : Below w.heap.size w w') : RLeft r m gm b c S w w' := ⟨gm, cap, r, m, x.below hb, Fr.of hb, .inl rfl, .inl rfl, .inl rfl⟩
theorem RTook.left (h : RTook r m gm cap b c S.bs L w w') : ∃ S', S'.bs = S.bs ∧ Rt (nx S'.bs b c) S'.h S'.f L ∧ RLeft r m gm b c S' w w' := by
  obtain ⟨h', h1, h2, h3⟩ := h
  exact ⟨⟨S.bs, h', L.length⟩, rfl, h1, gm, cap, r, m, h2, h3.wide1, .inl rfl, .inl rfl, .inl rfl⟩
theorem RGave.left (h : RGave r m gm b c S' w w') : RLeft r m gm b c S' w w' := by
  obtain ⟨gm', cap', h1, h2, h3⟩ := h
  exact ⟨gm', cap', r, m, h1, h2, .inl rfl, .inl rfl, h3⟩
theorem gv_no {a : Int} (h : gvE b c L a ≠ 0) : gvS b c S L a = S ∧ gvL b c L a = L := by
  unfold gvE at h
  unfold gvS gvL
  cases hs : slotO b c a with
  | none => exact ⟨rfl, rfl⟩
  | some k =>
    rw [hs] at h
    have h2 : (if k ∈ L then (19 : Int) else 0) ≠ 0 := h
    by_cases hk : k ∈ L
    · exact ⟨if_pos hk, if_pos hk⟩
    · rw [if_neg hk] at h2; exact absurd rfl h2
theorem gv_yes {a : Int} {k : Nat} (h1 : slotO b c a = some k) (h2 : k ∉ L) : gvS b c S L a = S.push b c k ∧ gvL b c L a = k :: L := by
  unfold gvS gvL
  rw [h1]
  exact ⟨if_neg h2, if_neg h2⟩
/-! ### Each kind of call -/
def RDoes (r m gm b c : Nat) (S : SS) (L : List Nat) (X : Cl) (w : World) (e : Ending) (w' : World) : Prop :=
  RAns (doE b c L X) (doO b c L X) e w' ∧ ∃ S', S'.bs = doB b c S L X ∧ Rt (nx S'.bs b c) S'.h S'.f (doL b c L X) ∧ RLeft r m gm b c S' w w'
theorem rdo_take (x : Rf w r m gm cap S.bs b c S.h S.f) (hr : Rt (nx S.bs b c) S.h S.f L) : Calls Tryd.prog 68 #[.pointer (some ⟨r, 0, none⟩)] w fun e w' => e = .returned (tkV b c L) ∧ ∃ S', S'.bs = S.bs ∧ Rt (nx S'.bs b c) S'.h S'.f (L.drop 1) ∧ RLeft r m gm b c S' w w' :=
  (rtake_yes x hr).mono fun _ _ ⟨h1, h2⟩ => ⟨h1, h2.left⟩
theorem rdo_give (a : Int) (x : Rf w r m gm cap S.bs b c S.h S.f) (hr : Rt (nx S.bs b c) S.h S.f L) : Calls Tryd.prog 69 #[.pointer (some ⟨r, 0, none⟩), .int .i64 a] w fun e w' =>
    e = .returned (.int .i64 (gvE b c L a)) ∧ Rt (nx (gvS b c S L a).bs b c) (gvS b c S L a).h (gvS b c S L a).f (gvL b c L a) ∧ RLeft r m gm b c (gvS b c S L a) w w' :=
  (rgive_yes a x hr).mono fun e w' h => by
    rcases h with ⟨h1, h2, h3⟩ | ⟨h1, h2, k, k1, k2, h3⟩
    · obtain ⟨e1, e2⟩ := gv_no (S := S) h1
      rw [e1, e2]
      exact ⟨h2, hr, .same x h3⟩
    · obtain ⟨e1, e2⟩ := gv_yes (S := S) k1 k2
      rw [e1, e2, h1]
      have o : Ok b c S.bs.length S L := ⟨hr, rfl, x.hh⟩
      exact ⟨h2, (o.push x.hc x.fit (slotO_some k1).1 k2).rt, h3.left⟩
theorem rdo_all {A : Option Addr} {n cp : Nat} {T : List Int} (x : Rf w r m gm cap S.bs b c S.h S.f) (hr : Rt (nx S.bs b c) S.h S.f L) (hA : At B w A (ints T)) (hB : B ≤ r ∧ B ≤ m ∧ B ≤ w.heap.size) (hn : T.length = n) (hn2 : n ≤ 1048576) (hcp : n ≤ cp) :
    Calls Tryd.prog 71 #[.pointer (some ⟨r, 0, none⟩), .slice A n cp] w fun e w' => e = .returned (.int .i64 (gaE b c L T)) ∧ Rt (nx (gaS b c S L T).bs b c) (gaS b c S L T).h (gaS b c S L T).f (gaL b c L T) ∧ RLeft r m gm b c (gaS b c S L T) w w' :=
  (rall_yes x hr hA hB hn hn2 hcp).mono fun e w' h => by
    unfold gaS gaL
    rcases h with ⟨h1, h2, h3⟩ | ⟨h1, h2, h3⟩
    · rw [if_neg h1, if_neg h1]
      exact ⟨h2, hr, .same x h3⟩
    · rw [if_pos h1, if_pos h1, h1]
      have o : Ok b c S.bs.length S L := ⟨hr, rfl, x.hh⟩
      have p := pushes_ok (T := T) o x.hc x.fit h1 T.length (Nat.le_refl _)
      rw [List.take_length] at p
      exact ⟨h2, p.rt, h3.left⟩
set_option maxHeartbeats 2000000 in
theorem does_any (X : Cl) (x : Rf w r m gm cap S.bs b c S.h S.f) (hr : Rt (nx S.bs b c) S.h S.f L) (hX : At B w X.A (ints X.xs)) (hB : B ≤ r ∧ B ≤ m ∧ B ≤ w.heap.size) (hn : X.xs.length = X.n) (hn2 : X.n ≤ 1048576) (hcp : X.n ≤ X.cap) (h4 : X.x ≠ 4) :
    Calls Tryd.prog 22 #[.pointer (some ⟨r, 0, none⟩), X.val] w (RDoes r m gm b c S L X w) := by
  obtain ⟨x', a, A, n, cp, xs, B', mm, mcap, ys⟩ := X
  dsimp only at hX hn hn2 hcp h4
  unfold RDoes doE doO doL doB Cl.val
  dsimp only
  have hb0 : Below w.heap.size w (w.alloc (.cells #[.int .i64 x', .int .i64 a, .slice A n cp, .slice B' mm mcap] 55)) := up_alloc (Below.refl _ w) _
  have HB0 := Lib.hid hb0
  have X0 := Lib.hid (x.below hb0)
  have HR := Lib.hid hr
  by_cases h0 : x' = 0
  · subst h0
    simp only [if_true, show ¬ ((0 : Int) = 1) by decide, show ¬ ((0 : Int) = 3) by decide, if_false]
    have HT := Lib.hid (rdo_take X0.out hr)
    clear x hr hX hn hn2 h4 hb0 hcp hB
    cases L with
    | nil =>
      rw [show tkV b c [] = .tuple #[.int .i64 (-1), .int .i64 18] from rfl] at HT
      go_enter Tryd.func22, Tryd.ntmps22
      go_wp2_with fail
      refine HT.out.mono ?_
      rintro e w1 ⟨rfl, hh⟩
      have HH := Lib.hid hh
      clear hh HT
      go_wp2_with fail
      go_ret2
      have hb : Below w1.heap.size w1 (w1.alloc (.cells #[.int .i64 (-1)] 3)) := up_alloc (Below.refl _ _) _
      obtain ⟨S', s1, s2, s3⟩ := HH.out
      exact ⟨⟨_, _, _, rfl, li_new w1 [-1], rfl⟩, S', s1, s2, (s3.pre HB0.out).post hb⟩
    | cons k L =>
      obtain ⟨t, ht⟩ : ∃ t, b + k * zN c = t := ⟨_, rfl⟩
      rw [show tkV b c (k :: L) = .tuple #[.int .i64 ((b + k * zN c : Nat) : Int), .int .i64 0] from rfl, ht] at HT
      dsimp only
      rw [ht]
      clear ht
      go_enter Tryd.func22, Tryd.ntmps22
      go_wp2_with fail
      refine HT.out.mono ?_
      rintro e w1 ⟨rfl, hh⟩
      have HH := Lib.hid hh
      clear hh HT
      go_wp2_with fail
      go_ret2
      have hb : Below w1.heap.size w1 (w1.alloc (.cells #[.int .i64 (t : Int)] 3)) := up_alloc (Below.refl _ _) _
      obtain ⟨S', s1, s2, s3⟩ := HH.out
      exact ⟨⟨_, _, _, rfl, li_new w1 [(t : Int)], rfl⟩, S', s1, s2, (s3.pre HB0.out).post hb⟩
  · have d0 : (x' == 0) = false := by simpa using h0
    rw [if_neg h0, if_neg h0, if_neg h0]
    by_cases h1 : x' = 1
    · subst h1
      simp only [if_true, show ¬ ((1 : Int) = 2) by decide, if_false]
      have HT := Lib.hid (rdo_give a X0.out hr)
      generalize gvE b c L a = E at *
      generalize gvL b c L a = L' at *
      generalize gvS b c S L a = S1 at *
      clear x hr hX hn hn2 h4 hb0 h0 hcp hB
      go_enter Tryd.func22, Tryd.ntmps22
      go_wp2_with fail
      refine HT.out.mono ?_
      rintro e w1 ⟨rfl, h1, h2⟩
      have H1 := Lib.hid h1
      have H2 := Lib.hid h2
      clear h1 h2 HT
      go_wp2_with fail
      go_ret2
      exact ⟨⟨_, _, _, rfl, li_nil _, rfl⟩, S1, rfl, H1.out, H2.out.pre HB0.out⟩
    · have d1 : (x' == 1) = false := by simpa using h1
      rw [if_neg h1, if_neg h1, if_neg h1]
      by_cases h2 : x' = 2
      · subst h2
        simp only [if_true, show ¬ ((2 : Int) = 3) by decide, if_false]
        have HT := Lib.hid (rsome_yes a X0.out hr)
        rw [show S.f = L.length from hr.2.symm] at HT
        have HL : Hid ((adr b c (L.take (smM L.length a))).length = smM L.length a) := by
          show _ = _
          rw [adr_len, List.length_take]; unfold smM; omega
        generalize smM L.length a = M at *
        clear x hr hX hn hn2 h4 hb0 h0 h1 hcp hB
        go_enter Tryd.func22, Tryd.ntmps22
        go_wp2_with fail
        refine HT.out.mono ?_
        rintro e w1 ⟨⟨A', cp', rfl, hl⟩, hh⟩
        have HH := Lib.hid hh
        have HLi := Lib.hid hl
        clear HT hl hh
        go_wp2_with fail
        go_ret2
        obtain ⟨S', s1, s2, s3⟩ := HH.out.left
        exact ⟨⟨_, _, _, rfl, HLi.out, HL.out⟩, S', s1, s2, s3.pre HB0.out⟩
      · have d2 : (x' == 2) = false := by simpa using h2
        rw [if_neg h2, if_neg h2, if_neg h2]
        by_cases h3 : x' = 3
        · subst h3
          simp only [if_true]
          have hsz := hb0.size
          have HT := Lib.hid (rdo_all (cp := cp) X0.out hr (hX.below (Below.down hb0 hB.2.2)) ⟨hB.1, hB.2.1, by omega⟩ hn hn2 hcp)
          generalize gaE b c L xs = E at *
          generalize gaL b c L xs = L' at *
          generalize gaS b c S L xs = S1 at *
          clear x hr hX hn hn2 h4 hb0 h0 h1 h2 hcp hB hsz
          go_enter Tryd.func22, Tryd.ntmps22
          go_wp2_with fail
          refine HT.out.mono ?_
          rintro e w1 ⟨rfl, h1, h2⟩
          have H1 := Lib.hid h1
          have H2 := Lib.hid h2
          clear h1 h2 HT
          go_wp2_with fail
          go_ret2
          exact ⟨⟨_, _, _, rfl, li_nil _, rfl⟩, S1, rfl, H1.out, H2.out.pre HB0.out⟩
        · have d3 : (x' == 3) = false := by simpa using h3
          rw [if_neg h3, if_neg h3, if_neg h3]
          have d4 : (x' == 4) = false := by simpa using h4
          have HS := Lib.hid (RLeft.same x HB0.out)
          clear x hr hX hn hn2 h4 hb0 h0 h1 h2 h3 hcp hB
          go_enter Tryd.func22, Tryd.ntmps22
          go_wp2_with fail
          go_ret2
          exact ⟨⟨_, _, _, rfl, li_nil _, rfl⟩, S, rfl, HR.out, HS.out⟩
end
end Go.Proofs.YtaelfgdiboekpaaDoor.Ns

/-
  Calls to a slab whose list isn't right: contracts that the claimed proof uses.
-/
namespace Go.Proofs.YtaelfgdiboekpaaDoor.Ns
set_option maxRecDepth 100000
open Go.RowKit
open Ce (u y ldW Mem row)
open Bi (Blk Drawn hasB hasB_iff hasB_not up_alloc up_drew up_trans i64_in ret_i ret_b grown_refl grown_trans grown_below)

def brE (x : Int) : Int := if x = 0 then 10 else if x = 1 then 10 else if x = 2 then 10 else if x = 3 then 10 else 0
def brO (x : Int) : List Int := if x = 0 then [-1] else []
section
variable {w w' : World} {r m gm cap b c B s q g : Nat} {S S' : SS} {L : List Nat}
set_option maxHeartbeats 2000000 in
theorem does_no (X : Cl) (x : Rf w r m gm cap S.bs b c S.h S.f) (hr : ¬ ∃ L, Rt (nx S.bs b c) S.h S.f L) (h4 : X.x ≠ 4) :
    Calls Tryd.prog 22 #[.pointer (some ⟨r, 0, none⟩), X.val] w fun e w' => RAns (brE X.x) (brO X.x) e w' ∧ Below w.heap.size w w' := by
  obtain ⟨x', a, A, n, cp, xs, B', mm, mcap, ys⟩ := X
  dsimp only at h4
  unfold brE brO Cl.val
  dsimp only
  have hb0 : Below w.heap.size w (w.alloc (.cells #[.int .i64 x', .int .i64 a, .slice A n cp, .slice B' mm mcap] 55)) := up_alloc (Below.refl _ w) _
  have HB0 := Lib.hid hb0
  have x0 := x.below hb0
  by_cases h0 : x' = 0
  · subst h0
    simp only [if_true]
    have HT := Lib.hid (rtake_no x0 hr)
    clear x x0 hr h4 hb0
    go_enter Tryd.func22, Tryd.ntmps22
    go_wp2_with fail
    refine HT.out.mono ?_
    rintro e w1 ⟨rfl, hh⟩
    have HH := Lib.hid (up_trans HB0.out hh)
    clear hh HT
    go_wp2_with fail
    go_ret2
    have hb : Below w1.heap.size w1 (w1.alloc (.cells #[.int .i64 (-1)] 3)) := up_alloc (Below.refl _ _) _
    exact ⟨⟨_, _, _, rfl, li_new w1 [-1], rfl⟩, up_trans HH.out hb⟩
  · have d0 : (x' == 0) = false := by simpa using h0
    rw [if_neg h0, if_neg h0]
    by_cases h1 : x' = 1
    · subst h1
      simp only [if_true]
      have HT := Lib.hid (rgive_no a x0 hr)
      clear x x0 hr h4 hb0 h0
      go_enter Tryd.func22, Tryd.ntmps22
      go_wp2_with fail
      refine HT.out.mono ?_
      rintro e w1 ⟨rfl, hh⟩
      have HH := Lib.hid (up_trans HB0.out hh)
      clear hh HT
      go_wp2_with fail
      go_ret2
      exact ⟨⟨_, _, _, rfl, li_nil _, rfl⟩, HH.out⟩
    · have d1 : (x' == 1) = false := by simpa using h1
      rw [if_neg h1]
      by_cases h2 : x' = 2
      · subst h2
        simp only [if_true]
        have HT := Lib.hid (rsome_no a x0 hr)
        clear x x0 hr h4 hb0 h0 h1
        go_enter Tryd.func22, Tryd.ntmps22
        go_wp2_with fail
        refine HT.out.mono ?_
        rintro e w1 ⟨rfl, hh⟩
        have HH := Lib.hid (up_trans HB0.out hh)
        clear hh HT
        go_wp2_with fail
        go_ret2
        exact ⟨⟨_, _, _, rfl, li_nil _, rfl⟩, HH.out⟩
      · have d2 : (x' == 2) = false := by simpa using h2
        rw [if_neg h2]
        by_cases h3 : x' = 3
        · subst h3
          simp only [if_true]
          have HT := Lib.hid (rall_no (A := A) (n := n) (cp := cp) x0 hr)
          clear x x0 hr h4 hb0 h0 h1 h2
          go_enter Tryd.func22, Tryd.ntmps22
          go_wp2_with fail
          refine HT.out.mono ?_
          rintro e w1 ⟨rfl, hh⟩
          have HH := Lib.hid (up_trans HB0.out hh)
          clear hh HT
          go_wp2_with fail
          go_ret2
          exact ⟨⟨_, _, _, rfl, li_nil _, rfl⟩, HH.out⟩
        · have d3 : (x' == 3) = false := by simpa using h3
          rw [if_neg h3]
          have d4 : (x' == 4) = false := by simpa using h4
          clear x x0 hr h4 hb0 h0 h1 h2 h3
          go_enter Tryd.func22, Tryd.ntmps22
          go_wp2_with fail
          go_ret2
          exact ⟨⟨_, _, _, rfl, li_nil _, rfl⟩, HB0.out⟩
set_option maxHeartbeats 2000000 in
theorem done_no (X : Cl) (x : Sb w s q g S.bs b c S.h S.f) (hT : Tb.Tab w) (hr : ¬ ∃ L, Rt (nx S.bs b c) S.h S.f L) (hX : In w X.A X.n X.cap X.xs) (hn : X.n ≤ 1048576) (h4 : X.x ≠ 4) :
    Calls Tryd.prog 21 #[.pointer (some ⟨q, 0, none⟩), .pointer (some ⟨s, 0, none⟩), X.val] w fun e w' => RAns (brE X.x) (brO X.x) e w' ∧ Below w.heap.size w w' := by
  obtain ⟨x', a, A, n, cp, xs, B', mm, mcap, ys⟩ := X
  dsimp only at h4 hX hn
  unfold brE brO Cl.val
  dsimp only
  have hb0 : Below w.heap.size w (w.alloc (.cells #[.int .i64 x', .int .i64 a, .slice A n cp, .slice B' mm mcap] 55)) := up_alloc (Below.refl _ w) _
  have HB0 := Lib.hid hb0
  have x0 := x.below hb0
  have t0 := hT.below hb0
  have HX := Lib.hid (hX.up hb0)
  by_cases h0 : x' = 0
  · subst h0
    simp only [if_true]
    have HT := Lib.hid (take_no x0 t0 hr)
    clear x x0 hr h4 hb0 hT t0 hX hn
    go_enter Tryd.func21, Tryd.ntmps21
    go_wp2_with fail
    refine HT.out.mono ?_
    rintro e w1 ⟨rfl, hh⟩
    have HH := Lib.hid (up_trans HB0.out hh)
    clear hh HT
    go_wp2_with fail
    go_ret2
    have hb : Below w1.heap.size w1 (w1.alloc (.cells #[.int .i64 (-1)] 3)) := up_alloc (Below.refl _ _) _
    exact ⟨⟨_, _, _, rfl, li_new w1 [-1], rfl⟩, up_trans HH.out hb⟩
  · have d0 : (x' == 0) = false := by simpa using h0
    rw [if_neg h0, if_neg h0]
    by_cases h1 : x' = 1
    · subst h1
      simp only [if_true]
      have HT := Lib.hid (give_no a x0 t0 hr)
      clear x x0 hr h4 hb0 h0 hT t0 hX hn
      go_enter Tryd.func21, Tryd.ntmps21
      go_wp2_with fail
      refine HT.out.mono ?_
      rintro e w1 ⟨rfl, hh⟩
      have HH := Lib.hid (up_trans HB0.out hh)
      clear hh HT
      go_wp2_with fail
      go_ret2
      exact ⟨⟨_, _, _, rfl, li_nil _, rfl⟩, HH.out⟩
    · have d1 : (x' == 1) = false := by simpa using h1
      rw [if_neg h1]
      by_cases h2 : x' = 2
      · subst h2
        simp only [if_true]
        have HT := Lib.hid (some_no a x0 t0 hr)
        clear x x0 hr h4 hb0 h0 h1 hT t0 hX hn
        go_enter Tryd.func21, Tryd.ntmps21
        go_wp2_with fail
        refine HT.out.mono ?_
        rintro e w1 ⟨rfl, hh⟩
        have HH := Lib.hid (up_trans HB0.out hh)
        clear hh HT
        go_wp2_with fail
        go_ret2
        exact ⟨⟨_, _, _, rfl, li_nil _, rfl⟩, HH.out⟩
      · have d2 : (x' == 2) = false := by simpa using h2
        rw [if_neg h2]
        by_cases h3 : x' = 3
        · subst h3
          simp only [if_true]
          have HCp := Lib.hid (copyInts_any HX.out hn)
          have HT : Hid (∀ (V : World) (A' : Option Addr) (c' : Nat), Below (w.alloc (.cells #[.int .i64 3, .int .i64 a, .slice A n cp, .slice B' mm mcap] 55)).heap.size (w.alloc (.cells #[.int .i64 3, .int .i64 a, .slice A n cp, .slice B' mm mcap] 55)) V → Calls Tryd.prog 46 #[.pointer (some ⟨s, 0, none⟩), .slice A' n c'] V fun e w' => e = .returned (.int .i64 10) ∧ Below V.heap.size V w') := fun V A' c' hV => all_no (x0.below hV) (t0.below hV) hr
          clear x x0 hr h4 hb0 h0 h1 h2 hT t0 hX hn
          go_enter Tryd.func21, Tryd.ntmps21
          go_wp2_with fail
          refine HCp.out.mono ?_
          rintro e w1 ⟨A', c', rfl, -, b1⟩
          have HT1 := Lib.hid (HT.out w1 A' c' b1)
          have HB1 := Lib.hid (up_trans HB0.out b1)
          clear b1 HCp HT
          go_wp2_with fail
          refine HT1.out.mono ?_
          rintro e w2 ⟨rfl, hh⟩
          have HH := Lib.hid (up_trans HB1.out hh)
          clear hh HT1
          go_wp2_with fail
          go_ret2
          exact ⟨⟨_, _, _, rfl, li_nil _, rfl⟩, HH.out⟩
        · have d3 : (x' == 3) = false := by simpa using h3
          rw [if_neg h3]
          have d4 : (x' == 4) = false := by simpa using h4
          clear x x0 hr h4 hb0 h0 h1 h2 h3 hT t0 hX hn
          go_enter Tryd.func21, Tryd.ntmps21
          go_wp2_with fail
          go_ret2
          exact ⟨⟨_, _, _, rfl, li_nil _, rfl⟩, HB0.out⟩
end
end Go.Proofs.YtaelfgdiboekpaaDoor.Ns
