/-
  What a call does, of the program's slab and of the document's: contracts that the claimed proof uses.
-/
import Derived.Test.YtiemgeflkmbfoaaDoorOsFresh
namespace Go.Proofs.YtiemgeflkmbfoaaDoor.Os
set_option maxRecDepth 100000
open Go.RowKit
open Ta (sz szs classB classB_iff classB_not sizeOf' slotsOf)
open Bi (sets bt on first setL setB tst hasB u Blk Drawn grown_refl grown_trans grown_below up_alloc up_drew up_trans i64_in ret_i ret_b brow)

/-- What a call answers and leaves. -/
def outO (b z : Int) (l : List Bool) (x a : Int) : List Int := if x = 0 then [tkV b z l] else if x = 1 then [] else if x = 2 then smO b z l (smM l a) else []
def outE (b z : Int) (l : List Bool) (x a : Int) (xs : List Int) : Int := if x = 0 then tkE l else if x = 1 then gvE b z l a else if x = 2 then 0 else gaE b z l xs
def outL (b z : Int) (l : List Bool) (x a : Int) (xs : List Int) : List Bool := if x = 0 then tkL l else if x = 1 then gvL b z l a else if x = 2 then smS l (smM l a) else gaL b z l xs
theorem outO_len (b z : Int) (l : List Bool) (x a : Int) (h : l.length ≤ 64) : (outO b z l x a).length ≤ 64 := by
  unfold outO
  have := smM_le l a
  (repeat' split)
  · simp
  · simp
  · rw [smO_len]; omega
  · simp
def callV (x a : Int) (A : Option Addr) (n cap : Nat) : Value := .agg #[.int .i64 x, .int .i64 a, .slice A n cap]
section
variable {w w' w2 : World} {s q g R gl : Nat} {b c : Int} {l : List Bool}
theorem Bec.more (h : Bec s g b c l w w') (hb : Below w'.heap.size w' w2) : Bec s g b c l w w2 := by
  obtain ⟨q', g', h1, h2, h3⟩ := h
  exact ⟨q', g', h1.below hb, h2.trans (Fr.of hb : Fr s g' w' w2) h3, h3⟩
set_option maxHeartbeats 4000000 in
theorem done_any (x a : Int) (A : Option Addr) (n cap : Nat) (xs : List Int) (ha : I64 a) (hI : In w A n cap xs) (hn : n ≤ 1000) (h : Sl w s q g b c l) (hT : Tb w) : Calls Tryd.prog 15 #[.pointer (some ⟨s, 0, none⟩), callV x a A n cap] w fun e w' =>
    ∃ A' cap', e = .returned (.tuple #[.slice A' (outO b (sizeOf' c) l x a).length cap', .int .i64 (outE b (sizeOf' c) l x a xs)]) ∧ At w'.heap.size w' A' (ints (outO b (sizeOf' c) l x a)) ∧ (∀ g o, A' = some ⟨g, o, none⟩ → w.heap.size ≤ g) ∧ Bec s g b c (outL b (sizeOf' c) l x a xs) w w' := by
  obtain ⟨w1, hw1⟩ : ∃ w1, w.alloc (.cells #[.int .i64 x, .int .i64 a, .slice A n cap] 40) = w1 := ⟨_, rfl⟩
  have b1 : Below w.heap.size w w1 := by rw [← hw1]; exact up_alloc (Below.refl _ _) _
  have k1 : Blk w1 w.heap.size [.int .i64 x, .int .i64 a, .slice A n cap] 40 := by rw [← hw1]; exact heap_alloc_last w _
  have s0 : w1.cell? ⟨w.heap.size, 0, none⟩ = some (.int .i64 x) := k1.cell
  have s1 : w1.cell? ⟨w.heap.size, 1, none⟩ = some (.int .i64 a) := k1.cell
  have s2 : w1.cell? ⟨w.heap.size, 2, none⟩ = some (.slice A n cap) := k1.cell
  have HS1 := Lib.hid (h.below b1)
  have HT1 := Lib.hid (hT.below b1)
  have HB1 := Lib.hid b1
  have HI1 := Lib.hid (hI.up b1)
  have hl := h.len_le.2
  unfold outO outE outL callV
  by_cases h0 : x = 0
  · subst h0
    simp only [if_pos]
    have HTk := Lib.hid (take_any HS1.out HT1.out)
    generalize tkV b (sizeOf' c) l = v at *
    generalize tkE l = y at *
    clear h hT k1 b1 hI ha
    go_enter Tryd.func15, Tryd.ntmps15
    go_wp2_with fail
    clear hw1
    refine HTk.out.mono ?_
    rintro e w2 ⟨rfl, h2⟩
    have H2 := Lib.hid (Bec.on HB1.out h2)
    clear h2 HTk s0 s1 s2
    go_wp2_with fail
    go_ret2
    exact ⟨_, _, rfl, at_new w2 [v], (fun g' o' e => by cases e; exact H2.out.fr.size), H2.out.more (up_alloc (Below.refl _ _) _)⟩
  · have d0 : (x == 0) = false := by simpa using h0
    simp only [if_neg h0]
    by_cases h1 : x = 1
    · subst h1
      simp only [if_pos]
      have HG := Lib.hid (give_any a ha HS1.out HT1.out)
      generalize gvE b (sizeOf' c) l a = y at *
      clear h hT k1 b1 hI ha d0 h0
      go_enter Tryd.func15, Tryd.ntmps15
      go_wp2_with fail
      clear hw1
      refine HG.out.mono ?_
      rintro e w2 ⟨rfl, h2⟩
      have H2 := Lib.hid (Bec.on HB1.out h2)
      clear h2 HG s0 s1 s2
      go_wp2_with fail
      go_ret2
      exact ⟨none, 0, rfl, (fun hp => by simp [ints] at hp), (fun _ _ e => by cases e), H2.out⟩
    · have d1 : (x == 1) = false := by simpa using h1
      simp only [if_neg h1]
      by_cases h2 : x = 2
      · subst h2
        simp only [if_pos]
        rw [smO_len]
        have HSm := Lib.hid (some_fresh a HS1.out HT1.out)
        generalize smM l a = m at *
        clear h hT k1 b1 hI ha d0 h0 d1 h1
        go_enter Tryd.func15, Tryd.ntmps15
        go_wp2_with fail
        clear hw1
        refine HSm.out.mono ?_
        rintro e w2 ⟨A', cap', rfl, at2, fr2, h2⟩
        have FR2 := Lib.hid fr2
        have H2 := Lib.hid (Bec.on HB1.out h2)
        have AT2 := Lib.hid at2
        clear h2 at2 fr2 HSm s0 s1 s2
        go_wp2_with fail
        go_ret2
        exact ⟨A', cap', rfl, AT2.out, (fun g' o' e => Nat.le_trans HB1.out.size (FR2.out g' o' e)), H2.out⟩
      · have d2 : (x == 2) = false := by simpa using h2
        simp only [if_neg h2]
        have HC := Lib.hid (copyints_any w1 A n cap xs HI1.out (by omega))
        obtain ⟨y, hy⟩ : ∃ y, gaE b (sizeOf' c) l xs = y := ⟨_, rfl⟩
        rw [hy]
        have HY := Lib.hid hy
        clear hy
        clear h hT k1 b1 hI ha h0 h1 h2
        go_enter Tryd.func15, Tryd.ntmps15
        go_wp2_with fail
        clear hw1
        refine HC.out.mono ?_
        rintro e w2 ⟨g2, c2, rfl, at2, -, b2⟩
        have HG := Lib.hid (giveAll_any (some ⟨g2, 0, none⟩) n c2 xs at2 HI1.out.len (by omega) HI1.out.i64 (HS1.out.below b2) (HT1.out.below b2))
        have B2 := Lib.hid (up_trans HB1.out b2)
        rw [HY.out] at HG
        clear at2 b2 HC s0 s1 s2
        go_wp2_with fail
        refine HG.out.mono ?_
        rintro e w3 ⟨rfl, h3⟩
        have H3 := Lib.hid (Bec.on B2.out h3)
        clear h3 HG
        go_wp2_with fail
        go_ret2
        exact ⟨none, 0, rfl, (fun hp => by simp [ints] at hp), (fun _ _ e => by cases e), H3.out⟩
theorem tk_pos {l : List Bool} (h : 0 < fr l) : ∃ k : Nat, tkI l = k := by
  have hne : ¬ tkI l < 0 := fun hh => by have := (tk_no hh).2.2.2; omega
  obtain ⟨k, e, _⟩ := tk_yes hne
  exact ⟨k, e⟩
theorem rec_below (h : Rec R gl b c l w w') {B : Nat} (h1 : B ≤ R) (h2 : B ≤ gl) (hB : B ≤ w.heap.size) : Below B w w' := h.fr.below h1 h2 hB
set_option maxHeartbeats 8000000 in
theorem many_three (x a : Int) (A : Option Addr) (n cap : Nat) (xs : List Int) (hI : In w A n cap xs) (hn : n ≤ 1000) (h : Rd w R gl b c l) (h0 : (x == 0) = false) (h1 : (x == 1) = false) (h2 : (x == 2) = false) : Calls Tryd.prog 16 #[.pointer (some ⟨R, 0, none⟩), callV x a A n cap] w fun e w' =>
    ∃ A' cap', e = .returned (.tuple #[.slice A' 0 cap', .int .i64 (gaE b (sizeOf' c) l xs)]) ∧ At w'.heap.size w' A' (ints []) ∧ Rec R gl b c (gaL b (sizeOf' c) l xs) w w' := by
  obtain ⟨w1, hw1⟩ : ∃ w1, w.alloc (.cells #[.int .i64 x, .int .i64 a, .slice A n cap] 40) = w1 := ⟨_, rfl⟩
  have b1 : Below w.heap.size w w1 := by rw [← hw1]; exact up_alloc (Below.refl _ _) _
  have k1 : Blk w1 w.heap.size [.int .i64 x, .int .i64 a, .slice A n cap] 40 := by rw [← hw1]; exact heap_alloc_last w _
  obtain ⟨w2, hw2⟩ : ∃ w2, w1.alloc (.cells #[] 3) = w2 := ⟨_, rfl⟩
  have b2 : Below w1.heap.size w1 w2 := by rw [← hw2]; exact up_alloc (Below.refl _ _) _
  have k2 := k1.below b2
  have s0 : w2.cell? ⟨w.heap.size, 0, none⟩ = some (.int .i64 x) := k2.cell
  have HB2 := Lib.hid (up_trans b1 b2)
  have HD2 := Lib.hid (h.below HB2.out)
  have HCp := Lib.hid (dcopy_any HD2.out)
  have HI2 := Lib.hid (hI.up HB2.out)
  have K2 := Lib.hid k2
  have HX := Lib.hid hI.len
  have hwsz : Hid (w.heap.size < w2.heap.size) := k2.lt
  obtain ⟨y, hy⟩ : ∃ y, gaE b (sizeOf' c) l xs = y := ⟨_, rfl⟩
  rw [hy]
  have HY := Lib.hid hy
  unfold callV
  clear h b1 k1 b2 k2 hI hy
  go_enter Tryd.func16, Tryd.ntmps16
  go_wp2_with fail
  clear hw1 hw2
  refine HCp.out.mono ?_
  rintro e w3 ⟨t, g2, rfl, d3, ht, hg2, b3⟩
  have D3 := Lib.hid d3
  have B32 := Lib.hid b3
  have HTg : Hid (w2.heap.size ≤ t ∧ w2.heap.size ≤ g2) := ⟨ht, hg2⟩
  have hz3 := b3.size
  have s3 : w3.cell? ⟨w.heap.size, 2, none⟩ = some (.slice A n cap) := (K2.out.below b3).cell
  clear d3 b3 HCp s0 ht hg2
  go_wp2_with fail
  go_loopw [13] (fun i wr => ∃ (k : Nat) (lk : List Bool) (gk : Nat), k ≤ n ∧ i = .int .i64 k ∧ Rd wr t gk b c lk ∧ w2.heap.size ≤ gk ∧ gaE b (sizeOf' c) l xs = gaE b (sizeOf' c) lk (xs.drop k) ∧ gaS b (sizeOf' c) l xs = gaS b (sizeOf' c) lk (xs.drop k) ∧ Below w2.heap.size w2 wr) (fun i _ => n - (intOf i).toNat)
  case atStart => exact ⟨0, l, g2, by omega, rfl, D3.out, HTg.out.2, rfl, rfl, B32.out⟩
  case round =>
    obtain ⟨k, lk, gk, hk, rfl, hd, hgk, h3, h4, hbel⟩ := hrel
    have HD := Lib.hid hd
    have HGk := Lib.hid hgk
    have H3 := Lib.hid h3
    have H4 := Lib.hid h4
    have HB := Lib.hid hbel
    have HIr := Lib.hid (HI2.out.up hbel)
    have s2' : wr.cell? ⟨w.heap.size, 2, none⟩ = some (.slice A n cap) := (hbel.cell (p := ⟨w.heap.size, 2, none⟩) hwsz.out).trans ((K2.out).cell)
    have hzr := hbel.size
    clear hd hgk h3 h4 hbel s3
    by_cases hlt : k < n
    · have hkl : k < xs.length := by rw [HX.out]; exact hlt
      obtain ⟨ab, ao, hae, _, q0⟩ := HIr.out.ia (by omega)
      subst hae
      have q0 := q0 k hkl
      have HDr : Hid (xs.drop k = xs.getD k 0 :: xs.drop (k + 1)) := by
        show _ = _
        rw [List.drop_eq_getElem_cons hkl, List.getD_eq_getElem?_getD, List.getElem?_eq_getElem hkl]; rfl
      obtain ⟨v, hv⟩ : ∃ v, xs.getD k 0 = v := ⟨_, rfl⟩
      rw [hv] at q0 HDr
      have HG := Lib.hid (rgive_any v HD.out)
      have j1 : (0 : Int) ≤ (k : Int) := by omega
      have j2 : (k : Int) < (n : Int) := by omega
      have hlt2 : decide ((k : Int) < (n : Int)) = true := by simpa using hlt
      clear hv hkl
      obtain ⟨y2, hy2⟩ : ∃ y2, gvE b (sizeOf' c) lk v = y2 := ⟨_, rfl⟩
      rw [hy2] at HG
      have HY2 := Lib.hid hy2
      by_cases hz : y2 = 0
      · have d9 : (y2 != 0) = false := by simpa using hz
        have HZ := Lib.hid hz
        clear hy2 hz
        go_wp2_with fail
        refine HG.out.mono ?_
        rintro e w4 ⟨rfl, h5⟩
        have H5 := Lib.hid h5
        clear h5 HG q0 s2'
        go_wp2_with fail
        go_roundw
        case rel =>
          obtain ⟨g5, r5, f5, e5⟩ := H5.out
          have hgt := HTg.out.1
          have hgk := HGk.out
          have e1 : gaE b (sizeOf' c) lk (v :: xs.drop (k + 1)) = gaE b (sizeOf' c) (gvL b (sizeOf' c) lk v) (xs.drop (k + 1)) := by rw [gaE, HY2.out, if_pos HZ.out]
          exact ⟨k + 1, gvL b (sizeOf' c) lk v, g5, by omega, by go_num, r5, (by rcases e5 with e | e <;> omega), by rw [H3.out, HDr.out, e1], by rw [H4.out, HDr.out]; rfl, HB.out.trans (f5.below hgt hgk hzr)⟩
        case measure => simp [intOf]; omega
      · have d9 : (y2 != 0) = true := by simpa using hz
        have HE : Hid (y = y2) := by
          show _ = _
          rw [← HY.out, H3.out, HDr.out, gaE, hy2, if_neg hz]
        have HZ := Lib.hid hz
        clear hy2 hz
        go_wp2_with fail
        refine HG.out.mono ?_
        rintro e w4 ⟨rfl, h5⟩
        have H5 := Lib.hid h5
        clear h5 HG q0 s2'
        go_wp2_with fail
        go_ret2
        have hne : ¬ gaE b (sizeOf' c) l xs = 0 := by rw [HY.out, HE.out]; exact HZ.out
        have hgl : gaL b (sizeOf' c) l xs = l := by unfold gaL; rw [if_neg hne]
        refine ⟨_, _, by rw [HE.out]; rfl, fun hp => by simp [ints] at hp, ?_⟩
        rw [hgl]
        have hb4 : Below w2.heap.size w2 w4 := HB.out.trans (H5.out.fr.below HTg.out.1 HGk.out hzr)
        have hD0 := HD2.out.below hb4
        exact Rec.on HB2.out (Rec.same HD2.out hb4)
    · obtain rfl : k = n := by omega
      have hD : xs.drop k = [] := List.drop_eq_nil_of_le (by rw [HX.out]; exact Nat.le_refl _)
      have HE : Hid (y = 0 ∧ gaL b (sizeOf' c) l xs = lk) := by
        have e1 : gaE b (sizeOf' c) l xs = 0 := by rw [H3.out, hD]; rfl
        exact ⟨by rw [← HY.out]; exact e1, by unfold gaL; rw [if_pos e1, H4.out, hD]; rfl⟩
      have hlt2 : decide ((k : Int) < (k : Int)) = false := by simp
      obtain ⟨cp, c3⟩ := HD.out.c3
      have hR := HD2.out.below HB.out
      have f3 := hR.frozen3 3
      obtain ⟨cpR, cR⟩ := hR.c3
      have HR := Lib.hid hR
      have HC3 := Lib.hid c3
      clear hD hR
      go_wp2_with fail
      go_ret2
      obtain ⟨e1, e2⟩ := HE.out
      refine ⟨_, _, by rw [e1]; rfl, fun hp => by simp [ints] at hp, ?_⟩
      rw [e2]
      have hgr : wr.grownBy (wr.setCell ⟨R, 3, none⟩ (.slice (some ⟨gk, 0, none⟩) lk.length cp)) (some R) := Bi.grown_set (grown_refl _ _)
      have hkR := HR.out.kinds
      have hkD := HD.out.kinds
      obtain ⟨cap0, hb0⟩ := HR.out.blk
      obtain ⟨pad, hrow⟩ := HD.out.row
      have hfin : Rec R gl b c lk w2 (wr.setCell ⟨R, 3, none⟩ (.slice (some ⟨gk, 0, none⟩) lk.length cp)) :=
        ⟨gk, ⟨⟨cp, hb0.set (i := 3) (.slice (some ⟨gk, 0, none⟩) lk.length cp)⟩, ⟨pad, hrow.far hgr (kne hkD.2 hkR.1 (by decide))⟩, HD.out.hb, HD.out.hc, HD.out.len⟩, (Fr.of HB.out).trans (Fr.grown1 hgr) (.inl rfl), .inr HGk.out⟩
      exact Rec.on HB2.out hfin
set_option maxHeartbeats 8000000 in
theorem many_two (a : Int) (A : Option Addr) (n cap : Nat) (h : Rd w R gl b c l) : Calls Tryd.prog 16 #[.pointer (some ⟨R, 0, none⟩), callV 2 a A n cap] w fun e w' =>
    ∃ A' cap', e = .returned (.tuple #[.slice A' (smM l a) cap', .int .i64 0]) ∧ At w'.heap.size w' A' (ints (smO b (sizeOf' c) l (smM l a))) ∧ Rec R gl b c (smS l (smM l a)) w w' := by
  obtain ⟨w1, hw1⟩ : ∃ w1, w.alloc (.cells #[.int .i64 2, .int .i64 a, .slice A n cap] 40) = w1 := ⟨_, rfl⟩
  have b1 : Below w.heap.size w w1 := by rw [← hw1]; exact up_alloc (Below.refl _ _) _
  have k1 : Blk w1 w.heap.size [.int .i64 2, .int .i64 a, .slice A n cap] 40 := by rw [← hw1]; exact heap_alloc_last w _
  obtain ⟨w2, hw2⟩ : ∃ w2, w1.alloc (.cells #[] 3) = w2 := ⟨_, rfl⟩
  have b2 : Below w1.heap.size w1 w2 := by rw [← hw2]; exact up_alloc (Below.refl _ _) _
  have o2 : w2.ownsRow w1.heap.size 3 1 (.slice (some ⟨w1.heap.size, 0, none⟩) 0 0) 0 (ints []) := by rw [← hw2]; exact iown_empty w1
  have k2 := k1.below b2
  have s0 : w2.cell? ⟨w.heap.size, 0, none⟩ = some (.int .i64 2) := k2.cell
  have HB1 := Lib.hid b1
  have HB2 := Lib.hid (up_trans b1 b2)
  have HB21 := Lib.hid b2
  have HD2 := Lib.hid (h.below HB2.out)
  have K2 := Lib.hid k1
  have HD1 := Lib.hid (h.below b1)
  have O2 := Lib.hid o2
  have HLt := Lib.hid h.lt
  have hl := h.len_le.2
  have hml := smM_le l a
  have HM : Hid (smM l a = min a.toNat (fr l)) := rfl
  obtain ⟨m, hm⟩ : ∃ m, smM l a = m := ⟨_, rfl⟩
  rw [hm] at HM hml ⊢
  unfold callV
  clear h b1 k1 b2 k2 o2 hm
  go_enter Tryd.func16, Tryd.ntmps16
  go_wp2_with fail
  clear hw1 hw2 s0
  go_loopw [6, 9] (fun v i wr => ∃ (k : Nat) (o : List Int) (lk : List Bool) (gk : Nat), k ≤ m ∧ i = .int .i64 k ∧ wr.ownsRow w1.heap.size 3 1 v k (ints o) ∧ o.length = k ∧ Rd wr R gk b c lk ∧ Fr R gl w1 wr ∧ (gk = gl ∨ w1.heap.size ≤ gk) ∧ fr lk + k = fr l ∧ o ++ smO b (sizeOf' c) lk (m - k) = smO b (sizeOf' c) l m ∧ smS lk (m - k) = smS l m) (fun _ i _ => m - (intOf i).toNat)
  case atStart => exact ⟨0, [], l, gl, by omega, rfl, O2.out, rfl, HD2.out, Fr.of HB21.out, .inl rfl, rfl, rfl, rfl⟩
  case round =>
    obtain ⟨k, o, lk, gk, hk, rfl, ho, hol, hd, hfr, hgk, hcnt, h3, h4⟩ := hrel
    obtain ⟨A0, n0, rfl⟩ := own_form ho
    have HO := Lib.hid ho
    have HOL := Lib.hid hol
    have HD := Lib.hid hd
    have HFr := Lib.hid hfr
    have HGk := Lib.hid hgk
    have HCn := Lib.hid hcnt
    have H3 := Lib.hid h3
    have H4 := Lib.hid h4
    have hkR := HD1.out.kinds
    have s1 : wr.cell? ⟨w.heap.size, 1, none⟩ = some (.int .i64 a) := (Bi.cell_of_block (hfr.block w.heap.size K2.out.lt (kne (kind_blk K2.out) hkR.1 (by decide)) (kne (kind_blk K2.out) hkR.2 (by decide)))).trans K2.out.cell
    have HLe := Lib.hid (rleast_any hd)
    have hsz1 := hfr.size
    clear ho hol hd hfr hgk h3 h4 hkR
    by_cases hlt : k < m
    · have hka : decide ((k : Int) < a) = true := by have := HM.out; simp; omega
      obtain ⟨K, hK⟩ := tk_pos (l := lk) (by have := HM.out; omega)
      rw [hK] at HLe
      have hK0 : decide ((0 : Int) ≤ (K : Int)) = true := by simp
      have HTake := Lib.hid (rtake_any HD.out)
      have hmk : m - k = (m - (k + 1)) + 1 := by omega
      rw [hmk] at H3 H4
      have H3' : Hid (o ++ tkV b (sizeOf' c) lk :: smO b (sizeOf' c) (tkL lk) (m - (k + 1)) = smO b (sizeOf' c) l m) := H3.out
      have H4' : Hid (smS (tkL lk) (m - (k + 1)) = smS l m) := H4.out
      have HCn' : Hid (fr (tkL lk) + (k + 1) = fr l) := by
        show _ = _
        obtain ⟨_, _, _, _, _, _, _, _, e⟩ := tk_yes (l := lk) (by omega)
        omega
      obtain ⟨x, hx⟩ : ∃ x, tkV b (sizeOf' c) lk = x := ⟨_, rfl⟩
      obtain ⟨y, hy⟩ : ∃ y, tkE lk = y := ⟨_, rfl⟩
      rw [hx, hy] at HTake
      rw [hx] at H3'
      have hol2 : k ≤ 1048576 := by omega
      clear hmk hx hy H3 H4 hK
      go_wp2_with (go_at_call 45; refine HLe.out.mono ?_; rintro e w' ⟨rfl, rfl⟩)
      refine HTake.out.mono ?_
      rintro e w4 ⟨rfl, h5⟩
      have H5 := Lib.hid h5
      have hkd := HD.out.kinds
      have HO5 := Lib.hid (own_far HO.out h5.fr hkd.1 hkd.2 (by decide) (by decide))
      have hsz := h5.fr.size
      clear h5 hkd HTake HO s1
      have hb21 := HB21.out.size
      go_wp2_with (at_builtin; refine app_law el3 rfl _ _ rfl rfl (own_below HO5.out (up_alloc (Below.refl _ _) _)) rfl (show (w4.alloc (.cells #[.int .i64 x] 3)).heap[w4.heap.size]? = some (.cells [Value.int .i64 x].toArray 3 (0, 0)) from heap_alloc_last w4 _) rfl (by simp [Value.oneCell']) hol2 (by rw [World.size_alloc]; omega) ?_; intro g' cap' wa hoa hga hgw)
      go_roundw
      case rel =>
        obtain ⟨g5, s5, f5, e5⟩ := H5.out
        have hb4 : Below w4.heap.size w4 (w4.alloc (.cells #[.int .i64 x] 3)) := up_alloc (Below.refl _ _) _
        have hown := HO5.out
        have hkk : ∀ j, (Value.slice A0 k n0).ownBlock = some j → kind w4 j = 3 ∧ j < w4.heap.size := fun j hj => by
          obtain ⟨cur, hc⟩ := own_cells hown hj
          exact ⟨kind_of hc, (Array.getElem?_eq_some_iff.1 hc).1⟩
        have hstay : ∀ j, j < w4.heap.size → kind w4 j ≠ 3 → wa.heap[j]? = w4.heap[j]? := fun j hj hne => by
          rw [hga.out.block j (by rw [World.size_alloc]; omega) (fun e => hne (hkk j e.symm).1)]
          exact hb4.block j hj
        obtain ⟨kk1, kk2⟩ := s5.kinds
        obtain ⟨ll1, ll2⟩ := s5.lt
        have hw21 := HB21.out.size
        have F5 : Fr R gl w1 wa := by
          have hf := HFr.out.trans f5 HGk.out
          refine ⟨hga.out.os.trans hf.os, hga.out.tape.trans hf.tape, hga.out.output.trans hf.output, by have := hga.out.size; rw [World.size_alloc] at this; omega, fun j hj h1 h2 => ?_⟩
          refine Eq.trans ?_ (hf.block j hj h1 h2)
          rw [hga.out.block j (by rw [World.size_alloc]; omega) (fun e => by have := (HO5.out.lt j e.symm).1; omega)]
          exact hb4.block j (by omega)
        refine ⟨k + 1, o ++ [x], tkL lk, g5, by omega, by go_num, by rw [show ints (o ++ [x]) = ints o ++ [.int .i64 x] from ints_snoc o x]; exact hoa.out, by simp [HOL.out], s5.of (hstay R ll1 (by rw [kk1]; decide)) (hstay g5 ll2 (by rw [kk2]; decide)), F5, ?_, HCn'.out, by rw [← H3'.out]; simp, H4'.out⟩
        have := HGk.out
        rcases e5 with e | e
        · rw [e]; exact HGk.out
        · right; omega
      case measure => simp [intOf]; omega
    · obtain rfl : k = m := by omega
      have HE : Hid (o = smO b (sizeOf' c) l k ∧ lk = smS l k) := ⟨by have := H3.out; rw [Nat.sub_self] at this; rw [← this]; simp [smO], by have := H4.out; rwa [Nat.sub_self] at this⟩
      have HA := Lib.hid (own_at HO.out)
      have hfin : Hid (∃ A' cap', Ending.returned (.tuple #[.slice A0 k n0, .int .i64 0]) = .returned (.tuple #[.slice A' k cap', .int .i64 0]) ∧ At wr.heap.size wr A' (ints (smO b (sizeOf' c) l k)) ∧ Rec R gl b c (smS l k) w wr) := by
        obtain ⟨e1, e2⟩ := HE.out
        exact ⟨A0, n0, rfl, by rw [← e1]; exact HA.out, Rec.on HB1.out ⟨gk, by rw [← e2]; exact HD.out, HFr.out, HGk.out⟩⟩
      by_cases hka : (k : Int) < a
      · have d0 : decide ((k : Int) < a) = true := by simpa using hka
        have hz : tkI lk < 0 := fr_zero.1 (by have := HM.out; omega)
        have hz1 : tkI lk = -1 := by
          rcases tk_is lk with ⟨e, _⟩ | ⟨j, e, _⟩
          · exact e
          · omega
        rw [hz1] at HLe
        clear hz hz1 hka
        go_wp2_with (go_at_call 45; refine HLe.out.mono ?_; rintro e w' ⟨rfl, rfl⟩)
        go_ret2
        exact hfin.out
      · have d0 : decide ((k : Int) < a) = false := by simpa using hka
        clear hka
        go_wp2_with fail
        go_ret2
        exact hfin.out
set_option maxHeartbeats 4000000 in
theorem many_any (x a : Int) (A : Option Addr) (n cap : Nat) (xs : List Int) (hI : In w A n cap xs) (hn : n ≤ 1000) (h : Rd w R gl b c l) : Calls Tryd.prog 16 #[.pointer (some ⟨R, 0, none⟩), callV x a A n cap] w fun e w' =>
    ∃ A' cap', e = .returned (.tuple #[.slice A' (outO b (sizeOf' c) l x a).length cap', .int .i64 (outE b (sizeOf' c) l x a xs)]) ∧ At w'.heap.size w' A' (ints (outO b (sizeOf' c) l x a)) ∧ Rec R gl b c (outL b (sizeOf' c) l x a xs) w w' := by
  by_cases hx2 : x = 2
  · subst hx2
    have := many_two a A n cap h
    unfold outO outE outL
    simp only [if_neg (show ¬ (2 : Int) = 0 by decide), if_neg (show ¬ (2 : Int) = 1 by decide), if_pos]
    rw [smO_len]
    exact this
  by_cases hx0 : x = 0
  · subst hx0
    unfold outO outE outL
    simp only [if_pos]
    obtain ⟨w1, hw1⟩ : ∃ w1, w.alloc (.cells #[.int .i64 0, .int .i64 a, .slice A n cap] 40) = w1 := ⟨_, rfl⟩
    have b1 : Below w.heap.size w w1 := by rw [← hw1]; exact up_alloc (Below.refl _ _) _
    have k1 : Blk w1 w.heap.size [.int .i64 0, .int .i64 a, .slice A n cap] 40 := by rw [← hw1]; exact heap_alloc_last w _
    obtain ⟨w2, hw2⟩ : ∃ w2, w1.alloc (.cells #[] 3) = w2 := ⟨_, rfl⟩
    have b2 : Below w1.heap.size w1 w2 := by rw [← hw2]; exact up_alloc (Below.refl _ _) _
    have k2 := k1.below b2
    have s0 : w2.cell? ⟨w.heap.size, 0, none⟩ = some (.int .i64 0) := k2.cell
    have HB2 := Lib.hid (up_trans b1 b2)
    have HTk := Lib.hid (rtake_any (h.below HB2.out))
    generalize tkV b (sizeOf' c) l = v at *
    generalize tkE l = y at *
    unfold callV
    clear h b1 k1 b2 k2 hI
    go_enter Tryd.func16, Tryd.ntmps16
    go_wp2_with fail
    clear hw1 hw2
    refine HTk.out.mono ?_
    rintro e w3 ⟨rfl, h3⟩
    have H3 := Lib.hid (Rec.on HB2.out h3)
    clear h3 HTk s0
    go_wp2_with fail
    go_ret2
    exact ⟨_, _, rfl, at_new w3 [v], H3.out.more (up_alloc (Below.refl _ _) _)⟩
  have d0 : (x == 0) = false := by simpa using hx0
  by_cases hx1 : x = 1
  · subst hx1
    unfold outO outE outL
    simp only [if_neg (show ¬ (1 : Int) = 0 by decide), if_pos]
    obtain ⟨w1, hw1⟩ : ∃ w1, w.alloc (.cells #[.int .i64 1, .int .i64 a, .slice A n cap] 40) = w1 := ⟨_, rfl⟩
    have b1 : Below w.heap.size w w1 := by rw [← hw1]; exact up_alloc (Below.refl _ _) _
    have k1 : Blk w1 w.heap.size [.int .i64 1, .int .i64 a, .slice A n cap] 40 := by rw [← hw1]; exact heap_alloc_last w _
    obtain ⟨w2, hw2⟩ : ∃ w2, w1.alloc (.cells #[] 3) = w2 := ⟨_, rfl⟩
    have b2 : Below w1.heap.size w1 w2 := by rw [← hw2]; exact up_alloc (Below.refl _ _) _
    have k2 := k1.below b2
    have s0 : w2.cell? ⟨w.heap.size, 0, none⟩ = some (.int .i64 1) := k2.cell
    have s1 : w2.cell? ⟨w.heap.size, 1, none⟩ = some (.int .i64 a) := k2.cell
    have HB2 := Lib.hid (up_trans b1 b2)
    have HTk := Lib.hid (rgive_any a (h.below HB2.out))
    generalize gvE b (sizeOf' c) l a = y at *
    unfold callV
    clear h b1 k1 b2 k2 hI d0 hx0
    go_enter Tryd.func16, Tryd.ntmps16
    go_wp2_with fail
    clear hw1 hw2
    refine HTk.out.mono ?_
    rintro e w3 ⟨rfl, h3⟩
    have H3 := Lib.hid (Rec.on HB2.out h3)
    clear h3 HTk s0 s1
    go_wp2_with fail
    go_ret2
    exact ⟨_, _, rfl, fun hp => by simp [ints] at hp, H3.out⟩
  have d1 : (x == 1) = false := by simpa using hx1
  have d2 : (x == 2) = false := by simpa using hx2
  have := many_three x a A n cap xs hI hn h d0 d1 d2
  unfold outO outE outL
  simp only [if_neg hx0, if_neg hx1, if_neg hx2]
  exact this
end
end Go.Proofs.YtiemgeflkmbfoaaDoor.Os
