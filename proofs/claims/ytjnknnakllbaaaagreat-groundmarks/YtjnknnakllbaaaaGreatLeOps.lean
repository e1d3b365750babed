/-
  What changes a book: contracts that the claimed proofs use.
-/
import Derived.Test.YtjnknnakllbaaaaGreatLeSmall
namespace Go.Proofs.YtjnknnakllbaaaaGreat.Le
set_option maxRecDepth 100000
open Go.RowKit Go.Maps

section
variable {w : World} {q b : Nat} {C p : Int} {f : Row} {S : List Row}
theorem note_any (h : Blk w q (lc C f p b) 132) (hm : Mp w b S) (hg : Gd C f) (hC : C ≤ 1099511627776) (hS : S.length ≤ 1000) :
    Calls Tryz.prog 77 #[.pointer (some ⟨q, 0, none⟩)] w fun e w' => e = .returned (.tuple #[]) ∧ Blk w' q (lc C f (max p (tot f)) b) 132 ∧ Mp w' b (f :: S) ∧ Fr q b w w' := by
  have c9 := blk_9 h
  have fz := h.frozen 9
  have hq := h.lt
  have HT := Lib.hid (fun j => total_any (w := w.drewN j) (h.of (by rw [drewN_heap])) hg hC)
  have HH := Lib.hid h
  have HM := Lib.hid hm
  have HO := Lib.hid (hg.ok hC)
  clear h hm
  obtain ⟨x, hx⟩ : ∃ x, tot f = x := ⟨_, rfl⟩
  rw [hx] at HT ⊢
  clear hx hg
  go_enter Tryz.func77, Tryz.ntmps77
  go_wp2_with fail
  go_region_law (go_simp; go_at_call 108; refine (HT.out _).mono ?_; rintro e w' ⟨rfl, rfl⟩)
  all_goals (
    have e1 : (if p < x then x else p) = max p x := by omega
    rw [e1]
    have hne := HM.out.ne HH.out
    have hgs : w.grownBy ((w.drewN 1).setCell ⟨q, 9, none⟩ (.int .i64 (max p x))) (some q) := grown_trans (grown_below (Below.refl _ w).drew) (grown_set _ _ _ _)
    have H1 : Hid (Blk ((w.drewN 1).setCell ⟨q, 9, none⟩ (.int .i64 (max p x))) q (lc C f (max p x) b) 132) := by
      have := Blk.set (i := 9) (show Blk (w.drewN 1) q (lc C f p b) 132 from HH.out) (.int .i64 (max p x))
      rwa [lc_peak] at this
    have HF : Hid (Fr q b w ((w.drewN 1).setCell ⟨q, 9, none⟩ (.int .i64 (max p x)))) := Fr.ofq hgs
    have HM1 : Hid (Mp ((w.drewN 1).setCell ⟨q, 9, none⟩ (.int .i64 (max p x))) b S) := HM.out.of (hgs.block b HM.out.lt (fun e => hne (by simpa using e.symm)))
    generalize (w.drewN 1).setCell ⟨q, 9, none⟩ (.int .i64 (max p x)) = W at H1 HF HM1 ⊢
    obtain ⟨st, w1, w2, l1, l2, l3, l4, m2, g1, g2⟩ := Mp.bump (w := W.drew) HM1.out HO.out hS
    have HM2 := Lib.hid m2
    have HF2 : Hid (Fr q b w w2) := HF.out.trans ((Fr.of (Below.refl _ W).drew).trans (Fr.ofg g2) (.inl rfl)) (.inl rfl)
    have H2 : Hid (Blk w2 q (lc C f (max p x) b) 132) := (show Blk W.drew q _ 132 from H1.out).of (g2.block q H1.out.lt (fun e => hne (by simpa using e)))
    have hcn := cn_le S f
    have hwr := i64_in ((cn S f : Int) + 1) (by omega) (by omega)
    generalize (cn S f : Int) = N at *
    have c10 := blk_10 H1.out
    obtain ⟨c1, c2, c3, c4, c5, c6, c7, c8⟩ := blk_8 H1.out
    unfold rowV rowA at l1 l2 l3
    clear e1 c9 fz hq HH HM HT m2 g1 g2 hne hgs H1 HF HM1 hcn HO
    go_wp2_with fail)
  all_goals go_region
  all_goals (go_wp2; refine bodyPost_end (results_none rfl _ _ _) rfl ?_)
  all_goals exact ⟨rfl, H2.out, HM2.out, HF2.out⟩
theorem Led.drawn {w' : World} (h : Led w q b C S) (hd : Drawn w w') : Led w' q b C S := h.of (by rw [hd.heap]) (by rw [hd.heap])
/-- An amount is stored: the book with other amounts, before they are counted. -/
theorem blk_put (h : Blk w q (lc C f p b) 132) {k : Nat} (hk : k < 8) (v : Int) : Blk (w.setCell ⟨q, 1 + k, none⟩ (.int .i64 v)) q (lc C (up f k v) p b) 132 := by
  have := h.set (i := 1 + k) (.int .i64 v)
  rwa [lc_set _ _ _ _ _ hk] at this
theorem mp_put (h : Blk w q (lc C f p b) 132) (hm : Mp w b S) {k : Nat} (v : Value) : Mp (w.setCell ⟨q, k, none⟩ v) b S := by
  have hne := hm.ne h
  exact hm.of ((grown_set w q k v).block b hm.lt (fun e => hne (by simpa using e.symm)))
theorem note_led {g : Row} (h : Blk w q (lc C g (pk S) b) 132) (hm : Mp w b S) (hg : Gd C g) (hC : C ≤ 1099511627776) (hS : S.length ≤ 1000) :
    Calls Tryz.prog 77 #[.pointer (some ⟨q, 0, none⟩)] w fun e w' => e = .returned (.tuple #[]) ∧ Led w' q b C (g :: S) ∧ Fr q b w w' :=
  (note_any h hm hg hC hS).mono fun _ _ ⟨he, h1, h2, h3⟩ => ⟨he, ⟨h1, h2⟩, h3⟩
theorem res_any (k n : Int) (h : Led w q b C S) (hw : Wf C S) (hS : S.length ≤ 1000) :
    Calls Tryz.prog 72 #[.pointer (some ⟨q, 0, none⟩), .int .i64 k, .int .i64 n] w fun e w' => e = .returned (.int .i64 (resE C (hd S) k n)) ∧ Led w' q b C (nxt (resE C (hd S) k n) (resF (hd S) k n) S) ∧ Fr q b w w' := by
  cases hk : kindB k with
  | false =>
    have e : resE C (hd S) k n = 11 := by simp [resE, hk]
    rw [e]
    have HH := Lib.hid h
    clear h
    go_enter Tryz.func72, Tryz.ntmps72
    go_wp2_with (go_at_call 86; refine (kind_any _ _).mono ?_; rw [hk]; rintro e w' ⟨rfl, rfl⟩)
    go_ret
    exact ⟨rfl, HH.out, Fr.refl _ _ _⟩
  | true =>
    obtain ⟨k0, k1⟩ := kindB_iff.1 hk
    by_cases hn : n < 0
    · have d1 : decide (n < 0) = true := by simpa using hn
      have e : resE C (hd S) k n = 11 := by unfold resE; rw [if_neg (by omega)]
      rw [e]
      have HH := Lib.hid h
      clear h
      go_enter Tryz.func72, Tryz.ntmps72
      go_wp2_with (go_at_call 86; refine (kind_any _ _).mono ?_; rw [hk]; rintro e w' ⟨rfl, rfl⟩)
      go_ret
      exact ⟨rfl, HH.out, Fr.refl _ _ _⟩
    · have d1 : decide (n < 0) = false := by simpa using hn
      have hlft := left_any h.blk hw.hd hw.c1
      have HL := Lib.hid hlft
      have HH := Lib.hid h
      have HW := Lib.hid hw
      have hC := hw.c1
      clear hlft h hw
      by_cases hf : C - tot (hd S) < n
      · have d2 : decide (C - tot (hd S) < n) = true := by simpa using hf
        have e : resE C (hd S) k n = 18 := by unfold resE; rw [if_pos ⟨hk, by omega⟩, if_pos hf]
        rw [e]
        clear e hf
        generalize C - tot (hd S) = x at *
        go_enter Tryz.func72, Tryz.ntmps72
        go_wp2_with (first | (go_at_call 86; refine (kind_any _ _).mono ?_; rw [hk]; rintro e w' ⟨rfl, rfl⟩) | (go_at_call 103; refine HL.out.mono ?_; rintro e w' ⟨rfl, hdr⟩))
        go_ret
        exact ⟨rfl, HH.out.drawn hdr, Fr.of hdr.below⟩
      · have d2 : decide (C - tot (hd S) < n) = false := by simpa using hf
        have e : resE C (hd S) k n = 0 := by unfold resE; rw [if_pos ⟨hk, by omega⟩, if_neg hf]
        have HG := Lib.hid (res_gd HW.out.hd e)
        have e2 : nxt 0 (resF (hd S) k n) S = resF (hd S) k n :: S := rfl
        rw [e, e2]
        clear e e2
        obtain ⟨x, hx⟩ : ∃ x, C - tot (hd S) = x := ⟨_, rfl⟩
        rw [hx] at HL d2
        have hat := HW.out.hd.at (k := k.toNat) (by omega)
        have htt := HW.out.hd.tot
        have hwr := i64_in (hd S k.toNat + n) (by omega) (by omega)
        have hkk : (k.toNat : Int) = k := by omega
        clear hx hf
        go_enter Tryz.func72, Tryz.ntmps72
        go_wp2_with (first | (go_at_call 86; refine (kind_any _ _).mono ?_; rw [hk]; rintro e w' ⟨rfl, rfl⟩) | (go_at_call 103; refine HL.out.mono ?_; rintro e w2 ⟨rfl, hdr⟩))
        have H2 := Lib.hid (HH.out.drawn hdr)
        have HF := Lib.hid (Fr.of (q := q) (g := b) hdr.below)
        have cK := blk_k H2.out.blk (k := k.toNat) (by omega)
        have fz := H2.out.blk.frozen (1 + k.toNat)
        clear hdr HL HH
        go_region
        all_goals (
          have HB3 : Hid (Blk ((w2.setCell ⟨q, 1 + k.toNat, none⟩ (.int .i64 (hd S k.toNat + n))).drew) q (lc C (resF (hd S) k n) (pk S) b) 132) := blk_put (w := w2.drew) H2.out.blk (by omega) _
          have HM3 : Hid (Mp ((w2.setCell ⟨q, 1 + k.toNat, none⟩ (.int .i64 (hd S k.toNat + n))).drew) b S) := mp_put (w := w2.drew) H2.out.blk H2.out.mp _
          have HF3 : Hid (Fr q b w ((w2.setCell ⟨q, 1 + k.toNat, none⟩ (.int .i64 (hd S k.toNat + n))).drew)) := HF.out.trans ((Fr.of (Below.refl _ w2).drew).trans (Fr.ofq (grown_set _ _ _ _)) (.inl rfl)) (.inl rfl)
          generalize (w2.setCell ⟨q, 1 + k.toNat, none⟩ (.int .i64 (hd S k.toNat + n))).drew = w3 at HB3 HM3 HF3 ⊢
          clear cK fz H2 HF
          go_wp2_with (go_at_call 77; refine (note_led HB3.out HM3.out HG.out hC hS).mono ?_; rintro e w4 ⟨rfl, l4, f4⟩)
          go_ret
          exact ⟨rfl, l4, HF3.out.trans f4 (.inl rfl)⟩)
theorem rel_any (k n : Int) (h : Led w q b C S) (hw : Wf C S) (hS : S.length ≤ 1000) :
    Calls Tryz.prog 75 #[.pointer (some ⟨q, 0, none⟩), .int .i64 k, .int .i64 n] w fun e w' => e = .returned (.int .i64 (relE (hd S) k n)) ∧ Led w' q b C (nxt (relE (hd S) k n) (relF (hd S) k n) S) ∧ Fr q b w w' := by
  have HMY := Lib.hid (may_any k n h.blk)
  have HH := Lib.hid h
  have HW := Lib.hid hw
  have hC := hw.c1
  by_cases he : relE (hd S) k n = 0
  · obtain ⟨g1, hk, hn, hle, _⟩ := rel_gd hw.hd he
    obtain ⟨k0, k1⟩ := kindB_iff.1 hk
    have HG := Lib.hid g1
    have e2 : nxt 0 (relF (hd S) k n) S = relF (hd S) k n :: S := rfl
    rw [he] at HMY ⊢
    rw [e2]
    have hat := HW.out.hd.at (k := k.toNat) (by omega)
    have hwr := i64_in (hd S k.toNat - n) (by omega) (by omega)
    have hkk : (k.toNat : Int) = k := by omega
    have cK := blk_k h.blk (k := k.toNat) (by omega)
    have fz := h.blk.frozen (1 + k.toNat)
    clear he g1 h hw e2
    go_enter Tryz.func75, Tryz.ntmps75
    go_wp2_with (go_at_call 100; refine HMY.out.mono ?_; rintro e w' ⟨rfl, rfl⟩)
    go_region
    all_goals (
      have HB3 : Hid (Blk ((w.setCell ⟨q, 1 + k.toNat, none⟩ (.int .i64 (hd S k.toNat - n))).drew) q (lc C (relF (hd S) k n) (pk S) b) 132) := blk_put (w := w.drew) HH.out.blk (by omega) _
      have HM3 : Hid (Mp ((w.setCell ⟨q, 1 + k.toNat, none⟩ (.int .i64 (hd S k.toNat - n))).drew) b S) := mp_put (w := w.drew) HH.out.blk HH.out.mp _
      have HF3 : Hid (Fr q b w ((w.setCell ⟨q, 1 + k.toNat, none⟩ (.int .i64 (hd S k.toNat - n))).drew)) := (Fr.of (Below.refl _ w).drew).trans (Fr.ofq (grown_set _ _ _ _)) (.inl rfl)
      generalize (w.setCell ⟨q, 1 + k.toNat, none⟩ (.int .i64 (hd S k.toNat - n))).drew = w3 at HB3 HM3 HF3 ⊢
      clear cK fz HH
      go_wp2_with (go_at_call 77; refine (note_led HB3.out HM3.out HG.out hC hS).mono ?_; rintro e w4 ⟨rfl, l4, f4⟩)
      go_ret
      exact ⟨rfl, l4, HF3.out.trans f4 (.inl rfl)⟩)
  · have e2 : nxt (relE (hd S) k n) (relF (hd S) k n) S = S := by unfold nxt; rw [if_neg he]
    rw [e2]
    have d : (relE (hd S) k n != 0) = true := by simpa using he
    clear h hw e2 he
    generalize relE (hd S) k n = x at *
    go_enter Tryz.func75, Tryz.ntmps75
    go_wp2_with (go_at_call 100; refine HMY.out.mono ?_; rintro e w' ⟨rfl, rfl⟩)
    go_ret
    exact ⟨rfl, HH.out, Fr.refl _ _ _⟩
theorem sh_any (k t n : Int) (h : Led w q b C S) (hw : Wf C S) (hS : S.length ≤ 1000) :
    Calls Tryz.prog 69 #[.pointer (some ⟨q, 0, none⟩), .int .i64 k, .int .i64 t, .int .i64 n] w fun e w' => e = .returned (.int .i64 (shE (hd S) k t n)) ∧ Led w' q b C (nxt (shE (hd S) k t n) (shF (hd S) k t n) S) ∧ Fr q b w w' := by
  have HH := Lib.hid h
  have HW := Lib.hid hw
  have hC := hw.c1
  cases ht : kindB t with
  | false =>
    have e : shE (hd S) k t n = 11 := by simp [shE, ht]
    rw [e]
    clear h hw e
    go_enter Tryz.func69, Tryz.ntmps69
    go_wp2_with (go_at_call 86; refine (kind_any _ _).mono ?_; rw [ht]; rintro e w' ⟨rfl, rfl⟩)
    go_ret
    exact ⟨rfl, HH.out, Fr.refl _ _ _⟩
  | true =>
    have e : shE (hd S) k t n = relE (hd S) k n := by simp [shE, ht]
    have HMY := Lib.hid (may_any k n h.blk)
    by_cases he : relE (hd S) k n = 0
    · have hG := sh_gd hw.hd (e.trans he)
      have HG := Lib.hid hG
      obtain ⟨g1, hk, hn, hle, _⟩ := rel_gd hw.hd he
      obtain ⟨k0, k1⟩ := kindB_iff.1 hk
      obtain ⟨t0, t1⟩ := kindB_iff.1 ht
      have e2 : nxt 0 (shF (hd S) k t n) S = shF (hd S) k t n :: S := rfl
      rw [he] at HMY
      rw [e, he, e2]
      have hat := HW.out.hd.at (k := k.toNat) (by omega)
      have hwr := i64_in (hd S k.toNat - n) (by omega) (by omega)
      have hkk : (k.toNat : Int) = k := by omega
      have cK := blk_k h.blk (k := k.toNat) (by omega)
      have fz := h.blk.frozen (1 + k.toNat)
      have HG1 := Lib.hid g1
      clear he g1 h hw e2 e hG
      go_enter Tryz.func69, Tryz.ntmps69
      go_wp2_with (first | (go_at_call 86; refine (kind_any _ _).mono ?_; rw [ht]; rintro e w' ⟨rfl, rfl⟩) | (go_at_call 100; refine HMY.out.mono ?_; rintro e w' ⟨rfl, rfl⟩))
      go_region
      all_goals (
        have HB3 : Hid (Blk ((w.setCell ⟨q, 1 + k.toNat, none⟩ (.int .i64 (hd S k.toNat - n))).drew) q (lc C (relF (hd S) k n) (pk S) b) 132) := blk_put (w := w.drew) HH.out.blk (by omega) _
        have HM3 : Hid (Mp ((w.setCell ⟨q, 1 + k.toNat, none⟩ (.int .i64 (hd S k.toNat - n))).drew) b S) := mp_put (w := w.drew) HH.out.blk HH.out.mp _
        have HF3 : Hid (Fr q b w ((w.setCell ⟨q, 1 + k.toNat, none⟩ (.int .i64 (hd S k.toNat - n))).drew)) := (Fr.of (Below.refl _ w).drew).trans (Fr.ofq (grown_set _ _ _ _)) (.inl rfl)
        generalize (w.setCell ⟨q, 1 + k.toNat, none⟩ (.int .i64 (hd S k.toNat - n))).drew = w3 at HB3 HM3 HF3 ⊢
        clear cK fz HH hwr hkk
        have hat2 := HG1.out.at (k := t.toNat) (by omega)
        have hwr := i64_in (relF (hd S) k n t.toNat + n) (by omega) (by omega)
        have hkk : (t.toNat : Int) = t := by omega
        have cK := blk_k HB3.out (k := t.toNat) (by omega)
        have fz := HB3.out.frozen (1 + t.toNat)
        go_wp2_with fail)
      all_goals go_region
      all_goals (
        have HB4 : Hid (Blk ((w3.setCell ⟨q, 1 + t.toNat, none⟩ (.int .i64 (relF (hd S) k n t.toNat + n))).drew) q (lc C (shF (hd S) k t n) (pk S) b) 132) := blk_put (w := w3.drew) HB3.out (by omega) _
        have HM4 : Hid (Mp ((w3.setCell ⟨q, 1 + t.toNat, none⟩ (.int .i64 (relF (hd S) k n t.toNat + n))).drew) b S) := mp_put (w := w3.drew) HB3.out HM3.out _
        have HF4 : Hid (Fr q b w ((w3.setCell ⟨q, 1 + t.toNat, none⟩ (.int .i64 (relF (hd S) k n t.toNat + n))).drew)) := HF3.out.trans ((Fr.of (Below.refl _ w3).drew).trans (Fr.ofq (grown_set _ _ _ _)) (.inl rfl)) (.inl rfl)
        generalize (w3.setCell ⟨q, 1 + t.toNat, none⟩ (.int .i64 (relF (hd S) k n t.toNat + n))).drew = w4 at HB4 HM4 HF4 ⊢
        clear cK fz HB3 HM3 HF3
        go_wp2_with (go_at_call 77; refine (note_led HB4.out HM4.out HG.out hC hS).mono ?_; rintro e w5 ⟨rfl, l5, f5⟩)
        go_ret
        exact ⟨rfl, l5, HF4.out.trans f5 (.inl rfl)⟩)
    · have e2 : nxt (relE (hd S) k n) (shF (hd S) k t n) S = S := by unfold nxt; rw [if_neg he]
      rw [e, e2]
      have d : (relE (hd S) k n != 0) = true := by simpa using he
      clear h hw e2 he e
      generalize relE (hd S) k n = x at *
      go_enter Tryz.func69, Tryz.ntmps69
      go_wp2_with (first | (go_at_call 86; refine (kind_any _ _).mono ?_; rw [ht]; rintro e w' ⟨rfl, rfl⟩) | (go_at_call 100; refine HMY.out.mono ?_; rintro e w' ⟨rfl, rfl⟩))
      go_ret
      exact ⟨rfl, HH.out, Fr.refl _ _ _⟩
end
end Go.Proofs.YtjnknnakllbaaaaGreat.Le
