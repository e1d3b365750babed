/-
  The program's slab is held against the document's one: a contract that the claimed proof uses.
-/
import Derived.Test.YtiemgeflkmbfoaaDoorOsCopy
import Derived.StillTailTactics
namespace Go.Proofs.YtiemgeflkmbfoaaDoor.Os
set_option maxRecDepth 100000
open Go.RowKit
open Ta (sz szs classB classB_iff classB_not sizeOf' slotsOf)
open Bi (sets bt on first setL setB tst hasB u Blk Drawn grown_refl grown_trans grown_below up_alloc up_drew up_trans i64_in ret_i ret_b brow)

section
variable {w w' w2 : World} {s q g R gl : Nat} {b c : Int} {l : List Bool}
/-- The bits of a list's first slots. -/
def Wk (x : BitVec 64) (xs : List Nat) : Prop := ∀ j, j < 64 → x.getLsbD j = decide (j ∈ xs)
theorem wk_zero : Wk 0#64 [] := fun j hj => by simp
theorem wk_next {x : BitVec 64} {xs : List Nat} {y : Nat} (h : Wk x xs) (hy : y < 64) : Wk (x ||| 1#64 <<< y) (xs ++ [y]) := fun j hj => by
  rw [BitVec.getLsbD_or, BitVec.getLsbD_shiftLeft, h j hj]
  by_cases e : j = y
  · subst e; simp [hj]
  · have : ¬ (j ∈ [y]) := by simp [e]
    rw [Bool.eq_iff_iff]
    simp only [Bool.or_eq_true, decide_eq_true_eq, List.mem_append, this, or_false, Bool.and_eq_true, Bool.not_eq_true', decide_eq_false_iff_not]
    constructor
    · rintro (h | ⟨⟨h1, h2⟩, h3⟩)
      · exact h
      · exfalso
        have h4 : j - y ≠ 0 := by omega
        have : (1#64).getLsbD (j - y) = false := by simp [BitVec.getLsbD_one, h4]
        rw [this] at h3; cases h3
    · exact .inl
theorem wk_all {x : BitVec 64} {l : List Bool} (h : Wk x (sets l)) : Wd x l := fun j hj => by
  rw [h j hj, Bool.eq_iff_iff, decide_eq_true_eq]; exact sets_mem
set_option maxHeartbeats 8000000 in
theorem agree_any (h : Sl w s q g b c l) (hd : Rd w R gl b c l) (hT : Tb w) : Calls Tryd.prog 14 #[.pointer (some ⟨s, 0, none⟩), .pointer (some ⟨R, 0, none⟩)] w fun e w' => e = .returned (.bool true) ∧ Below w.heap.size w w' := by
  have HS := Lib.hid h
  have HD := Lib.hid hd
  have HT := Lib.hid hT
  have HL := Lib.hid (dlist_any hd)
  have hl := h.len_le.2
  have hsl := Bi.sets_length_le l
  obtain ⟨m, hm⟩ : ∃ m, (sets l).length = m := ⟨_, rfl⟩
  have HM := Lib.hid hm
  rw [hm] at HL hsl
  have hlt64 : Hid (∀ y ∈ sets l, y < 64) := fun y hy => by
    have := sets_mem.1 hy
    apply Classical.byContradiction
    intro hh
    rw [Bi.bt_beyond (by omega)] at this
    cases this
  clear h hd hT hm
  go_enter Tryd.func14, Tryd.ntmps14
  go_wp2_with fail
  refine HL.out.mono ?_
  rintro e w1 ⟨gL, cL, rfl, atL, b1⟩
  have ATL := Lib.hid atL
  have B1 := Lib.hid b1
  clear atL b1 HL
  go_wp2_with fail
  obtain ⟨w2, hw2⟩ : ∃ w2, w1.alloc (.cells #[.int .u64 0, .int .u64 0, .int .u64 0, .int .u64 0] 58) = w2 := ⟨_, rfl⟩
  have b2 : Below w1.heap.size w1 w2 := by rw [← hw2]; exact up_alloc (Below.refl _ _) _
  have k2 : Blk w2 w1.heap.size [.int .u64 (u 0#64), .int .u64 0, .int .u64 0, .int .u64 0] 58 := by rw [← hw2]; exact heap_alloc_last w1 _
  obtain ⟨kb, hkb⟩ : ∃ kb, w1.heap.size = kb := ⟨_, rfl⟩
  rw [hw2, hkb]
  rw [hkb] at k2
  have HKB : Hid (w.heap.size ≤ kb) := by show _ ≤ _; rw [← hkb]; exact B1.out.size
  have B2 := Lib.hid (up_trans B1.out b2)
  have ATL2 := Lib.hid (ATL.out.below b2)
  rw [hkb] at ATL2
  have K2 := Lib.hid k2
  clear hw2 hkb b2 k2 ATL B1
  go_loopw [7] (fun i wr => ∃ (k : Nat) (x : BitVec 64), k ≤ m ∧ i = .int .i64 k ∧ Blk wr kb [.int .u64 (u x), .int .u64 0, .int .u64 0, .int .u64 0] 58 ∧ Wk x ((sets l).take k) ∧ Below kb w2 wr ∧ Below w.heap.size w wr) (fun i _ => m - (intOf i).toNat)
  case atStart => exact ⟨0, 0#64, by omega, rfl, K2.out, by rw [List.take_zero]; exact wk_zero, Below.refl _ _, B2.out⟩
  case round =>
    obtain ⟨k, x, hk, rfl, hkb, hwk, hb2, hbw⟩ := hrel
    have HK := Lib.hid hkb
    have HW := Lib.hid hwk
    have HB2 := Lib.hid hb2
    have HBW := Lib.hid hbw
    have c0 : wr.cell? ⟨kb, 0, none⟩ = some (.int .u64 (u x)) := hkb.cell
    have f0 := hkb.frozen 0
    clear hwk hb2 hbw
    by_cases hlt : k < m
    · have hkl : k < (sets l).length := by rw [HM.out]; exact hlt
      have hkl2 : k < (nats (sets l)).length := by unfold nats; rw [List.length_map]; exact hkl
      obtain ⟨gb, go, e, _, q0⟩ := (ATL2.out.below HB2.out).int hkl2
      cases e
      have hy := hlt64.out _ (List.getElem_mem hkl)
      have hyn : (nats (sets l))[k] = (((sets l)[k] : Nat) : Int) := by simp [nats]
      have HTk : Hid ((sets l).take (k + 1) = (sets l).take k ++ [(sets l)[k]]) := List.take_succ_eq_append_getElem hkl
      obtain ⟨y, hye⟩ : ∃ y, (sets l)[k] = y := ⟨_, rfl⟩
      rw [hye] at hy hyn HTk
      rw [hyn, Nat.zero_add] at q0
      have e1 : (y : Int).tdiv 64 = 0 := by rw [Int.tdiv_eq_ediv_of_nonneg (by omega)]; omega
      have e2 : (y : Int).tmod 64 = y := by rw [Int.tmod_eq_emod_of_nonneg (by omega)]; omega
      have j1 : (0 : Int) ≤ (k : Int) := by omega
      have j2 : (k : Int) < (m : Int) := by omega
      have wr0 : IntKind.i64.wrap 0 = 0 := by decide
      have wu : IntKind.u64.wrap (y : Int) = y := by rw [IntKind.wrap_u64]; omega
      have hmin : min y 64 = y := by omega
      have HY := Lib.hid hy
      have w64 := i64_in (y : Int) (by omega) (by omega)
      have hlt2 : decide ((k : Int) < (m : Int)) = true := by simpa using hlt
      clear hkl hkl2 hyn hye K2 hkb
      go_wp2_with fail
      go_still_tail 16, (by kernel_rfl)
      change wpList _ _ _ _ _ wr.drew
      have c0d : wr.drew.cell? ⟨kb, 0, none⟩ = some (.int .u64 (u x)) := c0
      have f0d : wr.drew.frozen? ⟨kb, 0, none⟩ = false := f0
      go_wp2_with fail
      go_roundw
      case rel =>
        have e : ∀ v, v = u (x ||| 1#64 <<< y) → Blk (wr.drew.setCell ⟨kb, 0, none⟩ (.int .u64 v)) kb [.int .u64 (u (x ||| 1#64 <<< y)), .int .u64 0, .int .u64 0, .int .u64 0] 58 := fun v hv => by
          rw [hv]
          exact (show Blk wr.drew kb _ 58 from HK.out).set (i := 0) (.int .u64 (u (x ||| 1#64 <<< y)))
        have hraw : bits .or .u64 (u x) (IntKind.u64.wrap (2 ^ y)) = u (x ||| 1#64 <<< y) := by rw [Bi.bit_raw, Bi.or_u]
        have hgr : ∀ v, wr.grownBy (wr.drew.setCell ⟨kb, 0, none⟩ v) (some kb) := fun v => Bi.grown_set (Bi.grown_drew (grown_refl _ _))
        refine ⟨k + 1, x ||| 1#64 <<< y, by omega, by go_num, e _ ?_, by rw [HTk.out]; exact wk_next HW.out HY.out, HB2.out.grown (hgr _) ?_ ?_, HBW.out.grown (hgr _) HBW.out.size ?_⟩
        · first | exact hraw | (simp; exact hraw)
        · exact Nat.le_of_lt HK.out.lt
        · intro g hg; cases hg; exact Nat.le_refl _
        · intro g hg; cases hg; exact HKB.out
      case measure => simp [intOf]; omega
    · obtain rfl : k = m := by omega
      have hW := HW.out
      rw [List.take_of_length_le (by rw [HM.out]; exact Nat.le_refl _)] at hW
      have HX := Lib.hid (wk_all hW)
      have hlt2 : decide ((k : Int) < (k : Int)) = false := by simp
      have hdr : Below wr.heap.size wr wr.drew := (Below.refl _ wr).drew
      have HDR := Lib.hid hdr
      have S1 := Lib.hid ((HS.out.below HBW.out).below hdr)
      have D0 := Lib.hid (HD.out.below HBW.out)
      have D1 := Lib.hid (D0.out.below hdr)
      have T1 := Lib.hid ((HT.out.below HBW.out).below hdr)
      obtain ⟨cap, r3⟩ := D0.out.c3
      obtain ⟨n, hn⟩ : ∃ n, l.length = n := ⟨_, rfl⟩
      have HN := Lib.hid hn
      rw [hn] at r3
      have HS7 : Hid (∀ V, Below wr.heap.size wr V → V.cell? ⟨R, 0, none⟩ = some (.int .i64 b) ∧ V.cell? ⟨R, 2, none⟩ = some (.int .i64 c) ∧ V.cell? ⟨R, 3, none⟩ = some (.slice (some ⟨gl, 0, none⟩) n cap) ∧ V.cell? ⟨kb, 0, none⟩ = some (.int .u64 (u x)) ∧ V.cell? ⟨kb, 1, none⟩ = some (.int .u64 0) ∧ V.cell? ⟨kb, 2, none⟩ = some (.int .u64 0) ∧ V.cell? ⟨kb, 3, none⟩ = some (.int .u64 0)) := fun V hV =>
        ⟨(D0.out.below hV).c0, (D0.out.below hV).c2, (hV.cell (p := ⟨R, 3, none⟩) D0.out.lt.1).trans r3, (HK.out.below hV).cell, (HK.out.below hV).cell, (HK.out.below hV).cell, (HK.out.below hV).cell⟩
      have hS1 := HS7.out _ hdr
      have HBs := Lib.hid (base_any S1.out)
      have HCl := Lib.hid (class_any S1.out)
      have HSz := Lib.hid (size_any S1.out T1.out)
      have HRz := Lib.hid (dsize_any D1.out)
      obtain ⟨z, hz⟩ : ∃ z, sizeOf' c = z := ⟨_, rfl⟩
      rw [hz] at HSz HRz
      have hfr : Hid ((fr l : Int) = (n : Int) - k) := by show _ = _; unfold fr; rw [HM.out, hn]; omega
      have hfw := i64_in ((n : Int) - k) (by omega) (by omega)
      have hbb : (b == b) = true := by simp
      have hcc : (c == c) = true := by simp
      have hzz : (z == z) = true := by simp
      have hnn : ((n : Int) == (n : Int)) = true := by simp
      have hnk : ((n : Int) - k == (n : Int) - k) = true := by simp
      have hst : (stI l == stI l) = true := by simp
      obtain ⟨st', hst'⟩ : ∃ q, stI l = q := ⟨_, rfl⟩
      rw [hst'] at hst
      have HSTI := Lib.hid hst'
      clear hW hkb hz hn hst' K2 hdr r3 c0 f0
      go_wp2_with fail
      simp only [List.cons_append, List.nil_append, List.append_eq]
      go_region_held3 (fun V => V.cell? ⟨R, 0, none⟩ = some (.int .i64 b) ∧ V.cell? ⟨R, 2, none⟩ = some (.int .i64 c) ∧ V.cell? ⟨R, 3, none⟩ = some (.slice (some ⟨gl, 0, none⟩) n cap) ∧ V.cell? ⟨kb, 0, none⟩ = some (.int .u64 (u x)) ∧ V.cell? ⟨kb, 1, none⟩ = some (.int .u64 0) ∧ V.cell? ⟨kb, 2, none⟩ = some (.int .u64 0) ∧ V.cell? ⟨kb, 3, none⟩ = some (.int .u64 0))
        (first | exact HS7.out _ B9.out | exact HS7.out _ B8.out | exact HS7.out _ B7.out | exact HS7.out _ B6.out | exact HS7.out _ B5.out | exact HS7.out _ B4.out | exact HS7.out _ B3.out | exact hS1)
        ((first
          | (go_at_call 28; refine HKy.out.mono ?_; rintro e w9 ⟨⟨y, rfl, hy⟩, b9⟩; obtain rfl := hy.one HX.out; have B9 := Lib.hid (up_trans B8.out b9); have hke : ∀ V : World, (binOp .eql 58 (keyW y) (.agg #[.int .u64 (u y), .int .u64 0, .int .u64 0, .int .u64 0])).run Tryd.prog V = .ok (.bool true) V := (fun V => (keyw_eql V y y).trans (by simp)); have hkg : ∀ (V : World) (p q : Operand), (eqGuard .eql 58 p q (keyW y) (.agg #[.int .u64 (u y), .int .u64 0, .int .u64 0, .int .u64 0])).run Tryd.prog V = .ok () V := (fun V p q => keyw_guard V p q y y); clear hy b9)
          | (go_at_call 42; refine HDt.out.mono ?_; rintro e w8 ⟨rfl, b8⟩; have B8 := Lib.hid (up_trans B7.out b8); have S8 := Lib.hid (S7.out.below b8); have HKy := Lib.hid (key_any S8.out); clear b8)
          | (go_at_call 26; refine HSt.out.mono ?_; rintro e w7 ⟨rfl, d7⟩; have B7 := Lib.hid (up_trans B6.out d7.below); have S7 := Lib.hid (S6.out.below d7.below); have D7 := Lib.hid (D6.out.below d7.below); have HDt := Lib.hid (dstate_any D7.out); rw [HSTI.out] at HDt; clear d7)
          | (go_at_call 25; refine HFr.out.mono ?_; rintro e w6 ⟨rfl, d6⟩; have B6 := Lib.hid (up_trans B5.out d6.below); have S6 := Lib.hid (S5.out.below d6.below); have D6 := Lib.hid (D5.out.below d6.below); have HSt := Lib.hid (state_any S6.out); rw [HSTI.out] at HSt; clear d6)
          | (go_at_call 17; refine HSI.out.mono ?_; rintro e w5 ⟨rfl, b5⟩; have B5 := Lib.hid (up_trans B4.out b5); have S5 := Lib.hid (S4.out.below b5); have D5 := Lib.hid (D4.out.below b5); have HFr := Lib.hid (free_any S5.out); rw [hfr.out] at HFr; clear b5)
          | (go_at_call 29; refine (taken_any S3.out T3.out).mono ?_; rintro e w4 ⟨A4, c4, rfl, at4, b4⟩; have B4 := Lib.hid (up_trans B3.out b4); have S4 := Lib.hid (S3.out.below b4); have D4 := Lib.hid (D3.out.below b4); have hln : (nats (sets l)).length = k := (by unfold nats; rw [List.length_map]; exact HM.out); have HSI := Lib.hid (sameints_any (nats (sets l)) A4 (some ⟨gL, 0, none⟩) c4 cL (nats (sets l)).length k w4 at4 (((ATL2.out.below HB2.out).more (Nat.le_of_lt HK.out.lt)).up B4.out) (by rw [hln]; omega) rfl hln); clear b4 at4 hln)
          | (go_at_call 23; refine HSl.out.mono ?_; rintro e w' ⟨rfl, rfl⟩)
          | (go_at_call 22; refine HRz.out.mono ?_; rintro e w3 ⟨rfl, b3⟩; have B3 := Lib.hid (up_trans HDR.out b3); have S3 := Lib.hid (S1.out.below b3); have D3 := Lib.hid (D1.out.below b3); have T3 := Lib.hid (T1.out.below b3); have HSl := Lib.hid (slots_any S3.out); rw [HN.out] at HSl; clear b3)
          | (go_at_call 21; refine HSz.out.mono ?_; rintro e w' ⟨rfl, rfl⟩)
          | (go_at_call 41; refine HCl.out.mono ?_; rintro e w' ⟨rfl, rfl⟩)
          | (go_at_call 40; refine HBs.out.mono ?_; rintro e w' ⟨rfl, rfl⟩)))
      go_wp2_with fail
      go_ret
      exact ⟨rfl, up_trans HBW.out B9.out⟩
end
end Go.Proofs.YtiemgeflkmbfoaaDoor.Os
