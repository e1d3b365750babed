/-
  What GiveAll and Give do: contracts that the claimed proofs use.
-/
import Derived.Test.YtiemgeflkmbfoaaDoorOsSome
namespace Go.Proofs.YtiemgeflkmbfoaaDoor.Os
set_option maxRecDepth 100000
open Go.RowKit
open Ta (sz szs classB classB_iff classB_not sizeOf' slotsOf)
open Bi (sets bt on first setL setB tst hasB u Blk Drawn grown_refl grown_trans grown_below up_alloc up_drew up_trans i64_in ret_i ret_b)

section
variable {w w' w2 : World} {s q g : Nat} {b c : Int} {l l' l2 : List Bool}
theorem setB_tst (l : List Bool) (k : Int) : setB l k false = tst l k := by
  unfold setB tst; cases l.getD k.toNat false <;> simp
theorem gv_none {b z : Int} {l : List Bool} {x : Int} (h : slotI l.length b z x < 0) (r : List Int) : gaE b z l (x :: r) = 12 := by
  have e : gvE b z l x = 12 := by unfold gvE gvI; rw [if_pos h]
  rw [gaE, e, if_neg (by decide)]
theorem gv_twice {b z : Int} {l : List Bool} {x : Int} (h : ¬ slotI l.length b z x < 0) (h2 : tst l (slotI l.length b z x) = false) (r : List Int) : gaE b z l (x :: r) = 19 := by
  have e : gvE b z l x = 19 := by unfold gvE gvI; rw [if_neg h, if_pos h2]
  rw [gaE, e, if_neg (by decide)]
theorem gv_ok {b z : Int} {l : List Bool} {x : Int} (h : ¬ slotI l.length b z x < 0) (h2 : tst l (slotI l.length b z x) = true) (r : List Int) : gaE b z l (x :: r) = gaE b z (setL l (slotI l.length b z x) false) r ∧ gaS b z l (x :: r) = gaS b z (setL l (slotI l.length b z x) false) r := by
  have e : gvE b z l x = 0 := by unfold gvE gvI; rw [if_neg h, if_neg (by rw [h2]; simp)]
  have e2 : gvL b z l x = setL l (slotI l.length b z x) false := by unfold gvL; rw [if_pos e]; rfl
  rw [gaE, e, if_pos rfl, gaS, e2]; exact ⟨rfl, rfl⟩
set_option maxHeartbeats 4000000 in
theorem giveAll_any (A : Option Addr) (n cap : Nat) (xs : List Int) (hA : At w.heap.size w A (ints xs)) (hn : xs.length = n) (hn2 : n ≤ 1048576) (hx : ∀ x ∈ xs, I64 x) (h : Sl w s q g b c l) (hT : Tb w) :
    Calls Tryd.prog 32 #[.pointer (some ⟨s, 0, none⟩), .slice A n cap] w fun e w' => e = .returned (.int .i64 (gaE b (sizeOf' c) l xs)) ∧ Bec s g b c (gaL b (sizeOf' c) l xs) w w' := by
  have c2 := h.c2
  have HH := Lib.hid h
  have HT := Lib.hid hT
  obtain ⟨ws, hm⟩ := h.bits
  have HC := Lib.hid (Bi.clone_any q g l ws w hm)
  unfold Bi.Cloned at HC
  have HA := Lib.hid hA
  have HX := Lib.hid hn
  have HI := Lib.hid hx
  clear h hT hm hA hn hx
  go_enter Tryd.func32, Tryd.ntmps32
  go_wp2_with fail
  refine HC.out.mono ?_
  rintro e w1 ⟨Q, G, rfl, hQ, hG, m1, b1⟩
  have M1 := Lib.hid m1
  have B1 := Lib.hid b1
  clear m1 b1 HC c2
  go_wp2_with fail
  go_loopw [17] (fun i wr => ∃ (k : Nat) (lk : List Bool) (wk : List (BitVec 64)), k ≤ n ∧ i = .int .i64 k ∧ Bi.Bits wr Q G lk wk ∧ lk.length = l.length ∧ gaE b (sizeOf' c) l xs = gaE b (sizeOf' c) lk (xs.drop k) ∧ gaS b (sizeOf' c) l xs = gaS b (sizeOf' c) lk (xs.drop k) ∧ Below w.heap.size w wr) (fun i _ => n - (intOf i).toNat)
  case atStart => exact ⟨0, _, _, by omega, rfl, M1.out, rfl, rfl, rfl, B1.out⟩
  case round =>
    obtain ⟨k, lk, wk, hk, rfl, hm, hl, h1, h2, hbel⟩ := hrel
    have HM := Lib.hid hm
    have HLN := Lib.hid hl
    have H1 := Lib.hid h1
    have H2 := Lib.hid h2
    have HB := Lib.hid hbel
    clear hm hl h1 h2 hbel
    by_cases hlt : k < n
    · have hkl : k < xs.length := by rw [HX.out]; exact hlt
      obtain ⟨ab, ao, rfl, _, q0⟩ := (HA.out.below HB.out).int hkl
      have HD : Hid (xs.drop k = xs[k] :: xs.drop (k + 1)) := List.drop_eq_getElem_cons hkl
      have hxi := HI.out _ (List.getElem_mem hkl)
      obtain ⟨x, hx⟩ : ∃ x, xs[k] = x := ⟨_, rfl⟩
      rw [hx] at q0 HD hxi
      have j1 : (0 : Int) ≤ (k : Int) := by omega
      have j2 : (k : Int) < (n : Int) := by omega
      have HSl := Lib.hid (slot_any x hxi (HH.out.below HB.out) (HT.out.below HB.out))
      have HJ : Hid (slotI lk.length b (sizeOf' c) x = slotI l.length b (sizeOf' c) x) := by show _ = _; rw [HLN.out]
      obtain ⟨j, hj⟩ : ∃ j, slotI l.length b (sizeOf' c) x = j := ⟨_, rfl⟩
      rw [hj] at HSl HJ
      clear hx hkl hxi hj
      by_cases hneg : j < 0
      · have hs : sle j = 12 := if_pos hneg
        rw [hs] at HSl
        have HN := Lib.hid hneg
        clear hs hneg
        go_wp2_with (go_at_call 18; refine HSl.out.mono ?_; rintro e w' ⟨rfl, rfl⟩)
        go_ret
        have e : gaE b (sizeOf' c) l xs = 12 := by rw [H1.out, HD.out]; exact gv_none (by rw [HJ.out]; exact HN.out) _
        exact ⟨by rw [e]; rfl, by unfold gaL; rw [if_neg (by rw [e]; decide)]; exact Bec.same HH.out HB.out⟩
      · have hs : sle j = 0 := if_neg hneg
        rw [hs] at HSl
        have HCl := Lib.hid (Bi.clear_any _ _ _ _ j wr HM.out)
        unfold Bi.Turned at HCl
        have HN := Lib.hid hneg
        clear hs hneg
        cases ht : tst lk j with
        | false =>
          have e1 : setB lk j false = false := (setB_tst lk j).trans ht
          rw [e1] at HCl
          have HTs := Lib.hid ht
          clear e1 ht
          go_wp2_with (first
            | (go_at_call 18; refine HSl.out.mono ?_; rintro e w' ⟨rfl, rfl⟩)
            | (go_at_call 54; refine HCl.out.mono ?_; rintro e w2 ⟨rfl, -, g2⟩; have B2 := Lib.hid (Bi.below_grown HB.out g2 HB.out.size hG); clear g2))
          go_ret
          have e : gaE b (sizeOf' c) l xs = 19 := by rw [H1.out, HD.out]; exact gv_twice (by rw [HJ.out]; have := HN.out; omega) (by rw [HJ.out]; exact HTs.out) _
          exact ⟨by rw [e]; rfl, by unfold gaL; rw [if_neg (by rw [e]; decide)]; exact Bec.same HH.out B2.out⟩
        | true =>
          have e1 : setB lk j false = true := (setB_tst lk j).trans ht
          rw [e1] at HCl
          have HTs := Lib.hid ht
          clear e1 ht
          go_wp2_with (first
            | (go_at_call 18; refine HSl.out.mono ?_; rintro e w' ⟨rfl, rfl⟩)
            | (go_at_call 54; refine HCl.out.mono ?_; rintro e w2 ⟨rfl, ⟨wk2, m2⟩, g2⟩; have M2 := Lib.hid m2; have B2 := Lib.hid (Bi.below_grown HB.out g2 HB.out.size hG); clear m2 g2))
          go_roundw
          case rel =>
            obtain ⟨e3, e4⟩ := gv_ok (b := b) (z := sizeOf' c) (l := lk) (x := x) (by rw [HJ.out]; have := HN.out; omega) (by rw [HJ.out]; exact HTs.out) (xs.drop (k + 1))
            rw [HJ.out] at e3 e4
            exact ⟨k + 1, setL lk j false, wk2, by omega, by go_num, M2.out, by rw [Bi.setL_length]; exact HLN.out, by rw [H1.out, HD.out, e3], by rw [H2.out, HD.out, e4], B2.out⟩
          case measure => simp [intOf]; omega
    · obtain rfl : k = n := by omega
      have hD : xs.drop k = [] := List.drop_eq_nil_of_le (by rw [HX.out]; exact Nat.le_refl _)
      have HE : Hid (gaE b (sizeOf' c) l xs = 0 ∧ gaS b (sizeOf' c) l xs = lk) := ⟨by rw [H1.out, hD]; rfl, by rw [H2.out, hD]; rfl⟩
      have hS := HH.out.below HB.out
      have c2 := hS.c2
      have f2 := hS.blk.frozen 2
      clear hD hS
      go_wp2
      go_ret
      obtain ⟨e1, e2⟩ := HE.out
      have hS := HH.out.below HB.out
      have hkd := HM.out
      have hk1 : kind wr Q = 81 := kind_blk hkd.1
      have hk2 : kind wr G = 56 := kind_blk hkd.2.1
      have hgr : wr.grownBy (wr.setCell ⟨s, 2, none⟩ (.pointer (some ⟨Q, 0, none⟩))) (some s) := Bi.grown_set (grown_refl _ _)
      refine ⟨by rw [e1]; rfl, Q, G, ⟨?_, ⟨wk, ?_⟩, HH.out.hb, HH.out.hc, ?_, HH.out.pos⟩, (Fr.of HB.out).trans (Fr.grown1 hgr) (.inl rfl), .inr hG⟩
      · exact hS.blk.set (i := 2) (.pointer (some ⟨Q, 0, none⟩))
      · unfold gaL; rw [if_pos e1, e2]
        exact hkd.far hgr (kne hk1 hS.kinds.1 (by decide)) (kne hk2 hS.kinds.1 (by decide))
      · rw [gaL_len]; exact HH.out.len
theorem gaE_one (b z : Int) (l : List Bool) (x : Int) : gaE b z l [x] = gvE b z l x ∧ gaL b z l [x] = gvL b z l x := by
  have e : gaE b z l [x] = gvE b z l x := by
    rw [gaE]; split
    · rename_i h; rw [h]; rfl
    · rfl
  refine ⟨e, ?_⟩
  unfold gaL
  rw [e]
  split
  · rfl
  · rename_i h; unfold gvL; rw [if_neg h]
theorem give_any (x : Int) (hx : I64 x) (h : Sl w s q g b c l) (hT : Tb w) : Calls Tryd.prog 27 #[.pointer (some ⟨s, 0, none⟩), .int .i64 x] w fun e w' => e = .returned (.int .i64 (gvE b (sizeOf' c) l x)) ∧ Bec s g b c (gvL b (sizeOf' c) l x) w w' := by
  obtain ⟨w1, hw1⟩ : ∃ w1, w.alloc (.cells #[.int .i64 x] 3) = w1 := ⟨_, rfl⟩
  have b1 : Below w.heap.size w w1 := by rw [← hw1]; exact up_alloc (Below.refl _ _) _
  have k1 : Blk w1 w.heap.size [.int .i64 x] 3 := by rw [← hw1]; exact heap_alloc_last w _
  have HG := Lib.hid (giveAll_any (some ⟨w.heap.size, 0, none⟩) 1 1 [x] (w := w1) (fun _ => ⟨w.heap.size, 0, rfl, k1.lt, fun j v hj => by rw [Nat.zero_add]; exact (k1.cell).trans hj⟩) rfl (by omega) (fun y hy => by simp at hy; rw [hy]; exact hx) (h.below b1) (hT.below b1))
  rw [(gaE_one _ _ _ _).1, (gaE_one _ _ _ _).2] at HG
  have HB := Lib.hid b1
  generalize gvE b (sizeOf' c) l x = E at *
  clear h hT k1 b1
  go_enter Tryd.func27, Tryd.ntmps27
  go_wp2_with fail
  refine HG.out.mono ?_
  rintro e w2 ⟨rfl, h2⟩
  have H2 := Lib.hid (Bec.on HB.out h2)
  clear h2
  go_wp2
  go_ret
  exact ⟨rfl, H2.out⟩
end
end Go.Proofs.YtiemgeflkmbfoaaDoor.Os
