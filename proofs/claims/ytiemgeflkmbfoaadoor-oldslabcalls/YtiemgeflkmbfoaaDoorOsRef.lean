/-
  The document's slab in memory; what makes it, and what it is asked about places: contracts that the claimed proofs use.
-/
import Derived.Test.YtiemgeflkmbfoaaDoorOsFull
namespace Go.Proofs.YtiemgeflkmbfoaaDoor.Os
set_option maxRecDepth 100000
open Go.RowKit
open Ta (sz szs classB classB_iff classB_not sizeOf' slotsOf)
open Bi (sets bt on first setL setB tst hasB u Blk Drawn grown_refl grown_trans grown_below up_alloc up_drew up_trans i64_in ret_i ret_b brow)

/-! ### Sizes -/
def Lst (w : World) (p : Option Addr) : Prop := ∃ g, p = some ⟨g, 0, none⟩ ∧ ∀ j, j < 16 → w.cell? ⟨g, j, none⟩ = some (.int .i64 (sz j))
theorem lst_new (w : World) (t : TypeId) : Lst (w.alloc (.cells Ta.row t)) (some ⟨w.heap.size, 0, none⟩) :=
  ⟨_, rfl, fun j hj => by rw [cell_of_row _ w.heap.size j Ta.row t (0, 0) (heap_alloc_last w _)]; exact Ta.row_at j hj⟩
def Gives (w : World) (e : Ending) (w' : World) : Prop := ∃ p, e = .returned (.slice p 16 16) ∧ Lst w' p ∧ Below w.heap.size w w'
theorem gives_new (w : World) (t : TypeId) : Gives w (.returned (.slice (some ⟨w.heap.size, 0, none⟩) 16 16)) (w.alloc (.cells Ta.row t)) :=
  ⟨_, rfl, lst_new w t, up_alloc (Below.refl _ _) _⟩
theorem r5sizes_any (w : World) : Calls Tryd.prog 65 #[] w (Gives w) := by
  go_enter Tryd.func65, Tryd.ntmps65
  go_wp2
  go_ret
  exact gives_new w 3
theorem r6sizes_any (w : World) : Calls Tryd.prog 59 #[.int .i64 0] w (Gives w) := by
  have HG := Lib.hid (r5sizes_any w)
  go_enter Tryd.func59, Tryd.ntmps59
  go_wp2_with (go_at_call 65; refine HG.out.mono ?_; rintro e w' ⟨p, rfl, hp, hb⟩)
  go_ret
  exact ⟨p, rfl, hp, hb⟩
theorem r6size_any (c : Int) (w : World) : Calls Tryd.prog 38 #[.int .i64 0, .int .i64 c] w fun e w' => e = .returned (.int .i64 (sizeOf' c)) ∧ Below w.heap.size w w' := by
  have HG := Lib.hid (r6sizes_any w)
  by_cases h0 : c < 0
  · have d0 : decide (c < 0) = true := by simpa using h0
    have H : Hid (sizeOf' c = 0) := Ta.sizeOf_no (classB_not.2 (by omega))
    go_enter Tryd.func38, Tryd.ntmps38
    go_wp2_with (go_at_call 59; refine HG.out.mono ?_; rintro e w' ⟨p, rfl, -, hb⟩)
    go_ret
    exact ⟨ret_i H.out.symm, hb⟩
  · have d0 : decide (c < 0) = false := by simpa using h0
    obtain ⟨k, rfl⟩ := Int.eq_ofNat_of_zero_le (show 0 ≤ c by omega)
    by_cases h1 : k < 16
    · have d1 : decide ((16 : Int) ≤ (k : Int)) = false := by simp; omega
      have k1 : (0 : Int) ≤ (k : Int) := by omega
      have k2 : (k : Int) < 16 := by omega
      have H : Hid (sizeOf' (k : Int) = sz k) := Ta.sizeOf_nat h1
      obtain ⟨z, hz⟩ : ∃ z, sz k = z := ⟨_, rfl⟩
      rw [hz] at H
      have HZ := Lib.hid hz
      clear hz
      go_enter Tryd.func38, Tryd.ntmps38
      go_wp2_with (go_at_call 59; refine HG.out.mono ?_; rintro e w' ⟨p, rfl, ⟨g, rfl, hc⟩, hb⟩; have q0 := hc k h1; rw [HZ.out] at q0; have HB := Lib.hid hb; clear hc hb)
      go_ret
      exact ⟨ret_i H.out.symm, HB.out⟩
    · have d1 : decide ((16 : Int) ≤ (k : Int)) = true := by simp; omega
      have H : Hid (sizeOf' (k : Int) = 0) := Ta.sizeOf_no (classB_not.2 (by omega))
      go_enter Tryd.func38, Tryd.ntmps38
      go_wp2_with (go_at_call 59; refine HG.out.mono ?_; rintro e w' ⟨p, rfl, -, hb⟩)
      go_ret
      exact ⟨ret_i H.out.symm, hb⟩
/-! ### A slab as the document has it -/
structure Rs (w : World) (R gl : Nat) (b c : Int) (l : List Bool) : Prop where
  blk : Blk w R [.int .i64 b, .int .i64 0, .int .i64 c, .slice (some ⟨gl, 0, none⟩) l.length l.length] 51
  row : Blk w gl (brow l) 4
  hb : baseB b = true
  hc : classB c = true
  len : l.length = nS c
section
variable {w w' : World} {R gl : Nat} {b c : Int} {l : List Bool}
theorem Rs.kinds (h : Rs w R gl b c l) : kind w R = 51 ∧ kind w gl = 4 := ⟨kind_blk h.blk, kind_blk h.row⟩
theorem Rs.lt (h : Rs w R gl b c l) : R < w.heap.size ∧ gl < w.heap.size := ⟨h.blk.lt, h.row.lt⟩
theorem Rs.of (h : Rs w R gl b c l) (h1 : w'.heap[R]? = w.heap[R]?) (h2 : w'.heap[gl]? = w.heap[gl]?) : Rs w' R gl b c l := ⟨h.blk.of h1, h.row.of h2, h.hb, h.hc, h.len⟩
theorem Rs.below (h : Rs w R gl b c l) (hb : Below w.heap.size w w') : Rs w' R gl b c l := h.of (hb.block _ h.lt.1) (hb.block _ h.lt.2)
theorem Rs.far (h : Rs w R gl b c l) {i j x y : Nat} (hf : Fr i j w w') (hi : kind w i = x) (hj : kind w j = y) (hx : x ≠ 51 ∧ x ≠ 4) (hy : y ≠ 51 ∧ y ≠ 4) : Rs w' R gl b c l := by
  obtain ⟨k1, k2⟩ := h.kinds
  obtain ⟨l1, l2⟩ := h.lt
  exact h.of (hf.block _ l1 (kne k1 hi (Ne.symm hx.1)) (kne k1 hj (Ne.symm hy.1))) (hf.block _ l2 (kne k2 hi (Ne.symm hx.2)) (kne k2 hj (Ne.symm hy.2)))
theorem Rs.c0 (h : Rs w R gl b c l) : w.cell? ⟨R, 0, none⟩ = some (.int .i64 b) := h.blk.cell
theorem Rs.c1 (h : Rs w R gl b c l) : w.cell? ⟨R, 1, none⟩ = some (.int .i64 0) := h.blk.cell
theorem Rs.c2 (h : Rs w R gl b c l) : w.cell? ⟨R, 2, none⟩ = some (.int .i64 c) := h.blk.cell
theorem Rs.c3 (h : Rs w R gl b c l) : w.cell? ⟨R, 3, none⟩ = some (.slice (some ⟨gl, 0, none⟩) l.length l.length) := h.blk.cell
theorem Rs.bit (h : Rs w R gl b c l) {i : Nat} (hi : i < l.length) : w.cell? ⟨gl, i, none⟩ = some (.bool (bt l i)) := by rw [h.row.cell, Bi.brow_get hi]; rfl
theorem Rs.len_le (h : Rs w R gl b c l) : 2 ≤ l.length ∧ l.length ≤ 64 := by have := cls h.hc; have := h.len; omega
/-! ### New -/
theorem brow_none (n : Nat) : List.replicate n (Value.bool false) = brow (List.replicate n false) := by unfold brow; rw [List.map_replicate]
theorem rnew_no (h : (baseB b && classB c) = false) : Calls Tryd.prog 13 #[.int .i64 b, .int .i64 0, .int .i64 c, .int .i64 1048576] w fun e w' => e = .returned (.tuple #[.pointer none, .int .i64 11]) ∧ Below w.heap.size w w' := by
  have HS := Lib.hid (r6size_any c w)
  by_cases h0 : b < 0
  · have d0 : decide (b < 0) = true := by simpa using h0
    clear h h0
    go_enter Tryd.func13, Tryd.ntmps13
    go_wp2_with (go_at_call 38; refine HS.out.mono ?_; rintro e w' ⟨rfl, hb⟩)
    go_ret2
    exact ⟨rfl, hb⟩
  · have d0 : decide (b < 0) = false := by simpa using h0
    have e1 : b.tmod 1024 = b % 1024 := by rw [Int.tmod_eq_emod_of_nonneg (by omega)]
    by_cases h1 : b % 1024 = 0
    · have d1 : (b % 1024 != 0) = false := by simpa using h1
      by_cases h2 : 1047552 < b
      · have d2 : decide (1047552 < b) = true := by simpa using h2
        clear h h0 h1 h2
        go_enter Tryd.func13, Tryd.ntmps13
        go_wp2_with (go_at_call 38; refine HS.out.mono ?_; rintro e w' ⟨rfl, hb⟩)
        go_ret2
        exact ⟨rfl, hb⟩
      · have d2 : decide (1047552 < b) = false := by simpa using h2
        have hb : baseB b = true := baseB_iff.2 (by omega)
        have hz : sizeOf' c = 0 := Ta.sizeOf_no (by rw [hb] at h; simpa using h)
        rw [hz] at HS
        clear h h0 h1 h2 hb hz
        go_enter Tryd.func13, Tryd.ntmps13
        go_wp2_with (go_at_call 38; refine HS.out.mono ?_; rintro e w' ⟨rfl, hb⟩)
        go_ret2
        exact ⟨rfl, hb⟩
    · have d1 : (b % 1024 != 0) = true := by simpa using h1
      clear h h0 h1
      go_enter Tryd.func13, Tryd.ntmps13
      go_wp2_with (go_at_call 38; refine HS.out.mono ?_; rintro e w' ⟨rfl, hb⟩)
      go_ret2
      exact ⟨rfl, hb⟩
/-- A slab of the document's own. -/
def GaveR (b c : Int) (w : World) (e : Ending) (w' : World) : Prop :=
  Below w.heap.size w w' ∧ ∃ R gl, e = .returned (.tuple #[.pointer (some ⟨R, 0, none⟩), .int .i64 0]) ∧ Rs w' R gl b c (l0 c) ∧ w.heap.size ≤ R ∧ w.heap.size ≤ gl
theorem rnew_yes (hb : baseB b = true) (hc : classB c = true) : Calls Tryd.prog 13 #[.int .i64 b, .int .i64 0, .int .i64 c, .int .i64 1048576] w (GaveR b c w) := by
  have HS := Lib.hid (r6size_any c w)
  have HP : Hid (baseB b = true ∧ classB c = true) := ⟨hb, hc⟩
  obtain ⟨z0, z1, n0, n1, _, _, e2⟩ := cls hc
  obtain ⟨b0, b1, b2⟩ := baseB_iff.1 hb
  have d0 : decide (b < 0) = false := by simp; omega
  have e1 : b.tmod 1024 = b % 1024 := by rw [Int.tmod_eq_emod_of_nonneg (by omega)]
  have d1 : (b % 1024 != 0) = false := by simpa using b2
  have d2 : decide (1047552 < b) = false := by simp; omega
  obtain ⟨z, hz⟩ : ∃ z, sizeOf' c = z := ⟨_, rfl⟩
  obtain ⟨n, hn⟩ : ∃ n, nS c = n := ⟨_, rfl⟩
  have HN := Lib.hid hn
  rw [hz] at HS z0 z1 e2
  rw [hn] at n0 n1 e2
  have hzz : (z == 0) = false := by simp; omega
  have hq : (z == -1) = false := by simp; omega
  have e3 : (1024 : Int).tdiv z = n := by rw [Int.tdiv_eq_ediv_of_nonneg (by omega)]; exact e2.symm
  have e4 : (1024 : Int) / z = n := e2.symm
  have w1 := i64_in (n : Int) (by omega) (by omega)
  have hmk := Bi.make_bools n (by omega)
  have HZ := Lib.hid z0
  clear hb hc hz hn e2 z1 b0 b1 b2
  go_enter Tryd.func13, Tryd.ntmps13
  go_wp2_with (go_at_call 38; refine HS.out.mono ?_; rintro e w1 ⟨rfl, hb⟩; have HB := Lib.hid hb; clear hb)
  go_ret2
  have ha : Below w1.heap.size w1 (w1.alloc (.cells (madeCells #[.bool false] n) 4)) := up_alloc (Below.refl _ _) _
  have hz2 := HB.out.size
  refine ⟨up_trans (up_trans HB.out ha) (up_alloc (Below.refl _ _) _), w1.heap.size + 1, w1.heap.size, rfl, ⟨?_, ?_, HP.out.1, HP.out.2, l0_len c⟩, by omega, by omega⟩
  · rw [l0_len, HN.out]
    have := heap_alloc_new (w1.alloc (.cells (madeCells #[.bool false] n) 4)) (.cells #[.int .i64 b, .int .i64 0, .int .i64 c, .slice (some ⟨w1.heap.size, 0, none⟩) n n] 51)
    simpa [Blk] using this
  · have := (Blk.made w1 (.bool false) n 4).of (Below.heap_alloc (w1.alloc (.cells (madeCells #[.bool false] n) 4)) (.cells #[.int .i64 b, .int .i64 0, .int .i64 c, .slice (some ⟨w1.heap.size, 0, none⟩) n n] 51) w1.heap.size (by simp))
    rw [brow_none] at this
    unfold l0
    rw [HN.out]
    exact this
/-! ### Size and Slot -/
theorem rsize_any (h : Rs w R gl b c l) : Calls Tryd.prog 22 #[.pointer (some ⟨R, 0, none⟩)] w fun e w' => e = .returned (.int .i64 (sizeOf' c)) ∧ Below w.heap.size w w' := by
  have c1 := h.c1
  have c2 := h.c2
  have HS := Lib.hid (r6size_any c w.drew)
  have hR := h.lt.1
  clear h
  go_enter Tryd.func22, Tryd.ntmps22
  go_wp2_with fail
  go_region_held3 (fun w' => w'.cell? ⟨R, 1, none⟩ = some (.int .i64 0) ∧ w'.cell? ⟨R, 2, none⟩ = some (.int .i64 c)) (first | exact ⟨(hb2.cell (p := ⟨R, 1, none⟩) hR).trans c1, (hb2.cell (p := ⟨R, 2, none⟩) hR).trans c2⟩ | exact ⟨c1, c2⟩)
    ((go_at_call 38; refine HS.out.mono ?_; rintro e w2 ⟨rfl, hb2⟩))
  all_goals go_wp2
  all_goals go_ret
  all_goals exact ⟨rfl, (Below.refl _ w).drew.trans hb2⟩
set_option maxHeartbeats 2000000 in
theorem rslot_any (x : Int) (h : Rs w R gl b c l) : Calls Tryd.prog 19 #[.pointer (some ⟨R, 0, none⟩), .int .i64 x] w fun e w' => e = .returned (.int .i64 (slotI l.length b (sizeOf' c) x)) ∧ Below w.heap.size w w' := by
  have HH := Lib.hid h
  obtain ⟨z0, z1, _⟩ := cls h.hc
  obtain ⟨b0, b1, _⟩ := baseB_iff.1 h.hb
  have hl := h.len_le.2
  have HS := Lib.hid (fun (V : World) (hV : Below w.heap.size w V) => rsize_any (h.below hV))
  have HC := Lib.hid (fun (V : World) (hV : Below w.heap.size w V) => (h.below hV).c0)
  have HC3 := Lib.hid (fun (V : World) (hV : Below w.heap.size w V) => (h.below hV).c3)
  obtain ⟨z, hz⟩ : ∃ z, sizeOf' c = z := ⟨_, rfl⟩
  obtain ⟨n, hn⟩ : ∃ n, l.length = n := ⟨_, rfl⟩
  rw [hz] at HS z0 z1 ⊢
  rw [hn] at HC3 hl ⊢
  have HZ := Lib.hid z0
  have hsi := slot_is (n := n) (b := b) x (show 0 < z by omega)
  obtain ⟨E, hE⟩ : ∃ E, slotI n b z x = E := ⟨_, rfl⟩
  rw [hE] at hsi ⊢
  have HSI := Lib.hid hsi
  clear h hz hn hE hsi
  go_enter Tryd.func19, Tryd.ntmps19
  go_wp2_with fail
  go_loopw [5] (fun i wr => ∃ k : Nat, k ≤ n ∧ i = .int .i64 k ∧ (∀ j : Nat, j < k → b + j * z ≠ x) ∧ Below w.heap.size w wr) (fun i _ => n - (intOf i).toNat)
  case atStart => exact ⟨0, by omega, rfl, fun j hj => by omega, Below.refl _ _⟩
  case round =>
    obtain ⟨k, hk, rfl, hno, hb⟩ := hrel
    have HB := Lib.hid hb
    have HNo := Lib.hid hno
    have c3 := HC3.out _ hb
    have c0 := HC.out _ hb
    clear hno
    by_cases hlt : k < n
    · have h3 : (k : Int) * z ≤ 64 * 512 := Int.mul_le_mul (by omega) z1 (by omega) (by omega)
      have h4 : 0 ≤ (k : Int) * z := Int.mul_nonneg (by omega) (by omega)
      obtain ⟨m, hm⟩ : ∃ m, (k : Int) * z = m := ⟨_, rfl⟩
      rw [hm] at h3 h4
      have w1 := i64_in m (by omega) (by omega)
      have w2' := i64_in (b + m) (by omega) (by omega)
      have HS2 := Lib.hid (HS.out _ (HB.out.trans (Below.refl _ _).drew : Below w.heap.size w wr.drew))
      have HM := Lib.hid hm
      have hlt2 : decide ((k : Int) < (n : Int)) = true := by simpa using hlt
      have hR : R < wr.heap.size := Nat.lt_of_lt_of_le HH.out.lt.1 hb.size
      clear hb
      by_cases he : b + m = x
      · have d0 : (b + m == x) = true := by simpa using he
        have HE : Hid (E = (k : Int)) := by
          rcases HSI.out with ⟨_, hh⟩ | ⟨j, hj, e1, e2⟩
          · exact absurd (by rw [HM.out]; exact he) (hh k hlt)
          · have : (j : Int) * z = k * z := by rw [HM.out]; omega
            have hz0 := HZ.out
            have := Int.eq_of_mul_eq_mul_right (by omega) this
            exact e1.trans this
        subst he
        go_wp2_with fail
        go_region_held3 (fun w' => w'.cell? ⟨R, 0, none⟩ = some (.int .i64 b))
          (first | exact (hb2.cell (p := ⟨R, 0, none⟩) hR).trans c0 | exact c0)
          ((go_at_call 22; refine HS2.out.mono ?_; rintro e w2 ⟨rfl, hb2⟩))
        all_goals go_wp2
        all_goals go_ret
        all_goals exact ⟨ret_i HE.out.symm, up_trans HB.out ((Below.refl _ wr).drew.trans hb2)⟩
      · have d0 : (b + m == x) = false := by simpa using he
        have HE := Lib.hid he
        clear he
        go_wp2_with fail
        go_region_held3 (fun w' => w'.cell? ⟨R, 0, none⟩ = some (.int .i64 b))
          (first | exact (hb2.cell (p := ⟨R, 0, none⟩) hR).trans c0 | exact c0)
          ((go_at_call 22; refine HS2.out.mono ?_; rintro e w2 ⟨rfl, hb2⟩))
        all_goals go_wp2
        all_goals go_roundw
        case rel => exact ⟨k + 1, by omega, by go_num, fun j hj => by
          by_cases e : j = k
          · subst e; rw [HM.out]; exact HE.out
          · exact HNo.out j (by omega), up_trans HB.out ((Below.refl _ wr).drew.trans hb2)⟩
        case measure => simp [intOf]; omega
    · obtain rfl : k = n := by omega
      have HE : Hid (E = -1) := by
        rcases HSI.out with ⟨e, _⟩ | ⟨j, hj, e1, e2⟩
        · exact e
        · exact absurd e2.symm (HNo.out j hj)
      have hlt2 : decide ((k : Int) < (k : Int)) = false := by simp
      clear hb
      go_wp2
      go_ret
      exact ⟨ret_i HE.out.symm, HB.out⟩
end
end Go.Proofs.YtiemgeflkmbfoaaDoor.Os
