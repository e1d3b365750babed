/-
  What the document's slab does: contracts that the claimed proof uses.
-/
import Derived.Test.YtiemgeflkmbfoaaDoorOsDoc
namespace Go.Proofs.YtiemgeflkmbfoaaDoor.Os
set_option maxRecDepth 100000
open Go.RowKit
open Ta (sz szs classB classB_iff classB_not sizeOf' slotsOf)
open Bi (sets bt on first setL setB tst hasB u Blk Drawn grown_refl grown_trans grown_below up_alloc up_drew up_trans i64_in ret_i ret_b brow)

section
variable {w w' w2 : World} {R gl : Nat} {b c : Int} {l l' l2 : List Bool}
/-- The document's slab has become another one. -/
def Rec (R gl : Nat) (b c : Int) (l : List Bool) (w w' : World) : Prop := ∃ gl', Rd w' R gl' b c l ∧ Fr R gl w w' ∧ (gl' = gl ∨ w.heap.size ≤ gl')
theorem Rec.same (h : Rd w R gl b c l) (hb : Below w.heap.size w w') : Rec R gl b c l w w' := ⟨gl, h.below hb, Fr.of hb, .inl rfl⟩
theorem Rec.on {w1 : World} (hb : Below w.heap.size w w1) (h : Rec R gl b c l' w1 w') : Rec R gl b c l' w w' := by
  obtain ⟨g', h1, h2, h3⟩ := h
  exact ⟨g', h1, (Fr.of hb).trans h2 (.inl rfl), h3.imp_right (fun e => Nat.le_trans hb.size e)⟩
theorem Rec.more (h : Rec R gl b c l w w') (hb : Below w'.heap.size w' w2) : Rec R gl b c l w w2 := by
  obtain ⟨g', h1, h2, h3⟩ := h
  exact ⟨g', h1.below hb, h2.trans (Fr.of hb : Fr R g' w' w2) h3, h3⟩
theorem Rec.fr (h : Rec R gl b c l w w') : Fr R gl w w' := by obtain ⟨_, _, f, _⟩ := h; exact f
theorem Rd.set (h : Rd w R gl b c l) {k : Nat} (v : Bool) (hk : k < l.length) : Rec R gl b c (l.set k v) w (w.setCell ⟨gl, k, none⟩ (.bool v)) := by
  have hg : w.grownBy (w.setCell ⟨gl, k, none⟩ (.bool v)) (some gl) := Bi.grown_set (grown_refl _ _)
  have hkd := h.kinds
  obtain ⟨cap, h1⟩ := h.blk
  obtain ⟨pad, h2⟩ := h.row
  refine ⟨gl, ⟨⟨cap, ?_⟩, ⟨pad, ?_⟩, h.hb, h.hc, by rw [List.length_set]; exact h.len⟩, Fr.grown hg, .inl rfl⟩
  · have := h1.far hg (kne hkd.1 hkd.2 (by decide))
    rw [List.length_set]; exact this
  · have := h2.set (i := k) (.bool v)
    rw [List.set_append_left _ _ (by rw [brow_len]; exact hk), Bi.brow_set] at this
    exact this
/-! ### Least -/
set_option maxHeartbeats 2000000 in
theorem rleast_any (h : Rd w R gl b c l) : Calls Tryd.prog 45 #[.pointer (some ⟨R, 0, none⟩)] w fun e w' => e = .returned (.int .i64 (tkI l)) ∧ w = w' := by
  obtain ⟨cap, c3⟩ := h.c3
  have HB := Lib.hid (fun (i : Nat) (hi : i < l.length) => h.bit hi)
  have HK := Lib.hid (tk_is l)
  have hl := h.len_le.2
  obtain ⟨n, hn⟩ : ∃ n, l.length = n := ⟨_, rfl⟩
  obtain ⟨E, hE⟩ : ∃ E, tkI l = E := ⟨_, rfl⟩
  rw [hn] at c3 HB HK hl
  rw [hE] at HK ⊢
  clear h hn hE
  go_enter Tryd.func45, Tryd.ntmps45
  go_wp2_with fail
  go_loop [3] (fun i => ∃ k : Nat, k ≤ n ∧ i = .int .i64 k ∧ ∀ j, j < k → bt l j = true) (fun i => n - (intOf i).toNat)
  case atStart => exact ⟨0, by omega, rfl, fun j hj => by omega⟩
  case round =>
    obtain ⟨k, hk, rfl, hno⟩ := hrel
    have HN := Lib.hid hno
    clear hno
    by_cases hlt : k < n
    · have q0 := HB.out k hlt
      have j1 : (0 : Int) ≤ (k : Int) := by omega
      have j2 : (k : Int) < (n : Int) := by omega
      have hlt2 : decide ((k : Int) < (n : Int)) = true := by simpa using hlt
      cases hb : bt l k with
      | true =>
        rw [hb] at q0
        have HBk := Lib.hid hb
        clear hb
        go_wp2
        go_round
        case rel => exact ⟨k + 1, by omega, by go_num, fun j hj => by
          by_cases e : j = k
          · rw [e]; exact HBk.out
          · exact HN.out j (by omega)⟩
        case measure => simp [intOf]; omega
      | false =>
        rw [hb] at q0
        have HE : Hid (E = (k : Int)) := by
          rcases HK.out with ⟨_, h2⟩ | ⟨j, e1, e2, e3, e4⟩
          · have := h2 k hlt; rw [hb] at this; cases this
          · have h1 : ¬ j < k := fun hh => by have := HN.out j hh; rw [e3] at this; cases this
            have h2 : ¬ k < j := fun hh => by have := e4 k hh; rw [hb] at this; cases this
            have : j = k := by omega
            subst this; exact e1
        clear hb
        go_wp2
        go_ret
        exact ⟨ret_i HE.out.symm, rfl⟩
    · obtain rfl : k = n := by omega
      have hlt2 : decide ((k : Int) < (k : Int)) = false := by simp
      have HE : Hid (E = -1) := by
        rcases HK.out with ⟨e, _⟩ | ⟨j, e1, e2, e3, e4⟩
        · exact e
        · have := HN.out j e2; rw [e3] at this; cases this
      go_wp2
      go_ret
      exact ⟨ret_i HE.out.symm, rfl⟩
/-! ### Take and Give -/
set_option maxHeartbeats 2000000 in
theorem rtake_any (h : Rd w R gl b c l) : Calls Tryd.prog 43 #[.pointer (some ⟨R, 0, none⟩)] w fun e w' => e = .returned (.tuple #[.int .i64 (tkV b (sizeOf' c) l), .int .i64 (tkE l)]) ∧ Rec R gl b c (tkL l) w w' := by
  obtain ⟨cap, c3⟩ := h.c3
  have HL := Lib.hid (rleast_any h)
  have HH := Lib.hid h
  by_cases hk : tkI l < 0
  · obtain ⟨e1, e2, e3, _⟩ := tk_no hk
    rw [e1, e2, e3 b]
    have d0 : decide (tkI l < 0) = true := by simpa using hk
    clear h hk e1 e2 e3
    generalize tkI l = k at *
    go_enter Tryd.func43, Tryd.ntmps43
    go_wp2_with (go_at_call 45; refine HL.out.mono ?_; rintro e w' ⟨rfl, rfl⟩)
    go_ret2
    exact ⟨rfl, Rec.same HH.out (Below.refl _ _)⟩
  · obtain ⟨k, e1, e2, e3, _, e4, e5, e6, _⟩ := tk_yes hk
    rw [e1] at HL
    rw [e4, e5, e6 b]
    obtain ⟨z0, z1, _⟩ := cls h.hc
    obtain ⟨b0, b1, _⟩ := baseB_iff.1 h.hb
    have hl := h.len_le.2
    have h3 : (k : Int) * sizeOf' c ≤ 64 * 512 := Int.mul_le_mul (by omega) z1 (by omega) (by omega)
    have h4 : 0 ≤ (k : Int) * sizeOf' c := Int.mul_nonneg (by omega) (by omega)
    have hset := h.set (k := k) true e2
    have hfz := h.frozen k
    have q0 := h.bit e2
    rw [e3] at q0
    obtain ⟨w1, hw1⟩ : ∃ w1, w.setCell ⟨gl, k, none⟩ (.bool true) = w1 := ⟨_, rfl⟩
    have HR : Hid (Rec R gl b c (l.set k true) w w1) := by rw [← hw1]; exact hset
    have HS : Hid (∀ V, Below w1.heap.size w1 V → Calls Tryd.prog 22 #[.pointer (some ⟨R, 0, none⟩)] V fun e w' => e = .returned (.int .i64 (sizeOf' c)) ∧ Below V.heap.size V w') := fun V hV => by
      obtain ⟨g', r1, _⟩ := HR.out
      exact dsize_any (r1.below hV)
    have HC : Hid (∀ V, Below w1.heap.size w1 V → V.cell? ⟨R, 0, none⟩ = some (.int .i64 b)) := fun V hV => by
      obtain ⟨g', r1, _⟩ := HR.out
      exact (r1.below hV).c0
    have j1 : (0 : Int) ≤ (k : Int) := by omega
    have j2 : (k : Int) < (l.length : Int) := by omega
    have d0 : decide ((k : Int) < 0) = false := by simp
    obtain ⟨n, hn⟩ : ∃ n, l.length = n := ⟨_, rfl⟩
    rw [hn] at c3 j2
    obtain ⟨z, hz⟩ : ∃ z, sizeOf' c = z := ⟨_, rfl⟩
    rw [hz] at HS h3 h4 ⊢
    obtain ⟨m, hm⟩ : ∃ m, (k : Int) * z = m := ⟨_, rfl⟩
    rw [hm] at h3 h4 ⊢
    have w1' := i64_in m (by omega) (by omega)
    have w2' := i64_in (b + m) (by omega) (by omega)
    clear h hk e1 e2 e3 e4 e5 e6 hset hn hz
    have HW1 := Lib.hid hw1
    clear hw1
    go_enter Tryd.func43, Tryd.ntmps43
    go_wp2_with (go_at_call 45; refine HL.out.mono ?_; rintro e w' ⟨rfl, rfl⟩)
    rw [HW1.out]
    have c0 := HC.out w1 (Below.refl _ _)
    go_region_held3 (fun w' => w'.cell? ⟨R, 0, none⟩ = some (.int .i64 b))
      (first | exact HC.out _ ((Below.refl _ w1).drew.trans hb2) | exact c0)
      ((go_at_call 22; refine (HS.out _ (Below.refl _ w1).drew).mono ?_; rintro e w2 ⟨rfl, hb2⟩))
    all_goals go_wp2
    all_goals go_ret2
    all_goals exact ⟨rfl, HR.out.more ((Below.refl _ w1).drew.trans hb2)⟩
set_option maxHeartbeats 1000000 in
theorem rgive_any (x : Int) (h : Rd w R gl b c l) : Calls Tryd.prog 44 #[.pointer (some ⟨R, 0, none⟩), .int .i64 x] w fun e w' => e = .returned (.int .i64 (gvE b (sizeOf' c) l x)) ∧ Rec R gl b c (gvL b (sizeOf' c) l x) w w' := by
  have HS := Lib.hid (dslot_any x h)
  have HH := Lib.hid h
  obtain ⟨z0, _⟩ := cls h.hc
  have hsi := slot_is (n := l.length) (b := b) x (show 0 < sizeOf' c by omega)
  clear h z0
  rcases hsi with ⟨hE, -⟩ | ⟨j, hj, hE, -⟩
  · rw [hE] at HS
    have e1 : gvE b (sizeOf' c) l x = 12 := by unfold gvE gvI; rw [hE]; rfl
    have e2 : gvL b (sizeOf' c) l x = l := by unfold gvL; rw [e1]; rfl
    rw [e1, e2]
    clear hE e1 e2
    go_enter Tryd.func44, Tryd.ntmps44
    go_wp2_with (go_at_call 19; refine HS.out.mono ?_; rintro e w1 ⟨rfl, b1⟩; have B1 := Lib.hid b1; clear b1)
    go_ret
    exact ⟨rfl, Rec.same HH.out B1.out⟩
  · rw [hE] at HS
    have j1 : (0 : Int) ≤ (j : Int) := by omega
    have j2 : (j : Int) < (l.length : Int) := by omega
    have d0 : decide ((j : Int) < 0) = false := by simp
    have ht : tst l (j : Int) = bt l j := tst_bt l j
    have HBt := Lib.hid (fun (V : World) (hV : Below w.heap.size w V) => (HH.out.below hV).bit hj)
    obtain ⟨cap, hc3⟩ := HH.out.c3
    have HC3 := Lib.hid (fun (V : World) (hV : Below w.heap.size w V) => (hV.cell (p := ⟨R, 3, none⟩) HH.out.lt.1).trans hc3)
    have HFz := Lib.hid (fun (V : World) (hV : Below w.heap.size w V) => (HH.out.below hV).frozen j)
    cases hb : bt l j with
    | false =>
      rw [hb] at HBt ht
      have e1 : gvE b (sizeOf' c) l x = 19 := by unfold gvE gvI; rw [hE, if_neg (by omega), if_pos ht]
      have e2 : gvL b (sizeOf' c) l x = l := by unfold gvL; rw [e1]; rfl
      rw [e1, e2]
      obtain ⟨n, hn⟩ : ∃ n, l.length = n := ⟨_, rfl⟩
      rw [hn] at HC3 j2
      clear hE e1 e2 hb ht hn hj hc3
      go_enter Tryd.func44, Tryd.ntmps44
      go_wp2_with (go_at_call 19; refine HS.out.mono ?_; rintro e w1 ⟨rfl, b1⟩; have B1 := Lib.hid b1; have q0 := HBt.out _ b1; have c3 := HC3.out _ b1; clear b1)
      go_ret
      exact ⟨rfl, Rec.same HH.out B1.out⟩
    | true =>
      rw [hb] at HBt ht
      have e1 : gvE b (sizeOf' c) l x = 0 := by unfold gvE gvI; rw [hE, if_neg (by omega), if_neg (by rw [ht]; simp)]
      have e2 : gvL b (sizeOf' c) l x = l.set j false := by unfold gvL gvI; rw [if_pos e1, hE, setL_nat hj]
      rw [e1, e2]
      have HSet := Lib.hid (fun (V : World) (hV : Below w.heap.size w V) => (HH.out.below hV).set (k := j) false hj)
      obtain ⟨n, hn⟩ : ∃ n, l.length = n := ⟨_, rfl⟩
      rw [hn] at HC3 j2
      clear hE e1 e2 hb ht hn hj hc3
      go_enter Tryd.func44, Tryd.ntmps44
      go_wp2_with (go_at_call 19; refine HS.out.mono ?_; rintro e w1 ⟨rfl, b1⟩; have B1 := Lib.hid b1; have q0 := HBt.out _ b1; have c3 := HC3.out _ b1; have f0 := HFz.out _ b1; clear b1)
      go_ret
      exact ⟨rfl, Rec.on B1.out (HSet.out _ B1.out)⟩
end
end Go.Proofs.YtiemgeflkmbfoaaDoor.Os
