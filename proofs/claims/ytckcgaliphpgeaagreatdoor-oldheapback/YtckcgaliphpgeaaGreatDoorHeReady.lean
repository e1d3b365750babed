/-
  The slab around an address, and the one of which a slot is taken: contracts that the claimed proofs use.
-/
import Derived.Test.YtckcgaliphpgeaaGreatDoorHeMove
namespace Go.Proofs.YtckcgaliphpgeaaGreatDoor.He
set_option maxRecDepth 100000
open Go.RowKit
open Ta (sizeOf' classB)
open Bi (Drawn ret_i ret_b up_alloc up_drew up_trans)
open Ri (of of_nat up up_at up_far)
open Gr (kind kind_of kne)

section
variable {w w' : World} {P : Pl} {σ : St} {bs : List (BitVec 8)}
theorem around_any (h : Hm w P σ bs) (x : Int) (hx : Ra.I64 x) : Calls Tryz.prog 54 #[.pointer (some ⟨P.h, 0, none⟩), .int .i64 x] w fun e w' => e = .returned (pV ((around σ x).map fun p => (P.A p).s)) ∧ Below w.heap.size w w' := by
  obtain ⟨c0, _, _⟩ := h.cells
  have HA := Lib.hid (Gr.at_any x hx h.gm)
  have HH := Lib.hid h
  unfold around
  dsimp only
  unfold Ra.entV at HA
  clear h
  by_cases h0 : Ra.wAt σ.N σ.f (x / 256) = 0
  · rw [h0] at HA ⊢
    rw [if_pos rfl]
    have e : ((0 : Int) != 0) = false := rfl
    rw [e] at HA
    generalize Ra.spanOf 0 = a1 at HA
    generalize Ra.verOf 0 = a2 at HA
    generalize Ra.clsOf 0 = a3 at HA
    generalize Ra.staOf 0 = a4 at HA
    clear h0 e
    go_enter Tryz.func54, Tryz.ntmps54
    go_wp2_with fail
    refine HA.out.mono ?_
    rintro e w1 ⟨rfl, b1⟩
    have B2 := Lib.hid (up_alloc b1 (.cells #[.int .i64 a1, .int .i64 a2, .int .i64 a3, .int .i64 a4] 44))
    clear b1 HA
    go_wp2_with fail
    go_ret
    exact ⟨rfl, B2.out⟩
  · rw [if_neg h0]
    have e : (Ra.wAt σ.N σ.f (x / 256) != 0) = true := by simpa using h0
    rw [e] at HA
    generalize Ra.wAt σ.N σ.f (x / 256) = W at HA ⊢
    have hb := (Ra.part_bd W).1
    generalize Ra.spanOf W = a1 at HA hb ⊢
    generalize Ra.verOf W = a2 at HA
    generalize Ra.clsOf W = a3 at HA
    generalize Ra.staOf W = a4 at HA
    obtain ⟨p, rfl⟩ : ∃ p : Nat, a1 = p := ⟨a1.toNat, by omega⟩
    rw [Int.toNat_natCast]
    have HE : Hid (mI (mapOf σ.U σ.O P.A) (p : Int) = (if (σ.M p).isSome = true then some p else none).map fun p => (P.A p).s) := by
      show _ = _
      rw [mI_nat]
      unfold mapOf
      show (σ.M p).map _ = _
      cases σ.M p with
      | none => rfl
      | some s => rfl
    rw [← HE.out]
    have HE2 : Hid (I64 (p : Int)) := by show I64 _; unfold I64; omega
    clear h0 e HE hb
    go_enter Tryz.func54, Tryz.ntmps54
    go_wp2_with fail
    refine HA.out.mono ?_
    rintro e w1 ⟨rfl, b1⟩
    obtain ⟨w2, hw2⟩ : ∃ w2, w1.alloc (.cells #[.int .i64 p, .int .i64 a2, .int .i64 a3, .int .i64 a4] 44) = w2 := ⟨_, rfl⟩
    have b2 : Below w.heap.size w w2 := by rw [← hw2]; exact up_alloc b1 _
    have k2 : Bi.Blk w2 w1.heap.size [.int .i64 p, .int .i64 a2, .int .i64 a3, .int .i64 a4] 44 := by rw [← hw2]; exact Gr.Blk.new w1 _ 44
    have q0 : w2.cell? ⟨w1.heap.size, 0, none⟩ = some (.int .i64 p) := k2.cell
    have B2 := Lib.hid b2
    have H2 := HH.out.below b2
    have q1 := H2.cells.2.1
    have hl := fun a => (H2.drewN a).mp.look1 HE2.out
    have hl0 := hl 0
    have hl1 := hl 1
    have HL := Lib.hid hl
    clear b1 b2 k2 HA H2 hl c0
    go_wp2_with fail
    clear hw2
    refine wp_region_still_tail 6 (by kernel_rfl) (by kernel_rfl) ?_
    simp only [List.take_succ_cons, List.take_zero, List.drop_succ_cons, List.drop_zero]
    iterate 6 still_step
    refine wpStill_nil ?_
    change wpList _ _ _ _ _ (w2.drewN 1)
    go_wp2_with fail
    go_ret
    exact ⟨rfl, up_drew B2.out 1⟩
theorem ring_at (R : Nat → List Nat) {c l : Nat} (hc : c < 16) (hl : l ≤ 3) : of R (ringI c l) = R (4 * c + l) := by rw [ringI_nat hc hl, of_nat]
/-- A list of the class has slabs: its first one. -/
theorem ready_some (h : Hm w P σ bs) {c p : Nat} (hc : c < 16) (hp : pick σ.R c = some p) (hm : (M σ.U σ.O p).isSome = true) : Calls Tryz.prog 66 #[.pointer (some ⟨P.h, 0, none⟩), .int .i64 c] w fun e w' =>
    e = .returned (.tuple #[.pointer (some ⟨(P.A p).s, 0, none⟩), .int .i64 0]) ∧ Below w.heap.size w w' := by
  have HH := Lib.hid h
  obtain ⟨w1, hw1⟩ : ∃ w1, w.alloc (.cells #[.int .i64 0, .int .i64 2] 3) = w1 := ⟨_, rfl⟩
  have b1 : Below w.heap.size w w1 := by rw [← hw1]; exact up_alloc (Below.refl _ _) _
  have k1 : Bi.Blk w1 w.heap.size [.int .i64 0, .int .i64 2] 3 := by rw [← hw1]; exact Gr.Blk.new w _ 3
  have B1 := Lib.hid b1
  have K1 := Lib.hid k1
  have HM : Hid (mI (mapOf σ.U σ.O P.A) (p : Int) = some (P.A p).s) := by
    show _ = _
    rw [mI_nat]; unfold mapOf
    obtain ⟨s, hs⟩ := Option.isSome_iff_exists.1 hm
    rw [hs]; rfl
  have HPk : Hid (∀ l : Nat, l ≤ 3 → (of σ.R (ringI c l)) = σ.R (4 * c + l)) := fun l hl => ring_at σ.R hc hl
  have HI64 : Hid (I64 (p : Int)) := by
    show I64 _
    have := h.hN
    have hd := h.mp.dom p (P.A p).s (by unfold mapOf; obtain ⟨s, hs⟩ := Option.isSome_iff_exists.1 hm; rw [hs]; rfl)
    unfold I64; omega
  have HCs := Lib.hid (pick_mem hp)
  clear h hm hp b1 k1
  go_enter Tryz.func66, Tryz.ntmps66
  go_wp2_with fail
  clear hw1
  go_loopw [14] (fun i wr => ∃ k : Nat, k ≤ 1 ∧ i = .int .i64 k ∧ (k = 1 → σ.R (4 * c) = []) ∧ Below w1.heap.size w1 wr) (fun i _ => 2 - (intOf i).toNat)
  case atStart => exact ⟨0, by omega, rfl, by omega, Below.refl _ _⟩
  case round =>
    obtain ⟨k, hk, rfl, hemp, hbel⟩ := hrel
    have HE := Lib.hid hemp
    have HBr := Lib.hid hbel
    have BW := Lib.hid (B1.out.trans (hbel.mono B1.out.size))
    have Hr := Lib.hid (HH.out.below BW.out)
    have q0 : wr.cell? ⟨w.heap.size, 0, none⟩ = some (.int .i64 0) := (K1.out.below hbel).cell
    have q1 : wr.cell? ⟨w.heap.size, 1, none⟩ = some (.int .i64 2) := (K1.out.below hbel).cell
    clear hemp hbel
    have finish : ∀ (l : Nat) (hl : l ≤ 3) (hmem : (σ.R (4 * c + l)).head? = some p), Hid (Ri.hd (of σ.R (ringI c l)) = (p : Int)) := fun l hl hmem => by
      show _ = _
      rw [HPk.out l hl]
      cases hR : σ.R (4 * c + l) with
      | nil => rw [hR] at hmem; cases hmem
      | cons x r => rw [hR] at hmem; cases hmem; rfl
    obtain rfl | rfl : k = 0 ∨ k = 1 := by omega
    · have HAs := Lib.hid (has_any Hr.out c 0)
      have e0 := HPk.out 0 (by omega)
      rw [Nat.add_zero] at e0
      rcases HCs.out with ⟨hmem, hhd⟩ | ⟨hnil, _⟩
      · have HF := finish 0 (by omega) hhd
        have el : decide (0 < (of σ.R (ringI c 0)).length) = true := by
          rw [show ringI (c : Int) 0 = ringI (c : Int) ((0 : Nat) : Int) from rfl, e0, decide_eq_true_eq]; exact List.length_pos_of_mem hmem
        rw [el] at HAs
        clear el e0 hmem hhd finish
        go_wp2_with fail
        refine HAs.out.mono ?_
        rintro e w2 ⟨rfl, d2⟩
        have B2 := Lib.hid (up_trans BW.out d2.below)
        have H2 := Lib.hid (Hr.out.below d2.below)
        have HO := Lib.hid (ringOf_any c 0 (w2.drewN 1) (H2.out.drewN 1).tb.cls)
        have HFi := Lib.hid (Ri.first_r (i := ringI c 0) (H2.out.drewN 1).ring)
        have hF := HF.out
        rw [show ((0 : Nat) : Int) = 0 from rfl] at hF
        rw [hF] at HFi
        have c1 := H2.out.cells.2.1
        have c2 := H2.out.cells.2.2
        have hl1 := (H2.out.drewN 1).mp.look1 HI64.out
        rw [HM.out] at hl1
        generalize ringI c 0 = i at HO HFi
        clear d2 HAs q0 q1 hF
        go_wp2_with fail
        refine wp_region_still_tail 12 (by kernel_rfl) (by kernel_rfl) ?_
        simp only [List.take_succ_cons, List.take_zero, List.drop_succ_cons, List.drop_zero]
        iterate 10 still_step
        still_call (HO.out.mono (fun e w' h => ⟨h.1, h.2.symm⟩))
        still_call (HFi.out.mono (fun e w' h => ⟨h.1, h.2.symm⟩))
        refine wpStill_nil ?_
        change wpList _ _ _ _ _ (w2.drewN 1)
        clear c1 c2
        unfold pV at hl1
        go_wp2_with fail
        go_ret2
        exact ⟨rfl, up_drew B2.out 1⟩
      · have el : decide (0 < (of σ.R (ringI c 0)).length) = false := by
          rw [show ringI (c : Int) 0 = ringI (c : Int) ((0 : Nat) : Int) from rfl, e0, hnil]; rfl
        rw [el] at HAs
        have hnil' := Lib.hid hnil
        clear el e0 finish hnil
        go_wp2_with fail
        refine HAs.out.mono ?_
        rintro e w2 ⟨rfl, d2⟩
        have B2 := Lib.hid d2.below
        clear d2 HAs q0 q1
        go_wp2_with fail
        go_roundw
        case rel => exact ⟨1, by omega, by go_num, fun _ => hnil'.out, HBr.out.trans (B2.out.mono HBr.out.size)⟩
        case measure => simp [intOf]
    · have HAs := Lib.hid (has_any Hr.out c 2)
      have e0 := HPk.out 2 (by omega)
      have hnil0 := HE.out rfl
      obtain ⟨hnil, hmem, hhd⟩ := HCs.out.resolve_left (fun hh => by rw [hnil0] at hh; exact absurd hh.1 (by simp))
      have HF := finish 2 (by omega) hhd
      have el : decide (0 < (of σ.R (ringI c 2)).length) = true := by
        rw [show ringI (c : Int) 2 = ringI (c : Int) ((2 : Nat) : Int) from rfl, e0, decide_eq_true_eq]; exact List.length_pos_of_mem hmem
      rw [el] at HAs
      clear el e0 hmem hhd finish
      go_wp2_with fail
      refine HAs.out.mono ?_
      rintro e w2 ⟨rfl, d2⟩
      have B2 := Lib.hid (up_trans BW.out d2.below)
      have H2 := Lib.hid (Hr.out.below d2.below)
      have HO := Lib.hid (ringOf_any c 2 (w2.drewN 1) (H2.out.drewN 1).tb.cls)
      have HFi := Lib.hid (Ri.first_r (i := ringI c 2) (H2.out.drewN 1).ring)
      have hF := HF.out
      rw [show ((2 : Nat) : Int) = 2 from rfl] at hF
      rw [hF] at HFi
      have c1 := H2.out.cells.2.1
      have c2 := H2.out.cells.2.2
      have hl1 := (H2.out.drewN 1).mp.look1 HI64.out
      rw [HM.out] at hl1
      generalize ringI c 2 = i at HO HFi
      clear d2 HAs q0 q1 hF
      go_wp2_with fail
      refine wp_region_still_tail 12 (by kernel_rfl) (by kernel_rfl) ?_
      simp only [List.take_succ_cons, List.take_zero, List.drop_succ_cons, List.drop_zero]
      iterate 10 still_step
      still_call (HO.out.mono (fun e w' h => ⟨h.1, h.2.symm⟩))
      still_call (HFi.out.mono (fun e w' h => ⟨h.1, h.2.symm⟩))
      refine wpStill_nil ?_
      change wpList _ _ _ _ _ (w2.drewN 1)
      clear c1 c2
      unfold pV at hl1
      go_wp2_with fail
      go_ret2
      exact ⟨rfl, up_drew B2.out 1⟩
end
end Go.Proofs.YtckcgaliphpgeaaGreatDoor.He
