/-
  How a slab comes to a list, is marked, and leaves the heap: contracts that the claimed proofs use.
-/
import Derived.Test.YtckcgaliphpgeaaGreatDoorHeAsk
namespace Go.Proofs.YtckcgaliphpgeaaGreatDoor.He
set_option maxRecDepth 100000
open Go.RowKit
open Ta (sizeOf' classB)
open Bi (Drawn ret_i ret_b up_alloc up_drew up_trans)
open Ri (of of_nat up up_at up_far)
open Gr (kind kind_of kne)

section
variable {w w' : World} {P : Pl} {σ : St} {bs : List (BitVec 8)}
set_option maxHeartbeats 1000000 in
theorem settle_any (h : Hm w P σ bs) {p : Nat} {s : Sb} (hp : σ.U p = some s) (hc : s.c < 16) (hpN : p < σ.N) : Calls Tryz.prog 60 #[.pointer (some ⟨P.h, 0, none⟩), .pointer (some ⟨(P.A p).s, 0, none⟩)] w fun e w' =>
    (∃ v, e = .returned v) ∧ Hm w' P (setR σ (settleR σ.R p (4 * s.c + lst s.l))) bs ∧ Fh P σ.U w w' := by
  have HL := Lib.hid (listOf_any (h.sl p s hp))
  have hl := lst_le s.l
  have HH := Lib.hid h
  have HF := Lib.hid (fun (W : World) (hW : Hm W P σ bs) => front_any hW hp hc (l := lst s.l) (by omega) hpN)
  obtain ⟨v, hv⟩ := inI_some σ.R p
  have HE := Lib.hid (inI_eq h.ring.good (i := 4 * s.c + lst s.l) hv)
  have hri := ringI_nat (c := s.c) (l := lst s.l) hc (by omega)
  obtain ⟨R', hR'⟩ : ∃ R', settleR σ.R p (4 * s.c + lst s.l) = R' := ⟨_, rfl⟩
  have HR' := Lib.hid hR'
  rw [hR']
  clear hR'
  generalize lst s.l = l at *
  clear h
  go_enter Tryz.func60, Tryz.ntmps60
  go_wp2_with fail
  refine HL.out.mono ?_
  rintro e w1 ⟨rfl, d1⟩
  have H1 := Lib.hid (HH.out.below d1.below)
  have B1 := Lib.hid d1.below
  have HO := Lib.hid (exact_quiet (fun a => ringOf_any s.c l (w1.drewN a) (H1.out.drewN a).tb.cls))
  rw [hri] at HO
  have HI := Lib.hid (exact_quiet (fun a => Ri.in_r (H1.out.drewN a).ring hv))
  have HC := Lib.hid (exact_quiet (fun a => Os.class_any ((H1.out.drewN a).sl p s hp)))
  have HP := Lib.hid (exact_quiet (fun a => pageOf_any ((H1.out.drewN a).sl p s hp)))
  have c2 := H1.out.cells.2.2
  obtain ⟨i, hi⟩ : ∃ i : Int, ((4 * s.c + l : Nat) : Int) = i := ⟨_, rfl⟩
  rw [hi] at HO HE
  clear d1 HL HH hri hv hi
  go_wp2_with fail
  cases hin : (σ.R (4 * s.c + l)).contains p with
  | true =>
    have he : (v != i) = false := by rw [bne, HE.out, hin]; rfl
    have ER : Hid (R' = σ.R) := by have := HR'.out; unfold settleR at this; rw [if_pos hin] at this; exact this.symm
    clear HE hin HF HR'
    go_quiet (first | (go_at_call 42; exact HO.out _) | (go_at_call 69; exact HP.out _) | (go_at_call 14; exact HC.out _) | (go_at_call 104; exact HI.out _))
    go_wp2_with fail
    go_end0
    refine ⟨⟨_, rfl⟩, ?_, (Fh.of B1.out).trans (Fh.of (up_drew (Below.refl _ w1) _)) (Nw.refl _ _ _)⟩
    rw [ER.out]
    exact (H1.out.drewN _)
  | false =>
    have he : (v != i) = true := by rw [bne, HE.out, hin]; rfl
    have ER : Hid (R' = frontR σ.R p (4 * s.c + l)) := by have := HR'.out; unfold settleR at this; rw [if_neg (by rw [hin]; simp)] at this; exact this.symm
    clear HE hin HR'
    go_quiet (first | (go_at_call 42; exact HO.out _) | (go_at_call 69; exact HP.out _) | (go_at_call 14; exact HC.out _) | (go_at_call 104; exact HI.out _))
    go_wp2_with fail
    refine (HF.out _ (H1.out.drewN _)).mono ?_
    rintro e w2 ⟨⟨v2, rfl⟩, h2, f2⟩
    have H2 := Lib.hid h2
    have F2 := Lib.hid (((Fh.of (P := P) (U := σ.U) B1.out).trans (Fh.of (up_drew (Below.refl _ w1) _)) (Nw.refl _ _ _)).trans f2 (Nw.refl _ _ _))
    clear h2 f2
    go_wp2_with fail
    go_end0
    rw [ER.out]
    exact ⟨⟨_, rfl⟩, H2.out, F2.out⟩
theorem mark_any (h : Hm w P σ bs) {p : Nat} {s : Sb} {z : Int} (hp : σ.U p = some s) (hS : σ.S.length ≤ 1000000000000) : Calls Tryz.prog 63 #[.pointer (some ⟨P.h, 0, none⟩), .pointer (some ⟨(P.A p).s, 0, none⟩), .int .i64 z] w fun e w' =>
    (∃ v, e = .returned v) ∧ ∃ p', Hm w' { P with p := p' } (setG σ (Gr.markO σ.L σ.f σ.t σ.S p 0 s.c z)) bs ∧ Fh P σ.U w w' ∧ Nw w.heap.size P σ.U { P with p := p' } σ.U := by
  obtain ⟨c0, _, _⟩ := h.cells
  have HH := Lib.hid h
  have HP := Lib.hid (fun a => pageOf_any ((h.drewN a).sl p s hp))
  have HC := Lib.hid (fun a => Os.class_any ((h.drewN a).sl p s hp))
  have HM := Lib.hid (Gr.mark_any p 0 s.c z (h.drewN 1).gm hS)
  clear h
  go_enter Tryz.func63, Tryz.ntmps63
  go_wp2_with fail
  refine wp_region_still_tail 9 (by kernel_rfl) (by kernel_rfl) ?_
  simp only [List.take_succ_cons, List.take_zero, List.drop_succ_cons, List.drop_zero]
  iterate 5 still_step
  still_call ((HP.out 1).mono (fun e w' h => ⟨h.1, h.2.symm⟩))
  iterate 1 still_step
  still_call ((HC.out 1).mono (fun e w' h => ⟨h.1, h.2.symm⟩))
  iterate 1 still_step
  refine wpStill_nil ?_
  change wpList _ _ _ _ _ (w.drewN 1)
  go_wp2_with fail
  refine HM.out.mono ?_
  rintro e w2 ⟨rfl, hb⟩
  obtain ⟨p', h2, f2, n2⟩ := (HH.out.drewN 1).ground hb
  have R := Lib.hid (And.intro h2 (And.intro ((Fh.of (P := P) (U := σ.U) (up_drew (Below.refl _ w) 1)).trans f2 (Nw.refl _ _ _)) n2))
  clear hb h2 f2 n2 HM c0
  go_wp2_with fail
  go_end0
  exact ⟨⟨_, rfl⟩, p', R.out.1, R.out.2.1, R.out.2.2⟩
/-- A slab leaves its list and the map, and stays a slab. -/
theorem drop_any (h : Hm w P σ bs) {p : Nat} {s : Sb} (hp : σ.U p = some s) (hpN : p < σ.N) : Calls Tryz.prog 70 #[.pointer (some ⟨P.h, 0, none⟩), .pointer (some ⟨(P.A p).s, 0, none⟩)] w fun e w' =>
    (∃ v, e = .returned v) ∧ Hm w' P (setO (setR σ (remR σ.R p)) (σ.O ++ [p])) bs ∧ Fh P σ.U w w' := by
  obtain ⟨_, _, c2⟩ := h.cells
  have HH := Lib.hid h
  have HP := Lib.hid (fun a => pageOf_any ((h.drewN a).sl p s hp))
  obtain ⟨E, hE⟩ := rem_r (p := p) (by have := h.ring.good; rw [h.rn, h.rm] at this; exact this) hpN
  rw [← h.rn] at hE
  have HRem := Lib.hid (Ri.remove_r (h.drewN 1).ring hE)
  clear h
  go_enter Tryz.func70, Tryz.ntmps70
  go_wp2_with fail
  refine wp_region_still_tail 6 (by kernel_rfl) (by kernel_rfl) ?_
  simp only [List.take_succ_cons, List.take_zero, List.drop_succ_cons, List.drop_zero]
  iterate 5 still_step
  still_call ((HP.out 1).mono (fun e w' h => ⟨h.1, h.2.symm⟩))
  refine wpStill_nil ?_
  change wpList _ _ _ _ _ (w.drewN 1)
  go_wp2_with fail
  refine HRem.out.mono ?_
  rintro e w2 ⟨rfl, r2, ch2⟩
  obtain ⟨h2, f2⟩ := (HH.out.drewN 1).rings r2 ch2
  have F2 := Lib.hid ((Fh.of (P := P) (U := σ.U) (up_drew (Below.refl _ w) 1)).trans f2 (Nw.refl _ _ _))
  have HH2 := Lib.hid h2
  have HP2 := Lib.hid (fun a => pageOf_any ((h2.drewN a).sl p s hp))
  have d1 : w2.cell? ⟨P.h, 1, none⟩ = some (.map (some P.b)) := h2.cells.2.1
  obtain ⟨w3, hdel, m3, g3⟩ := (h2.drewN 1).mp.drop (p := p) hpN h2.hN
  have hdel' := hdel 0
  have M3 := Lib.hid (m3.same (m' := mapOf σ.U (σ.O ++ [p]) P.A) (fun x => by
    by_cases e : x = p
    · subst e; rw [up_at]; unfold mapOf; rw [M_in (by simp)]; rfl
    · rw [up_far e]; unfold mapOf; rw [M_same (U := σ.U) (O := σ.O) rfl (by simp [e])]; rfl))
  have G3 := Lib.hid g3
  clear r2 ch2 h2 f2 HRem HP hE m3 g3 c2
  go_wp2_with fail
  refine wp_region_still_tail 6 (by kernel_rfl) (by kernel_rfl) ?_
  simp only [List.take_succ_cons, List.take_zero, List.drop_succ_cons, List.drop_zero]
  iterate 5 still_step
  still_call ((HP2.out 1).mono (fun e w' h => ⟨h.1, h.2.symm⟩))
  refine wpStill_nil ?_
  change wpList _ _ _ _ _ (w2.drewN 1)
  clear hdel d1
  go_wp2_with fail
  go_end0
  obtain ⟨h3, f3, n3⟩ := (HH2.out.drewN 1).mapped (U' := σ.U) (O' := σ.O ++ [p]) M3.out G3.out (fun _ _ h => h)
  exact ⟨⟨_, rfl⟩, h3, F2.out.trans ((Fh.of (P := P) (U := σ.U) (up_drew (Below.refl _ w2) 1)).trans f3 (Nw.refl _ _ _)) (Nw.refl _ _ _)⟩
/-- A slab that left is none any more. -/
theorem Hm.forget (h : Hm w P σ bs) {p : Nat} {U' : Nat → Option Sb} {O' : List Nat} (hU : ∀ x s, U' x = some s → σ.U x = some s) (hM : ∀ x, M U' O' x = M σ.U σ.O x) : Hm w P { σ with U := U', O := O' } bs :=
  ⟨h.blk, h.gm, h.ring, h.rn, h.rm, h.mp.same (fun x => by unfold mapOf; rw [hM]), fun x s hx => h.sl x s (hU x s hx), fun x y sx sy hx hy hne => h.aps x y sx sy (hU x sx hx) (hU y sy hy) hne, h.bne, h.tb, h.lo, h.ob, h.b1⟩
theorem close_any (h : Hm w P σ bs) {p : Nat} {s : Sb} (hp : M σ.U σ.O p = some s) (hpN : p < σ.N) (hS : σ.S.length ≤ 1000000000000) : Calls Tryz.prog 59 #[.pointer (some ⟨P.h, 0, none⟩), .pointer (some ⟨(P.A p).s, 0, none⟩)] w fun e w' =>
    (∃ v, e = .returned v) ∧ ∃ p', Hm w' { P with p := p' } (closeS σ p) bs ∧ Fh P σ.U w w' ∧ Nw w.heap.size P σ.U { P with p := p' } (closeS σ p).U := by
  obtain ⟨ho, hu⟩ := M_some hp
  have HD := Lib.hid (drop_any h hu hpN)
  have HB := Lib.hid h
  clear h
  go_enter Tryz.func59, Tryz.ntmps59
  go_wp2_with fail
  refine HD.out.mono ?_
  rintro e w2 ⟨⟨v2, rfl⟩, h2, f2⟩
  have H2 := Lib.hid h2
  have F2 := Lib.hid f2
  have HP := Lib.hid (fun a => pageOf_any ((h2.drewN a).sl p s hu))
  have HC := Lib.hid (Gr.close_any p (h2.drewN 1).gm hS)
  have d0 : w2.cell? ⟨P.h, 0, none⟩ = some (.pointer (some ⟨P.q, 0, none⟩)) := h2.cells.1
  clear h2 f2 HD
  go_wp2_with fail
  refine wp_region_still_tail 6 (by kernel_rfl) (by kernel_rfl) ?_
  simp only [List.take_succ_cons, List.take_zero, List.drop_succ_cons, List.drop_zero]
  iterate 5 still_step
  still_call ((HP.out 1).mono (fun e w' h => ⟨h.1, h.2.symm⟩))
  refine wpStill_nil ?_
  change wpList _ _ _ _ _ (w2.drewN 1)
  go_wp2_with fail
  refine HC.out.mono ?_
  rintro e w3 ⟨rfl, hb⟩
  obtain ⟨p', h3, f3, n3⟩ := (H2.out.drewN 1).ground hb
  have R := Lib.hid (And.intro h3 (And.intro (F2.out.trans ((Fh.of (P := P) (U := σ.U) (up_drew (Below.refl _ w2) 1)).trans f3 (Nw.refl _ _ _)) (Nw.refl _ _ _)) n3))
  have hsz := F2.out.size
  clear hb h3 f3 n3 HC d0
  go_wp2_with fail
  go_end0
  have hsub : ∀ x s', up σ.U p none x = some s' → σ.U x = some s' := fun x s' hx => by
    by_cases e : x = p
    · subst e; rw [up_at] at hx; cases hx
    · rw [up_far e] at hx; exact hx
  refine ⟨⟨_, rfl⟩, p', ?_, R.out.2.1, fun k hk => ?_⟩
  · exact R.out.1.forget (p := p) (U' := up σ.U p none) (O' := σ.O) hsub (fun x => by
      show M (up σ.U p none) σ.O x = M σ.U (σ.O ++ [p]) x
      by_cases e : x = p
      · subst e; rw [M_off ho, up_at, M_in (by simp)]
      · rw [M_same (U := σ.U) (O := σ.O) (up_far e) Iff.rfl, M_same (U := σ.U) (O := σ.O) (U' := σ.U) (O' := σ.O ++ [p]) rfl (by simp [e])])
  · have hk2 : Own { P with p := p' } σ.U k := by
      rcases hk with e | e | e | ⟨x, s', hx, e⟩
      · exact .inl e
      · exact .inr (.inl e)
      · exact .inr (.inr (.inl e))
      · exact .inr (.inr (.inr ⟨x, s', hsub x s' hx, e⟩))
    rcases R.out.2.2 k hk2 with e | e
    · exact .inl e
    · right
      have e : w2.heap.size ≤ k := e
      omega
end
end Go.Proofs.YtckcgaliphpgeaaGreatDoor.He
