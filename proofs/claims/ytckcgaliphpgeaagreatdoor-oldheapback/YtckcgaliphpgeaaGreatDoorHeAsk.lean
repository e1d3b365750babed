/-
  What a heap asks of its lists, and how an item moves: contracts that the claimed proofs use.
-/
import Derived.Test.YtckcgaliphpgeaaGreatDoorHeMem
namespace Go.Proofs.YtckcgaliphpgeaaGreatDoor.He
set_option maxRecDepth 100000
open Go.RowKit
open Ta (sizeOf' classB)
open Bi (Drawn ret_i ret_b up_alloc up_drew up_trans)
open Ri (of of_nat up up_at up_far)
open Gr (kind kind_of kne)

section
variable {w w' : World} {P : Pl} {σ : St} {bs : List (BitVec 8)}
/-- A new slab is the heap's. -/
theorem Hm.fresh (h : Hm w P σ bs) {B u s q g : Nat} {n : Sb} (hu : σ.U u = none) (hs : Os.Sl w s q g (256 * u) n.c n.l) (hf : ∀ p x, σ.U p = some x → (P.A p).s ≠ s ∧ (P.A p).g ≠ g) (hB : B ≤ s ∧ B ≤ g)
    (hm : Mp w' P.b σ.N (mapOf (up σ.U u (some n)) σ.O (up P.A u ⟨s, q, g⟩))) (hg : w.grownBy w' (some P.b)) :
    Hm w' { P with A := up P.A u ⟨s, q, g⟩ } (setU σ u (some n)) bs ∧ Fh P σ.U w w' ∧ Nw B P σ.U { P with A := up P.A u ⟨s, q, g⟩ } (up σ.U u (some n)) := by
  obtain ⟨a1, a2, a3, a4, a5⟩ := h.kinds
  have keep : ∀ k t, kind w k = t → t ≠ 0 → k < w.heap.size → w'.heap[k]? = w.heap[k]? := fun k t hk ht hl => hg.block k hl (fun e => by
    have e : P.b = k := (Option.some.inj e).symm
    rw [← e, a3] at hk; exact ht hk.symm)
  have hU : ∀ x s', up σ.U u (some n) x = some s' → (x = u ∧ s' = n) ∨ (x ≠ u ∧ σ.U x = some s') := fun x s' hx => by
    by_cases e : x = u
    · subst e; rw [up_at] at hx; cases hx; exact .inl ⟨rfl, rfl⟩
    · rw [up_far e] at hx; exact .inr ⟨e, hx⟩
  have hstay : ∀ {s q g : Nat} {b c : Int} {l : List Bool}, Os.Sl w s q g b c l → Os.Sl w' s q g b c l := fun hsl => by
    obtain ⟨l1, l2, l3⟩ := hsl.lt
    obtain ⟨c1, c2, c3⟩ := hsl.kinds
    exact hsl.of (keep _ _ c1 (by decide) l1) (keep _ _ c2 (by decide) l2) (keep _ _ c3 (by decide) l3)
  refine ⟨⟨h.blk.of (keep _ _ a1 (by decide) h.blk.lt), ⟨h.gm.gx.of (fun k hk ho => ?_), h.gm.inv, h.gm.len⟩, ring_of h.ring hg.size (fun k k1 k2 => ?_), h.rn, h.rm, hm, fun p s hp => ?_, fun x y sx sy hx hy hne => ?_, h.bne, tb_of h.tb (hg.block 0 (by have := h.tb.lt; omega) ?_) (hg.block 1 h.tb.lt ?_), h.lo, h.ob, h.b1⟩, ?_, fun k hk => ?_⟩
  · rcases ho with rfl | ho | rfl | rfl
    · exact keep _ _ a2 (by decide) hk
    · exact hg.block k hk (fun e => h.gbn (by have e := Option.some.inj e; rw [← e]; exact ho))
    · exact keep _ _ a4 (by decide) hk
    · exact keep _ _ a5 (by decide) hk
  · rcases ring_kind h.ring k1 k2 with e | e
    · exact keep _ _ e (by decide) (ring_lt h.ring k2)
    · exact keep _ _ e (by decide) (ring_lt h.ring k2)
  · dsimp only
    rcases hU p s hp with ⟨rfl, rfl⟩ | ⟨e, hp'⟩
    · rw [up_at]; exact hstay hs
    · rw [up_far e]; exact hstay (h.sl p s hp')
  · dsimp only
    rcases hU x sx hx with ⟨rfl, rfl⟩ | ⟨e, hx'⟩ <;> rcases hU y sy hy with ⟨e1, e2⟩ | ⟨e1, hy'⟩
    · exact absurd e1.symm hne
    · rw [up_at, up_far e1]
      obtain ⟨n1, n2⟩ := hf y sy hy'
      exact ⟨fun e => n1 e.symm, fun e => n2 e.symm⟩
    · subst e1
      rw [up_at, up_far e]
      exact hf x sx hx'
    · rw [up_far e, up_far e1]; exact h.aps x y sx sy hx' hy' hne
  · intro e; have e := Option.some.inj e; have := h.b1; omega
  · intro e; have e := Option.some.inj e; have := h.b1; omega
  · exact ⟨hg.os, hg.tape, hg.output, hg.size, fun k hk ho => hg.block k hk (fun e => ho (.inr (.inl (Option.some.inj e))))⟩
  · rcases hk with e | e | e | ⟨x, s', hx, e⟩
    · exact .inl (.inl e)
    · exact .inl (.inr (.inl e))
    · exact .inl (.inr (.inr (.inl e)))
    · dsimp only at e
      rcases hU x s' hx with ⟨rfl, rfl⟩ | ⟨e1, hx⟩
      · rw [up_at] at e
        right
        rcases e with e | e <;> dsimp only at e <;> omega
      · rw [up_far e1] at e
        exact .inl (.inr (.inr (.inr ⟨x, s', hx, e⟩)))
/-! ### Asking -/
theorem Hm.drewN (h : Hm w P σ bs) (a : Nat) : Hm (w.drewN a) P σ bs := h.below (up_drew (Below.refl _ w) a)
/-- A call of the heap's that only draws. -/
abbrev Asks (f : Nat) (args : Array Value) (w : World) (v : Value) : Prop := Calls Tryz.prog f args w fun e w' => e = .returned v ∧ Drawn w w'
theorem asks_quiet {f : Nat} {args : Array Value} {w : World} {v : Value} (h : ∀ a, Asks f args (w.drewN a) v) (a : Nat) : Calls Tryz.prog f args (w.drewN a) fun e w' => e = .returned v ∧ ∃ m, w' = w.drewN m :=
  (h a).mono fun e w' ⟨he, m, hw⟩ => ⟨he, a + m, by rw [hw, World.drewN_drewN]⟩
theorem exact_quiet {f : Nat} {args : Array Value} {w : World} {v : Value} (h : ∀ a, Calls Tryz.prog f args (w.drewN a) fun e w' => e = .returned v ∧ w.drewN a = w') (a : Nat) : Calls Tryz.prog f args (w.drewN a) fun e w' => e = .returned v ∧ ∃ m, w' = w.drewN m :=
  (h a).mono fun e w' ⟨he, hw⟩ => ⟨he, a, hw.symm⟩
theorem has_any (h : Hm w P σ bs) (c l : Int) : Asks 58 #[.pointer (some ⟨P.h, 0, none⟩), .int .i64 c, .int .i64 l] w (.bool (decide (0 < (of σ.R (ringI c l)).length))) := by
  obtain ⟨_, _, c2⟩ := h.cells
  have HO := Lib.hid (exact_quiet (fun a => ringOf_any c l (w.drewN a) (h.drewN a).tb.cls))
  have HL := Lib.hid (exact_quiet (fun a => Ri.len_r (i := ringI c l) (h.drewN a).ring))
  have HE : Hid (decide (0 < (of σ.R (ringI c l)).length) = decide ((0 : Int) < ((of σ.R (ringI c l)).length : Int))) := by show _ = _; rw [decide_eq_decide]; omega
  rw [HE.out]
  generalize ((of σ.R (ringI c l)).length : Int) = n at HL ⊢
  generalize ringI c l = i at HO HL
  clear h HE
  go_enter Tryz.func58, Tryz.ntmps58
  go_wp2_with fail
  go_quiet (first | (go_at_call 42; exact HO.out _) | (go_at_call 105; exact HL.out _))
  go_wp2
  go_ret
  exact ⟨rfl, _, rfl⟩
/-- Where an item stands. -/
def inI (R : Nat → List Nat) (p : Nat) (v : Int) : Prop := Ri.InR R p v
theorem inI_at {R : Nat → List Nat} {p i : Nat} (hp : p ∈ R i) : Ri.InR R p i := .inl ⟨p, i, rfl, hp, rfl⟩
theorem inI_no {R : Nat → List Nat} {p : Nat} (hp : ∀ i, p ∉ R i) : Ri.InR R p (-1) := .inr ⟨fun X i e => by
  obtain rfl : p = X := by omega
  exact hp i, rfl⟩
theorem inI_some (R : Nat → List Nat) (p : Nat) : ∃ v, Ri.InR R p v := by
  by_cases h : ∃ i, p ∈ R i
  · obtain ⟨i, hi⟩ := h; exact ⟨i, inI_at hi⟩
  · exact ⟨-1, inI_no (fun i hi => h ⟨i, hi⟩)⟩
/-- An item is in a list just if its list's number is that. -/
theorem inI_eq {n m : Nat} {R : Nat → List Nat} (hg : Ri.Good n m R) {p i : Nat} {v : Int} (h : Ri.InR R p v) : (v == (i : Int)) = (R i).contains p := by
  rw [Bool.eq_iff_iff, beq_iff_eq, has_iff]
  rcases h with ⟨X, j, e, hX, rfl⟩ | ⟨hno, rfl⟩
  · obtain rfl : p = X := by omega
    constructor
    · intro e; obtain rfl : j = i := by omega
      exact hX
    · intro hi; rw [hg.apart i j p hi hX]
  · constructor
    · intro e; omega
    · intro hi; exact absurd hi (hno p i rfl)
theorem sealed_any (h : Hm w P σ bs) {p : Nat} {s : Sb} (hp : σ.U p = some s) (hc : s.c < 16) : Asks 57 #[.pointer (some ⟨P.h, 0, none⟩), .pointer (some ⟨(P.A p).s, 0, none⟩)] w (.bool ((σ.R (4 * s.c + 3)).contains p)) := by
  obtain ⟨_, _, c2⟩ := h.cells
  obtain ⟨v, hv⟩ := inI_some σ.R p
  have HO := Lib.hid (exact_quiet (fun a => ringOf_any s.c 3 (w.drewN a) (h.drewN a).tb.cls))
  have HI := Lib.hid (exact_quiet (fun a => Ri.in_r (h.drewN a).ring hv))
  have HC := Lib.hid (exact_quiet (fun a => Os.class_any ((h.drewN a).sl p s hp)))
  have HP := Lib.hid (exact_quiet (fun a => pageOf_any ((h.drewN a).sl p s hp)))
  have HE := Lib.hid (inI_eq h.ring.good (i := 4 * s.c + 3) hv)
  rw [show ringI s.c 3 = ((4 * s.c + 3 : Nat) : Int) from ringI_nat (l := 3) hc (by omega)] at HO
  rw [← HE.out]
  generalize ((4 * s.c + 3 : Nat) : Int) = i at HO ⊢
  clear h HE hv
  go_enter Tryz.func57, Tryz.ntmps57
  go_wp2_with fail
  go_quiet (first | (go_at_call 42; exact HO.out _) | (go_at_call 69; exact HP.out _) | (go_at_call 14; exact HC.out _) | (go_at_call 104; exact HI.out _))
  go_wp2
  go_ret
  exact ⟨rfl, _, rfl⟩
/-! ### Moving -/
/-- What a call of the heap's that answers nothing leaves. -/
def Left (P : Pl) (σ : St) (bs : List (BitVec 8)) (σ' : St) (w w' : World) : Prop := ∃ P', P'.h = P.h ∧ P'.q = P.q ∧ (∀ x, x ∈ σ.O → (P'.A x).s = (P.A x).s) ∧ Hm w' P' σ' bs ∧ Fh P σ.U w w' ∧ Nw w.heap.size P σ.U P' σ'.U
theorem Left.refl (h : Hm w P σ bs) (hb : Below w.heap.size w w') : Left P σ bs σ w w' := ⟨P, rfl, rfl, fun _ _ => rfl, h.below hb, Fh.of hb, Nw.refl _ _ _⟩
theorem Left.after {σ' : St} {w1 : World} (hb : Below w.heap.size w w1) (h : Left P σ bs σ' w1 w') : Left P σ bs σ' w w' := by
  obtain ⟨P', h1, h2, h3, h4, h5, h6⟩ := h
  exact ⟨P', h1, h2, h3, h4, (Fh.of hb).trans h5 (Nw.refl _ _ _), (Nw.refl _ _ _).trans h6 hb.size⟩
theorem rem_r {N : Nat} {R : Nat → List Nat} (hg : Ri.Good N 64 R) {p : Nat} (hp : p < N) : ∃ E, Ri.RemR N R p E (remR R p) := by
  by_cases h : ∃ i, p ∈ R i
  · obtain ⟨i, hi⟩ := h
    obtain ⟨A, C, hl⟩ := List.append_of_mem hi
    exact ⟨0, .inr (.inr ⟨p, i, A, C, rfl, hl, rfl, rem_split hg hl⟩)⟩
  · have hno : ∀ i, p ∉ R i := fun i hi => h ⟨i, hi⟩
    exact ⟨16, .inr (.inl ⟨p, rfl, hp, hno, rfl, rem_none hno⟩)⟩
theorem put_r {N : Nat} {R : Nat → List Nat} (hg : Ri.Good N 64 R) {p i : Nat} (hp : p < N) (hi : i < 64) : Ri.PutR N 64 (remR R p) i p true 0 (frontR R p i) :=
  .inr (.inr ⟨i, p, rfl, rfl, hi, hp, fun j hj => ((rem_mem hg).1 hj).1 rfl, rfl, by unfold frontR; rfl⟩)
set_option maxHeartbeats 1000000 in
theorem front_any (h : Hm w P σ bs) {p l : Nat} {s : Sb} (hp : σ.U p = some s) (hc : s.c < 16) (hl : l ≤ 3) (hpN : p < σ.N) : Calls Tryz.prog 62 #[.pointer (some ⟨P.h, 0, none⟩), .pointer (some ⟨(P.A p).s, 0, none⟩), .int .i64 (l : Int)] w fun e w' =>
    (∃ v, e = .returned v) ∧ Hm w' P (setR σ (frontR σ.R p (4 * s.c + l))) bs ∧ Fh P σ.U w w' := by
  obtain ⟨_, _, c2⟩ := h.cells
  have HH := Lib.hid h
  have HP := Lib.hid (fun a => pageOf_any ((h.drewN a).sl p s hp))
  obtain ⟨E, hE⟩ := rem_r (p := p) (by have := h.ring.good; rw [h.rn, h.rm] at this; exact this) hpN
  rw [← h.rn] at hE
  have HRem := Lib.hid (Ri.remove_r (h.drewN 1).ring hE)
  clear h
  go_enter Tryz.func62, Tryz.ntmps62
  go_wp2_with fail
  refine wp_region_still_tail 6 (by kernel_rfl) (by kernel_rfl) ?_
  simp only [List.take_succ_cons, List.take_zero, List.drop_succ_cons, List.drop_zero]
  iterate 5 still_step
  still_call ((HP.out 1).mono (fun e w' h => ⟨h.1, h.2.symm⟩))
  refine wpStill_nil ?_
  change wpList _ _ _ _ _ (w.drewN 1)
  go_wp2_with fail
  refine HRem.out.mono ?_
  rintro e w2 ⟨rfl, r2, ch2⟩
  obtain ⟨h2, f2⟩ := (HH.out.drewN 1).rings r2 ch2
  have F2 := Lib.hid ((Fh.of (P := P) (U := σ.U) (up_drew (Below.refl _ w) 1)).trans f2 (Nw.refl _ _ _))
  have HH2 := Lib.hid h2
  have HP2 := Lib.hid (fun a => pageOf_any ((h2.drewN a).sl p s hp))
  have HC2 := Lib.hid (fun a => Os.class_any ((h2.drewN a).sl p s hp))
  have HO2 := Lib.hid (fun a => ringOf_any s.c l (w2.drewN a) (h2.drewN a).tb.cls)
  rw [ringI_nat hc hl] at HO2
  have hput := put_r (R := σ.R) (p := p) (i := 4 * s.c + l) (by have := HH.out.ring.good; rw [HH.out.rn, HH.out.rm] at this; exact this) hpN (by omega)
  rw [← HH.out.rn, ← HH.out.rm] at hput
  have HPut := Lib.hid (Ri.push_r (h2.drewN 1).ring hput)
  have d2d : w2.cell? ⟨P.h, 2, none⟩ = some (.pointer (some ⟨P.r.q, 0, none⟩)) := h2.cells.2.2
  clear r2 ch2 h2 f2 HRem HP c2 hE hput
  go_wp2_with fail
  refine wp_region_still_tail 10 (by kernel_rfl) (by kernel_rfl) ?_
  simp only [List.take_succ_cons, List.take_zero, List.drop_succ_cons, List.drop_zero]
  iterate 5 still_step
  still_call ((HC2.out 1).mono (fun e w' h => ⟨h.1, h.2.symm⟩))
  iterate 1 still_step
  still_call ((HO2.out 1).mono (fun e w' h => ⟨h.1, h.2.symm⟩))
  iterate 1 still_step
  still_call ((HP2.out 1).mono (fun e w' h => ⟨h.1, h.2.symm⟩))
  refine wpStill_nil ?_
  change wpList _ _ _ _ _ (w2.drewN 1)
  go_wp2_with fail
  refine HPut.out.mono ?_
  rintro e w3 ⟨rfl, r3, ch3⟩
  obtain ⟨h3, f3⟩ := (HH2.out.drewN 1).rings r3 ch3
  have HH3 := Lib.hid h3
  have F3 := Lib.hid (F2.out.trans ((Fh.of (P := P) (U := σ.U) (up_drew (Below.refl _ w2) 1)).trans f3 (Nw.refl _ _ _)) (Nw.refl _ _ _))
  clear r3 ch3 h3 f3 HPut d2d
  go_wp2_with fail
  go_end0
  exact ⟨⟨_, rfl⟩, HH3.out, F3.out⟩
end
end Go.Proofs.YtckcgaliphpgeaaGreatDoor.He
