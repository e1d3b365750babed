/-
  A slot is given back to a heap: the contract that the claimed proofs use.
-/
import Derived.Test.YtckcgaliphpgeaaGreatDoorHeTake
namespace Go.Proofs.YtckcgaliphpgeaaGreatDoor.He
set_option maxRecDepth 100000
open Go.RowKit
open Ta (sizeOf' classB)
open Bi (Drawn ret_i ret_b up_alloc up_drew up_trans)
open Ri (of of_nat up up_at up_far)
open Gr (kind kind_of kne)

section
variable {w w' : World} {P : Pl} {σ : St} {bs : List (BitVec 8)}
theorem up_same {α : Type} (f : Nat → α) (i : Nat) (a : α) (h : f i = a) : up f i a = f := funext fun j => by
  by_cases e : j = i
  · subst e; rw [up_at, h]
  · rw [up_far e]
theorem setU_same {p : Nat} {s : Sb} (h : σ.U p = some s) : setU σ p (some s) = σ := by
  unfold setU; rw [up_same _ _ _ h]
theorem slabGive_any (h : Hm w P σ bs) {p : Nat} {s : Sb} (hp : σ.U p = some s) (x : Int) (hx : Os.I64 x) : Calls Tryz.prog 55 #[.pointer (some ⟨(P.A p).s, 0, none⟩), .int .i64 x] w fun e w' =>
    e = .returned (.int .i64 (Os.gvE (256 * p) (sizeOf' s.c) s.l x)) ∧ Slab P σ bs p ⟨s.c, Os.gvL (256 * p) (sizeOf' s.c) s.l x⟩ w w' := by
  refine (Os.give_any x hx (h.sl p s hp) h.tb).mono ?_
  rintro e w' ⟨rfl, hb⟩
  exact ⟨rfl, h.slab hp hb⟩
theorem st_lst {l : List Bool} (h : 2 ≤ l.length) : (Os.stI l == 0) = decide (lst l = 2) := by
  unfold Os.stI lst
  by_cases h1 : Os.fr l = l.length
  · rw [if_pos h1, if_pos h1]; rfl
  · rw [if_neg h1, if_neg h1]
    by_cases h2 : Os.fr l = 0
    · rw [if_pos h2, if_pos h2]; rfl
    · rw [if_neg h2, if_neg h2]; rfl
theorem has_list (h : Hm w P σ bs) {c l : Nat} (hc : c < 16) (hl : l ≤ 3) : Asks 58 #[.pointer (some ⟨P.h, 0, none⟩), .int .i64 c, .int .i64 l] w (.bool (decide (σ.R (4 * c + l) ≠ []))) := by
  have := has_any h c l
  rw [ring_at σ.R hc hl] at this
  have e : decide (0 < (σ.R (4 * c + l)).length) = decide (σ.R (4 * c + l) ≠ []) := by
    rw [decide_eq_decide]; exact List.length_pos_iff
  rw [e] at this
  exact this
set_option maxHeartbeats 4000000 in
theorem give_any (h : Hm w P σ bs) (hi : HI σ) (x : Int) (hx : Os.I64 x) (hS : σ.S.length ≤ 1000000000000) : Calls Tryz.prog 23 #[.pointer (some ⟨P.h, 0, none⟩), .int .i64 x] w fun e w' =>
    e = .returned (.int .i64 (giveO σ x).e) ∧ Left P σ bs (giveO σ x).σ w w' := by
  have HAr := Lib.hid (around_any h x hx)
  have HH := Lib.hid h
  cases ha : around σ x with
  | none =>
    have e : giveO σ x = ⟨0, 12, σ⟩ := by unfold giveO; rw [ha]
    rw [e]
    rw [ha] at HAr
    clear h hi hx hS ha e
    dsimp only
    unfold pV at HAr
    go_enter Tryz.func23, Tryz.ntmps23
    go_wp2_with fail
    refine HAr.out.mono ?_
    rintro e w1 ⟨rfl, b1⟩
    have B1 := Lib.hid b1
    clear b1 HAr
    go_wp2_with fail
    go_ret
    exact ⟨rfl, Left.refl HH.out B1.out⟩
  | some p =>
    obtain ⟨s, hM, _, _⟩ := around_some ha
    obtain ⟨hu, hO⟩ := hi.u hM
    have hr := hi.reg hM
    have e : giveO σ x = giveAt σ p s x := by unfold giveO; rw [ha]; dsimp only; rw [hu]
    rw [e]
    rw [ha] at HAr
    have HU := Lib.hid hu
    have HO := Lib.hid hO
    have HSl := Lib.hid hS
    have hpN : p < σ.N := by have := hr.1; omega
    have hc16 := hr.2.2.1
    have hlen : 2 ≤ s.l.length := by rw [hr.2.2.2]; exact (Os.cls (Ta.classB_iff.2 (by omega : 0 ≤ (s.c : Int) ∧ (s.c : Int) < 16))).2.2.1
    have hgl : (Os.gvL (256 * p) (sizeOf' s.c) s.l x).length = s.l.length := Os.gvL_len ..
    have HGv := Lib.hid (fun (W : World) (hW : Hm W P σ bs) => slabGive_any hW hu x hx)
    obtain ⟨E, hE⟩ : ∃ E, Os.gvE (256 * p) (sizeOf' s.c) s.l x = E := ⟨_, rfl⟩
    obtain ⟨l', hl'⟩ : ∃ l', Os.gvL (256 * p) (sizeOf' s.c) s.l x = l' := ⟨_, rfl⟩
    have HEl : Hid (E ≠ 0 → l' = s.l) := fun hne => by rw [← hl']; unfold Os.gvL; rw [if_neg (by rw [hE]; exact hne)]
    have eg : giveAt σ p s x = if E ≠ 0 then ⟨0, E, σ⟩
        else if lst l' = 2 ∧ ((σ.R (4 * s.c + 3)).contains p = true ∨ σ.R (4 * s.c + 2) ≠ []) then ⟨0, 0, closeS (setU σ p (some ⟨s.c, l'⟩)) p⟩
        else if (σ.R (4 * s.c + 3)).contains p = true then ⟨0, 0, setU σ p (some ⟨s.c, l'⟩)⟩
        else ⟨0, 0, setR (setU σ p (some ⟨s.c, l'⟩)) (settleR σ.R p (4 * s.c + lst l'))⟩ := by
      rw [← hE, ← hl']; rfl
    rw [hE, hl'] at HGv
    rw [hl'] at hgl
    rw [eg]
    clear h hi hx hS ha e hM hu hO hr hE hl' eg
    by_cases hE0 : E ≠ 0
    · rw [if_pos hE0]
      have dE : (E != 0) = true := by simpa using hE0
      have hl0 := HEl.out hE0
      subst hl0
      clear hE0 HEl
      dsimp only
      unfold pV at HAr
      go_enter Tryz.func23, Tryz.ntmps23
      go_wp2_with fail
      refine HAr.out.mono ?_
      rintro e w1 ⟨rfl, b1⟩
      have H1 := Lib.hid (HH.out.below b1)
      have B1 := Lib.hid b1
      have HG := Lib.hid (HGv.out w1 H1.out)
      clear b1 HAr
      simp only [Option.map_some]
      go_wp2_with fail
      refine HG.out.mono ?_
      rintro e w2 ⟨rfl, A', a1, a2, a3, a4⟩
      have es : setU σ p (some ⟨s.c, s.l⟩) = σ := setU_same HU.out
      have L2 : Hid (Left P σ bs σ w w2) := Left.after B1.out ⟨{ P with A := A' }, rfl, rfl, fun x _ => a4 x, by rw [es] at a1; exact a1, a2, by
        have := congrArg St.U es
        change up σ.U p (some ⟨s.c, s.l⟩) = σ.U at this
        rw [this] at a3; exact a3⟩
      clear a1 a2 a3 a4 HG es
      go_wp2_with fail
      go_ret
      exact ⟨rfl, L2.out⟩
    · obtain rfl : E = 0 := by omega
      rw [if_neg (by simp)]
      obtain ⟨σ1, hσ1⟩ : ∃ σ1, setU σ p (some ⟨s.c, l'⟩) = σ1 := ⟨_, rfl⟩
      have hu1 : σ1.U p = some ⟨s.c, l'⟩ := by rw [← hσ1]; exact up_at _ _ _
      have hR1 : σ1.R = σ.R := by rw [← hσ1]; rfl
      have hM1 : M σ1.U σ1.O p = some ⟨s.c, l'⟩ := by rw [← hσ1]; exact (M_off HO.out).trans (up_at _ _ _)
      have hN1 : p < σ1.N := by rw [← hσ1]; exact hpN
      have hS1 : σ1.S.length ≤ 1000000000000 := by rw [← hσ1]; exact HSl.out
      have HSt := Lib.hid (fun (W : World) (A' : Nat → Ad) (hW : Hm W { P with A := A' } σ1 bs) => Os.state_any (hW.sl p _ hu1))
      have HCc := Lib.hid (fun (W : World) (A' : Nat → Ad) (hW : Hm W { P with A := A' } σ1 bs) => Os.class_any (hW.sl p _ hu1))
      have HSe := Lib.hid (fun (W : World) (A' : Nat → Ad) (hW : Hm W { P with A := A' } σ1 bs) => sealed_any hW hu1 hc16)
      have HHa := Lib.hid (fun (W : World) (A' : Nat → Ad) (hW : Hm W { P with A := A' } σ1 bs) => has_list hW hc16 (l := 2) (by omega))
      have HCl := Lib.hid (fun (W : World) (A' : Nat → Ad) (hW : Hm W { P with A := A' } σ1 bs) => close_any hW hM1 hN1 hS1)
      have HSn := Lib.hid (fun (W : World) (A' : Nat → Ad) (hW : Hm W { P with A := A' } σ1 bs) => settle_any hW hu1 hc16 hN1)
      rw [← hR1]
      have e2 : setR σ1 (settleR σ1.R p (4 * s.c + lst l')) = setR σ1 (settleR σ1.R p (4 * s.c + lst l')) := rfl
      have HSg := Lib.hid hσ1
      rw [hσ1]
      have dS := st_lst (l := l') (by omega)
      have HUp : Hid (up σ.U p (some ⟨s.c, l'⟩) = σ1.U) := by show _ = _; rw [← hσ1]; rfl
      have HO1 : Hid (σ1.O = σ.O) := by show _ = _; rw [← hσ1]; rfl
      dsimp only at HSe HHa HCc HCl HSn
      obtain ⟨L2, hL2⟩ : ∃ L2, σ1.R (4 * s.c + 2) = L2 := ⟨_, rfl⟩
      rw [hL2] at HHa ⊢
      obtain ⟨L3, hL3⟩ : ∃ L3, (σ1.R (4 * s.c + 3)).contains p = L3 := ⟨_, rfl⟩
      rw [hL3] at HSe ⊢
      have HLs : Hid (∀ (W : World) (A' : Nat → Ad), Hm W { P with A := A' } σ1 bs → (A' p).s = (P.A p).s → True) := fun _ _ _ _ => trivial
      unfold pV at HAr
      simp only [Option.map_some] at HAr
      clear hσ1 hu1 hM1 hN1 hS1 hL2 hL3 HEl hE0 hgl hlen e2 HLs hR1
      by_cases h2 : lst l' = 2
      · have dS2 : (Os.stI l' == 0) = true := by rw [dS]; simpa using h2
        cases L3 with
        | true =>
          rw [if_pos ⟨h2, .inl rfl⟩]
          dsimp only
          clear dS h2
          go_enter Tryz.func23, Tryz.ntmps23
          go_wp2_with fail
          refine HAr.out.mono ?_
          rintro e w1 ⟨rfl, b1⟩
          have H1 := Lib.hid (HH.out.below b1)
          have B1 := Lib.hid b1
          have HG := Lib.hid (HGv.out w1 H1.out)
          clear b1 HAr HGv HH
          go_wp2_with fail
          refine HG.out.mono ?_
          rintro e w2 ⟨rfl, A', a1, a2, a3, a4⟩
          rw [HSg.out] at a1
          have HX2 := Lib.hid a1
          have A2 := Lib.hid ((Fh.of (P := P) (U := σ.U) B1.out).trans a2 (Nw.refl _ _ _))
          have A3 : Hid (He.Nw w.heap.size P σ.U { P with A := A' } σ1.U) := by
            have := (Nw.refl w.heap.size P σ.U).trans a3 B1.out.size
            rw [HUp.out] at this; exact this
          have A4 := Lib.hid a4
          have es := a4 p
          have HSt := Lib.hid (fun (W : World) hW => HSt.out W A' hW)
          have HCc := Lib.hid (fun (W : World) hW => HCc.out W A' hW)
          have HSe := Lib.hid (fun (W : World) hW => HSe.out W A' hW)
          have HHa := Lib.hid (fun (W : World) hW => HHa.out W A' hW)
          have HCl := Lib.hid (fun (W : World) hW => HCl.out W A' hW)
          have HSn := Lib.hid (fun (W : World) hW => HSn.out W A' hW)
          try dsimp only at HSt HCc HSe HHa HCl HSn
          rw [es] at HSt HCc HSe HCl HSn
          clear a1 a2 a3 a4 es HG H1
          go_wp2_with fail
          refine (HSt.out w2 HX2.out).mono ?_
          rintro e w3 ⟨rfl, d3⟩
          have HX3 := Lib.hid (HX2.out.below d3.below)
          have B3 := Lib.hid d3.below
          clear d3 HSt HX2
          go_wp2_with fail
          refine (HSe.out w3 HX3.out).mono ?_
          rintro e w4 ⟨rfl, d4⟩
          have HX4 := Lib.hid (HX3.out.below d4.below)
          have B4 := Lib.hid (up_trans B3.out d4.below)
          clear d4
          go_wp2_with fail
          refine (HCl.out w4 HX4.out).mono ?_
          rintro e w9 ⟨⟨v, rfl⟩, p', h9, f9, n9⟩
          have L9 : Hid (Left P σ bs (closeS σ1 p) w w9) := ⟨{ P with A := A', p := p' }, rfl, rfl, fun x _ => A4.out x, h9, (A2.out.trans (Fh.of (P := { P with A := A' }) (U := σ1.U) B4.out) A3.out).trans f9 A3.out, A3.out.trans n9 (Nat.le_trans A2.out.size B4.out.size)⟩
          clear h9 f9 n9
          go_wp2_with fail
          go_ret
          exact ⟨rfl, L9.out⟩
        | false =>
          by_cases h0 : L2 = []
          · have dH : decide (L2 ≠ []) = false := by simpa using h0
            rw [if_neg (by rintro ⟨_, h | h⟩; · cases h
                           · exact h h0), if_neg (by simp)]
            dsimp only
            rw [dH] at HHa
            clear dS h2 h0 dH
            go_enter Tryz.func23, Tryz.ntmps23
            go_wp2_with fail
            refine HAr.out.mono ?_
            rintro e w1 ⟨rfl, b1⟩
            have H1 := Lib.hid (HH.out.below b1)
            have B1 := Lib.hid b1
            have HG := Lib.hid (HGv.out w1 H1.out)
            clear b1 HAr HGv HH
            go_wp2_with fail
            refine HG.out.mono ?_
            rintro e w2 ⟨rfl, A', a1, a2, a3, a4⟩
            rw [HSg.out] at a1
            have HX2 := Lib.hid a1
            have A2 := Lib.hid ((Fh.of (P := P) (U := σ.U) B1.out).trans a2 (Nw.refl _ _ _))
            have A3 : Hid (He.Nw w.heap.size P σ.U { P with A := A' } σ1.U) := by
              have := (Nw.refl w.heap.size P σ.U).trans a3 B1.out.size
              rw [HUp.out] at this; exact this
            have A4 := Lib.hid a4
            have es := a4 p
            have HSt := Lib.hid (fun (W : World) hW => HSt.out W A' hW)
            have HCc := Lib.hid (fun (W : World) hW => HCc.out W A' hW)
            have HSe := Lib.hid (fun (W : World) hW => HSe.out W A' hW)
            have HHa := Lib.hid (fun (W : World) hW => HHa.out W A' hW)
            have HCl := Lib.hid (fun (W : World) hW => HCl.out W A' hW)
            have HSn := Lib.hid (fun (W : World) hW => HSn.out W A' hW)
            try dsimp only at HSt HCc HSe HHa HCl HSn
            rw [es] at HSt HCc HSe HCl HSn
            clear a1 a2 a3 a4 es HG H1
            go_wp2_with fail
            refine (HSt.out w2 HX2.out).mono ?_
            rintro e w3 ⟨rfl, d3⟩
            have HX3 := Lib.hid (HX2.out.below d3.below)
            have B3 := Lib.hid d3.below
            clear d3 HSt HX2
            go_wp2_with fail
            refine (HSe.out w3 HX3.out).mono ?_
            rintro e w4 ⟨rfl, d4⟩
            have HX4 := Lib.hid (HX3.out.below d4.below)
            have B4 := Lib.hid (up_trans B3.out d4.below)
            clear d4
            go_wp2_with fail
            refine (HCc.out w4 HX4.out).mono ?_
            rintro e wq ⟨rfl, rfl⟩
            go_wp2_with fail
            refine (HHa.out w4 HX4.out).mono ?_
            rintro e w5 ⟨rfl, d5⟩
            have HX5 := Lib.hid (HX4.out.below d5.below)
            have B5 := Lib.hid (up_trans B4.out d5.below)
            clear d5
            go_wp2_with fail
            refine (HSe.out w5 HX5.out).mono ?_
            rintro e w6 ⟨rfl, d6⟩
            have HX6 := Lib.hid (HX5.out.below d6.below)
            have B6 := Lib.hid (up_trans B5.out d6.below)
            clear d6
            go_wp2_with fail
            refine (HSn.out w6 HX6.out).mono ?_
            rintro e w9 ⟨⟨v, rfl⟩, h9, f9⟩
            have L9 : Hid (Left P σ bs (setR σ1 (settleR σ1.R p (4 * s.c + lst l'))) w w9) := ⟨{ P with A := A' }, rfl, rfl, fun x _ => A4.out x, h9, (A2.out.trans (Fh.of (P := { P with A := A' }) (U := σ1.U) B6.out) A3.out).trans f9 A3.out, A3.out⟩
            clear h9 f9
            go_wp2_with fail
            go_ret
            exact ⟨rfl, L9.out⟩
          · have dH : decide (L2 ≠ []) = true := by simpa using h0
            rw [if_pos ⟨h2, .inr h0⟩]
            dsimp only
            rw [dH] at HHa
            clear dS h2 h0 dH
            go_enter Tryz.func23, Tryz.ntmps23
            go_wp2_with fail
            refine HAr.out.mono ?_
            rintro e w1 ⟨rfl, b1⟩
            have H1 := Lib.hid (HH.out.below b1)
            have B1 := Lib.hid b1
            have HG := Lib.hid (HGv.out w1 H1.out)
            clear b1 HAr HGv HH
            go_wp2_with fail
            refine HG.out.mono ?_
            rintro e w2 ⟨rfl, A', a1, a2, a3, a4⟩
            rw [HSg.out] at a1
            have HX2 := Lib.hid a1
            have A2 := Lib.hid ((Fh.of (P := P) (U := σ.U) B1.out).trans a2 (Nw.refl _ _ _))
            have A3 : Hid (He.Nw w.heap.size P σ.U { P with A := A' } σ1.U) := by
              have := (Nw.refl w.heap.size P σ.U).trans a3 B1.out.size
              rw [HUp.out] at this; exact this
            have A4 := Lib.hid a4
            have es := a4 p
            have HSt := Lib.hid (fun (W : World) hW => HSt.out W A' hW)
            have HCc := Lib.hid (fun (W : World) hW => HCc.out W A' hW)
            have HSe := Lib.hid (fun (W : World) hW => HSe.out W A' hW)
            have HHa := Lib.hid (fun (W : World) hW => HHa.out W A' hW)
            have HCl := Lib.hid (fun (W : World) hW => HCl.out W A' hW)
            have HSn := Lib.hid (fun (W : World) hW => HSn.out W A' hW)
            try dsimp only at HSt HCc HSe HHa HCl HSn
            rw [es] at HSt HCc HSe HCl HSn
            clear a1 a2 a3 a4 es HG H1
            go_wp2_with fail
            refine (HSt.out w2 HX2.out).mono ?_
            rintro e w3 ⟨rfl, d3⟩
            have HX3 := Lib.hid (HX2.out.below d3.below)
            have B3 := Lib.hid d3.below
            clear d3 HSt HX2
            go_wp2_with fail
            refine (HSe.out w3 HX3.out).mono ?_
            rintro e w4 ⟨rfl, d4⟩
            have HX4 := Lib.hid (HX3.out.below d4.below)
            have B4 := Lib.hid (up_trans B3.out d4.below)
            clear d4
            go_wp2_with fail
            refine (HCc.out w4 HX4.out).mono ?_
            rintro e wq ⟨rfl, rfl⟩
            go_wp2_with fail
            refine (HHa.out w4 HX4.out).mono ?_
            rintro e w5 ⟨rfl, d5⟩
            have HX5 := Lib.hid (HX4.out.below d5.below)
            have B5 := Lib.hid (up_trans B4.out d5.below)
            clear d5
            go_wp2_with fail
            refine (HCl.out w5 HX5.out).mono ?_
            rintro e w9 ⟨⟨v, rfl⟩, p', h9, f9, n9⟩
            have L9 : Hid (Left P σ bs (closeS σ1 p) w w9) := ⟨{ P with A := A', p := p' }, rfl, rfl, fun x _ => A4.out x, h9, (A2.out.trans (Fh.of (P := { P with A := A' }) (U := σ1.U) B5.out) A3.out).trans f9 A3.out, A3.out.trans n9 (Nat.le_trans A2.out.size B5.out.size)⟩
            clear h9 f9 n9
            go_wp2_with fail
            go_ret
            exact ⟨rfl, L9.out⟩
      · have dS2 : (Os.stI l' == 0) = false := by rw [dS]; simpa using h2
        rw [if_neg (fun h => h2 h.1)]
        cases L3 with
        | true =>
          rw [if_pos rfl]
          dsimp only
          clear dS h2
          go_enter Tryz.func23, Tryz.ntmps23
          go_wp2_with fail
          refine HAr.out.mono ?_
          rintro e w1 ⟨rfl, b1⟩
          have H1 := Lib.hid (HH.out.below b1)
          have B1 := Lib.hid b1
          have HG := Lib.hid (HGv.out w1 H1.out)
          clear b1 HAr HGv HH
          go_wp2_with fail
          refine HG.out.mono ?_
          rintro e w2 ⟨rfl, A', a1, a2, a3, a4⟩
          rw [HSg.out] at a1
          have HX2 := Lib.hid a1
          have A2 := Lib.hid ((Fh.of (P := P) (U := σ.U) B1.out).trans a2 (Nw.refl _ _ _))
          have A3 : Hid (He.Nw w.heap.size P σ.U { P with A := A' } σ1.U) := by
            have := (Nw.refl w.heap.size P σ.U).trans a3 B1.out.size
            rw [HUp.out] at this; exact this
          have A4 := Lib.hid a4
          have es := a4 p
          have HSt := Lib.hid (fun (W : World) hW => HSt.out W A' hW)
          have HCc := Lib.hid (fun (W : World) hW => HCc.out W A' hW)
          have HSe := Lib.hid (fun (W : World) hW => HSe.out W A' hW)
          have HHa := Lib.hid (fun (W : World) hW => HHa.out W A' hW)
          have HCl := Lib.hid (fun (W : World) hW => HCl.out W A' hW)
          have HSn := Lib.hid (fun (W : World) hW => HSn.out W A' hW)
          try dsimp only at HSt HCc HSe HHa HCl HSn
          rw [es] at HSt HCc HSe HCl HSn
          clear a1 a2 a3 a4 es HG H1
          go_wp2_with fail
          refine (HSt.out w2 HX2.out).mono ?_
          rintro e w3 ⟨rfl, d3⟩
          have HX3 := Lib.hid (HX2.out.below d3.below)
          have B3 := Lib.hid d3.below
          clear d3 HSt HX2
          go_wp2_with fail
          refine (HSe.out w3 HX3.out).mono ?_
          rintro e w4 ⟨rfl, d4⟩
          have HX4 := Lib.hid (HX3.out.below d4.below)
          have B4 := Lib.hid (up_trans B3.out d4.below)
          clear d4
          have L9 : Hid (Left P σ bs σ1 w w4) := ⟨{ P with A := A' }, rfl, rfl, fun x _ => A4.out x, HX4.out, A2.out.trans (Fh.of (P := { P with A := A' }) (U := σ1.U) B4.out) A3.out, A3.out⟩
          go_wp2_with fail
          go_ret
          exact ⟨rfl, L9.out⟩
        | false =>
          rw [if_neg (by simp)]
          dsimp only
          clear dS h2
          go_enter Tryz.func23, Tryz.ntmps23
          go_wp2_with fail
          refine HAr.out.mono ?_
          rintro e w1 ⟨rfl, b1⟩
          have H1 := Lib.hid (HH.out.below b1)
          have B1 := Lib.hid b1
          have HG := Lib.hid (HGv.out w1 H1.out)
          clear b1 HAr HGv HH
          go_wp2_with fail
          refine HG.out.mono ?_
          rintro e w2 ⟨rfl, A', a1, a2, a3, a4⟩
          rw [HSg.out] at a1
          have HX2 := Lib.hid a1
          have A2 := Lib.hid ((Fh.of (P := P) (U := σ.U) B1.out).trans a2 (Nw.refl _ _ _))
          have A3 : Hid (He.Nw w.heap.size P σ.U { P with A := A' } σ1.U) := by
            have := (Nw.refl w.heap.size P σ.U).trans a3 B1.out.size
            rw [HUp.out] at this; exact this
          have A4 := Lib.hid a4
          have es := a4 p
          have HSt := Lib.hid (fun (W : World) hW => HSt.out W A' hW)
          have HCc := Lib.hid (fun (W : World) hW => HCc.out W A' hW)
          have HSe := Lib.hid (fun (W : World) hW => HSe.out W A' hW)
          have HHa := Lib.hid (fun (W : World) hW => HHa.out W A' hW)
          have HCl := Lib.hid (fun (W : World) hW => HCl.out W A' hW)
          have HSn := Lib.hid (fun (W : World) hW => HSn.out W A' hW)
          try dsimp only at HSt HCc HSe HHa HCl HSn
          rw [es] at HSt HCc HSe HCl HSn
          clear a1 a2 a3 a4 es HG H1
          go_wp2_with fail
          refine (HSt.out w2 HX2.out).mono ?_
          rintro e w3 ⟨rfl, d3⟩
          have HX3 := Lib.hid (HX2.out.below d3.below)
          have B3 := Lib.hid d3.below
          clear d3 HSt HX2
          go_wp2_with fail
          refine (HSe.out w3 HX3.out).mono ?_
          rintro e w4 ⟨rfl, d4⟩
          have HX4 := Lib.hid (HX3.out.below d4.below)
          have B4 := Lib.hid (up_trans B3.out d4.below)
          clear d4
          go_wp2_with fail
          refine (HSn.out w4 HX4.out).mono ?_
          rintro e w9 ⟨⟨v, rfl⟩, h9, f9⟩
          have L9 : Hid (Left P σ bs (setR σ1 (settleR σ1.R p (4 * s.c + lst l'))) w w9) := ⟨{ P with A := A' }, rfl, rfl, fun x _ => A4.out x, h9, (A2.out.trans (Fh.of (P := { P with A := A' }) (U := σ1.U) B4.out) A3.out).trans f9 A3.out, A3.out⟩
          clear h9 f9
          go_wp2_with fail
          go_ret
          exact ⟨rfl, L9.out⟩
end
end Go.Proofs.YtckcgaliphpgeaaGreatDoor.He
