/-
  A slot is taken of a heap: the contract that the claimed proofs use.
-/
import Derived.Test.YtckcgaliphpgeaaGreatDoorHeFresh
namespace Go.Proofs.YtckcgaliphpgeaaGreatDoor.He
set_option maxRecDepth 100000
open Go.RowKit
open Ta (sizeOf' classB)
open Bi (Drawn ret_i ret_b up_alloc up_drew up_trans)
open Ri (of of_nat up up_at up_far)
open Gr (kind kind_of kne)

section
variable {w w' : World} {P : Pl} {σ : St} {bs : List (BitVec 8)}
/-- A slab of the heap's has changed. -/
def Slab (P : Pl) (σ : St) (bs : List (BitVec 8)) (p : Nat) (s' : Sb) (w w' : World) : Prop :=
  ∃ A', Hm w' { P with A := A' } (setU σ p (some s')) bs ∧ Fh P σ.U w w' ∧ Nw w.heap.size P σ.U { P with A := A' } (up σ.U p (some s')) ∧ (∀ x, (A' x).s = (P.A x).s)
theorem slabTake_any (h : Hm w P σ bs) {p : Nat} {s : Sb} (hp : σ.U p = some s) : Calls Tryz.prog 67 #[.pointer (some ⟨(P.A p).s, 0, none⟩)] w fun e w' =>
    e = .returned (.tuple #[.int .i64 (Os.tkV (256 * p) (sizeOf' s.c) s.l), .int .i64 (Os.tkE s.l)]) ∧ Slab P σ bs p ⟨s.c, Os.tkL s.l⟩ w w' := by
  refine (Os.take_any (h.sl p s hp) h.tb).mono ?_
  rintro e w' ⟨rfl, hb⟩
  exact ⟨rfl, h.slab hp hb⟩
theorem Left.trans' {P1 : Pl} {σ1 σ2 : St} {w1 : World} (hh : P1.h = P.h) (hq : P1.q = P.q) (hO : σ1.O = σ.O) (hA : ∀ x, x ∈ σ.O → (P1.A x).s = (P.A x).s) (hf : Fh P σ.U w w1) (hn : Nw w.heap.size P σ.U P1 σ1.U) (k : Left P1 σ1 bs σ2 w1 w') : Left P σ bs σ2 w w' := by
  obtain ⟨P2, h1, h2, h3, h4, h5, h6⟩ := k
  exact ⟨P2, h1.trans hh, h2.trans hq, fun x hx => (h3 x (by rw [hO]; exact hx)).trans (hA x hx), h4, hf.trans h5 hn, hn.trans h6 hf.size⟩
set_option maxHeartbeats 2000000 in
theorem take_any (h : Hm w P σ bs) (hi : HI σ) (c : Int) (hS : σ.S.length ≤ 1000000000000) : Calls Tryz.prog 29 #[.pointer (some ⟨P.h, 0, none⟩), .int .i64 c] w fun e w' =>
    e = .returned (.tuple #[.int .i64 (takeO σ c).v, .int .i64 (takeO σ c).e]) ∧ Left P σ bs (takeO σ c).σ w w' := by
  have HIs := Lib.hid (isClass_any c w h.tb.cls)
  have HH := Lib.hid h
  have HI' := Lib.hid hi
  have HSl := Lib.hid hS
  by_cases hc : classB c = true
  · obtain ⟨c0, c1⟩ := Ta.classB_iff.1 hc
    obtain ⟨k, rfl⟩ : ∃ k : Nat, c = k := ⟨c.toNat, by omega⟩
    have hk : k < 16 := by omega
    have et : takeO σ k = match pick σ.R k with
      | some p => match σ.U p with
        | some s => takeAt σ p s
        | none => ⟨-1, 0, σ⟩
      | none => if (Gr.openO σ.L σ.f σ.t σ.S 4 4 0 k).e = 0 then takeAt (newS σ k) (Gr.openO σ.L σ.f σ.t σ.S 4 4 0 k).v.toNat ⟨k, Os.l0 k⟩ else ⟨-1, (Gr.openO σ.L σ.f σ.t σ.S 4 4 0 k).e, σ⟩ := by
      unfold takeO; rw [if_pos hc]; rfl
    rw [hc] at HIs
    cases hpk : pick σ.R k with
    | some p =>
      obtain ⟨l, hM, hno, hfr⟩ := hi.pick hpk
      obtain ⟨hu, hO⟩ := hi.u hM
      have hr := hi.reg hM
      have HRd := Lib.hid (ready_some h hk hpk (by rw [show M σ.U σ.O p = some _ from hM]; rfl))
      have e1 : takeO σ k = takeAt σ p ⟨k, l⟩ := by rw [et, hpk]; dsimp only; rw [hu]
      rw [e1]
      have HU := Lib.hid hu
      have hpN : p < σ.N := by have := hr.1; omega
      have HSt := Lib.hid (fun (W : World) (A' : Nat → Ad) (hW : Hm W { P with A := A' } (setU σ p (some ⟨k, Os.tkL l⟩)) bs) => settle_any hW (p := p) (s := ⟨k, Os.tkL l⟩) (up_at _ _ _) hk hpN)
      clear h hi hS hc et e1 hpk hM hno hfr hu hO hr c0 c1
      go_enter Tryz.func29, Tryz.ntmps29
      go_wp2_with fail
      refine HIs.out.mono ?_
      rintro e w' ⟨rfl, rfl⟩
      go_wp2_with fail
      refine HRd.out.mono ?_
      rintro e w1 ⟨rfl, b1⟩
      have H1 := Lib.hid (HH.out.below b1)
      have B1 := Lib.hid b1
      have HTk := Lib.hid (slabTake_any H1.out HU.out)
      clear b1 HRd HIs HH
      go_wp2_with fail
      refine HTk.out.mono ?_
      rintro e w2 ⟨rfl, h2⟩
      obtain ⟨A', a1, a2, a3, a4⟩ := h2
      have HS2 := Lib.hid (HSt.out w2 A' a1)
      rw [show (({ P with A := A' } : Pl).A p).s = (P.A p).s from a4 p] at HS2
      have A2 := Lib.hid ((Fh.of (P := P) (U := σ.U) B1.out).trans a2 (Nw.refl _ _ _))
      have A3 := Lib.hid ((Nw.refl _ _ _).trans a3 B1.out.size)
      have A4 := Lib.hid a4
      clear a1 a2 a3 a4 HTk HSt
      go_wp2_with fail
      refine HS2.out.mono ?_
      rintro e w3 ⟨⟨v, rfl⟩, h3, f3⟩
      have L3 : Hid (Left P σ bs (takeAt σ p ⟨k, l⟩).σ w w3) := ⟨{ P with A := A' }, rfl, rfl, fun x _ => A4.out x, h3, A2.out.trans f3 A3.out, A3.out⟩
      clear h3 f3 HS2
      go_wp2_with fail
      go_ret2
      exact ⟨rfl, L3.out⟩
    | none =>
      have HRd := Lib.hid (ready_none h hi hk hpk hS)
      by_cases hE : (Gr.openO σ.L σ.f σ.t σ.S 4 4 0 k).e = 0
      · obtain ⟨u, e1, e2, e3, e4, ho, hR, _⟩ := hi.fresh hk hE
        have e5 : takeO σ k = takeAt (newS σ k) u ⟨k, Os.l0 k⟩ := by rw [et, hpk]; dsimp only; rw [if_pos hE, e1, Int.toNat_natCast]
        rw [e5]
        rw [hE, e1, Int.toNat_natCast] at HRd
        have hu2 : (newS σ k).U u = some ⟨k, Os.l0 k⟩ := by
          unfold newS; dsimp only; rw [e1, Int.toNat_natCast]; exact up_at _ _ _
        have HU := Lib.hid hu2
        have hpN : u < σ.N := by omega
        have hoh := Lib.hid ho
        have HSt := Lib.hid (fun (W : World) (P1 : Pl) (hW : Hm W P1 (setU (newS σ k) u (some ⟨k, Os.tkL (Os.l0 k)⟩)) bs) => settle_any hW (p := u) (s := ⟨k, Os.tkL (Os.l0 k)⟩) (up_at _ _ _) hk hpN)
        clear h hi hS hc et e1 hpk e2 e3 e4 hR c0 c1 e5 hE ho hu2 HH
        go_enter Tryz.func29, Tryz.ntmps29
        go_wp2_with fail
        refine HIs.out.mono ?_
        rintro e w' ⟨rfl, rfl⟩
        go_wp2_with fail
        refine HRd.out.mono ?_
        rintro e w1 (⟨hne, _⟩ | ⟨_, P1, rfl, p1, p2, p3, p4, p5, p6⟩)
        · exact absurd rfl hne
        have HTk := Lib.hid (slabTake_any p4 HU.out)
        have P3 := Lib.hid p3
        have P5 := Lib.hid p5
        have P6 := Lib.hid p6
        have P12 := Lib.hid (And.intro p1 p2)
        rw [← p1]
        clear p1 p2 p3 p4 p5 p6 HRd HIs
        go_wp2_with fail
        refine HTk.out.mono ?_
        rintro e w2 ⟨rfl, h2⟩
        obtain ⟨A', a1, a2, a3, a4⟩ := h2
        have HS2 := Lib.hid (HSt.out w2 { P1 with A := A' } a1)
        rw [show (({ P1 with A := A' } : Pl).A u).s = (P1.A u).s from a4 u] at HS2
        have A2 := Lib.hid (P5.out.trans a2 P6.out)
        have A3 := Lib.hid (P6.out.trans a3 P5.out.size)
        have A4 := Lib.hid a4
        clear a1 a2 a3 a4 HTk HSt
        go_wp2_with fail
        refine HS2.out.mono ?_
        rintro e w3 ⟨⟨v, rfl⟩, h3, f3⟩
        have L3 : Hid (Left P σ bs (takeAt (newS σ k) u ⟨k, Os.l0 k⟩).σ w w3) := ⟨{ P1 with A := A' }, P12.out.1, P12.out.2, fun x hx => (A4.out x).trans (P3.out x (fun e => hoh.out (e ▸ hx))), h3, A2.out.trans f3 A3.out, A3.out⟩
        clear h3 f3 HS2
        go_wp2_with fail
        go_ret2
        exact ⟨rfl, L3.out⟩
      · have e5 : takeO σ k = ⟨-1, (Gr.openO σ.L σ.f σ.t σ.S 4 4 0 k).e, σ⟩ := by rw [et, hpk]; dsimp only; rw [if_neg hE]
        rw [e5]
        have hEh := Lib.hid hE
        generalize (Gr.openO σ.L σ.f σ.t σ.S 4 4 0 k).e = E at *
        have dE : (E != 0) = true := by simpa using hE
        clear h hi hS hc et hpk c0 c1 e5 HH hE
        dsimp only
        go_enter Tryz.func29, Tryz.ntmps29
        go_wp2_with fail
        refine HIs.out.mono ?_
        rintro e w' ⟨rfl, rfl⟩
        go_wp2_with fail
        refine HRd.out.mono ?_
        rintro e w1 (⟨_, rfl, hl⟩ | ⟨he, _⟩)
        · have L := Lib.hid hl
          clear hl HRd
          go_wp2_with fail
          go_ret2
          exact ⟨rfl, L.out⟩
        · exact absurd he hEh.out
  · have hc' : classB c = false := by simpa using hc
    have e : takeO σ c = ⟨-1, 11, σ⟩ := by unfold takeO; rw [if_neg hc]
    rw [e]
    rw [hc'] at HIs
    clear h hi hS hc hc' e
    dsimp only
    go_enter Tryz.func29, Tryz.ntmps29
    go_wp2_with fail
    refine HIs.out.mono ?_
    rintro e w' ⟨rfl, rfl⟩
    go_wp2_with fail
    go_ret2
    exact ⟨rfl, Left.refl HH.out (Below.refl _ _)⟩
end
end Go.Proofs.YtckcgaliphpgeaaGreatDoor.He
