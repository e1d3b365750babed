/-
  Of each class at most one empty slab, and no page of another version: what the calls 0 to 4 keep, no program in sight: facts that the claimed proofs use.
-/
import Derived.Test.YtckcgaliphpgeaaGreatDoorHeCount
namespace Go.Proofs.YtckcgaliphpgeaaGreatDoor.He
set_option maxRecDepth 100000
open Ri (up up_at up_far)
open Go.Proofs.YtckcgaliphpgeaaGreatDoor.Os (nS fr tkI tkL tkE tkV gvE gvI gvL l0)
open Ta (sizeOf' classB)
open Bi (sets)

theorem rem_le (R : Nat → List Nat) (p i : Nat) : (remR R p i).length ≤ (R i).length := by
  unfold remR
  rw [List.length_erase]
  split <;> omega
theorem front_off {R : Nat → List Nat} {p i j : Nat} (h : j ≠ i) : (frontR R p i j).length ≤ (R j).length := by
  unfold frontR
  rw [up_far h]
  exact rem_le R p j
theorem settle_off {R : Nat → List Nat} {p i j : Nat} (h : j ≠ i) : (settleR R p i j).length ≤ (R j).length := by
  unfold settleR
  split
  · exact Nat.le_refl _
  · exact front_off h
theorem front_new {R : Nat → List Nat} {p i : Nat} (h : R i = []) : (frontR R p i i).length ≤ 1 := by
  unfold frontR
  rw [up_at, List.length_cons]
  have := rem_le R p i
  rw [h] at this
  simp only [List.length_nil] at this
  omega
theorem settle_new {R : Nat → List Nat} {p i : Nat} (h : R i = []) : (settleR R p i i).length ≤ 1 := by
  unfold settleR
  split
  · rw [h]; simp
  · exact front_new h
/-- A heap to which only calls 0 to 4 were made. -/
structure BK (σ : St) : Prop where
  o : σ.O = []
  one : ∀ c, (σ.R (4 * c + 2)).length ≤ 1
  v : ∀ y : Nat, y < σ.N → σ.f y ≠ 0 → Ra.verOf (σ.f y) = 0
theorem lst_take {l : List Bool} (h : fr l ≠ 0) : lst (tkL l) ≠ 2 := by
  have hz : ¬ tkI l < 0 := fun hh => h (Os.fr_zero.2 hh)
  obtain ⟨k, _, hk, hb, _, e, _, _, _⟩ := Os.tk_yes hz
  have := tk_count h
  have e2 := Os.tkL_len l
  unfold lst
  split
  · rename_i h1
    exfalso
    unfold Os.fr at h1
    omega
  · split <;> omega
section
variable {σ : St}
theorem BK.settle (h : BK σ) {p i : Nat} {s : Option Sb} (hi : i % 4 ≠ 2) : BK (setR (setU σ p s) (settleR σ.R p i)) :=
  ⟨h.o, fun c => Nat.le_trans (settle_off (by omega)) (h.one c), h.v⟩
theorem BK.setU (h : BK σ) (p : Nat) (s : Option Sb) : BK (He.setU σ p s) := ⟨h.o, h.one, h.v⟩
theorem BK.opened (h : BK σ) (hi : HI σ) {c : Nat} (hc : c < 16) (he : (Gr.openO σ.L σ.f σ.t σ.S 4 4 0 c).e = 0) : BK (setG σ (Gr.openO σ.L σ.f σ.t σ.S 4 4 0 c)) := by
  obtain ⟨u, m, _, _, _, hN, _, _, _, _, _, _, ef, _⟩ := open_yes hi.g.gi he
  refine ⟨h.o, h.one, fun y hy h0 => ?_⟩
  change (Gr.openO σ.L σ.f σ.t σ.S 4 4 0 c).f y ≠ 0 at h0
  change Ra.verOf ((Gr.openO σ.L σ.f σ.t σ.S 4 4 0 c).f y) = 0
  rw [ef] at h0 ⊢
  have hok : Ra.okB u 0 c 0 = true := Ra.okB_iff.2 (by have := hi.g.gi.n1; omega)
  obtain ⟨_, w2, _, _⟩ := Ra.wd_parts (t := Ra.nx σ.t) hok
  by_cases hh : u ≤ y ∧ y < u + m
  · rw [Gr.fill_at _ hh.1 hh.2]; exact w2
  · rw [Gr.fill_far _ hh] at h0 ⊢; exact h.v y hy h0
theorem BK.close (h : BK σ) (hi : HI σ) {p : Nat} {s : Sb} (hp : σ.M p = some s) : BK (closeS σ p) := by
  obtain ⟨_, _, _, _, _, ef, _⟩ := hi.g.closed (t := σ.t) (hi.u hp).1
  refine ⟨h.o, fun c => Nat.le_trans (rem_le _ _ _) (h.one c), fun y hy h0 => ?_⟩
  change (Gr.closeO σ.L σ.f σ.t σ.S p).f y ≠ 0 at h0
  change Ra.verOf ((Gr.closeO σ.L σ.f σ.t σ.S p).f y) = 0
  rw [ef] at h0 ⊢
  by_cases hh : p ≤ y ∧ y < p + 4
  · rw [Gr.fill_at _ hh.1 hh.2] at h0; exact absurd rfl h0
  · rw [Gr.fill_far _ hh] at h0 ⊢; exact h.v y hy h0
theorem BK.mark (h : BK σ) (hi : HI σ) {p i : Nat} {s : Sb} {z : Int} (hp : σ.M p = some s) (hz : 0 ≤ z ∧ z ≤ 1) (R' : Nat → List Nat) (hR : ∀ c, (R' (4 * c + 2)).length ≤ 1) : BK (setG (setR σ R') (Gr.markO σ.L σ.f σ.t σ.S p 0 s.c z)) := by
  obtain ⟨hx, hv⟩ := hi.g.span (hi.u hp).1
  have hr := hi.reg hp
  have hm : Gr.mayB 0 s.c z = true := Gr.mayB_iff.2 (by omega)
  have ef : (Gr.markO σ.L σ.f σ.t σ.S p 0 s.c z).f = Ra.fill σ.f p 4 (Ra.wd p 0 s.c z (Ra.nx σ.t)) := by
    unfold Gr.markO; rw [if_pos hx, if_pos hm, hv]; rfl
  have hok : Ra.okB p 0 s.c z = true := Ra.okB_iff.2 (by have := hi.g.gi.n1; omega)
  obtain ⟨_, w2, _, _⟩ := Ra.wd_parts (t := Ra.nx σ.t) hok
  refine ⟨h.o, hR, fun y hy h0 => ?_⟩
  change (Gr.markO σ.L σ.f σ.t σ.S p 0 s.c z).f y ≠ 0 at h0
  change Ra.verOf ((Gr.markO σ.L σ.f σ.t σ.S p 0 s.c z).f y) = 0
  rw [ef] at h0 ⊢
  by_cases hh : p ≤ y ∧ y < p + 4
  · rw [Gr.fill_at _ hh.1 hh.2]; exact w2
  · rw [Gr.fill_far _ hh] at h0 ⊢; exact h.v y hy h0
theorem BK.take (h : BK σ) (hi : HI σ) (c : Int) : BK (takeO σ c).σ := by
  by_cases he : (takeO σ c).e = 0
  · obtain ⟨p, s, σ1, e1, ec, hfr, _, _, _, eR, hcase⟩ := (took hi he).ok
    obtain ⟨c0, c1⟩ := Ta.classB_iff.1 (took hi he).cls
    rw [e1]
    have hl := lst_take hfr
    have hl2 := lst_le (tkL s.l)
    have h1 : BK σ1 := by
      rcases hcase with ⟨rfl, _⟩ | ⟨_, rfl, _, hE, _⟩
      · exact h
      · exact (h.opened hi (by omega) hE).setU p _
    exact h1.settle (by omega)
  · rw [take_not hi he]; exact h
theorem BK.give (h : BK σ) (hi : HI σ) (x : Int) : BK (giveO σ x).σ := by
  unfold giveO
  cases ha : around σ x with
  | none => exact h
  | some p =>
    obtain ⟨s, hs, _, _⟩ := around_some ha
    dsimp only
    rw [(hi.u hs).1]
    dsimp only
    unfold giveAt
    dsimp only
    split
    · exact h
    · split
      · rw [closeS_set]; exact h.close hi hs
      · rename_i hcl
        split
        · exact h.setU p _
        · have hl2 := lst_le (gvL (256 * p) (sizeOf' s.c) s.l x)
          refine ⟨h.o, fun c => ?_, h.v⟩
          by_cases e : 4 * c + 2 = 4 * s.c + lst (gvL (256 * p) (sizeOf' s.c) s.l x)
          · have e2 : lst (gvL (256 * p) (sizeOf' s.c) s.l x) = 2 := by omega
            have e3 : σ.R (4 * s.c + 2) = [] := Classical.byContradiction fun hh => hcl ⟨e2, .inr hh⟩
            change (settleR σ.R p _ (4 * c + 2)).length ≤ 1
            rw [e, e2]
            exact settle_new e3
          · exact Nat.le_trans (settle_off e) (h.one c)
theorem BK.shut (h : BK σ) (hi : HI σ) (x : Int) : BK (sealO σ x).σ := by
  unfold sealO
  cases ha : atI σ x with
  | none => exact h
  | some s =>
    obtain ⟨p, rfl, hp⟩ := atI_some ha
    dsimp only
    rw [Int.toNat_natCast]
    split
    · exact h
    · split
      · exact h.close hi hp
      · exact h.mark hi (i := 0) hp (by omega) _ (fun c => Nat.le_trans (front_off (by omega)) (h.one c))
theorem BK.unshut (h : BK σ) (hi : HI σ) (x : Int) : BK (unsealO σ x).σ := by
  unfold unsealO
  cases ha : atI σ x with
  | none => exact h
  | some s =>
    obtain ⟨p, rfl, hp⟩ := atI_some ha
    dsimp only
    rw [Int.toNat_natCast]
    split
    · rename_i hse
      have hse' := has_iff.1 hse
      have hl2 := lst_le s.l
      have hl : lst s.l ≠ 2 := by
        rcases hi.l.stand p s hp with ⟨_, h2⟩ | h1
        · exact h2
        · have := hi.l.good.apart _ _ p h1 hse'; omega
      exact h.mark hi (i := 0) hp (by omega) _ (fun c => Nat.le_trans (settle_off (by omega)) (h.one c))
    · exact h
theorem someGo_bk : ∀ {m : Nat} {σ : St} {c : Int}, HI σ → BK σ → BK (someGo σ c m).2
  | 0, _, _, _, hb => hb
  | m + 1, σ, c, hi, hb => by
    unfold someGo
    split
    · exact someGo_bk (take_keep hi c) (hb.take hi c)
    · exact hb.take hi c
theorem BK.some (h : BK σ) (hi : HI σ) (c n : Int) : BK (someO σ c n).σ := by
  unfold someO
  split
  · exact h
  · split
    · exact h.take hi c
    · exact someGo_bk hi h
end
end Go.Proofs.YtckcgaliphpgeaaGreatDoor.He
