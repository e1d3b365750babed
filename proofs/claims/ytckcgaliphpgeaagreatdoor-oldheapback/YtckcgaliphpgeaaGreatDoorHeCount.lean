/-
  How many slots are taken, and how many states a book has, no program in sight: facts that the claimed proofs use.
-/
import Derived.Test.YtckcgaliphpgeaaGreatDoorHeA
namespace Go.Proofs.YtckcgaliphpgeaaGreatDoor.He
set_option maxRecDepth 100000
open Ri (up up_at up_far)
open Go.Proofs.YtckcgaliphpgeaaGreatDoor.Os (nS fr tkI tkL tkE tkV gvE gvI gvL l0)
open Ta (sizeOf' classB)
open Bi (sets bt tst)

def cnt : Option Sb → Nat
  | some s => (sets s.l).length
  | none => 0
def tot (U : Nat → Option Sb) : Nat → Nat
  | 0 => 0
  | n + 1 => tot U n + cnt (U n)
theorem tot_same {U U' : Nat → Option Sb} : ∀ {n : Nat}, (∀ p, p < n → U' p = U p) → tot U' n = tot U n
  | 0, _ => rfl
  | n + 1, h => by unfold tot; rw [tot_same (n := n) (fun p hp => h p (by omega)), h n (by omega)]
theorem tot_up {U : Nat → Option Sb} {p : Nat} {s : Option Sb} : ∀ {n : Nat}, p < n → tot (up U p s) n + cnt (U p) = tot U n + cnt s
  | 0, h => by omega
  | n + 1, h => by
    unfold tot
    by_cases e : p = n
    · subst e
      rw [up_at, tot_same (U := U) (n := p) (fun q hq => up_far (by omega))]
      omega
    · rw [up_far (fun h => e h.symm)]
      have := tot_up (U := U) (p := p) (s := s) (n := n) (by omega)
      omega
theorem tot_le {U : Nat → Option Sb} (h : ∀ p s, U p = some s → s.l.length ≤ 64) : ∀ n, tot U n ≤ 64 * n
  | 0 => Nat.le_refl _
  | n + 1 => by
    have := tot_le h n
    unfold tot
    have h2 : cnt (U n) ≤ 64 := by
      cases hu : U n with
      | none => exact Nat.zero_le _
      | some s => exact Nat.le_trans (Bi.sets_length_le s.l) (h n s hu)
    omega
section
variable {σ : St}
theorem HI.len64 (h : HI σ) {p : Nat} {s : Sb} (hp : σ.U p = some s) : 2 ≤ s.l.length ∧ s.l.length ≤ 64 := by
  have hr := h.g.reg p s hp
  have := Os.cls (Ta.classB_iff.2 (by omega : 0 ≤ (s.c : Int) ∧ (s.c : Int) < 16))
  rw [hr.2.2.2]; exact ⟨this.2.2.1, this.2.2.2.1⟩
theorem HI.tot_le (h : HI σ) : tot σ.U σ.N ≤ 64 * σ.N := He.tot_le (fun _ _ hp => (h.len64 hp).2) _
/-- What taking does to a slab that has a free slot. -/
theorem tk_count {l : List Bool} (h : fr l ≠ 0) : (sets (tkL l)).length = (sets l).length + 1 ∧ tkE l = 0 := by
  have hz : ¬ tkI l < 0 := fun hh => h (Os.fr_zero.2 hh)
  obtain ⟨k, _, hk, hb, _, e, e0, _, _⟩ := Os.tk_yes hz
  have := Os.sets_set hk true
  rw [hb] at this
  simp only [Bool.false_eq_true, if_false, if_true] at this
  rw [e]
  exact ⟨by omega, e0⟩
theorem fr_l0 {c : Int} (hc : classB c = true) : fr (l0 c) ≠ 0 := by
  intro h
  have hcl := Os.cls hc
  have hz := Os.fr_zero.1 h
  rcases Os.tk_is (l0 c) with ⟨_, h1⟩ | ⟨j, h1, _⟩
  · have := h1 0 (by rw [Os.l0_len]; omega)
    unfold l0 Bi.bt at this
    rw [List.getD_eq_getElem?_getD, List.getElem?_replicate, if_pos (by omega)] at this
    cases this
  · omega
theorem sets_l0 (c : Int) : sets (l0 c) = [] := by
  refine Bi.on_none (fun j hj => ?_)
  unfold l0 Bi.bt
  rw [List.getD_eq_getElem?_getD, List.getElem?_replicate]
  split <;> rfl
/-- What a Take that answers OK has done. -/
structure Took (σ : St) (c : Int) : Prop where
  cls : classB c = true
  ok : ∃ (p : Nat) (s : Sb) (σ1 : St), takeO σ c = takeAt σ1 p s ∧ s.c = c.toNat ∧ fr s.l ≠ 0 ∧ p < σ.N ∧ σ1.N = σ.N ∧ σ1.O = σ.O ∧ σ1.R = σ.R ∧ (σ1 = σ ∧ σ.M p = some s ∧ p ∉ σ.R (4 * s.c + 3) ∨ σ.U p = none ∧ σ1 = setU (setG σ (Gr.openO σ.L σ.f σ.t σ.S 4 4 0 s.c)) p (some s) ∧ s.l = l0 c ∧ (Gr.openO σ.L σ.f σ.t σ.S 4 4 0 s.c).e = 0 ∧ (Gr.openO σ.L σ.f σ.t σ.S 4 4 0 s.c).v = p ∧ pick σ.R s.c = none)
theorem took (h : HI σ) {c : Int} (he : (takeO σ c).e = 0) : Took σ c := by
  unfold takeO at he
  split at he
  · rename_i hc
    obtain ⟨c0, c1⟩ := Ta.classB_iff.1 hc
    refine ⟨hc, ?_⟩
    unfold takeO
    rw [if_pos hc]
    cases hp : pick σ.R c.toNat with
    | some p =>
      obtain ⟨l, hs, hno, hfr⟩ := h.pick hp
      dsimp only
      rw [(h.u hs).1]
      exact ⟨p, ⟨c.toNat, l⟩, σ, rfl, rfl, hfr, by have := (h.reg hs).1; omega, rfl, rfl, rfl, .inl ⟨rfl, hs, hno⟩⟩
    | none =>
      rw [hp] at he
      dsimp only at he ⊢
      split at he
      · rename_i hE
        rw [if_pos hE]
        obtain ⟨u, e1, e2, e3, _, _, _, _⟩ := h.fresh (c := c.toNat) (by omega) hE
        have en : newS σ c.toNat = setU (setG σ (Gr.openO σ.L σ.f σ.t σ.S 4 4 0 c.toNat)) u (some ⟨c.toNat, l0 c.toNat⟩) := by
          unfold newS; dsimp only; rw [e1, Int.toNat_natCast]
        have ec : ((c.toNat : Nat) : Int) = c := by omega
        refine ⟨u, ⟨c.toNat, l0 c.toNat⟩, newS σ c.toNat, by rw [e1, Int.toNat_natCast], rfl, fr_l0 (by rw [ec]; exact hc), by omega, rfl, rfl, rfl, .inr ⟨e2, en, by rw [ec], hE, e1, hp⟩⟩
      · rename_i hE; exact absurd he hE
  · exact absurd (show (11 : Int) = 0 from he) (by decide)
theorem take_not (h : HI σ) {c : Int} (he : (takeO σ c).e ≠ 0) : (takeO σ c).σ = σ := by
  unfold takeO at he ⊢
  split at he
  · rename_i hc
    obtain ⟨c0, c1⟩ := Ta.classB_iff.1 hc
    rw [if_pos hc]
    cases hp : pick σ.R c.toNat with
    | some p =>
      obtain ⟨l, hs, hno, hfr⟩ := h.pick hp
      rw [hp] at he
      dsimp only at he ⊢
      rw [(h.u hs).1] at he ⊢
      exact absurd (tk_count hfr).2 he
    | none =>
      rw [hp] at he
      dsimp only at he ⊢
      split at he
      · rename_i hE
        have ec : ((c.toNat : Nat) : Int) = c := by omega
        exact absurd (tk_count (fr_l0 (c := (c.toNat : Int)) (by rw [ec]; exact hc))).2 he
      · rename_i hE; rw [if_neg hE]
  · rename_i hc; rw [if_neg hc]
theorem take_N (σ : St) (c : Int) : (takeO σ c).σ.N = σ.N ∧ (takeO σ c).σ.O = σ.O := by
  unfold takeO
  split
  · split
    · split
      · exact ⟨rfl, rfl⟩
      · exact ⟨rfl, rfl⟩
    · dsimp only
      split
      · exact ⟨rfl, rfl⟩
      · exact ⟨rfl, rfl⟩
  · exact ⟨rfl, rfl⟩
theorem take_tot (h : HI σ) {c : Int} (he : (takeO σ c).e = 0) : tot (takeO σ c).σ.U σ.N = tot σ.U σ.N + 1 := by
  obtain ⟨_, p, s, σ1, e, _, hfr, hpN, _, _, _, hh⟩ := took h he
  rw [e]
  unfold takeAt
  change tot (up σ1.U p (some ⟨s.c, tkL s.l⟩)) σ.N = _
  have hc := (tk_count hfr).1
  rcases hh with ⟨rfl, hM, _⟩ | ⟨hu, rfl, hl, _, _, _⟩
  · have hu := (M_some hM).2
    have := tot_up (U := σ1.U) (p := p) (s := some ⟨s.c, tkL s.l⟩) hpN
    rw [hu] at this
    simp only [cnt] at this
    omega
  · change tot (up (up σ.U p (some s)) p (some ⟨s.c, tkL s.l⟩)) σ.N = _
    rw [up_up]
    have := tot_up (U := σ.U) (p := p) (s := some ⟨s.c, tkL s.l⟩) hpN
    rw [hu] at this
    have h0 : (sets s.l).length = 0 := by rw [hl, sets_l0]; rfl
    simp only [cnt] at this
    omega
end
/-! ### How many states a book has -/
theorem openO_S (L : List Sp.Rn) (f : Ra.Ws) (t : Int) (S : List Le.Row) (n a v c : Int) : (Gr.openO L f t S n a v c).S.length ≤ S.length + 1 := by
  unfold Gr.openO
  split
  · split
    · simp
    · simp
  · simp
theorem closeO_S (L : List Sp.Rn) (f : Ra.Ws) (t : Int) (S : List Le.Row) (x : Int) : (Gr.closeO L f t S x).S.length ≤ S.length + 1 := by
  unfold Gr.closeO
  split <;> simp
theorem markO_S (L : List Sp.Rn) (f : Ra.Ws) (t : Int) (S : List Le.Row) (x v c s : Int) : (Gr.markO L f t S x v c s).S.length ≤ S.length + 1 := by
  unfold Gr.markO
  split
  · split
    · simp
    · simp
  · simp
theorem take_S (σ : St) (c : Int) : (takeO σ c).σ.S.length ≤ σ.S.length + 1 := by
  unfold takeO
  split
  · split
    · split
      · exact Nat.le_succ _
      · exact Nat.le_succ _
    · dsimp only
      split
      · exact openO_S ..
      · exact Nat.le_succ _
  · exact Nat.le_succ _
theorem close_S (σ : St) (p : Nat) : (closeS σ p).S.length ≤ σ.S.length + 1 := closeO_S ..
theorem giveAt_S (σ : St) (p : Nat) (s : Sb) (x : Int) : (giveAt σ p s x).σ.S.length ≤ σ.S.length + 1 := by
  unfold giveAt
  dsimp only
  split
  · exact Nat.le_succ _
  · split
    · exact closeO_S ..
    · split
      · exact Nat.le_succ _
      · exact Nat.le_succ _
theorem give_S (σ : St) (x : Int) : (giveO σ x).σ.S.length ≤ σ.S.length + 1 := by
  unfold giveO
  split
  · exact Nat.le_succ _
  · split
    · exact giveAt_S ..
    · exact Nat.le_succ _
theorem seal_S (σ : St) (x : Int) : (sealO σ x).σ.S.length ≤ σ.S.length + 1 := by
  unfold sealO
  split
  · exact Nat.le_succ _
  · split
    · exact Nat.le_succ _
    · split
      · exact closeO_S ..
      · exact markO_S ..
theorem unseal_S (σ : St) (x : Int) : (unsealO σ x).σ.S.length ≤ σ.S.length + 1 := by
  unfold unsealO
  split
  · exact Nat.le_succ _
  · split
    · exact markO_S ..
    · exact Nat.le_succ _
theorem leave_S (σ : St) (x : Int) : (leaveO σ x).σ.S.length ≤ σ.S.length + 1 := by
  unfold leaveO
  split
  · exact Nat.le_succ _
  · exact Nat.le_succ _
theorem join_S (σ : St) (p : Nat) (s : Sb) : (joinO σ p s).S.length ≤ σ.S.length + 1 := markO_S ..
theorem close_N (σ : St) (p : Nat) : (closeS σ p).N = σ.N := rfl
theorem give_N (σ : St) (x : Int) : (giveO σ x).σ.N = σ.N ∧ (giveO σ x).σ.O = σ.O := by
  unfold giveO
  split
  · exact ⟨rfl, rfl⟩
  · split
    · unfold giveAt
      dsimp only
      split
      · exact ⟨rfl, rfl⟩
      · split
        · exact ⟨rfl, rfl⟩
        · split
          · exact ⟨rfl, rfl⟩
          · exact ⟨rfl, rfl⟩
    · exact ⟨rfl, rfl⟩
theorem seal_N (σ : St) (x : Int) : (sealO σ x).σ.N = σ.N ∧ (sealO σ x).σ.O = σ.O := by
  unfold sealO
  split
  · exact ⟨rfl, rfl⟩
  · split
    · exact ⟨rfl, rfl⟩
    · split
      · exact ⟨rfl, rfl⟩
      · exact ⟨rfl, rfl⟩
theorem unseal_N (σ : St) (x : Int) : (unsealO σ x).σ.N = σ.N ∧ (unsealO σ x).σ.O = σ.O := by
  unfold unsealO
  split
  · exact ⟨rfl, rfl⟩
  · split
    · exact ⟨rfl, rfl⟩
    · exact ⟨rfl, rfl⟩
/-! ### Some -/
def someGo (σ : St) (c : Int) : Nat → List Int × St
  | 0 => ([], σ)
  | m + 1 => if (takeO σ c).e = 0 then ((takeO σ c).v :: (someGo (takeO σ c).σ c m).1, (someGo (takeO σ c).σ c m).2) else ([], (takeO σ c).σ)
structure An3 where
  l : List Int
  e : Int
  σ : St
def someO (σ : St) (c n : Int) : An3 :=
  if n < 1 then ⟨[], 11, σ⟩ else if (takeO σ c).e ≠ 0 then ⟨[], (takeO σ c).e, (takeO σ c).σ⟩ else ⟨(someGo σ c n.toNat).1, 0, (someGo σ c n.toNat).2⟩
theorem someGo_keep : ∀ {m : Nat} {σ : St} {c : Int}, HI σ → HI (someGo σ c m).2 ∧ (someGo σ c m).2.N = σ.N ∧ (someGo σ c m).2.O = σ.O ∧ tot (someGo σ c m).2.U σ.N = tot σ.U σ.N + (someGo σ c m).1.length ∧ (someGo σ c m).2.S.length ≤ σ.S.length + (someGo σ c m).1.length + 1
  | 0, σ, c, h => ⟨h, rfl, rfl, rfl, Nat.le_succ _⟩
  | m + 1, σ, c, h => by
    unfold someGo
    by_cases he : (takeO σ c).e = 0
    · rw [if_pos he]
      have hk := take_keep h c
      obtain ⟨n1, n2⟩ := take_N σ c
      obtain ⟨a1, a2, a3, a4, a5⟩ := someGo_keep (m := m) (c := c) hk
      have hS := take_S σ c
      have ht := take_tot h he
      refine ⟨a1, a2.trans n1, a3.trans n2, ?_, ?_⟩
      · dsimp only
        rw [n1] at a4
        rw [a4, ht]; simp; omega
      · dsimp only; simp; omega
    · rw [if_neg he]
      rw [take_not h he]
      exact ⟨h, rfl, rfl, rfl, Nat.le_succ _⟩
theorem some_keep {σ : St} (h : HI σ) (c n : Int) : HI (someO σ c n).σ ∧ (someO σ c n).σ.N = σ.N ∧ (someO σ c n).σ.O = σ.O ∧ (someO σ c n).l.length ≤ 64 * σ.N ∧ (someO σ c n).σ.S.length ≤ σ.S.length + 64 * σ.N + 1 := by
  unfold someO
  split
  · exact ⟨h, rfl, rfl, Nat.zero_le _, by dsimp only; omega⟩
  · split
    · rename_i he
      rw [take_not h he]
      exact ⟨h, rfl, rfl, Nat.zero_le _, by dsimp only; omega⟩
    · obtain ⟨a1, a2, a3, a4, a5⟩ := someGo_keep (m := n.toNat) (c := c) h
      have h1 := a1.tot_le
      rw [a2] at h1
      exact ⟨a1, a2, a3, by dsimp only; omega, by dsimp only; omega⟩
end Go.Proofs.YtckcgaliphpgeaaGreatDoor.He
