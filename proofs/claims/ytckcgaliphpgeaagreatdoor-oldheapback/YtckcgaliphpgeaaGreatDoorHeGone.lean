/-
  Taken slots, one by one, and what is left when none is, no program in sight: facts that the claimed proofs use.
-/
import Derived.Test.YtckcgaliphpgeaaGreatDoorHeTaken
import Derived.Test.YtckcgaliphpgeaaGreatDoorHeOne
import Derived.Test.YtckcgaliphpgeaaGreatDoorGrSum
namespace Go.Proofs.YtckcgaliphpgeaaGreatDoor.He
set_option maxRecDepth 100000
open Ri (up up_at up_far)
open Go.Proofs.YtckcgaliphpgeaaGreatDoor.Os (nS fr tkI tkL tkE tkV gvE gvI gvL l0)
open Ta (sizeOf' classB)
open Bi (sets bt)

section
variable {σ : St}
theorem HI.geo (h : HI σ) {p : Nat} {s : Sb} (hp : σ.M p = some s) : 16 ≤ sizeOf' s.c ∧ (s.l.length : Int) * sizeOf' s.c ≤ 1024 ∧ s.l.length ≤ 64 := by
  obtain ⟨_, _, h3, h4⟩ := h.reg hp
  obtain ⟨a, _, _, b, d, _, _⟩ := Os.cls (c := (s.c : Int)) (Ta.classB_iff.2 (by omega))
  rw [h4]; exact ⟨a, d, b⟩
theorem HI.pages_in (h : HI σ) {p : Nat} : p ∈ pagesO σ ↔ ∃ s, σ.M p = some s := pagesO_mem (fun p s hs => by have := (h.reg hs).1; omega)
theorem mem_sets {l : List Bool} {k : Nat} : k ∈ sets l ↔ k < l.length ∧ bt l k = true := Bi.mem_on
theorem HI.taken_in (h : HI σ) {y : Int} : y ∈ takenO σ ↔ ∃ (p : Nat) (s : Sb) (k : Nat), σ.M p = some s ∧ k < s.l.length ∧ bt s.l k = true ∧ y = 256 * (p : Int) + k * sizeOf' s.c := by
  unfold takenO
  rw [List.mem_flatMap]
  constructor
  · rintro ⟨p, hp, hy⟩
    obtain ⟨s, hs⟩ := h.pages_in.1 hp
    unfold tkP at hy
    rw [(h.u hs).1] at hy
    unfold addrs at hy
    obtain ⟨k, hk, e⟩ := List.mem_map.1 hy
    exact ⟨p, s, k, hs, (mem_sets.1 hk).1, (mem_sets.1 hk).2, e.symm⟩
  · rintro ⟨p, s, k, hs, hk, hb, e⟩
    refine ⟨p, h.pages_in.2 ⟨s, hs⟩, ?_⟩
    unfold tkP
    rw [(h.u hs).1]
    exact List.mem_map.2 ⟨k, mem_sets.2 ⟨hk, hb⟩, e.symm⟩
/-- An address of a slot is around its slab. -/
theorem HI.around_at (h : HI σ) {p k : Nat} {s : Sb} (hp : σ.M p = some s) (hk : k < s.l.length) : around σ (256 * (p : Int) + k * sizeOf' s.c) = some p := by
  obtain ⟨g1, g2, _⟩ := h.geo hp
  obtain ⟨r1, r2, _, _⟩ := h.reg hp
  have h0 : 0 ≤ (k : Int) * sizeOf' s.c := Int.mul_nonneg (by omega) (by omega)
  have h1 : ((k : Int) + 1) * sizeOf' s.c ≤ (s.l.length : Int) * sizeOf' s.c := Int.mul_le_mul_of_nonneg_right (by omega) (by omega)
  rw [Int.add_mul] at h1
  generalize (k : Int) * sizeOf' s.c = m at h0 h1 ⊢
  obtain ⟨y, hy⟩ : ∃ y : Nat, (256 * (p : Int) + m) / 256 = y := ⟨((256 * (p : Int) + m) / 256).toNat, by omega⟩
  have y1 : p ≤ y := by omega
  have y2 : y < p + 4 := by omega
  have hw := h.g.words (h.u hp).1 y1 y2
  have hfp := (h.g.wrd p s (h.u hp).1).1
  obtain ⟨a, a1, a2, _, _⟩ := h.g.at_ (y := y) (by omega) (by rw [hw.1]; exact hfp)
  have ea : a = p := by have := hw.2; omega
  subst ea
  have hW : Ra.wAt σ.N σ.f ((256 * (a : Int) + m) / 256) = σ.f y := by
    rw [hy]
    exact Ra.wAt_in (by omega)
  unfold around
  dsimp only
  rw [hW, if_neg (by rw [hw.1]; exact hfp), a2, Int.toNat_natCast, if_pos (by rw [hp]; rfl)]
theorem bt_set {l : List Bool} {k j : Nat} (hk : k < l.length) : bt (l.set k false) j = if j = k then false else bt l j := by
  unfold Bi.bt
  rw [List.getD_eq_getElem?_getD, List.getD_eq_getElem?_getD, List.getElem?_set]
  by_cases e : k = j
  · subst e
    rw [if_pos rfl, if_pos rfl, if_pos hk]; rfl
  · rw [if_neg e, if_neg (fun hh => e hh.symm)]
theorem lst_two {l : List Bool} : lst l = 2 ↔ sets l = [] := by
  have := Os.sets_count l
  have hc := List.count_le_length (a := true) (l := l)
  unfold lst Os.fr
  constructor
  · intro h
    split at h
    · have : (sets l).length = 0 := by omega
      exact List.length_eq_zero_iff.1 this
    · split at h <;> omega
  · intro h
    rw [h]
    simp
/-- What giving a taken slot back does. -/
structure Gave (σ : St) (p : Nat) (s : Sb) (k : Nat) (σ' : St) : Prop where
  far : ∀ q, q ≠ p → σ'.M q = σ.M q
  at_ : σ'.M p = some ⟨s.c, s.l.set k false⟩ ∨ (σ'.M p = none ∧ sets (s.l.set k false) = [])
theorem HI.gave (h : HI σ) {p k : Nat} {s : Sb} (hp : σ.M p = some s) (hk : k < s.l.length) (hb : bt s.l k = true) : (giveO σ (256 * (p : Int) + k * sizeOf' s.c)).e = 0 ∧ Gave σ p s k (giveO σ (256 * (p : Int) + k * sizeOf' s.c)).σ := by
  obtain ⟨g1, g2, _⟩ := h.geo hp
  obtain ⟨hu, ho⟩ := h.u hp
  have hI : gvI (256 * (p : Int)) (sizeOf' s.c) s.l (256 * (p : Int) + k * sizeOf' s.c) = k := Os.slot_at (by omega) hk
  have hE : gvE (256 * (p : Int)) (sizeOf' s.c) s.l (256 * (p : Int) + k * sizeOf' s.c) = 0 := by
    unfold gvE
    rw [hI, if_neg (by omega), Bi.tst_nat]
    rw [if_neg (by have := hb; unfold Bi.bt at this; rw [this]; decide)]
  have hL : gvL (256 * (p : Int)) (sizeOf' s.c) s.l (256 * (p : Int) + k * sizeOf' s.c) = s.l.set k false := by
    unfold gvL
    rw [if_pos hE, hI]
    exact Os.setL_nat hk false
  have eM : ∀ (U : Nat → Option Sb) q, q ≠ p → He.M (up σ.U p none) σ.O q = σ.M q := fun _ q hq => M_same (up_far hq) Iff.rfl
  have eM' : ∀ (z : Option Sb) q, q ≠ p → He.M (up σ.U p z) σ.O q = σ.M q := fun z q hq => M_same (up_far hq) Iff.rfl
  have eP : ∀ (z : Option Sb), He.M (up σ.U p z) σ.O p = z := fun z => (M_off ho).trans (up_at _ _ _)
  unfold giveO
  rw [h.around_at hp hk]
  dsimp only
  rw [hu]
  dsimp only
  unfold giveAt
  dsimp only
  rw [hE, hL, if_neg (by decide)]
  split
  · rename_i hc
    refine ⟨rfl, ⟨fun q hq => ?_, .inr ⟨?_, lst_two.1 hc.1⟩⟩⟩
    · rw [closeS_set]; exact eM' none q hq
    · rw [closeS_set]; exact eP none
  · split
    · exact ⟨rfl, ⟨fun q hq => eM' _ q hq, .inl (eP _)⟩⟩
    · exact ⟨rfl, ⟨fun q hq => eM' _ q hq, .inl (eP _)⟩⟩
/-- A taken slot is given back, and no other. -/
theorem HI.back (h : HI σ) {x : Int} (hx : x ∈ takenO σ) : (giveO σ x).e = 0 ∧ ∀ y, y ∈ takenO (giveO σ x).σ ↔ y ∈ takenO σ ∧ y ≠ x := by
  obtain ⟨p, s, k, hp, hk, hb, rfl⟩ := h.taken_in.1 hx
  obtain ⟨he, hg⟩ := h.gave hp hk hb
  refine ⟨he, fun y => ?_⟩
  rw [(give_keep h _).taken_in, h.taken_in]
  obtain ⟨g1, _, _⟩ := h.geo hp
  constructor
  · rintro ⟨q, t, j, hq, hj, hbj, rfl⟩
    by_cases e : q = p
    · subst e
      rcases hg.at_ with e1 | ⟨e1, _⟩
      · rw [e1] at hq; cases hq
        rw [List.length_set] at hj
        rw [bt_set hk] at hbj
        by_cases ej : j = k
        · rw [if_pos ej] at hbj; cases hbj
        · rw [if_neg ej] at hbj
          refine ⟨⟨q, s, j, hp, hj, hbj, rfl⟩, fun hh => ej ?_⟩
          have : (j : Int) * sizeOf' s.c = k * sizeOf' s.c := by dsimp only at hh; omega
          have := Int.eq_of_mul_eq_mul_right (by omega) this
          omega
      · rw [e1] at hq; cases hq
    · rw [hg.far q e] at hq
      refine ⟨⟨q, t, j, hq, hj, hbj, rfl⟩, fun hh => e ?_⟩
      have e1 := h.around_at hq hj
      rw [hh, h.around_at hp hk] at e1
      cases e1; rfl
  · rintro ⟨⟨q, t, j, hq, hj, hbj, rfl⟩, hne⟩
    by_cases e : q = p
    · subst e
      rw [hp] at hq; cases hq
      have ej : j ≠ k := fun ej => hne (by rw [ej])
      have hb2 : bt (s.l.set k false) j = true := by rw [bt_set hk, if_neg ej]; exact hbj
      rcases hg.at_ with e1 | ⟨e1, e2⟩
      · exact ⟨q, ⟨s.c, s.l.set k false⟩, j, e1, by rw [List.length_set]; exact hj, hb2, rfl⟩
      · have : j ∈ sets (s.l.set k false) := mem_sets.2 ⟨by rw [List.length_set]; exact hj, hb2⟩
        rw [e2] at this; cases this
    · exact ⟨q, t, j, by rw [hg.far q e]; exact hq, hj, hbj, rfl⟩
/-! ### Nothing is taken -/
theorem HI.empty (h : HI σ) (ht : takenO σ = []) {p : Nat} {s : Sb} (hp : σ.M p = some s) : lst s.l = 2 ∧ p ∈ σ.R (4 * s.c + 2) := by
  have h2 : lst s.l = 2 := by
    refine lst_two.2 (List.eq_nil_iff_forall_not_mem.2 (fun k hk => ?_))
    have := h.taken_in.2 ⟨p, s, k, hp, (mem_sets.1 hk).1, (mem_sets.1 hk).2, rfl⟩
    rw [ht] at this; cases this
  refine ⟨h2, ?_⟩
  rcases h.l.stand p s hp with ⟨_, e⟩ | e
  · exact absurd h2 e
  · rw [h2] at e; exact e
theorem HI.unsealed (h : HI σ) (ht : takenO σ = []) (c : Nat) : σ.R (4 * c + 3) = [] := by
  refine List.eq_nil_iff_forall_not_mem.2 (fun p hp => ?_)
  obtain ⟨s, hs, hc⟩ := h.l.only p _ hp
  have := (h.empty ht hs).2
  have := h.l.good.apart _ _ p this hp
  omega
def emptyR (R : Nat → List Nat) (n : Nat) : List Nat := (List.range n).flatMap fun c => R (4 * c + 2)
theorem empty_step (R : Nat → List Nat) (n : Nat) : (emptyR R (n + 1)).length = (emptyR R n).length + (R (4 * n + 2)).length := by
  unfold emptyR
  rw [List.range_succ, List.flatMap_append, List.length_append]
  simp
theorem empty_le (hb : BK σ) : ∀ n, (emptyR σ.R n).length ≤ n
  | 0 => by simp [emptyR]
  | n + 1 => by rw [empty_step]; have := empty_le hb n; have := hb.one n; omega
theorem HI.count (h : HI σ) (ht : takenO σ = []) : (pagesO σ).length = (emptyR σ.R 16).length := by
  refine ((List.perm_ext_iff_of_nodup ?_ ?_).2 (fun p => ?_)).length_eq
  · exact (pagesO_sorted σ).imp (fun hh => by omega)
  · unfold emptyR
    rw [List.nodup_iff_pairwise_ne, List.pairwise_flatMap]
    refine ⟨fun c _ => List.nodup_iff_pairwise_ne.1 (h.l.good.nd _), (List.pairwise_lt_range (n := 16)).imp (fun {a b} hab x hx y hy e => ?_)⟩
    subst e
    have := h.l.good.apart _ _ x hx hy
    omega
  · rw [h.pages_in]
    unfold emptyR
    rw [List.mem_flatMap]
    constructor
    · rintro ⟨s, hs⟩
      exact ⟨s.c, List.mem_range.2 (h.reg hs).2.2.1, (h.empty ht hs).2⟩
    · rintro ⟨c, _, hc⟩
      obtain ⟨s, hs, _⟩ := h.l.only p _ hc
      exact ⟨s, hs⟩
theorem on_rise (p : Nat → Bool) : ∀ n, (Bi.on p n).Pairwise (· < ·) := fun n => by
  unfold Bi.on
  exact (List.pairwise_lt_range (n := n)).sublist List.filter_sublist
theorem sets_rise (l : List Bool) : (sets l).Pairwise (· < ·) := on_rise _ _
theorem flat_le {α : Type} (f : α → List Int) (B : Nat) : ∀ l : List α, (∀ p ∈ l, (f p).length ≤ B) → (l.flatMap f).length ≤ B * l.length
  | [], _ => by simp
  | a :: l, h => by
    have h1 := flat_le f B l (fun p hp => h p (List.mem_cons_of_mem _ hp))
    have h2 := h a (List.mem_cons_self ..)
    rw [List.flatMap_cons, List.length_append, List.length_cons, Nat.mul_succ]
    omega
theorem HI.taken_len (h : HI σ) : (takenO σ).length ≤ 64 * σ.N := by
  have h1 := flat_le (tkP σ) 64 (pagesO σ) (fun p hp => by
    obtain ⟨s, hs⟩ := h.pages_in.1 hp
    unfold tkP
    rw [(h.u hs).1]
    unfold addrs
    rw [List.length_map]
    exact Nat.le_trans (Bi.sets_length_le s.l) (h.geo hs).2.2)
  have h2 := pagesO_len σ
  unfold takenO
  omega
theorem HI.taken_lt (h : HI σ) {y : Int} (hy : y ∈ takenO σ) : 0 ≤ y ∧ y < 256 * (σ.N : Int) := by
  obtain ⟨p, s, k, hp, hk, _, rfl⟩ := h.taken_in.1 hy
  obtain ⟨g1, g2, _⟩ := h.geo hp
  obtain ⟨r1, _, _, _⟩ := h.reg hp
  have h0 : 0 ≤ (k : Int) * sizeOf' s.c := Int.mul_nonneg (by omega) (by omega)
  have h1 : ((k : Int) + 1) * sizeOf' s.c ≤ (s.l.length : Int) * sizeOf' s.c := Int.mul_le_mul_of_nonneg_right (by omega) (by omega)
  rw [Int.add_mul] at h1
  omega
theorem HI.taken_nodup (h : HI σ) : (takenO σ).Nodup := by
  unfold takenO
  rw [List.nodup_iff_pairwise_ne, List.pairwise_flatMap]
  refine ⟨fun p hp => ?_, (pagesO_sorted σ).imp_of_mem (fun {a b} ha hb hab x hx y hy e => ?_)⟩
  · obtain ⟨s, hs⟩ := h.pages_in.1 hp
    obtain ⟨g1, _, _⟩ := h.geo hs
    unfold tkP
    rw [(h.u hs).1]
    unfold addrs
    rw [List.pairwise_map]
    refine (sets_rise s.l).imp (fun {a b} hab e => ?_)
    have : (a : Int) * sizeOf' s.c = b * sizeOf' s.c := by omega
    have := Int.eq_of_mul_eq_mul_right (by omega) this
    omega
  · obtain ⟨s, hs⟩ := h.pages_in.1 ha
    obtain ⟨t, ht⟩ := h.pages_in.1 hb
    unfold tkP at hx hy
    rw [(h.u hs).1] at hx
    rw [(h.u ht).1] at hy
    unfold addrs at hx hy
    obtain ⟨j, hj, rfl⟩ := List.mem_map.1 hx
    obtain ⟨k, hk, rfl⟩ := List.mem_map.1 hy
    have e1 := h.around_at hs (mem_sets.1 hj).1
    rw [e, h.around_at ht (mem_sets.1 hk).1] at e1
    cases e1
    omega
/-- A taken slot of the rest is given back. -/
theorem HI.rest (h : HI σ) {l : List Int} (hn : l.Nodup) {y : Nat} (hy : y < l.length) (hm : ∀ z, z ∈ takenO σ ↔ z ∈ l.drop y) : (giveO σ l[y]).e = 0 ∧ ∀ z, z ∈ takenO (giveO σ l[y]).σ ↔ z ∈ l.drop (y + 1) := by
  have hd : l.drop y = l[y] :: l.drop (y + 1) := List.drop_eq_getElem_cons hy
  obtain ⟨h1, h2⟩ := h.back (x := l[y]) ((hm _).2 (by rw [hd]; exact List.mem_cons_self ..))
  have hnd : (l[y] :: l.drop (y + 1)).Nodup := by rw [← hd]; exact hn.sublist (List.drop_sublist _ _)
  refine ⟨h1, fun z => ?_⟩
  rw [h2, hm, hd, List.mem_cons]
  have := (List.nodup_cons.1 hnd).1
  constructor
  · rintro ⟨e | e, h3⟩
    · exact absurd e h3
    · exact e
  · intro e
    exact ⟨.inr e, fun hh => this (by rw [← hh]; exact e)⟩
/-! ### What is free -/
theorem range_four (n : Nat) : List.range (4 * (n + 1)) = List.range (4 * n) ++ [4 * n, 4 * n + 1, 4 * n + 2, 4 * n + 3] := by
  rw [show 4 * (n + 1) = 4 * n + 3 + 1 by omega, List.range_succ, List.range_succ, List.range_succ, List.range_succ]
  simp
theorem HI.only_four (h : HI σ) {p : Nat} (hp : p % 4 ≠ 0) : (σ.M p).isSome = false := by
  cases hs : σ.M p with
  | none => rfl
  | some s => have := (h.reg hs).2.1; omega
theorem BK.word (hb : BK σ) (h : HI σ) {y : Nat} (hy : y < σ.N) : Gr.nz (σ.f y) = (σ.M (4 * (y / 4))).isSome := by
  rw [Bool.eq_iff_iff]
  have e : Gr.nz (σ.f y) = true ↔ σ.f y ≠ 0 := by unfold Gr.nz; simp
  rw [e, Option.isSome_iff_exists]
  constructor
  · intro h0
    obtain ⟨a, s, h1, h2⟩ := h.g.old y hy h0 (hb.v y hy h0)
    have h3 := (h.g.own a s h2 y hy).1 h1
    have h4 := h.g.reg a s h2
    have : a = 4 * (y / 4) := by omega
    subst this
    exact ⟨s, (M_off (by rw [hb.o]; simp)).trans h2⟩
  · rintro ⟨s, hs⟩
    have hw := h.g.words (h.u hs).1 (y := y) (by omega) (by omega)
    rw [hw.1]
    exact (h.g.wrd _ s (h.u hs).1).1
def pagesTo (σ : St) (n : Nat) : List Nat := (List.range n).filter fun p => (σ.M p).isSome
theorem BK.four (hb : BK σ) (h : HI σ) : ∀ m : Nat, 4 * m ≤ σ.N → Gr.cw Gr.nz σ.f (4 * m) = 4 * (pagesTo σ (4 * m)).length
  | 0, _ => rfl
  | m + 1, hm => by
    have ih := hb.four h m (by omega)
    have hr := Gr.cw_run (P := Gr.nz) (f := σ.f) (p := 4 * m) (b := (σ.M (4 * m)).isSome) (n := 4) (fun i a b => by
      rw [hb.word h (by omega)]
      have : 4 * (i / 4) = 4 * m := by omega
      rw [this])
    have e : pagesTo σ (4 * (m + 1)) = pagesTo σ (4 * m) ++ (if (σ.M (4 * m)).isSome = true then [4 * m] else []) := by
      unfold pagesTo
      rw [range_four, List.filter_append]
      congr 1
      rw [List.filter_cons, List.filter_cons, List.filter_cons, List.filter_cons, h.only_four (p := 4 * m + 1) (by omega), h.only_four (p := 4 * m + 2) (by omega), h.only_four (p := 4 * m + 3) (by omega)]
      rfl
    rw [show 4 * (m + 1) = 4 * m + 4 by omega] at e ⊢
    rw [hr, e, List.length_append, ih]
    split <;> simp <;> omega
theorem BK.free (hb : BK σ) (h : HI σ) : Sp.fsum σ.L = (σ.N : Int) - 4 * (pagesO σ).length := by
  have h1 := h.g.gi.fsum
  rw [Int.toNat_natCast] at h1
  have h2 := hb.four h (σ.N / 4) (by omega)
  have e : σ.N = 4 * (σ.N / 4) + σ.N % 4 := by omega
  have no : ∀ i, 4 * (σ.N / 4) ≤ i → i < 4 * (σ.N / 4) + σ.N % 4 → (σ.M (4 * (i / 4))).isSome = false := fun i a b => by
    cases hs : σ.M (4 * (i / 4)) with
    | none => rfl
    | some s => have := (h.reg hs).1; omega
  have h3 := Gr.cw_run (P := Gr.nz) (f := σ.f) (p := 4 * (σ.N / 4)) (b := false) (n := σ.N % 4) (fun i a b => by
    rw [hb.word h (by omega)]; exact no i a b)
  rw [← e] at h3
  have h4 : pagesO σ = pagesTo σ (4 * (σ.N / 4)) := by
    have : ∀ j, j ≤ σ.N % 4 → pagesTo σ (4 * (σ.N / 4) + j) = pagesTo σ (4 * (σ.N / 4)) := by
      intro j
      induction j with
      | zero => intro _; rfl
      | succ j ih =>
        intro hj
        rw [← ih (by omega)]
        unfold pagesTo
        rw [show 4 * (σ.N / 4) + (j + 1) = (4 * (σ.N / 4) + j) + 1 by omega, List.range_succ, List.filter_append]
        have : (σ.M (4 * (σ.N / 4) + j)).isSome = false := by
          cases hs : σ.M (4 * (σ.N / 4) + j) with
          | none => rfl
          | some s => have := h.reg hs; omega
        rw [List.filter_cons, this]
        simp
    have := this (σ.N % 4) (by omega)
    rw [← e] at this
    exact this
  rw [h4]
  simp only [Bool.false_eq_true, if_false] at h3
  omega
end
end Go.Proofs.YtckcgaliphpgeaaGreatDoor.He
