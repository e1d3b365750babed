/-
  Which spans there are, no program in sight; calls that came in: facts that the claimed proofs use.
-/
import Derived.Test.YtbfcejmifmeigaaAlive
namespace Go.Proofs.Ytbfcejmifmeigaa
open Go.RowKit

/-- The spans, in order. -/
def tk (L : List Rn) : List Rn := L.filter (·.t)
def tps (L : List Rn) : List Int := (tk L).map (·.p)
theorem tk_app (A B : List Rn) : tk (A ++ B) = tk A ++ tk B := List.filter_append ..
theorem tk_bk (A : List Rn) : tk (bk A).1 = tk A := by
  rcases List.eq_nil_or_concat A with rfl | ⟨A0, x, rfl⟩
  · rfl
  · simp only [List.concat_eq_append]
    rw [bk_snoc]
    cases hx : x.t with
    | false => simp [tk, hx]
    | true => simp
theorem tk_fw (B : List Rn) : tk (fw B).1 = tk B := by
  cases B with
  | nil => rfl
  | cons x B => cases hx : x.t <;> simp [fw, tk, hx]
theorem tk_mid (p m u n : Int) : tk (mid p m u n) = [⟨u, n, true⟩] := by
  unfold mid tk
  by_cases c1 : u - p = 0 <;> by_cases c2 : p + m - (u + n) = 0 <;> simp [c1, c2]
theorem tk_give {N : Int} {L : List Rn} (h : WF N L) {k : Nat} (hk : k < L.length) (ht : (el L k).t = true) : ∃ A B, tk L = A ++ el L k :: B ∧ tk (giveL L k) = A ++ B := by
  obtain ⟨A, B, e, hl, c1, c2, c3, a1, a2, a3⟩ := h.cut hk
  generalize el L k = r at *
  subst e hl
  rw [giveL_is A B r c1 c3 rfl c2, tk_app, tk_app]
  refine ⟨tk A, tk B, ?_, ?_⟩
  · congr 1
    unfold tk
    rw [List.filter_cons_of_pos (by simpa using ht)]
  · rw [tk_bk]
    congr 1
    have : tk (⟨r.p - (bk A).2, (bk A).2 + r.n + (fw B).2, false⟩ :: (fw B).1) = tk (fw B).1 := by
      unfold tk; rw [List.filter_cons_of_neg (by simp)]
    rw [this, tk_fw]
theorem tk_take {N : Int} {L : List Rn} (h : WF N L) {k : Nat} (hk : k < L.length) {u n : Int} (ht : (el L k).t = false) (hn : 1 ≤ n) : ∃ A B, tk L = A ++ B ∧ tk (takeL L k u n) = A ++ ⟨u, n, true⟩ :: B := by
  obtain ⟨A, B, e, hl, c1, c2, c3, a1, a2, a3⟩ := h.cut hk
  generalize el L k = r at *
  subst e hl
  rw [takeL_mid c1 c2 r rfl hn, tk_app, tk_app, tk_app, tk_mid]
  refine ⟨tk A, tk B, ?_, by simp⟩
  congr 1
  unfold tk
  rw [List.filter_cons_of_neg (by simp [ht])]
/-- Where no page is taken all are one run. -/
theorem all_free {N : Int} {L : List Rn} (h : WF N L) (ht : tk L = []) : (N = 0 ∧ L = []) ∨ (1 ≤ N ∧ L = [⟨0, N, false⟩]) := by
  have hf : ∀ r ∈ L, r.t = false := fun r hr => by
    cases hx : r.t with
    | false => rfl
    | true =>
      have : r ∈ tk L := List.mem_filter.2 ⟨hr, hx⟩
      rw [ht] at this
      cases this
  cases L with
  | nil => left; exact ⟨h.chain.symm, rfl⟩
  | cons r L =>
    cases L with
    | nil =>
      right
      obtain ⟨p, n, t⟩ := r
      have h1 := h.chain
      simp only [Chain] at h1
      have h2 := hf _ (List.mem_cons_self ..)
      dsimp only at h2
      obtain ⟨h3, h4, h5⟩ := h1
      refine ⟨by omega, ?_⟩
      rw [h2, h3]
      congr 2
      omega
    | cons s L =>
      exfalso
      have h1 := h.apart
      have h2 := hf r (by simp)
      have h3 := hf s (by simp)
      have := h1.2.1 (by rw [h2]; rfl)
      rw [h3] at this
      cases this
theorem free_all {N : Int} {L : List Rn} (h : WF N L) (ht : tk L = []) : fsum L = N ∧ fmax L = N ∧ ((N = 0 ∧ L.length = 0) ∨ (1 ≤ N ∧ L.length = 1)) := by
  rcases all_free h ht with ⟨h1, h2⟩ | ⟨h1, h2⟩
  · subst h1 h2; exact ⟨rfl, rfl, .inl ⟨rfl, rfl⟩⟩
  · subst h2
    refine ⟨by simp [fsum, fo], by simp [fmax, fo]; omega, .inr ⟨h1, rfl⟩⟩
theorem tps_take {L : List Rn} {k : Nat} (hk : k < L.length) : tps (L.take (k + 1)) = tps (L.take k) ++ (if (el L k).t = true then [(el L k).p] else []) := by
  unfold tps
  rw [take_one hk, tk_app, List.map_append]
  congr 1
  unfold tk
  by_cases h : (el L k).t = true
  · rw [List.filter_cons_of_pos h, if_pos h]; rfl
  · rw [List.filter_cons_of_neg h, if_neg h]; rfl
theorem tps_len (L : List Rn) : (tps L).length ≤ L.length := by unfold tps tk; rw [List.length_map]; exact List.length_filter_le ..
/-- A span that there is may be given back, and the others stay. -/
theorem give_ok {N : Int} {L : List Rn} (h : WF N L) {x : Int} {rest : List Int} (hp : (tps L).Perm (x :: rest)) : gve L x = 0 ∧ (tps (gvL L x)).Perm rest := by
  have hx : x ∈ tps L := hp.symm.subset (by simp)
  obtain ⟨r, hr, hrx⟩ := List.mem_map.1 hx
  obtain ⟨hr1, hr2⟩ := List.mem_filter.1 hr
  obtain ⟨k, hk, he⟩ := el_of_mem hr1
  have hgi := gi_is h (x := x) hk (by rw [he]; exact hrx) (by rw [he]; simpa using hr2)
  have hl : gi L x < L.length := by rw [hgi]; exact hk
  unfold gve gvL
  rw [if_pos hl, if_pos hl]
  refine ⟨rfl, ?_⟩
  obtain ⟨A, B, e1, e2⟩ := tk_give h hl (gi_yes hl).2
  have hpx := (gi_yes hl).1
  unfold tps at hp ⊢
  rw [e1, List.map_append, List.map_cons, hpx] at hp
  rw [e2, List.map_append]
  exact (List.perm_cons x).1 ((List.perm_middle.symm).trans hp)

/-! ### Calls that came in -/
/-- Of their address something is said only where there is one. -/
def CA (B : Nat) (w : World) (A : Option Addr) (l : List (Bool × Int × Int)) : Prop :=
  0 < l.length → ∃ b o, A = some ⟨b, o, none⟩ ∧ b < B ∧ ∀ i, i < l.length → w.cell? ⟨b, o + i * 3, none⟩ = some (.bool (l.getD i (false, 0, 0)).1) ∧
    w.cell? ⟨b, o + i * 3 + 1, none⟩ = some (.int .i64 (l.getD i (false, 0, 0)).2.1) ∧ w.cell? ⟨b, o + i * 3 + 2, none⟩ = some (.int .i64 (l.getD i (false, 0, 0)).2.2)
theorem CA.below {B : Nat} {w w' : World} {A : Option Addr} {l : List (Bool × Int × Int)} (h : CA B w A l) (hb : Below B w w') : CA B w' A l := fun hp => by
  obtain ⟨b, o, e, hg, hc⟩ := h hp
  exact ⟨b, o, e, hg, fun i hi => ⟨(hb.cell (p := ⟨b, o + i * 3, none⟩) hg).trans (hc i hi).1, (hb.cell (p := ⟨b, o + i * 3 + 1, none⟩) hg).trans (hc i hi).2.1, (hb.cell (p := ⟨b, o + i * 3 + 2, none⟩) hg).trans (hc i hi).2.2⟩⟩
end Go.Proofs.Ytbfcejmifmeigaa
