/-
  Which bytes calls change: laws that the claimed proofs use.
-/
import Derived.Test.YtaelfgdiboekpaaDoorNsOther
import Derived.Test.YtaelfgdiboekpaaDoorCeDiffer
namespace Go.Proofs.YtaelfgdiboekpaaDoor.Ns
set_option maxRecDepth 100000
open Go.RowKit
open Ce (u y ldW Mem bytesOf bytesOf_length splice_getD likeB diffL addL cellsTo cellsTo_le)
open Bi (Blk Drawn hasB hasB_iff hasB_not up_alloc up_drew up_trans i64_in ret_i ret_b grown_refl grown_trans grown_below)

/-! ### Rows of addresses -/
/-- Just unlike addresses stand in these rows. -/
def Un (f : Nat → Bool) (E : Nat) (l : List (Nat × Nat)) : Prop := ∀ p ∈ l, ∀ x, p.1 ≤ x → x < p.1 + p.2 → f x = false ∧ x < E
theorem Un.add {f : Nat → Bool} {E : Nat} {l : List (Nat × Nat)} {a b : Nat} (h : Un f E l) (h2 : ∀ x, a ≤ x → x < b → f x = false ∧ x < E) : Un f E (addL l a b) := by
  unfold addL
  split
  · exact h
  · intro p hp
    rcases List.mem_append.1 hp with hp | hp
    · exact h p hp
    · rw [List.mem_singleton.1 hp]
      intro x h3 h4
      dsimp only at h3 h4
      exact h2 x h3 (by omega)
theorem cells_un (f : Nat → Bool) (E : Nat) : ∀ i, i ≤ E → Un f E (cellsTo f i).1 ∧ ∀ x, (cellsTo f i).2 ≤ x → x < i → f x = false
  | 0, _ => ⟨fun p hp => (by cases hp), fun x _ h => (by omega)⟩
  | i + 1, hi => by
    obtain ⟨h1, h2⟩ := cells_un f E i (by omega)
    rw [cellsTo]
    cases hf : f i with
    | true =>
      rw [if_pos rfl]
      exact ⟨h1.add fun x h3 h4 => ⟨h2 x h3 h4, by omega⟩, fun x h3 h4 => by dsimp only at h3; omega⟩
    | false =>
      rw [if_neg (by simp)]
      refine ⟨h1, fun x h3 h4 => ?_⟩
      by_cases e : x = i
      · rw [e]; exact hf
      · exact h2 x h3 (by omega)
theorem diff_un (f : Nat → Bool) (E : Nat) : Un f E (diffL f E) := by
  obtain ⟨h1, h2⟩ := cells_un f E E (Nat.le_refl _)
  exact h1.add fun x h3 h4 => ⟨h2 x h3 h4, h4⟩
theorem addL_le {E a b : Nat} {l : List (Nat × Nat)} (h : ∀ p ∈ l, p.1 + p.2 ≤ E) (hab : a ≤ b) (hb : b ≤ E) : ∀ p ∈ addL l a b, p.1 + p.2 ≤ E := by
  unfold addL
  split
  · exact h
  · intro p hp
    rcases List.mem_append.1 hp with hp | hp
    · exact h p hp
    · rw [List.mem_singleton.1 hp]; dsimp only; omega
theorem cells_le (f : Nat → Bool) (E : Nat) : ∀ i, i ≤ E → ∀ p ∈ (cellsTo f i).1, p.1 + p.2 ≤ E
  | 0, _ => fun p hp => (by cases hp)
  | i + 1, hi => by
    have h := cells_le f E i (by omega)
    rw [cellsTo]
    split
    · exact addL_le h (cellsTo_le f i) (by omega)
    · exact h
theorem diff_le (f : Nat → Bool) (E : Nat) : ∀ p ∈ diffL f E, p.1 + p.2 ≤ E := addL_le (cells_le f E E (Nat.le_refl _)) (cellsTo_le f E) (Nat.le_refl _)
/-! ### Bytes -/
theorem lay_get {bs : List (BitVec 8)} {b c k h x : Nat} (hc : c < 12) (hk : k < nS c) (hb : b + 1024 ≤ bs.length) (hx : (lay bs b c k h).getD x 0#8 ≠ bs.getD x 0#8) : b + k * zN c ≤ x ∧ x < b + k * zN c + 8 := by
  have h1 := slot_in hc hk
  have h2 := (cls c hc).1
  unfold lay at hx
  rw [splice_getD _ _ _ _ (by rw [bytesOf_length]; omega), bytesOf_length] at hx
  by_cases e : b + k * zN c ≤ x ∧ x < b + k * zN c + 8
  · exact e
  · rw [if_neg e] at hx
    exact absurd rfl hx
theorem pushes_get {b c x : Nat} (hc : c < 12) : ∀ (ks : List Nat) (S : SS), (∀ k ∈ ks, k < nS c) → b + 1024 ≤ S.bs.length → (S.pushes b c ks).bs.getD x 0#8 ≠ S.bs.getD x 0#8 → ∃ k ∈ ks, b + k * zN c ≤ x ∧ x < b + k * zN c + 8
  | [], S, _, _, h => absurd rfl h
  | k :: ks, S, hk, hb, h => by
    have e : S.pushes b c (k :: ks) = (S.push b c k).pushes b c ks := rfl
    rw [e] at h
    by_cases h2 : ((S.push b c k).pushes b c ks).bs.getD x 0#8 = (S.push b c k).bs.getD x 0#8
    · rw [h2] at h
      exact ⟨k, by simp, lay_get hc (hk k (by simp)) hb h⟩
    · obtain ⟨j, hj, h3⟩ := pushes_get hc ks (S.push b c k) (fun j hj => hk j (by simp [hj])) (by rw [push_len hc hb (hk k (by simp))]; exact hb) h2
      exact ⟨j, by simp [hj], h3⟩
/-- A call changes words alone, of slots that were taken and are free then. -/
def Wds (b c : Nat) (bs bs' : List (BitVec 8)) (L L' : List Nat) : Prop := ∀ x, bs'.getD x 0#8 ≠ bs.getD x 0#8 → ∃ k, k < nS c ∧ k ∉ L ∧ k ∈ L' ∧ b + k * zN c ≤ x ∧ x < b + k * zN c + 8
theorem wds_same (b c : Nat) (bs : List (BitVec 8)) (L L' : List Nat) : Wds b c bs bs L L' := fun _ h => absurd rfl h
theorem gaK_mem {b c k : Nat} {T : List Int} (h : k ∈ gaK b c T) : k < nS c := by
  unfold gaK at h
  obtain ⟨x, _, hx⟩ := List.mem_filterMap.1 h
  exact (slotO_some hx).1
theorem gaK_out {b c k : Nat} {T : List Int} {L : List Nat} (h0 : gaE b c L T = 0) (h : k ∈ gaK b c T) : k ∉ L := by
  unfold gaK at h
  obtain ⟨x, hx, hk⟩ := List.mem_filterMap.1 h
  obtain ⟨j, hj, e⟩ := List.getElem_of_mem hx
  obtain ⟨k', h1, h2, _⟩ := gaE_ok h0 j hj
  rw [e, hk] at h1
  rw [Option.some.inj h1]; exact h2
theorem wds_do {b c : Nat} {S : SS} {L : List Nat} {X : Cl} (hc : c < 12) (hb : b + 1024 ≤ S.bs.length) : Wds b c S.bs (doB b c S L X) L (doL b c L X) := by
  unfold doB doL
  by_cases h0 : X.x = 0
  · rw [if_neg (by rw [h0]; decide), if_neg (by rw [h0]; decide)]; exact wds_same _ _ _ _ _
  · rw [if_neg h0]
    by_cases h1 : X.x = 1
    · rw [if_pos h1, if_pos h1]
      unfold gvS gvL
      cases hs : slotO b c X.a with
      | none => exact wds_same _ _ _ _ _
      | some k =>
        dsimp only
        by_cases hk : k ∈ L
        · rw [if_pos hk, if_pos hk]; exact wds_same _ _ _ _ _
        · rw [if_neg hk, if_neg hk]
          intro x hx
          exact ⟨k, (slotO_some hs).1, hk, by simp, lay_get hc (slotO_some hs).1 hb hx⟩
    · rw [if_neg h1, if_neg h1]
      by_cases h2 : X.x = 2
      · rw [if_neg (by rw [h2]; decide)]; exact wds_same _ _ _ _ _
      · rw [if_neg h2]
        by_cases h3 : X.x = 3
        · rw [if_pos h3, if_pos h3]
          unfold gaS gaL
          by_cases h : gaE b c L X.xs = 0
          · rw [if_pos h, if_pos h]
            intro x hx
            obtain ⟨k, hk, h4⟩ := pushes_get hc _ S (fun k hk => gaK_mem hk) hb hx
            exact ⟨k, gaK_mem hk, gaK_out h hk, by simp [hk], h4⟩
          · rw [if_neg h, if_neg h]; exact wds_same _ _ _ _ _
        · rw [if_neg h3, if_neg h3]; exact wds_same _ _ _ _ _
/-- Where two memories of one length are unlike. -/
theorem unlike {ps bs : List (BitVec 8)} {x : Nat} (hl : ps.length = bs.length) (hx : x < max ps.length bs.length) (h : likeB ps bs x = false) : ps.getD x 0#8 ≠ bs.getD x 0#8 := by
  intro e
  unfold likeB at h
  rw [e, decide_eq_true (by omega : x < ps.length), decide_eq_true (by omega : x < bs.length)] at h
  simp at h
end Go.Proofs.YtaelfgdiboekpaaDoor.Ns
