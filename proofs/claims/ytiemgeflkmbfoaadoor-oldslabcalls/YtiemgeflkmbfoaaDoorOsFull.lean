/-
  Slabs whose first slots are taken, and slots that are given back in any order, no program in sight: facts that the claimed proofs use.
-/
import Derived.Test.YtiemgeflkmbfoaaDoorOsAlive
namespace Go.Proofs.YtiemgeflkmbfoaaDoor.Os
set_option maxRecDepth 100000
open Ta (sz szs classB classB_iff classB_not sizeOf' slotsOf)
open Bi (sets bt on first setL setB tst hasB)

/-- The first i of n slots are taken. -/
def st (n i : Nat) : List Bool := List.replicate i true ++ List.replicate (n - i) false
theorem st_len {n i : Nat} (h : i ≤ n) : (st n i).length = n := by simp [st]; omega
theorem st_bt {n i j : Nat} (h : i ≤ n) (hj : j < n) : bt (st n i) j = decide (j < i) := by
  unfold bt st
  rw [List.getD_eq_getElem?_getD]
  by_cases h1 : j < i
  · rw [List.getElem?_append_left (by simp; omega), List.getElem?_replicate, if_pos h1]; simp [h1]
  · rw [List.getElem?_append_right (by simp; omega), List.getElem?_replicate, if_pos (by simp; omega)]; simp [h1]
theorem bt_ext {l l' : List Bool} (hl : l.length = l'.length) (h : ∀ j, j < l.length → bt l j = bt l' j) : l = l' := by
  apply List.ext_getElem hl
  intro j h1 h2
  have := h j h1
  unfold bt at this
  rw [List.getD_eq_getElem?_getD, List.getD_eq_getElem?_getD, List.getElem?_eq_getElem h1, List.getElem?_eq_getElem h2] at this
  exact this
theorem bt_set {l : List Bool} {k j : Nat} (b : Bool) (hk : k < l.length) : bt (l.set k b) j = if j = k then b else bt l j := by
  unfold bt
  rw [List.getD_eq_getElem?_getD, List.getD_eq_getElem?_getD, List.getElem?_set]
  by_cases h : k = j
  · subst h; rw [if_pos rfl, if_pos hk, if_pos rfl]; rfl
  · rw [if_neg h, if_neg (fun e => h e.symm)]
theorem st_sets (n i : Nat) (h : i ≤ n) : (sets (st n i)).length = i := by
  rw [sets_count]; unfold st; rw [List.count_append]; simp [List.count_replicate]
theorem st_fr {n i : Nat} (h : i ≤ n) : fr (st n i) = n - i := by unfold fr; rw [st_len h, st_sets n i h]
theorem st_take {n i : Nat} (h : i < n) : tkI (st n i) = i ∧ tkL (st n i) = st n (i + 1) ∧ tkE (st n i) = 0 ∧ ∀ b z, tkV b z (st n i) = b + i * z := by
  have hne : ¬ tkI (st n i) < 0 := fun hh => by have := (tk_no hh).2.2.2; rw [st_fr (by omega)] at this; omega
  obtain ⟨k, e1, e2, e3, e4, e5, e6, e7, _⟩ := tk_yes hne
  rw [st_len (by omega)] at e2
  have hk : k = i := by
    rw [st_bt (by omega) e2] at e3
    have h1 : ¬ k < i := by simpa using e3
    apply Classical.byContradiction
    intro hh
    have := e4 i (by omega)
    rw [st_bt (by omega) h] at this
    simp at this
  subst hk
  refine ⟨e1, ?_, e6, e7⟩
  rw [e5]
  refine bt_ext (by rw [List.length_set, st_len (by omega), st_len (by omega)]) fun j hj => ?_
  rw [List.length_set, st_len (by omega)] at hj
  rw [bt_set true (by rw [st_len (by omega)]; exact h), st_bt (by omega) hj, st_bt (by omega) hj]
  by_cases e : j = k
  · subst e; simp
  · rw [if_neg e, decide_eq_decide]; omega
theorem st_zero (c : Int) : st (nS c) 0 = l0 c := by simp [st, l0]
theorem st_full {n : Nat} (h : 1 ≤ n) : tkE (st n n) = 18 ∧ tkL (st n n) = st n n ∧ stI (st n n) = 2 ∧ ∀ b z, tkV b z (st n n) = -1 := by
  have hf := st_fr (Nat.le_refl n)
  rw [Nat.sub_self] at hf
  obtain ⟨e1, e2, e3, _⟩ := tk_no (fr_zero.1 hf)
  refine ⟨e2, e1, ?_, fun b z => e3 b z⟩
  unfold stI; rw [hf, st_len (Nat.le_refl n), if_neg (by omega), if_pos rfl]
/-! ### Given back in any order -/
/-- The slots, from one on and around. -/
def rot (n t : Nat) : List Nat := (List.range n).drop t ++ (List.range n).take t
theorem rot_len (n t : Nat) : (rot n t).length = n := by simp [rot]; omega
theorem rot_mem {n t j : Nat} : j ∈ rot n t ↔ j < n := by
  have h := List.take_append_drop t (List.range n)
  have : j ∈ (List.range n).take t ++ (List.range n).drop t ↔ j < n := by rw [h]; exact List.mem_range
  unfold rot
  rw [List.mem_append] at this ⊢
  rw [Or.comm]; exact this
theorem rot_nodup (n t : Nat) : (rot n t).Nodup := by
  have h : ((List.range n).take t ++ (List.range n).drop t).Nodup := by rw [List.take_append_drop]; exact List.nodup_range
  unfold rot
  rw [List.nodup_append] at h ⊢
  exact ⟨h.2.1, h.1, fun a ha b hb e => h.2.2 b hb a ha e.symm⟩
/-- These slots are taken, and no others. -/
def Just (n : Nat) (P : List Nat) (l : List Bool) : Prop := l.length = n ∧ ∀ j, j < n → (bt l j = true ↔ j ∈ P)
theorem just_all (n t : Nat) : Just n (rot n t) (st n n) := ⟨st_len (Nat.le_refl n), fun j hj => by rw [st_bt (Nat.le_refl n) hj, rot_mem]; simp⟩
theorem just_none {n : Nat} {l : List Bool} (h : Just n [] l) : l = st n 0 := by
  refine bt_ext (by rw [h.1, st_len (by omega)]) fun j hj => ?_
  rw [h.1] at hj
  have := (h.2 j hj)
  rw [st_bt (by omega) hj]
  cases hb : bt l j
  · simp
  · exact absurd (this.1 hb) (by simp)
theorem tst_bt (l : List Bool) (k : Nat) : tst l (k : Int) = bt l k := Bi.tst_nat l k
theorem just_give {n k : Nat} {P : List Nat} {l : List Bool} {b z : Int} (hz : 0 < z) (h : Just n (k :: P) l) (hk : k < n) (hn : (k :: P).Nodup) :
    gvE b z l (b + k * z) = 0 ∧ Just n P (gvL b z l (b + k * z)) ∧ gvE b z (gvL b z l (b + k * z)) (b + k * z) = 19 ∧ gvL b z (gvL b z l (b + k * z)) (b + k * z) = gvL b z l (b + k * z) := by
  have hs : slotI l.length b z (b + k * z) = k := slot_at hz (by rw [h.1]; exact hk)
  have ht : tst l (k : Int) = true := by rw [tst_bt]; exact (h.2 k hk).2 (List.mem_cons_self ..)
  have e0 : gvE b z l (b + k * z) = 0 := by unfold gvE gvI; rw [hs, if_neg (by omega), if_neg (by rw [ht]; simp)]
  have e1 : gvL b z l (b + k * z) = l.set k false := by unfold gvL gvI; rw [if_pos e0, hs, setL_nat (by rw [h.1]; exact hk)]
  have hnk : k ∉ P := (List.nodup_cons.1 hn).1
  have hj : Just n P (l.set k false) := ⟨by rw [List.length_set]; exact h.1, fun j hj => by
    rw [bt_set false (by rw [h.1]; exact hk)]
    by_cases e : j = k
    · subst e; rw [if_pos rfl]; simp [hnk]
    · rw [if_neg e, h.2 j hj, List.mem_cons]
      exact ⟨fun hh => hh.resolve_left e, .inr⟩⟩
  have e2 : gvE b z (l.set k false) (b + k * z) = 19 := by
    unfold gvE gvI
    rw [List.length_set, hs, if_neg (by omega), if_pos (by rw [tst_bt, bt_set false (by rw [h.1]; exact hk), if_pos rfl])]
  rw [e1]
  exact ⟨e0, hj, e2, by unfold gvL; rw [if_neg (by rw [e2]; decide)]⟩
theorem st_none {n : Nat} (h : 1 ≤ n) : stI (st n 0) = 0 := by
  unfold stI; rw [st_fr (by omega), st_len (by omega), if_pos (by omega)]
theorem word_none {n : Nat} {x : BitVec 64} (h : Wd x (st n 0)) : x = 0#64 := BitVec.eq_of_getLsbD_eq fun j hj => by
  rw [h j hj]
  simp only [BitVec.getLsbD_zero]
  by_cases hn : j < n
  · rw [st_bt (by omega) hn]; simp
  · exact Bi.bt_beyond (by rw [st_len (by omega)]; omega)
/-- Their addresses. -/
def ads (b z : Int) (P : List Nat) : List Int := P.map fun (k : Nat) => b + k * z
theorem ads_len (b z : Int) (P : List Nat) : (ads b z P).length = P.length := by simp [ads]
theorem ads_rot (b z : Int) (n t : Nat) : ads b z (rot n t) = (ads b z (List.range n)).drop t ++ (ads b z (List.range n)).take t := by
  unfold ads rot; rw [List.map_append, List.map_drop, List.map_take]
theorem ads_snoc (b z : Int) (k : Nat) : ads b z (List.range (k + 1)) = ads b z (List.range k) ++ [b + k * z] := by
  unfold ads; rw [List.range_succ, List.map_append]; rfl
end Go.Proofs.YtiemgeflkmbfoaaDoor.Os
