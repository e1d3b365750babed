/-
  Plain facts on rows of fields, of which no statement of its own is claimed: fields that are apart, words that are packed.
-/
import Derived.Test.YtlkphjbnjeelaaaPlain
namespace Go.Proofs.Ytlkphjbnjeelaaa

/-- A field is right. -/
def rightB (s n : Int) : Bool := decide (1 ≤ n ∧ n ≤ 64 ∧ 0 ≤ s ∧ s + n ≤ 64)
theorem rightB_iff {s n : Int} : rightB s n = true ↔ 1 ≤ n ∧ n ≤ 64 ∧ 0 ≤ s ∧ s + n ≤ 64 := by simp [rightB]
/-- The bits of a field. -/
def fm (p : Int × Int) : BitVec 64 := maskW p.1.toNat p.2.toNat
def fr (p : Int × Int) : Bool := rightB p.1 p.2
theorem mask_bit (s n i : Nat) (h : n ≤ 64) : (maskW s n).getLsbD i = (decide (i < 64) && decide (s ≤ i) && decide (i < s + n)) := by
  unfold maskW; rw [BitVec.getLsbD_shiftLeft, low_bit n _ h, Bool.eq_iff_iff]; simp; omega
theorem get_bit (x : BitVec 64) (s n i : Nat) (h : n ≤ 64) : (getW x s n).getLsbD i = (x.getLsbD (s + i) && decide (i < n)) := by
  unfold getW; rw [BitVec.getLsbD_and, BitVec.getLsbD_ushiftRight, low_bit n i h]
theorem put_bit (x v : BitVec 64) (s n i : Nat) (h : n ≤ 64) (hv : fits v n = true) (hi : i < 64) :
    (putW x s n v).getLsbD i = if s ≤ i ∧ i < s + n then v.getLsbD (i - s) else x.getLsbD i := by
  have hv' := (fits_iff v n h).1 hv
  unfold putW
  rw [BitVec.getLsbD_or, BitVec.getLsbD_and, BitVec.getLsbD_not, mask_bit s n i h, BitVec.getLsbD_shiftLeft]
  by_cases h1 : s ≤ i
  · by_cases h2 : i < s + n
    · have h3 : ¬ i < s := by omega
      simp [hi, h1, h2, h3]
    · simp [hi, h2, hv' (i - s) (by omega)]
  · have h3 : i < s := by omega
    simp [hi, h1, h3]
theorem get_put_same (x v : BitVec 64) (s n : Nat) (h : s + n ≤ 64) (hv : fits v n = true) : getW (putW x s n v) s n = v := by
  apply BitVec.eq_of_getLsbD_eq
  intro i hi
  rw [get_bit _ s n i (by omega)]
  by_cases h1 : i < n
  · rw [put_bit x v s n _ (by omega) hv (by omega), if_pos (by omega), Nat.add_sub_cancel_left]; simp [h1]
  · rw [(fits_iff v n (by omega)).1 hv i (by omega)]; simp [h1]
theorem get_put_other (x v : BitVec 64) (s n s' n' : Nat) (h : s + n ≤ 64) (h' : s' + n' ≤ 64) (hv : fits v n' = true) (hd : maskW s n &&& maskW s' n' = 0#64) :
    getW (putW x s' n' v) s n = getW x s n := by
  apply BitVec.eq_of_getLsbD_eq
  intro i hi
  rw [get_bit _ s n i (by omega), get_bit x s n i (by omega)]
  by_cases h1 : i < n
  · have hb : (maskW s n &&& maskW s' n').getLsbD (s + i) = false := by rw [hd]; simp
    rw [BitVec.getLsbD_and, mask_bit s n _ (by omega), mask_bit s' n' _ (by omega)] at hb
    have hn : ¬ (s' ≤ s + i ∧ s + i < s' + n') := by
      intro hc
      have a1 : s + i < 64 := by omega
      have a2 : s + i < s + n := by omega
      simp [a1, h1, hc.1, hc.2] at hb
    rw [put_bit x v s' n' _ (by omega) hv (by omega), if_neg hn]
  · simp [h1]

/-- Are all right, and has no bit two, nor one that is there already? -/
def apartGo (seen : BitVec 64) : List (Int × Int) → Bool
  | [] => true
  | p :: r => fr p && (seen &&& fm p == 0#64) && apartGo (seen ||| fm p) r
/-- The bits of the first k fields. -/
def seenTo (l : List (Int × Int)) : Nat → BitVec 64
  | 0 => 0#64
  | k + 1 => seenTo l k ||| fm (l.getD k (0, 0))
theorem apart_step (l : List (Int × Int)) (k : Nat) (h : k < l.length) :
    apartGo (seenTo l k) (l.drop k) = (fr (l.getD k (0, 0)) && (seenTo l k &&& fm (l.getD k (0, 0)) == 0#64) && apartGo (seenTo l (k + 1)) (l.drop (k + 1))) := by
  rw [List.drop_eq_getElem_cons h, apartGo, seenTo, List.getD_eq_getElem?_getD, List.getElem?_eq_getElem h]; rfl
/-- All but the last question: the fields up to k are right and apart. -/
def okTo (l : List (Int × Int)) (k : Nat) : Prop := apartGo 0#64 l = apartGo (seenTo l k) (l.drop k)
theorem okTo_zero (l : List (Int × Int)) : okTo l 0 := rfl
theorem okTo_succ {l : List (Int × Int)} {k : Nat} (h : okTo l k) (hk : k < l.length) (h1 : fr (l.getD k (0, 0)) = true) (h2 : (seenTo l k &&& fm (l.getD k (0, 0)) == 0#64) = true) : okTo l (k + 1) := by
  unfold okTo at h ⊢; rw [h, apart_step l k hk, h1, h2]; rfl
theorem okTo_wrong {l : List (Int × Int)} {k : Nat} (h : okTo l k) (hk : k < l.length) (h1 : fr (l.getD k (0, 0)) = false) : apartGo 0#64 l = false := by
  unfold okTo at h; rw [h, apart_step l k hk, h1]; rfl
theorem okTo_twice {l : List (Int × Int)} {k : Nat} (h : okTo l k) (hk : k < l.length) (h2 : (seenTo l k &&& fm (l.getD k (0, 0)) == 0#64) = false) : apartGo 0#64 l = false := by
  unfold okTo at h; rw [h, apart_step l k hk, h2]; simp
theorem okTo_end {l : List (Int × Int)} (h : okTo l l.length) : apartGo 0#64 l = true := by
  unfold okTo at h; rw [h, List.drop_length]; rfl
theorem and_or_zero {a b c : BitVec 64} (h : (a ||| b) &&& c = 0#64) : a &&& c = 0#64 ∧ b &&& c = 0#64 := by
  constructor <;> (apply BitVec.eq_of_getLsbD_eq; intro i hi; have := congrArg (·.getLsbD i) h; simp only [BitVec.getLsbD_and, BitVec.getLsbD_or, BitVec.getLsbD_zero] at this ⊢; revert this; cases a.getLsbD i <;> cases b.getLsbD i <;> cases c.getLsbD i <;> simp)
theorem apart_all (l : List (Int × Int)) : ∀ seen, apartGo seen l = true → ∀ p ∈ l, fr p = true ∧ seen &&& fm p = 0#64 := by
  induction l with
  | nil => intro _ _ p hp; cases hp
  | cons q r ih =>
    intro seen h p hp
    rw [apartGo, Bool.and_eq_true, Bool.and_eq_true, beq_iff_eq] at h
    rcases List.mem_cons.1 hp with rfl | hp
    · exact h.1
    · have := ih _ h.2 p hp
      exact ⟨this.1, (and_or_zero this.2).1⟩

/-- The word of fields' values. -/
def packGo (x : BitVec 64) : List (Int × Int) → List (BitVec 64) → Option (BitVec 64)
  | p :: r, v :: vs => if fits v p.2.toNat then packGo (putW x p.1.toNat p.2.toNat v) r vs else none
  | _, _ => some x
theorem pack_other (l : List (Int × Int)) : ∀ (vs : List (BitVec 64)) (x y seen : BitVec 64) (s n : Nat), s + n ≤ 64 → apartGo seen l = true → packGo x l vs = some y → (∀ q ∈ l, maskW s n &&& fm q = 0#64) → getW y s n = getW x s n := by
  induction l with
  | nil => intro vs x y seen s n _ _ h _; simp [packGo] at h; rw [h]
  | cons q r ih =>
    intro vs x y seen s n hsn ha h hd
    cases vs with
    | nil => simp [packGo] at h; rw [h]
    | cons v vs =>
      rw [packGo] at h
      by_cases hf : fits v q.2.toNat = true
      · rw [if_pos hf] at h
        have hq := (apart_all _ _ ha q (List.mem_cons_self ..)).1
        obtain ⟨b0, b1, b2, b3⟩ := rightB_iff.1 hq
        rw [apartGo, Bool.and_eq_true] at ha
        rw [ih vs _ y _ s n hsn ha.2 h (fun p hp => hd p (List.mem_cons_of_mem _ hp))]
        exact get_put_other x v s n _ _ hsn (by omega) hf (hd q (List.mem_cons_self ..))
      · rw [if_neg hf] at h; cases h
theorem pack_back (l : List (Int × Int)) : ∀ (vs : List (BitVec 64)) (x y seen : BitVec 64), apartGo seen l = true → packGo x l vs = some y → l.length = vs.length →
    ∀ (i : Nat) (p : Int × Int) (v : BitVec 64), l[i]? = some p → vs[i]? = some v → getW y p.1.toNat p.2.toNat = v := by
  induction l with
  | nil => intro vs x y seen _ _ _ i p v hp; simp at hp
  | cons q r ih =>
    intro vs x y seen ha h hl i p v hp hv
    cases vs with
    | nil => simp at hl
    | cons v0 vs =>
      rw [packGo] at h
      by_cases hf : fits v0 q.2.toNat = true
      · rw [if_pos hf] at h
        have hq := (apart_all _ _ ha q (List.mem_cons_self ..)).1
        obtain ⟨b0, b1, b2, b3⟩ := rightB_iff.1 hq
        rw [apartGo, Bool.and_eq_true] at ha
        cases i with
        | zero =>
          simp at hp hv
          subst hp; subst hv
          rw [pack_other r vs _ y _ _ _ (by omega) ha.2 h (fun p hp => (and_or_zero (apart_all _ _ ha.2 p hp).2).2)]
          exact get_put_same x v0 _ _ (by omega) hf
        | succ i =>
          exact ih vs _ y _ ha.2 h (by simpa using hl) i p v (by simpa using hp) (by simpa using hv)
      · rw [if_neg hf] at h; cases h
/-- The word of the first k fields' values. -/
def packTo (l : List (Int × Int)) (vs : List (BitVec 64)) : Nat → BitVec 64
  | 0 => 0#64
  | k + 1 => putW (packTo l vs k) (l.getD k (0, 0)).1.toNat (l.getD k (0, 0)).2.toNat (vs.getD k 0#64)
def pkTo (l : List (Int × Int)) (vs : List (BitVec 64)) (k : Nat) : Prop := packGo 0#64 l vs = packGo (packTo l vs k) (l.drop k) (vs.drop k)
theorem pkTo_zero (l : List (Int × Int)) (vs : List (BitVec 64)) : pkTo l vs 0 := rfl
theorem pk_step (l : List (Int × Int)) (vs : List (BitVec 64)) (k : Nat) (h : k < l.length) (h' : k < vs.length) :
    packGo (packTo l vs k) (l.drop k) (vs.drop k) = if fits (vs.getD k 0#64) (l.getD k (0, 0)).2.toNat then packGo (packTo l vs (k + 1)) (l.drop (k + 1)) (vs.drop (k + 1)) else none := by
  rw [List.drop_eq_getElem_cons h, List.drop_eq_getElem_cons h', packGo, packTo]
  have e1 : l.getD k (0, 0) = l[k] := by rw [List.getD_eq_getElem?_getD, List.getElem?_eq_getElem h]; rfl
  have e2 : vs.getD k 0#64 = vs[k] := by rw [List.getD_eq_getElem?_getD, List.getElem?_eq_getElem h']; rfl
  rw [e1, e2]
theorem pkTo_succ {l : List (Int × Int)} {vs : List (BitVec 64)} {k : Nat} (h : pkTo l vs k) (hk : k < l.length) (hk' : k < vs.length) (hf : fits (vs.getD k 0#64) (l.getD k (0, 0)).2.toNat = true) : pkTo l vs (k + 1) := by
  unfold pkTo at h ⊢; rw [h, pk_step l vs k hk hk', if_pos hf]
theorem pkTo_wide {l : List (Int × Int)} {vs : List (BitVec 64)} {k : Nat} (h : pkTo l vs k) (hk : k < l.length) (hk' : k < vs.length) (hf : fits (vs.getD k 0#64) (l.getD k (0, 0)).2.toNat = false) : packGo 0#64 l vs = none := by
  unfold pkTo at h; rw [h, pk_step l vs k hk hk', hf]; rfl
theorem pkTo_end {l : List (Int × Int)} {vs : List (BitVec 64)} (h : pkTo l vs l.length) : packGo 0#64 l vs = some (packTo l vs l.length) := by
  unfold pkTo at h; rw [h, List.drop_length]; rfl
/-- What Pack answers. -/
def packB (l : List (Int × Int)) (vs : List (BitVec 64)) : Option (BitVec 64) := if l.length = vs.length ∧ apartGo 0#64 l = true then packGo 0#64 l vs else none

end Go.Proofs.Ytlkphjbnjeelaaa
