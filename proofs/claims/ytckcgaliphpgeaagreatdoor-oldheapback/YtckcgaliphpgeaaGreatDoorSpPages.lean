/-
  What the pages tell of runs, no program in sight: facts that the claimed proofs use.
-/
import Derived.Test.YtckcgaliphpgeaaGreatDoorSpB
namespace Go.Proofs.YtckcgaliphpgeaaGreatDoor.Sp
set_option maxRecDepth 100000
open Go.RowKit

/-- Of a page the first page of its span, and 1; 0: it is free. -/
def pf : List Rn → Int → Int
  | [], _ => 0
  | r :: L, x => if r.p ≤ x ∧ x < r.p + r.n then (if r.t = true then r.p + 1 else 0) else pf L x
def vl (r : Rn) : Int := if r.t = true then r.p + 1 else 0
theorem pf_at : ∀ {L : List Rn} {a e x : Int} {k : Nat}, Chain a L e → k < L.length → (el L k).p ≤ x → x < (el L k).p + (el L k).n → pf L x = vl (el L k)
  | [], _, _, _, _, _, h, _, _ => by simp at h
  | r :: L, a, e, x, 0, h, _, h1, h2 => by
    rw [el_zero] at h1 h2 ⊢
    unfold pf
    rw [if_pos ⟨h1, h2⟩]; rfl
  | r :: L, a, e, x, k + 1, h, hk, h1, h2 => by
    rw [el_succ] at h1 h2 ⊢
    have hk' : k < L.length := by simpa using hk
    have := chain_at h.2.2 hk'
    have := h.1
    unfold pf
    rw [if_neg (by omega)]
    exact pf_at h.2.2 hk' h1 h2
theorem next_at : ∀ {L : List Rn} {a e : Int} {k : Nat}, Chain a L e → k + 1 < L.length → (el L (k + 1)).p = (el L k).p + (el L k).n
  | [], _, _, _, _, h => by simp at h
  | [_], _, _, _, _, h => by simp at h
  | r :: s :: L, a, e, 0, h, _ => by rw [el_succ, el_zero, el_zero, h.2.2.1, h.1]
  | r :: s :: L, a, e, k + 1, h, hk => by
    rw [el_succ, el_succ]
    exact next_at h.2.2 (by simpa using hk)
theorem last_at : ∀ {L : List Rn} {a e : Int} {k : Nat}, Chain a L e → k + 1 = L.length → (el L k).p + (el L k).n = e
  | [], _, _, _, _, h => by simp at h
  | [r], a, e, k, h, hk => by
    obtain rfl : k = 0 := by simpa using hk
    rw [el_zero, h.1]; exact h.2.2
  | r :: s :: L, a, e, 0, h, hk => by simp at hk
  | r :: s :: L, a, e, k + 1, h, hk => by
    rw [el_succ]; exact last_at h.2.2 (by simpa using hk)
theorem first_at {L : List Rn} {a e : Int} (h : Chain a L e) (hk : 0 < L.length) : (el L 0).p = a := by
  cases L with
  | nil => simp at hk
  | cons r L => rw [el_zero]; exact h.1
theorem apart_at : ∀ {L : List Rn} {f : Bool} {k : Nat}, Ap f L → k + 1 < L.length → (el L k).t = true ∨ (el L (k + 1)).t = true
  | [], _, _, _, h => by simp at h
  | [_], _, _, _, h => by simp at h
  | r :: s :: L, f, 0, h, _ => by
    rw [el_succ, el_zero, el_zero]
    cases hr : r.t with
    | true => exact .inl rfl
    | false => right; exact h.2.1 (by rw [hr]; rfl)
  | r :: s :: L, f, k + 1, h, hk => by
    rw [el_succ, el_succ]
    exact apart_at h.2 (by simpa using hk)
/-- The runs of the first pages. -/
def Cut (L : List Rn) (i : Int) (out : List Rn) : Prop :=
  (i = 0 ∧ out = []) ∨ ∃ k, k < L.length ∧ (el L k).p < i ∧ i ≤ (el L k).p + (el L k).n ∧ out = L.take k ++ [⟨(el L k).p, i - (el L k).p, (el L k).t⟩]
theorem Cut.all {N : Int} {L out : List Rn} (hw : WF N L) (h : Cut L N out) : out = L := by
  rcases h with ⟨h1, h2⟩ | ⟨k, hk, h1, h2, h3⟩
  · subst h2
    have := hw.len
    exact (List.eq_nil_of_length_eq_zero (by omega)).symm
  · have hlast : k + 1 = L.length := by
      by_cases e : k + 1 = L.length
      · exact e
      · have hn := next_at hw.chain (k := k) (by omega)
        have := chain_at hw.chain (i := k + 1) (by omega)
        omega
    have he := last_at hw.chain hlast
    have e : (⟨(el L k).p, N - (el L k).p, (el L k).t⟩ : Rn) = el L k := by
      have : N - (el L k).p = (el L k).n := by omega
      rw [this]
    rw [h3, e, ← take_one hk]
    exact List.take_of_length_le (by omega)
/-- The next page is of the same run, or of another one. -/
theorem Cut.step {N i : Int} {L out : List Rn} (hw : WF N L) (h0 : 0 ≤ i) (hi : i < N) (h : Cut L i out) :
    (0 < i ∧ pf L i = pf L (i - 1) ∧ ∃ A r, out = A ++ [r] ∧ 1 ≤ r.n ∧ r.n ≤ i ∧ Cut L (i + 1) (A ++ [⟨r.p, r.n + 1, r.t⟩])) ∨
    ((i = 0 ∨ pf L i ≠ pf L (i - 1)) ∧ Cut L (i + 1) (out ++ [⟨i, 1, decide (0 < pf L i)⟩])) := by
  rcases h with ⟨h1, h2⟩ | ⟨k, hk, h1, h2, h3⟩
  · right
    subst h1 h2
    refine ⟨.inl rfl, .inr ⟨0, ?_, ?_⟩⟩
    · have := hw.len
      cases L with
      | nil => have := hw.chain; simp only [Chain] at this; omega
      | cons r L => simp
    · have hpos : 0 < L.length := by
        cases L with
        | nil => have := hw.chain; simp only [Chain] at this; omega
        | cons r L => simp
      have hp := first_at hw.chain hpos
      have hb := chain_at hw.chain hpos
      have hv := pf_at hw.chain hpos (x := 0) (by omega) (by omega)
      refine ⟨by omega, by omega, ?_⟩
      rw [hv, hp]
      unfold vl
      simp only [List.take_zero, List.nil_append, Int.sub_zero, Int.zero_add, hp]
      cases ht : (el L 0).t <;> simp
  · have hb := chain_at hw.chain hk
    have hv1 := pf_at hw.chain hk (x := i - 1) (by omega) (by omega)
    by_cases hs : i < (el L k).p + (el L k).n
    · left
      have hv := pf_at hw.chain hk (x := i) (by omega) hs
      refine ⟨by omega, by rw [hv, hv1], L.take k, _, h3, by show 1 ≤ i - (el L k).p; omega, by show i - (el L k).p ≤ i; omega, .inr ⟨k, hk, by omega, by omega, ?_⟩⟩
      have : i - (el L k).p + 1 = i + 1 - (el L k).p := by omega
      rw [this]
    · right
      have hk1 : k + 1 < L.length := by
        by_cases e : k + 1 = L.length
        · have := last_at hw.chain e; omega
        · omega
      have hn := next_at hw.chain hk1
      have hb1 := chain_at hw.chain hk1
      have hv := pf_at hw.chain hk1 (x := i) (by omega) (by omega)
      have hap := apart_at hw.apart hk1
      refine ⟨.inr ?_, .inr ⟨k + 1, hk1, by omega, by omega, ?_⟩⟩
      · rw [hv, hv1]
        unfold vl
        rcases hap with ht | ht <;> rw [ht]
        · cases ht2 : (el L (k + 1)).t <;> simp <;> omega
        · cases ht2 : (el L k).t <;> simp <;> omega
      · have e : (⟨(el L k).p, i - (el L k).p, (el L k).t⟩ : Rn) = el L k := by
          have : i - (el L k).p = (el L k).n := by omega
          rw [this]
        rw [h3, e, ← take_one hk, hv]
        congr 2
        have e2 : (el L (k + 1)).p = i := by omega
        have e3 : i + 1 - (el L (k + 1)).p = 1 := by omega
        rw [e3, e2]
        congr 1
        unfold vl
        cases ht : (el L (k + 1)).t <;> simp <;> omega
/-- What a page tells when pages are taken. -/
theorem pf_take {N : Int} {L : List Rn} (h : WF N L) {k : Nat} (hk : k < L.length) {u n : Int} (ht : (el L k).t = false) (h1 : (el L k).p ≤ u) (hn : 1 ≤ n) (h2 : u + n ≤ (el L k).p + (el L k).n) {x : Int} (hx0 : 0 ≤ x) (hx1 : x < N) :
    pf (takeL L k u n) x = if u ≤ x ∧ x < u + n then u + 1 else pf L x := by
  have hw' := take_wf h hk ht h1 hn h2
  obtain ⟨j', hj', b1, b2⟩ := chain_find hw'.chain hx0 hx1
  rw [pf_at hw'.chain hj' b1 b2]
  obtain ⟨j, hj, a1, a2⟩ := chain_find h.chain hx0 hx1
  rw [pf_at h.chain hj a1 a2]
  have hm := el_mem hj'
  obtain ⟨A, B, e, hl, c1, c2, c3, _, _, _⟩ := h.cut hk
  have hm2 := hm
  generalize hr' : el (takeL L k u n) j' = r' at *
  have hLr : ∀ r ∈ L, r.p ≤ x → x < r.p + r.n → r = el L j := fun r hr q1 q2 => by
    obtain ⟨i, hi, rfl⟩ := el_of_mem hr
    rw [chain_one h.chain hi hj q1 q2 a1 a2]
  have hkm : el L k ∈ L := el_mem hk
  generalize hrk : el L k = r at *
  rw [e, ← hl, takeL_mid c1 c2 r rfl hn] at hm2
  have hin : r' ∈ A ∨ r' ∈ mid r.p r.n u n ∨ r' ∈ B := by simpa using hm2
  have hmid : ∀ s ∈ mid r.p r.n u n, (s = ⟨r.p, u - r.p, false⟩) ∨ s = ⟨u, n, true⟩ ∨ s = ⟨u + n, r.p + r.n - (u + n), false⟩ := fun s hs => by
    unfold mid at hs
    rcases List.mem_append.1 hs with h | h
    · split at h
      · cases h
      · left; simpa using h
    · rcases List.mem_cons.1 h with h | h
      · right; left; exact h
      · split at h
        · cases h
        · right; right; simpa using h
  rcases hin with hA | hM | hB
  · have hrL : r' ∈ L := by rw [e]; simp [hA]
    have hej := hLr r' hrL b1 b2
    obtain ⟨i, hi, hei⟩ := el_of_mem hA
    have := chain_at c1 hi
    rw [hei] at this
    rw [if_neg (by omega), hej]
  · rcases hmid r' hM with rfl | rfl | rfl
    · dsimp only at b1 b2
      rw [if_neg (by omega)]
      have := hLr r hkm b1 (by omega)
      rw [← this]; unfold vl; simp [ht]
    · dsimp only at b1 b2
      rw [if_pos ⟨b1, b2⟩]; rfl
    · dsimp only at b1 b2
      rw [if_neg (by omega)]
      have := hLr r hkm (by omega) (by omega)
      rw [← this]; unfold vl; simp [ht]
  · have hrL : r' ∈ L := by rw [e]; simp [hB]
    have hej := hLr r' hrL b1 b2
    obtain ⟨i, hi, hei⟩ := el_of_mem hB
    have := chain_at c2 hi
    rw [hei] at this
    rw [if_neg (by omega), hej]
theorem fw_cons (y : Rn) (B : List Rn) : fw (y :: B) = if y.t = false then (B, y.n) else (y :: B, 0) := rfl
/-- And when they are given back. -/
theorem pf_give {N : Int} {L : List Rn} (h : WF N L) {k : Nat} (hk : k < L.length) (ht : (el L k).t = true) {x : Int} (hx0 : 0 ≤ x) (hx1 : x < N) :
    pf (giveL L k) x = if (el L k).p ≤ x ∧ x < (el L k).p + (el L k).n then 0 else pf L x := by
  have hw' := give_wf h hk ht
  obtain ⟨j', hj', b1, b2⟩ := chain_find hw'.chain hx0 hx1
  rw [pf_at hw'.chain hj' b1 b2]
  obtain ⟨j, hj, a1, a2⟩ := chain_find h.chain hx0 hx1
  rw [pf_at h.chain hj a1 a2]
  have hm := el_mem hj'
  obtain ⟨A, B, e, hl, c1, c2, c3, _, _, _⟩ := h.cut hk
  have hm2 := hm
  generalize hr' : el (giveL L k) j' = r' at *
  have hLr : ∀ r ∈ L, r.p ≤ x → x < r.p + r.n → r = el L j := fun r hr q1 q2 => by
    obtain ⟨i, hi, rfl⟩ := el_of_mem hr
    rw [chain_one h.chain hi hj q1 q2 a1 a2]
  have hjL : el L j ∈ L := el_mem hj
  generalize hrk : el L k = r at *
  rw [e, ← hl, giveL_is A B r c1 c3 rfl c2] at hm2
  have hbkA : ∀ s ∈ (bk A).1, s ∈ A := fun s hs => by
    rcases List.eq_nil_or_concat A with rfl | ⟨A0, y, rfl⟩
    · exact hs
    · simp only [List.concat_eq_append] at *
      rw [bk_snoc] at hs
      split at hs
      · simp [hs]
      · exact hs
  have hfwB : ∀ s ∈ (fw B).1, s ∈ B := fun s hs => by
    cases B with
    | nil => exact hs
    | cons y B =>
      rw [fw_cons] at hs
      split at hs
      · simp [hs]
      · exact hs
  have hAend : ∀ s ∈ A, s.p + s.n ≤ r.p := fun s hs => by
    obtain ⟨i, hi, rfl⟩ := el_of_mem hs
    have := chain_at c1 hi; omega
  have hBbeg : ∀ s ∈ B, r.p + r.n ≤ s.p := fun s hs => by
    obtain ⟨i, hi, rfl⟩ := el_of_mem hs
    have := chain_at c2 hi; omega
  have hin : r' ∈ (bk A).1 ∨ r' = ⟨r.p - (bk A).2, (bk A).2 + r.n + (fw B).2, false⟩ ∨ r' ∈ (fw B).1 := by simpa using hm2
  rcases hin with hA | rfl | hB
  · have hA' := hbkA r' hA
    have hej := hLr r' (by rw [e]; simp [hA']) b1 b2
    have := hAend r' hA'
    rw [if_neg (by omega), hej]
  · dsimp only at b1 b2
    by_cases hin : r.p ≤ x ∧ x < r.p + r.n
    · rw [if_pos hin]; rfl
    · rw [if_neg hin]
      have hall : ∀ s ∈ L, s ∈ A ∨ s = r ∨ s ∈ B := fun s hs => by rw [e] at hs; simpa [or_assoc] using hs
      have hjA := hall _ hjL
      have hfree : (el L j).t = false := by
        rcases hjA with hA | hr | hB
        · -- the last one before, which is free
          rcases List.eq_nil_or_concat A with rfl | ⟨A0, y, rfl⟩
          · cases hA
          · simp only [List.concat_eq_append] at *
            obtain ⟨m', d1, d2⟩ := chain_app.1 c1
            have d3 := d2.1
            have d4 : m' + y.n = r.p := d2.2.2
            have hend := hAend _ hA
            rw [bk_snoc] at b1
            cases hy : y.t with
            | false =>
              rw [hy] at b1
              simp only [if_true] at b1
              have : y = el L j := hLr y (by rw [e]; simp) (by omega) (by omega)
              rw [← this, hy]
            | true =>
              rw [hy] at b1
              simp at b1
              omega
        · rw [hr] at a1 a2; omega
        · have hbeg := hBbeg _ hB
          cases B with
          | nil => cases hB
          | cons y B =>
            have d1 := c2.1
            rw [fw_cons] at b2
            cases hy : y.t with
            | false =>
              rw [hy] at b2
              simp only [if_true] at b2
              have : y = el L j := hLr y (by rw [e]; simp) (by omega) (by omega)
              rw [← this, hy]
            | true =>
              rw [hy] at b2
              simp at b2
              omega
      unfold vl
      rw [hfree]; rfl
  · have hB' := hfwB r' hB
    have hej := hLr r' (by rw [e]; simp [hB']) b1 b2
    have := hBbeg r' hB'
    rw [if_neg (by omega), hej]
theorem pf_new {N x : Int} : pf (newL N) x = 0 := by
  unfold newL
  by_cases h : N = 0
  · rw [List.filter_cons_of_neg (by simp [ne, h])]; rfl
  · rw [List.filter_cons_of_pos (by simp [ne, h])]
    unfold pf
    split
    · rfl
    · rfl
end Go.Proofs.YtckcgaliphpgeaaGreatDoor.Sp
