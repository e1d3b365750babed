/-
  What a book of amounts is, no program in sight: facts that the claimed proofs use.
-/
import Derived.WalkKit
namespace Go.Proofs.YtjnknnakllbaaaaGreat.Le
set_option maxRecDepth 100000

/-- Amounts by kinds: of the first eight alone something is asked. -/
abbrev Row := Nat → Int
def z8 : Row := fun _ => 0
def up (f : Row) (k : Nat) (v : Int) : Row := fun j => if j = k then v else f j
theorem up_same (f : Row) (k : Nat) (v : Int) : up f k v k = v := by simp [up]
theorem up_other (f : Row) {k j : Nat} (v : Int) (h : j ≠ k) : up f k v j = f j := by simp [up, h]
def sumTo (f : Row) : Nat → Int
  | 0 => 0
  | k + 1 => sumTo f k + f k
def tot (f : Row) : Int := sumTo f 8
theorem tot_is (f : Row) : tot f = f 0 + f 1 + f 2 + f 3 + f 4 + f 5 + f 6 + f 7 := by simp [tot, sumTo]
theorem sumTo_up (f : Row) (k : Nat) (v : Int) : ∀ m, sumTo (up f k v) m = if k < m then sumTo f m - f k + v else sumTo f m
  | 0 => by simp [sumTo]
  | m + 1 => by
    rw [sumTo, sumTo, sumTo_up f k v m]
    by_cases h1 : k < m
    · rw [if_pos h1, if_pos (by omega), up_other f v (by omega)]; omega
    · rw [if_neg h1]
      by_cases h2 : m = k
      · subst h2; rw [if_pos (by omega), up_same]; omega
      · rw [if_neg (by omega), up_other f v h2]
theorem tot_up (f : Row) {k : Nat} (v : Int) (h : k < 8) : tot (up f k v) = tot f - f k + v := by
  unfold tot; rw [sumTo_up, if_pos h]
/-- No amount is below 0, and all of them are at most C. -/
def Gd (C : Int) (f : Row) : Prop := (∀ i, i < 8 → 0 ≤ f i) ∧ tot f ≤ C
theorem sumTo_nn {f : Row} (h : ∀ i, i < 8 → 0 ≤ f i) : ∀ k, k ≤ 8 → 0 ≤ sumTo f k
  | 0, _ => by simp [sumTo]
  | k + 1, hk => by have := sumTo_nn h k (by omega); have := h k (by omega); rw [sumTo]; omega
theorem sumTo_mono {f : Row} (h : ∀ i, i < 8 → 0 ≤ f i) : ∀ d k, k + d ≤ 8 → sumTo f k ≤ sumTo f (k + d)
  | 0, k, _ => by simp
  | d + 1, k, hk => by
    have h1 := sumTo_mono h d k (by omega)
    have h2 := h (k + d) (by omega)
    rw [← Nat.add_assoc, sumTo]; omega
theorem Gd.sum {C : Int} {f : Row} (h : Gd C f) {k : Nat} (hk : k ≤ 8) : 0 ≤ sumTo f k ∧ sumTo f k ≤ C := by
  refine ⟨sumTo_nn h.1 k hk, ?_⟩
  have h1 := sumTo_mono h.1 (8 - k) k (by omega)
  have e : k + (8 - k) = 8 := by omega
  rw [e] at h1
  have := h.2
  unfold tot at this
  omega
theorem Gd.at {C : Int} {f : Row} (h : Gd C f) {k : Nat} (hk : k < 8) : 0 ≤ f k ∧ f k ≤ C := by
  have h1 := h.1 k hk
  have h2 := h.sum (k := k) (by omega)
  have h3 := h.sum (k := k + 1) (by omega)
  rw [sumTo] at h3
  omega
theorem Gd.tot {C : Int} {f : Row} (h : Gd C f) : 0 ≤ tot f ∧ tot f ≤ C := h.sum (k := 8) (by omega)

/-! ### Rows that are alike -/
def eqB (f g : Row) : Bool := f 0 == g 0 && (f 1 == g 1 && (f 2 == g 2 && (f 3 == g 3 && (f 4 == g 4 && (f 5 == g 5 && (f 6 == g 6 && f 7 == g 7))))))
theorem eqB_iff {f g : Row} : eqB f g = true ↔ ∀ i, i < 8 → f i = g i := by
  unfold eqB
  simp only [Bool.and_eq_true, beq_iff_eq]
  constructor
  · rintro ⟨h0, h1, h2, h3, h4, h5, h6, h7⟩ i hi
    rcases (by omega : i = 0 ∨ i = 1 ∨ i = 2 ∨ i = 3 ∨ i = 4 ∨ i = 5 ∨ i = 6 ∨ i = 7) with rfl | rfl | rfl | rfl | rfl | rfl | rfl | rfl <;> assumption
  · intro h
    exact ⟨h 0 (by omega), h 1 (by omega), h 2 (by omega), h 3 (by omega), h 4 (by omega), h 5 (by omega), h 6 (by omega), h 7 (by omega)⟩
theorem eqB_refl (f : Row) : eqB f f = true := eqB_iff.2 fun _ _ => rfl
theorem eqB_trans {f g h : Row} (h1 : eqB f g = true) (h2 : eqB g h = true) : eqB f h = true := eqB_iff.2 fun i hi => (eqB_iff.1 h1 i hi).trans (eqB_iff.1 h2 i hi)
theorem eqB_symm {f g : Row} (h1 : eqB f g = true) : eqB g f = true := eqB_iff.2 fun i hi => (eqB_iff.1 h1 i hi).symm
theorem eqB_left {f g h : Row} (h1 : eqB f g = true) : eqB f h = eqB g h := by
  rw [Bool.eq_iff_iff]
  exact ⟨fun h2 => eqB_trans (eqB_symm h1) h2, fun h2 => eqB_trans h1 h2⟩
theorem eqB_right {f g h : Row} (h1 : eqB f g = true) : eqB h f = eqB h g := by
  rw [Bool.eq_iff_iff]
  exact ⟨fun h2 => eqB_trans h2 h1, fun h2 => eqB_trans h2 (eqB_symm h1)⟩
/-- How many of these states had just these amounts. -/
def cn (S : List Row) (f : Row) : Nat := (S.filter (fun g => eqB g f)).length
theorem cn_cons (g : Row) (S : List Row) (f : Row) : cn (g :: S) f = cn S f + (if eqB g f = true then 1 else 0) := by
  unfold cn
  by_cases h : eqB g f = true
  · rw [List.filter_cons_of_pos (by simpa using h), if_pos h]; rfl
  · rw [List.filter_cons_of_neg (by simpa using h), if_neg h]; rfl
theorem cn_le (S : List Row) (f : Row) : cn S f ≤ S.length := List.length_filter_le ..
theorem cn_eq {f g : Row} (S : List Row) (h : eqB f g = true) : cn S f = cn S g := by
  unfold cn
  congr 2
  funext x
  exact eqB_right h
def hd (S : List Row) : Row := S.headD z8
theorem hd_cons (f : Row) (S : List Row) : hd (f :: S) = f := rfl
/-- The greatest of the totals. -/
def pk : List Row → Int
  | [] => 0
  | f :: S => max (pk S) (tot f)

/-! ### What calls answer, and what they leave -/
structure Wf (C : Int) (S : List Row) : Prop where
  c0 : 0 ≤ C
  c1 : C ≤ 1099511627776
  ne : S ≠ []
  all : ∀ f ∈ S, Gd C f
theorem Wf.hd {C : Int} {S : List Row} (h : Wf C S) : Gd C (hd S) := by
  cases S with
  | nil => exact absurd rfl h.ne
  | cons f S => exact h.all f (by simp)
theorem pk_bd {C : Int} : ∀ {S : List Row}, 0 ≤ C → (∀ f ∈ S, Gd C f) → 0 ≤ pk S ∧ pk S ≤ C
  | [], h, _ => ⟨Int.le_refl _, h⟩
  | f :: S, h, ha => by
    have h1 := pk_bd (S := S) h (fun g hg => ha g (by simp [hg]))
    have h2 := (ha f (by simp)).tot
    rw [pk]; omega
theorem pk_hd {C : Int} {S : List Row} (h : Wf C S) : tot (Le.hd S) ≤ pk S := by
  cases S with
  | nil => exact absurd rfl h.ne
  | cons f S => rw [hd_cons, pk]; omega
theorem Wf.cons {C : Int} {S : List Row} (h : Wf C S) {f : Row} (hf : Gd C f) : Wf C (f :: S) :=
  ⟨h.c0, h.c1, by simp, fun g hg => (List.mem_cons.1 hg).elim (fun e => e ▸ hf) (h.all g)⟩
theorem z8_gd {C : Int} (h : 0 ≤ C) : Gd C z8 := ⟨fun _ _ => Int.le_refl _, by rw [tot_is]; simpa [z8] using h⟩
theorem new_wf {C : Int} (h : 0 ≤ C) (h1 : C ≤ 1099511627776) : Wf C [z8] := ⟨h, h1, by simp, fun f hf => by rw [List.mem_singleton.1 hf]; exact z8_gd h⟩
def kindB (k : Int) : Bool := decide (0 ≤ k) && decide (k < 8)
theorem kindB_iff {k : Int} : kindB k = true ↔ 0 ≤ k ∧ k < 8 := by simp [kindB]
theorem kindB_not {k : Int} : kindB k = false ↔ ¬ (0 ≤ k ∧ k < 8) := by rw [← kindB_iff]; simp
def resE (C : Int) (f : Row) (k n : Int) : Int := if kindB k = true ∧ 0 ≤ n then (if C - tot f < n then 18 else 0) else 11
def relE (f : Row) (k n : Int) : Int := if kindB k = true ∧ 0 ≤ n then (if f k.toNat < n then 16 else 0) else 11
def shE (f : Row) (k t n : Int) : Int := if kindB t = true then relE f k n else 11
def resF (f : Row) (k n : Int) : Row := up f k.toNat (f k.toNat + n)
def relF (f : Row) (k n : Int) : Row := up f k.toNat (f k.toNat - n)
def shF (f : Row) (k t n : Int) : Row := resF (relF f k n) t n
def nxt (e : Int) (g : Row) (S : List Row) : List Row := if e = 0 then g :: S else S
theorem res_gd {C k n : Int} {f : Row} (h : Gd C f) (he : resE C f k n = 0) : Gd C (resF f k n) := by
  unfold resE at he
  by_cases h1 : kindB k = true ∧ 0 ≤ n
  · rw [if_pos h1] at he
    by_cases h2 : C - tot f < n
    · rw [if_pos h2] at he; cases he
    · obtain ⟨hk, hn⟩ := h1
      obtain ⟨k0, k1⟩ := kindB_iff.1 hk
      refine ⟨fun i hi => ?_, ?_⟩
      · by_cases e : i = k.toNat
        · subst e; rw [resF, up_same]; have := h.1 _ hi; omega
        · rw [resF, up_other _ _ e]; exact h.1 i hi
      · rw [resF, tot_up _ _ (by omega)]; omega
  · rw [if_neg h1] at he; cases he
theorem rel_gd {C k n : Int} {f : Row} (h : Gd C f) (he : relE f k n = 0) : Gd C (relF f k n) ∧ kindB k = true ∧ 0 ≤ n ∧ n ≤ f k.toNat ∧ tot (relF f k n) = tot f - n := by
  unfold relE at he
  by_cases h1 : kindB k = true ∧ 0 ≤ n
  · rw [if_pos h1] at he
    by_cases h2 : f k.toNat < n
    · rw [if_pos h2] at he; cases he
    · obtain ⟨hk, hn⟩ := h1
      obtain ⟨k0, k1⟩ := kindB_iff.1 hk
      have ht : tot (relF f k n) = tot f - n := by rw [relF, tot_up _ _ (by omega)]; omega
      refine ⟨⟨fun i hi => ?_, ?_⟩, hk, hn, by omega, ht⟩
      · by_cases e : i = k.toNat
        · subst e; rw [relF, up_same]; omega
        · rw [relF, up_other _ _ e]; exact h.1 i hi
      · have := h.2; omega
  · rw [if_neg h1] at he; cases he
theorem sh_gd {C k t n : Int} {f : Row} (h : Gd C f) (he : shE f k t n = 0) : Gd C (shF f k t n) := by
  unfold shE at he
  by_cases ht : kindB t = true
  · rw [if_pos ht] at he
    obtain ⟨g1, g2, g3, g4, g5⟩ := rel_gd h he
    refine res_gd g1 ?_
    unfold resE
    rw [if_pos ⟨ht, g3⟩, if_neg (by have := h.2; omega)]
  · rw [if_neg ht] at he; cases he
theorem nxt_wf {C e : Int} {g : Row} {S : List Row} (h : Wf C S) (hg : e = 0 → Gd C g) : Wf C (nxt e g S) := by
  unfold nxt
  by_cases he : e = 0
  · rw [if_pos he]; exact h.cons (hg he)
  · rw [if_neg he]; exact h
theorem nxt_len (e : Int) (g : Row) (S : List Row) : (nxt e g S).length ≤ S.length + 1 := by
  unfold nxt; split <;> simp
def opE (C : Int) (f : Row) (x k t n : Int) : Int := if x = 0 then resE C f k n else if x = 1 then relE f k n else shE f k t n
def opF (f : Row) (x k t n : Int) : Row := if x = 0 then resF f k n else if x = 1 then relF f k n else shF f k t n
def opS (C : Int) (S : List Row) (x k t n : Int) : List Row := nxt (opE C (hd S) x k t n) (opF (hd S) x k t n) S
theorem op_wf {C : Int} {S : List Row} (h : Wf C S) (x k t n : Int) : Wf C (opS C S x k t n) := by
  refine nxt_wf h fun he => ?_
  unfold opE at he
  unfold opF
  by_cases h0 : x = 0
  · rw [if_pos h0] at he ⊢; exact res_gd h.hd he
  · rw [if_neg h0] at he ⊢
    by_cases h1 : x = 1
    · rw [if_pos h1] at he ⊢; exact (rel_gd h.hd he).1
    · rw [if_neg h1] at he ⊢; exact sh_gd h.hd he
theorem op_len (C : Int) (S : List Row) (x k t n : Int) : (opS C S x k t n).length ≤ S.length + 1 := nxt_len ..
end Go.Proofs.YtjnknnakllbaaaaGreat.Le
