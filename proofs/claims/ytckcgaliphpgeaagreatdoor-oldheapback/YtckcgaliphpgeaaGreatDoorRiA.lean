import Derived.Test.YtckcgaliphpgeaaGreatDoorRows
import Derived.WalkKit
import Derived.WalkSpells
import Derived.WalkLawsBesides
import Derived.RegionTactic
import Derived.BigRegion
import Derived.Deep.QuietTactic
import Derived.BigQuiet
import Derived.Deep.RegionHeld3
import Derived.Deep.RegionLaw
import Derived.Deep.AppendLies
import Derived.Laws.AppendOwnNone
import Derived.Laws.CopyOwn
import Derived.Deep.OwnRows
import Derived.Lib.Hide
import Derived.StillTailTactics
/-
  Rings of numbers, no program in sight: neighbours along a path, a ring into which one comes and out of which one goes; facts that the claimed proofs use.
-/
namespace Go.Proofs.YtckcgaliphpgeaaGreatDoor.Ri
set_option maxRecDepth 100000

/-! ### One value turned -/
def up {α : Type} (f : Nat → α) (i : Nat) (v : α) : Nat → α := fun j => if j = i then v else f j
theorem up_at {α : Type} (f : Nat → α) (i : Nat) (v : α) : up f i v i = v := by simp [up]
theorem up_far {α : Type} {f : Nat → α} {i j : Nat} {v : α} (h : j ≠ i) : up f i v j = f j := by simp [up, h]

theorem mem_mid {A C : List Nat} {x : Nat} (y : Nat) : y ∈ A ++ x :: C ↔ y = x ∨ y ∈ A ++ C := by
  rw [List.perm_middle.mem_iff, List.mem_cons]

/-! ### Neighbours along a path -/
def Lk (nx pv : Nat → Nat) : List Nat → Prop
  | a :: b :: r => nx a = b ∧ pv b = a ∧ Lk nx pv (b :: r)
  | _ => True
theorem lk_app {nx pv : Nat → Nat} : ∀ (A : List Nat) (b : Nat) (C : List Nat), Lk nx pv (A ++ b :: C) ↔ Lk nx pv (A ++ [b]) ∧ Lk nx pv (b :: C)
  | [], b, C => by simp [Lk]
  | [a], b, C => by simp [Lk, and_assoc]
  | a :: a' :: A, b, C => by
    have ih := lk_app (nx := nx) (pv := pv) (a' :: A) b C
    simp only [List.cons_append] at ih ⊢
    simp only [Lk, ih, and_assoc]
theorem lk_same {nx pv nx' pv' : Nat → Nat} : ∀ (l : List Nat), (∀ a ∈ l.dropLast, nx' a = nx a) → (∀ b ∈ l.tail, pv' b = pv b) → Lk nx pv l → Lk nx' pv' l
  | [], _, _, _ => trivial
  | [_], _, _, _ => trivial
  | a :: b :: r, h1, h2, h => by
    obtain ⟨e1, e2, h⟩ := h
    refine ⟨(h1 a (by simp)).trans e1, (h2 b (by simp)).trans e2, lk_same (b :: r) (fun x hx => h1 x (by simp only [List.dropLast]; exact List.mem_cons_of_mem _ hx)) (fun x hx => h2 x (by simp at hx ⊢; exact .inr hx)) h⟩
/-- A ring through a knot. -/
def Rg (nx pv : Nat → Nat) (k : Nat) (l : List Nat) : Prop := Lk nx pv (k :: (l ++ [k]))
theorem rg_same {nx pv nx' pv' : Nat → Nat} {k : Nat} {l : List Nat} (h1 : ∀ a, a = k ∨ a ∈ l → nx' a = nx a) (h2 : ∀ a, a = k ∨ a ∈ l → pv' a = pv a) (h : Rg nx pv k l) : Rg nx' pv' k l := by
  refine lk_same _ (fun a ha => h1 a ?_) (fun a ha => h2 a ?_) h
  · have e : (k :: (l ++ [k])).dropLast = k :: l := by rw [← List.cons_append, List.dropLast_concat]
    rw [e] at ha; simpa using ha
  · simp at ha; exact ha.symm
/-- Where one comes in, and where one goes out: the neighbours. -/
def Ends (k : Nat) (A C : List Nat) (b a : Nat) : Prop := (∃ P, P ++ [b] = k :: A) ∧ ∃ S, a :: S = C ++ [k]
theorem ends_some (k : Nat) (A C : List Nat) : ∃ b a, Ends k A C b a := by
  obtain ⟨P, b, h⟩ : ∃ P b, P ++ [b] = k :: A := ⟨(k :: A).dropLast, (k :: A).getLast (by simp), List.dropLast_concat_getLast _⟩
  cases C with
  | nil => exact ⟨b, k, ⟨P, h⟩, [], rfl⟩
  | cons c C => exact ⟨b, c, ⟨P, h⟩, C ++ [k], rfl⟩
theorem ends_mem {k b a : Nat} {A C : List Nat} (h : Ends k A C b a) : (b = k ∨ b ∈ A) ∧ (a = k ∨ a ∈ C) := by
  obtain ⟨⟨P, hP⟩, S, hS⟩ := h
  constructor
  · have : b ∈ k :: A := by rw [← hP]; simp
    simpa using this
  · have : a ∈ C ++ [k] := by rw [← hS]; simp
    simp at this; exact this.symm
theorem rg_path {nx pv : Nat → Nat} {k b a : Nat} {A C : List Nat} (X : List Nat) (h : Ends k A C b a) : ∃ P S, P ++ [b] = k :: A ∧ a :: S = C ++ [k] ∧ (Rg nx pv k (A ++ X ++ C) ↔ Lk nx pv (P ++ [b]) ∧ Lk nx pv (b :: (X ++ a :: S))) := by
  obtain ⟨⟨P, hP⟩, S, hS⟩ := h
  refine ⟨P, S, hP, hS, ?_⟩
  have e : k :: (A ++ X ++ C ++ [k]) = P ++ b :: (X ++ a :: S) := by
    rw [hS, show P ++ b :: (X ++ (C ++ [k])) = (P ++ [b]) ++ (X ++ (C ++ [k])) by simp, hP]; simp
  rw [Rg, e, lk_app]
theorem rg_cut {nx pv nx' pv' : Nat → Nat} {k b a : Nat} {A C P S : List Nat} (hP : P ++ [b] = k :: A) (hS : a :: S = C ++ [k]) (hnd : (k :: (A ++ C)).Nodup)
    (h1 : ∀ y, y ≠ b → (y = k ∨ y ∈ A ∨ y ∈ C) → nx' y = nx y) (h2 : ∀ y, y ≠ a → (y = k ∨ y ∈ A ∨ y ∈ C) → pv' y = pv y) (h : Lk nx pv (P ++ [b])) (h' : Lk nx pv (a :: S)) : Lk nx' pv' (P ++ [b]) ∧ Lk nx' pv' (a :: S) := by
  have hnd' : (P ++ [b] ++ C).Nodup := by rw [hP]; simpa using hnd
  have hmem : ∀ y, y ∈ P ++ [b] ↔ y = k ∨ y ∈ A := fun y => by rw [hP]; simp
  have hmem2 : ∀ y, y ∈ a :: S ↔ y = k ∨ y ∈ C := fun y => by rw [hS]; simp [or_comm]
  simp only [List.nodup_append, List.nodup_cons, List.mem_append, List.mem_singleton, not_or] at hnd hnd'
  have ha := (hmem2 a).1 (by simp)
  have hb := (hmem b).1 (by simp)
  have hS' : (C ++ [k]).Nodup := by simp only [List.nodup_append, List.nodup_cons, List.mem_singleton]; exact ⟨hnd.2.2.1, by simp, by rintro x hx y rfl e; exact hnd.1.2 (e ▸ hx)⟩
  rw [← hS, List.nodup_cons] at hS'
  constructor
  · refine lk_same _ (fun y hy => ?_) (fun y hy => ?_) h
    · rw [List.dropLast_concat] at hy
      refine h1 y (fun e => hnd'.1.2.2 y hy b (by simp) e) ?_
      rcases (hmem y).1 (by simp [hy]) with e | e
      · exact .inl e
      · exact .inr (.inl e)
    · rw [hP, List.tail_cons] at hy
      refine h2 y (fun e => ?_) (.inr (.inl hy))
      rcases ha with e' | e'
      · rw [e, e'] at hy; exact hnd.1.1 hy
      · exact hnd.2.2.2 y hy a e' e
  · refine lk_same _ (fun y hy => ?_) (fun y hy => ?_) h'
    · rw [hS, List.dropLast_concat] at hy
      refine h1 y (fun e => ?_) (.inr (.inr hy))
      rcases hb with e' | e'
      · rw [e, e'] at hy; exact hnd.1.2 hy
      · exact hnd.2.2.2 b e' y hy e.symm
    · rw [List.tail_cons] at hy
      refine h2 y (fun e => hS'.1 (e ▸ hy)) ?_
      rcases (hmem2 y).1 (by simp [hy]) with e | e
      · exact .inl e
      · exact .inr (.inr e)
theorem rg_near {nx pv : Nat → Nat} {k b a : Nat} {A C : List Nat} (he : Ends k A C b a) (h : Rg nx pv k (A ++ C)) : nx b = a ∧ pv a = b := by
  obtain ⟨P, S, hP, hS, hi⟩ := rg_path (nx := nx) (pv := pv) [] he
  rw [List.append_nil] at hi
  exact ⟨(hi.1 h).2.1, (hi.1 h).2.2.1⟩
theorem rg_insert {nx pv : Nat → Nat} {k b a x : Nat} {A C : List Nat} (he : Ends k A C b a) (hnd : (k :: (A ++ C)).Nodup) (hx : x ≠ k ∧ x ∉ A ∧ x ∉ C) (h : Rg nx pv k (A ++ C)) :
    Rg (up (up nx b x) x a) (up (up pv x b) a x) k (A ++ x :: C) := by
  obtain ⟨hbm, ham⟩ := ends_mem he
  obtain ⟨P, S, hP, hS, hi⟩ := rg_path (nx := nx) (pv := pv) [] he
  obtain ⟨P', S', hP', hS', hi'⟩ := rg_path (nx := up (up nx b x) x a) (pv := up (up pv x b) a x) [x] he
  have hxb : b ≠ x := fun e => by rcases hbm with h | h <;> simp_all
  have hxa : a ≠ x := fun e => by rcases ham with h | h <;> simp_all
  rw [List.append_nil] at hi
  obtain ⟨l1, _, _, l2⟩ := hi.1 h
  have hne : ∀ y, (y = k ∨ y ∈ A ∨ y ∈ C) → y ≠ x := fun y hy e => by subst e; rcases hy with h | h | h <;> simp_all
  obtain ⟨g1, g2⟩ := rg_cut (nx' := up (up nx b x) x a) (pv' := up (up pv x b) a x) hP hS hnd (fun y h1 hy => by rw [up_far (hne y hy), up_far h1]) (fun y h1 hy => by rw [up_far h1, up_far (hne y hy)]) l1 l2
  have e1 : P = P' := by have := hP.trans hP'.symm; simpa using this
  have e2 : S = S' := by have := hS.trans hS'.symm; simpa using this
  subst e1 e2
  have : A ++ x :: C = A ++ [x] ++ C := by simp
  rw [this]
  exact hi'.2 ⟨g1, by rw [up_far hxb, up_at], by rw [up_far (fun e => hxa e.symm), up_at], up_at _ _ _, up_at _ _ _, g2⟩
theorem rg_remove {nx pv : Nat → Nat} {k x : Nat} {A C : List Nat} (hnd : (k :: (A ++ x :: C)).Nodup) (h : Rg nx pv k (A ++ x :: C)) :
    Ends k A C (pv x) (nx x) ∧ Rg (up nx (pv x) (nx x)) (up pv (nx x) (pv x)) k (A ++ C) := by
  obtain ⟨b, a, he⟩ := ends_some k A C
  obtain ⟨P, S, hP, hS, hi⟩ := rg_path (nx := nx) (pv := pv) [x] he
  have : A ++ x :: C = A ++ [x] ++ C := by simp
  rw [this] at h
  obtain ⟨l1, _, e2, e3, _, l2⟩ := hi.1 h
  rw [e2, e3]
  refine ⟨he, ?_⟩
  obtain ⟨P', S', hP', hS', hi'⟩ := rg_path (nx := up nx b a) (pv := up pv a b) [] he
  have e1 : P = P' := by have := hP.trans hP'.symm; simpa using this
  have e2 : S = S' := by have := hS.trans hS'.symm; simpa using this
  subst e1 e2
  have hnd2 : (k :: (A ++ C)).Nodup := by
    refine hnd.sublist ?_
    exact List.Sublist.cons_cons _ ((List.sublist_cons_self x C).append_left A)
  obtain ⟨g1, g2⟩ := rg_cut (nx' := up nx b a) (pv' := up pv a b) hP hS hnd2 (fun y h1 _ => up_far h1) (fun y h1 _ => up_far h1) l1 l2
  rw [List.append_nil] at hi'
  exact hi'.2 ⟨g1, up_at _ _ _, up_at _ _ _, g2⟩
theorem rg_step {nx pv : Nat → Nat} {k x : Nat} {A C : List Nat} (h : Rg nx pv k (A ++ x :: C)) : nx x = (C ++ [k]).head (by simp) := by
  have : Lk nx pv ((k :: A) ++ x :: (C ++ [k])) := by simpa [Rg] using h
  rw [lk_app] at this
  obtain ⟨_, h2⟩ := this
  cases C with
  | nil => exact h2.1
  | cons c C => exact h2.1
theorem rg_first {nx pv : Nat → Nat} {k : Nat} {l : List Nat} (h : Rg nx pv k l) : nx k = (l ++ [k]).head (by simp) := by
  cases l with
  | nil => exact h.1
  | cons c C => exact h.1
theorem rg_empty (nx pv : Nat → Nat) (k : Nat) (h1 : nx k = k) (h2 : pv k = k) : Rg nx pv k [] := ⟨h1, h2, trivial⟩

/-! ### Items in lists -/
/-- Lists in which each item stands once at most. -/
structure Good (n m : Nat) (L : Nat → List Nat) : Prop where
  out : ∀ i, m ≤ i → L i = []
  lt : ∀ i x, x ∈ L i → x < n
  nd : ∀ i, (L i).Nodup
  apart : ∀ i j x, x ∈ L i → x ∈ L j → i = j
theorem Good.none (n m : Nat) : Good n m (fun _ => []) := ⟨fun _ _ => rfl, fun _ _ h => by simp at h, fun _ => List.nodup_nil, fun _ _ _ h => by simp at h⟩
theorem Good.insert {n m : Nat} {L : Nat → List Nat} (h : Good n m L) {i x : Nat} {A C : List Nat} (hi : i < m) (hx : x < n) (hno : ∀ j, x ∉ L j) (hl : L i = A ++ C) : Good n m (up L i (A ++ x :: C)) := by
  have hmem : ∀ y, y ∈ A ++ x :: C ↔ y = x ∨ y ∈ L i := fun y => by rw [hl]; exact mem_mid y
  refine ⟨fun j hj => ?_, fun j y hy => ?_, fun j => ?_, fun j j' y h1 h2 => ?_⟩
  · rw [up_far (by omega)]; exact h.out j hj
  · by_cases e : j = i
    · subst e; rw [up_at, hmem] at hy
      rcases hy with rfl | hy
      · exact hx
      · exact h.lt _ _ hy
    · rw [up_far e] at hy; exact h.lt _ _ hy
  · by_cases e : j = i
    · subst e; rw [up_at]
      have h1 := h.nd j
      have h2 := hno j
      rw [hl] at h1 h2
      have hp : (A ++ x :: C).Perm (x :: (A ++ C)) := List.perm_middle
      rw [hp.nodup_iff, List.nodup_cons]
      exact ⟨h2, h1⟩
    · rw [up_far e]; exact h.nd j
  · by_cases e : j = i
    · by_cases e' : j' = i
      · omega
      · subst e; rw [up_at, hmem] at h1; rw [up_far e'] at h2
        rcases h1 with rfl | h1
        · exact absurd h2 (hno _)
        · exact h.apart _ _ _ h1 h2
    · rw [up_far e] at h1
      by_cases e' : j' = i
      · subst e'; rw [up_at, hmem] at h2
        rcases h2 with rfl | h2
        · exact absurd h1 (hno _)
        · exact h.apart _ _ _ h1 h2
      · rw [up_far e'] at h2; exact h.apart _ _ _ h1 h2
theorem Good.remove {n m : Nat} {L : Nat → List Nat} (h : Good n m L) {i x : Nat} {A C : List Nat} (hl : L i = A ++ x :: C) : Good n m (up L i (A ++ C)) := by
  have hsub : ∀ y, y ∈ A ++ C → y ∈ L i := fun y hy => by rw [hl]; exact (mem_mid y).2 (.inr hy)
  have hi : i < m := by
    rcases Nat.lt_or_ge i m with hi | hi
    · exact hi
    · have := h.out i hi; rw [hl] at this; simp at this
  have hto : ∀ j y, y ∈ up L i (A ++ C) j → y ∈ L j := fun j y hy => by
    by_cases e : j = i
    · subst e; rw [up_at] at hy; exact hsub y hy
    · rw [up_far e] at hy; exact hy
  refine ⟨fun j hj => by rw [up_far (by omega)]; exact h.out j hj, fun j y hy => h.lt _ _ (hto j y hy), fun j => ?_, fun j j' y h1 h2 => h.apart _ _ _ (hto _ _ h1) (hto _ _ h2)⟩
  by_cases e : j = i
  · subst e; rw [up_at]
    have := h.nd j
    rw [hl] at this
    exact this.sublist ((List.sublist_cons_self x C).append_left A)
  · rw [up_far e]; exact h.nd j
theorem Good.knot {n m : Nat} {L : Nat → List Nat} (h : Good n m L) (i : Nat) : ((n + i) :: L i).Nodup := List.nodup_cons.2 ⟨fun hx => by have := h.lt _ _ hx; omega, h.nd i⟩

/-- Numbers that tell these lists: each item's list, each list's length, and neighbours. -/
structure Fits (n m : Nat) (L : Nat → List Nat) (inn : Nat → Int) (cs nx pv : Nat → Nat) : Prop where
  good : Good n m L
  ring : ∀ i, i < m → Rg nx pv (n + i) (L i)
  at_ : ∀ i x, x ∈ L i → inn x = (i : Int)
  no : ∀ x, x < n → (∀ i, x ∉ L i) → inn x = -1
  cnt : ∀ i, i < m → cs i = (L i).length
theorem Fits.insert {n m : Nat} {L : Nat → List Nat} {inn : Nat → Int} {cs nx pv : Nat → Nat} (h : Fits n m L inn cs nx pv) {i x b a : Nat} {A C : List Nat} (hi : i < m) (hx : x < n) (hno : ∀ j, x ∉ L j) (hl : L i = A ++ C)
    (he : Ends (n + i) A C b a) : Fits n m (up L i (A ++ x :: C)) (up inn x (i : Int)) (up cs i (cs i + 1)) (up (up nx b x) x a) (up (up pv x b) a x) := by
  obtain ⟨hbm, ham⟩ := ends_mem he
  have hnd := h.good.knot i
  rw [hl] at hnd
  have hxi := hno i
  rw [hl] at hxi
  simp only [List.mem_append, not_or] at hxi
  have hmem : ∀ y, y ∈ A ++ x :: C ↔ y = x ∨ y ∈ L i := fun y => by rw [hl]; exact mem_mid y
  have hbL : b = n + i ∨ b ∈ L i := by rw [hl]; rcases hbm with h | h <;> simp [h]
  have haL : a = n + i ∨ a ∈ L i := by rw [hl]; rcases ham with h | h <;> simp [h]
  have hfar : ∀ j, j < m → j ≠ i → ∀ y, (y = n + j ∨ y ∈ L j) → ∀ c, (c = n + i ∨ c ∈ L i) → y ≠ c := by
    intro j hj hji y hy c hc e
    subst e
    rcases hy with rfl | hy <;> rcases hc with e | hc
    · omega
    · have := h.good.lt _ _ hc; omega
    · have := h.good.lt _ _ hy; omega
    · exact hji (h.good.apart _ _ _ hy hc)
  refine ⟨h.good.insert hi hx hno hl, fun j hj => ?_, fun j y hy => ?_, fun y hy hn => ?_, fun j hj => ?_⟩
  · by_cases e : j = i
    · subst e; rw [up_at]
      exact rg_insert he hnd ⟨by omega, hxi⟩ (hl ▸ h.ring j hj)
    · rw [up_far e]
      have hx' : ∀ y, (y = n + j ∨ y ∈ L j) → y ≠ x := fun y hy e => by
        subst e
        rcases hy with h | h
        · omega
        · exact hno _ h
      exact rg_same (fun y hy => by rw [up_far (hx' y hy), up_far (hfar j hj e y hy b hbL)]) (fun y hy => by rw [up_far (hfar j hj e y hy a haL), up_far (hx' y hy)]) (h.ring j hj)
  · by_cases e : j = i
    · subst e; rw [up_at, hmem] at hy
      by_cases e2 : y = x
      · subst e2; rw [up_at]
      · rw [up_far e2]
        exact h.at_ _ _ (hy.resolve_left e2)
    · rw [up_far e] at hy
      rw [up_far (fun (e2 : y = x) => hno j (e2 ▸ hy))]; exact h.at_ _ _ hy
  · have e2 : y ≠ x := fun e => by
      subst e
      exact hn i (by rw [up_at, hmem]; exact .inl rfl)
    rw [up_far e2]
    refine h.no y hy (fun j hj => ?_)
    by_cases e : j = i
    · subst e; exact hn j (by rw [up_at, hmem]; exact .inr hj)
    · exact hn j (by rw [up_far e]; exact hj)
  · by_cases e : j = i
    · subst e; rw [up_at, up_at, h.cnt j hj, hl]; simp; omega
    · rw [up_far e, up_far e]; exact h.cnt j hj
theorem Fits.near {n m : Nat} {L : Nat → List Nat} {inn : Nat → Int} {cs nx pv : Nat → Nat} (h : Fits n m L inn cs nx pv) {i b a : Nat} {A C : List Nat} (hi : i < m) (hl : L i = A ++ C) (he : Ends (n + i) A C b a) : nx b = a ∧ pv a = b ∧ b < n + m ∧ a < n + m := by
  obtain ⟨e1, e2⟩ := rg_near he (hl ▸ h.ring i hi)
  obtain ⟨hbm, ham⟩ := ends_mem he
  refine ⟨e1, e2, ?_, ?_⟩
  · rcases hbm with e | e
    · omega
    · have := h.good.lt i b (by rw [hl]; simp [e]); omega
  · rcases ham with e | e
    · omega
    · have := h.good.lt i a (by rw [hl]; simp [e]); omega
theorem Fits.remove {n m : Nat} {L : Nat → List Nat} {inn : Nat → Int} {cs nx pv : Nat → Nat} (h : Fits n m L inn cs nx pv) {i x : Nat} {A C : List Nat} (hi : i < m) (hl : L i = A ++ x :: C) :
    Fits n m (up L i (A ++ C)) (up inn x (-1)) (up cs i (cs i - 1)) (up nx (pv x) (nx x)) (up pv (nx x) (pv x)) ∧ pv x < n + m ∧ nx x < n + m ∧ 0 < cs i := by
  have hnd := h.good.knot i
  rw [hl] at hnd
  obtain ⟨he, hr⟩ := rg_remove hnd (hl ▸ h.ring i hi)
  obtain ⟨hbm, ham⟩ := ends_mem he
  have hxi : x ∈ L i := by rw [hl]; simp
  have hbL : pv x = n + i ∨ pv x ∈ L i := by rw [hl]; rcases hbm with h | h <;> simp [h]
  have haL : nx x = n + i ∨ nx x ∈ L i := by rw [hl]; rcases ham with h | h <;> simp [h]
  have hfar : ∀ j, j < m → j ≠ i → ∀ y, (y = n + j ∨ y ∈ L j) → ∀ c, (c = n + i ∨ c ∈ L i) → y ≠ c := by
    intro j hj hji y hy c hc e
    subst e
    rcases hy with rfl | hy <;> rcases hc with e | hc
    · omega
    · have := h.good.lt _ _ hc; omega
    · have := h.good.lt _ _ hy; omega
    · exact hji (h.good.apart _ _ _ hy hc)
  have hnx : x ∉ A ++ C := by
    have := h.good.nd i
    rw [hl, List.perm_middle.nodup_iff, List.nodup_cons] at this
    exact this.1
  have hmem : ∀ y, y ∈ L i ↔ y = x ∨ y ∈ A ++ C := fun y => by rw [hl]; exact mem_mid y
  have hc := h.cnt i hi
  rw [hl] at hc
  simp at hc
  refine ⟨⟨h.good.remove hl, fun j hj => ?_, fun j y hy => ?_, fun y hy hn => ?_, fun j hj => ?_⟩, ?_, ?_, by omega⟩
  · by_cases e : j = i
    · subst e; rw [up_at]; exact hr
    · rw [up_far e]
      exact rg_same (fun y hy => up_far (hfar j hj e y hy _ hbL)) (fun y hy => up_far (hfar j hj e y hy _ haL)) (h.ring j hj)
  · by_cases e : j = i
    · subst e; rw [up_at] at hy
      rw [up_far (fun (e : y = x) => hnx (e ▸ hy))]
      exact h.at_ _ _ ((hmem y).2 (.inr hy))
    · rw [up_far e] at hy
      rw [up_far (fun (e2 : y = x) => e (h.good.apart _ _ _ (e2 ▸ hy) hxi))]; exact h.at_ _ _ hy
  · by_cases e2 : y = x
    · subst e2; rw [up_at]
    · rw [up_far e2]
      refine h.no y hy (fun j hj => ?_)
      by_cases e : j = i
      · subst e; exact hn j (by rw [up_at]; exact ((hmem y).1 hj).resolve_left e2)
      · exact hn j (by rw [up_far e]; exact hj)
  · by_cases e : j = i
    · subst e; rw [up_at, up_at]; simp; omega
    · rw [up_far e, up_far e]; exact h.cnt j hj
  · rcases hbL with e | e
    · omega
    · have := h.good.lt _ _ e; omega
  · rcases haL with e | e
    · omega
    · have := h.good.lt _ _ e; omega
theorem Fits.first {n m : Nat} {L : Nat → List Nat} {inn : Nat → Int} {cs nx pv : Nat → Nat} (h : Fits n m L inn cs nx pv) {i : Nat} (hi : i < m) : nx (n + i) = (L i ++ [n + i]).head (by simp) := rg_first (h.ring i hi)
theorem Fits.step {n m : Nat} {L : Nat → List Nat} {inn : Nat → Int} {cs nx pv : Nat → Nat} (h : Fits n m L inn cs nx pv) {i x : Nat} {A C : List Nat} (hi : i < m) (hl : L i = A ++ x :: C) : nx x = (C ++ [n + i]).head (by simp) := rg_step (hl ▸ h.ring i hi)
theorem Fits.none (n m : Nat) (inn : Nat → Int) (cs nx pv : Nat → Nat) (h1 : ∀ x, x < n → inn x = -1) (h2 : ∀ i, i < m → cs i = 0) (h3 : ∀ i, i < m → nx (n + i) = n + i ∧ pv (n + i) = n + i) : Fits n m (fun _ => []) inn cs nx pv :=
  ⟨Good.none n m, fun i hi => rg_empty _ _ _ (h3 i hi).1 (h3 i hi).2, fun _ _ h => by simp at h, fun x hx _ => h1 x hx, fun i hi => by simpa using h2 i hi⟩
theorem Fits.same {n m : Nat} {L : Nat → List Nat} {inn inn' : Nat → Int} {cs nx pv cs' nx' pv' : Nat → Nat} (h : Fits n m L inn cs nx pv) (h1 : ∀ x, x < n → inn' x = inn x) (h2 : ∀ i, i < m → cs' i = cs i) (h3 : ∀ i, i < n + m → nx' i = nx i) (h4 : ∀ i, i < n + m → pv' i = pv i) : Fits n m L inn' cs' nx' pv' := by
  have hlt : ∀ i, i < m → ∀ y, (y = n + i ∨ y ∈ L i) → y < n + m := fun i hi y hy => by
    rcases hy with rfl | hy
    · omega
    · have := h.good.lt _ _ hy; omega
  exact ⟨h.good, fun i hi => rg_same (fun y hy => h3 y (hlt i hi y hy)) (fun y hy => h4 y (hlt i hi y hy)) (h.ring i hi), fun i x hx => (h1 x (h.good.lt _ _ hx)).trans (h.at_ i x hx), fun x hx hn => (h1 x hx).trans (h.no x hx hn), fun i hi => (h2 i hi).trans (h.cnt i hi)⟩
end Go.Proofs.YtckcgaliphpgeaaGreatDoor.Ri

/-
  What items in lists are, as the walk meets them: four rows of numbers, and the cells that name them; laws on both that the claimed proofs use.
-/
namespace Go.Proofs.YtckcgaliphpgeaaGreatDoor.Ri
set_option maxRecDepth 100000
open Go.RowKit

theorem ret_i {a b : Int} (h : a = b) : Ending.returned (.int .i64 a) = .returned (.int .i64 b) := by rw [h]
theorem ret_b {a b : Bool} (h : a = b) : Ending.returned (.bool a) = .returned (.bool b) := by rw [h]

/-! ### Worlds -/
theorem up_trans {w W w2 : World} (h : Below w.heap.size w W) (h2 : Below W.heap.size W w2) : Below w.heap.size w w2 := h.trans (h2.mono h.size)
theorem up_alloc {w W : World} (h : Below w.heap.size w W) (o : Obj) : Below w.heap.size w (W.alloc o) := h.alloc h.size o
theorem up_drew {w W : World} (h : Below w.heap.size w W) : ∀ k, Below w.heap.size w (W.drewN k)
  | 0 => h
  | k + 1 => (up_drew h k).drew
theorem i64_in (n : Int) (h0 : -1 ≤ n) (h1 : n ≤ 4611686018427387904) : IntKind.i64.wrap n = n := by rw [IntKind.wrap_i64]; omega
theorem drewN_heap (w : World) : ∀ j, (w.drewN j).heap = w.heap
  | 0 => rfl
  | j + 1 => drewN_heap w j
def Drawn (w wr : World) : Prop := ∃ j, wr = w.drewN j
theorem Drawn.refl (w : World) : Drawn w w := ⟨0, rfl⟩
theorem Drawn.on {w wr : World} (h : Drawn w wr) (n : Nat) : Drawn w (wr.drewN n) := by
  obtain ⟨j, rfl⟩ := h; exact ⟨j + n, by rw [World.drewN_drewN]⟩
theorem Drawn.below {w wr : World} (h : Drawn w wr) : Below w.heap.size w wr := by
  obtain ⟨j, rfl⟩ := h; exact up_drew (Below.refl _ w) j
theorem Drawn.heap {w wr : World} (h : Drawn w wr) : wr.heap = w.heap := by
  obtain ⟨j, rfl⟩ := h; exact drewN_heap w j
theorem Drawn.cell {w wr : World} (h : Drawn w wr) {p : Addr} {v : Value} (hc : w.cell? p = some v) : wr.cell? p = some v :=
  (h.below.cell (World.block_lt_of_cell? w p hc)).trans hc
/-- Of the blocks that there were, those from lo on and below hi alone may have changed. -/
structure Chg (lo hi : Nat) (w w' : World) : Prop where
  os : w'.os = w.os
  tape : w'.tape = w.tape
  output : w'.output = w.output
  size : w.heap.size ≤ w'.heap.size
  block : ∀ k, k < w.heap.size → k < lo ∨ hi ≤ k → w'.heap[k]? = w.heap[k]?
theorem Chg.refl (lo hi : Nat) (w : World) : Chg lo hi w w := ⟨rfl, rfl, rfl, Nat.le_refl _, fun _ _ _ => rfl⟩
theorem Chg.trans {lo hi : Nat} {a b c : World} (h : Chg lo hi a b) (k : Chg lo hi b c) : Chg lo hi a c :=
  ⟨k.os.trans h.os, k.tape.trans h.tape, k.output.trans h.output, Nat.le_trans h.size k.size, fun i hi hr => (k.block i (Nat.lt_of_lt_of_le hi h.size) hr).trans (h.block i hi hr)⟩
theorem Chg.of {lo hi : Nat} {a b : World} (h : Below a.heap.size a b) : Chg lo hi a b := ⟨h.os, h.tape, h.output, h.size, fun k hk _ => h.block k hk⟩
theorem Chg.wide {lo hi lo' hi' : Nat} {a b : World} (h : Chg lo hi a b) (h1 : lo' ≤ lo) (h2 : hi ≤ hi') : Chg lo' hi' a b := ⟨h.os, h.tape, h.output, h.size, fun k hk hr => h.block k hk (by omega)⟩
theorem Chg.set {lo hi : Nat} (w : World) {g i : Nat} (v : Value) (h1 : lo ≤ g) (h2 : g < hi) : Chg lo hi w (w.setCell ⟨g, i, none⟩ v) :=
  ⟨rfl, rfl, rfl, by simp [World.setCell], fun k _ hr => Below.heap_setCell _ _ _ _ (fun e => by simp at e; omega)⟩
theorem Chg.drew {lo hi : Nat} {a b : World} (h : Chg lo hi a b) : Chg lo hi a b.drew := ⟨h.os, h.tape, h.output, h.size, h.block⟩
theorem Chg.below {lo hi B : Nat} {a b : World} (h : Chg lo hi a b) (hB : B ≤ lo) (hs : B ≤ a.heap.size) : Below B a b := ⟨h.os, h.tape, h.output, h.size, fun k hk => h.block k (by omega) (.inl (by omega))⟩
theorem Chg.on {lo hi B : Nat} {w a b : World} (h : Chg lo hi a b) (k : Below B w a) (hB : B ≤ lo) (hs : B ≤ w.heap.size) : Below B w b := k.trans (h.below hB (Nat.le_trans hs k.size))

/-! ### Rows of cells -/
/-- A block of just these cells. -/
def Blk (w : World) (g : Nat) (vs : List Value) (t : TypeId) : Prop := w.heap[g]? = some (.cells vs.toArray t (0, 0))
theorem Blk.cell {w : World} {g i : Nat} {vs : List Value} {t : TypeId} (h : Blk w g vs t) : w.cell? ⟨g, i, none⟩ = vs[i]? := by
  rw [cell_of_row w g i _ t (0, 0) h]; simp
theorem Blk.frozen {w : World} {g : Nat} {vs : List Value} {t : TypeId} (h : Blk w g vs t) (i : Nat) : w.frozen? ⟨g, i, none⟩ = false := frozen_of_row w g i _ t h
theorem Blk.lt {w : World} {g : Nat} {vs : List Value} {t : TypeId} (h : Blk w g vs t) : g < w.heap.size := (Array.getElem?_eq_some_iff.1 h).1
theorem Blk.of {w w' : World} {g : Nat} {vs : List Value} {t : TypeId} (h : Blk w g vs t) (e : w'.heap[g]? = w.heap[g]?) : Blk w' g vs t := e.trans h
theorem Blk.set {w : World} {g i : Nat} {vs : List Value} {t : TypeId} (h : Blk w g vs t) (v : Value) : Blk (w.setCell ⟨g, i, none⟩ v) g (vs.set i v) t := by
  have := heap_setCell_same w g i _ t v h
  unfold Blk
  rw [this]
  simp
theorem Blk.made (w : World) (v : Value) (n : Nat) (t : TypeId) : Blk (w.alloc (.cells (madeCells #[v] n) t)) w.heap.size (List.replicate n v) t := by
  unfold Blk
  rw [heap_alloc_new]
  congr 2
  apply Array.ext'
  rw [toList_madeCells_one]
/-- A row of numbers; what is behind the first n cells doesn't matter. -/
def Row (w : World) (g n : Nat) (f : Nat → Int) : Prop := ∃ vs, Blk w g vs 3 ∧ ∀ i, i < n → vs[i]? = some (.int .i64 (f i))
theorem Row.cell {w : World} {g n i : Nat} {f : Nat → Int} (h : Row w g n f) (hi : i < n) : w.cell? ⟨g, i, none⟩ = some (.int .i64 (f i)) := by
  obtain ⟨vs, hb, hv⟩ := h
  rw [hb.cell]; exact hv i hi
theorem Row.frozen {w : World} {g n : Nat} {f : Nat → Int} (h : Row w g n f) (i : Nat) : w.frozen? ⟨g, i, none⟩ = false := by
  obtain ⟨vs, hb, _⟩ := h; exact hb.frozen i
theorem Row.lt {w : World} {g n : Nat} {f : Nat → Int} (h : Row w g n f) : g < w.heap.size := by obtain ⟨vs, hb, _⟩ := h; exact hb.lt
theorem Row.of {w w' : World} {g n : Nat} {f : Nat → Int} (h : Row w g n f) (e : w'.heap[g]? = w.heap[g]?) : Row w' g n f := by
  obtain ⟨vs, hb, hv⟩ := h; exact ⟨vs, hb.of e, hv⟩
theorem Row.set {w : World} {g n i : Nat} {f : Nat → Int} (h : Row w g n f) (hi : i < n) (v : Int) : Row (w.setCell ⟨g, i, none⟩ (.int .i64 v)) g n (up f i v) := by
  obtain ⟨vs, hb, hv⟩ := h
  refine ⟨_, hb.set _, fun j hj => ?_⟩
  rw [List.getElem?_set]
  by_cases e : i = j
  · subst e
    have : i < vs.length := by
      rcases Nat.lt_or_ge i vs.length with h | h
      · exact h
      · have := hv i hi; rw [List.getElem?_eq_none h] at this; simp at this
    rw [if_pos rfl, if_pos this, up_at]
  · rw [if_neg e, up_far (fun h => e h.symm)]; exact hv j hj
theorem up_cast (f : Nat → Nat) (i v : Nat) : up (fun j => (f j : Int)) i (v : Int) = fun j => ((up f i v j : Nat) : Int) := by
  funext j; unfold up; split <;> rfl
theorem Row.setn {w : World} {g n i : Nat} {f : Nat → Nat} (h : Row w g n (fun j => (f j : Int))) (hi : i < n) (v : Nat) : Row (w.setCell ⟨g, i, none⟩ (.int .i64 (v : Int))) g n (fun j => ((up f i v j : Nat) : Int)) := by
  have := h.set hi (v : Int)
  rwa [up_cast] at this
theorem Row.made (w : World) (n : Nat) : Row (w.alloc (.cells (madeCells #[.int .i64 0] n) 3)) w.heap.size n (fun _ => 0) :=
  ⟨_, Blk.made w _ n 3, fun i hi => by rw [List.getElem?_replicate, if_pos hi]⟩

/-! ### Items in lists -/
/-- Where it all lies, and how much of it there is. -/
structure Pl where
  lo : Nat
  hi : Nat
  q : Nat
  a : Nat
  b : Nat
  c : Nat
  d : Nat
  ca : Nat
  cb : Nat
  cc : Nat
  cd : Nat
  n : Nat
  m : Nat
structure Pl.ok (p : Pl) : Prop where
  qa : p.q ≠ p.a
  qb : p.q ≠ p.b
  qc : p.q ≠ p.c
  qd : p.q ≠ p.d
  ab : p.a ≠ p.b
  ac : p.a ≠ p.c
  ad : p.a ≠ p.d
  bc : p.b ≠ p.c
  bd : p.b ≠ p.d
  cd' : p.c ≠ p.d
  q1 : p.lo ≤ p.q ∧ p.q < p.hi
  a1 : p.lo ≤ p.a ∧ p.a < p.hi
  b1 : p.lo ≤ p.b ∧ p.b < p.hi
  c1 : p.lo ≤ p.c ∧ p.c < p.hi
  d1 : p.lo ≤ p.d ∧ p.d < p.hi
  n1 : p.n ≤ 4096
  m1 : p.m ≤ 256
  full : ∀ k, p.lo ≤ k → k < p.hi → k = p.q ∨ k = p.a ∨ k = p.b ∨ k = p.c ∨ k = p.d
structure RM (w : World) (p : Pl) (inn : Nat → Int) (cs nx pv : Nat → Nat) : Prop where
  ok : p.ok
  sz : p.hi ≤ w.heap.size
  s0 : w.cell? ⟨p.q, 0, none⟩ = some (.slice (some ⟨p.a, 0, none⟩) p.n p.ca)
  s1 : w.cell? ⟨p.q, 1, none⟩ = some (.slice (some ⟨p.b, 0, none⟩) p.m p.cb)
  s2 : w.cell? ⟨p.q, 2, none⟩ = some (.slice (some ⟨p.c, 0, none⟩) (p.n + p.m) p.cc)
  s3 : w.cell? ⟨p.q, 3, none⟩ = some (.slice (some ⟨p.d, 0, none⟩) (p.n + p.m) p.cd)
  r0 : Row w p.a p.n inn
  r1 : Row w p.b p.m (fun i => (cs i : Int))
  r2 : Row w p.c (p.n + p.m) (fun i => (nx i : Int))
  r3 : Row w p.d (p.n + p.m) (fun i => (pv i : Int))
  kq : ∃ vs, Blk w p.q vs 181
theorem cell_same {w w' : World} {g i : Nat} (e : w'.heap[g]? = w.heap[g]?) : w'.cell? ⟨g, i, none⟩ = w.cell? ⟨g, i, none⟩ := by simp [World.cell?, e]
theorem RM.of {w w' : World} {p : Pl} {inn : Nat → Int} {cs nx pv : Nat → Nat} (h : RM w p inn cs nx pv) (hs : w.heap.size ≤ w'.heap.size) (he : ∀ k, p.lo ≤ k → k < p.hi → w'.heap[k]? = w.heap[k]?) : RM w' p inn cs nx pv :=
  have o := h.ok
  have e := he p.q o.q1.1 o.q1.2
  ⟨o, Nat.le_trans h.sz hs, (cell_same e).trans h.s0, (cell_same e).trans h.s1, (cell_same e).trans h.s2, (cell_same e).trans h.s3, h.r0.of (he _ o.a1.1 o.a1.2), h.r1.of (he _ o.b1.1 o.b1.2), h.r2.of (he _ o.c1.1 o.c1.2), h.r3.of (he _ o.d1.1 o.d1.2), h.kq.imp fun _ hb => hb.of e⟩
theorem RM.below {w w' : World} {p : Pl} {inn : Nat → Int} {cs nx pv : Nat → Nat} (h : RM w p inn cs nx pv) (hb : Below w.heap.size w w') : RM w' p inn cs nx pv := h.of hb.size fun k _ hk => hb.block k (Nat.lt_of_lt_of_le hk h.sz)
theorem RM.far {w w' : World} {p : Pl} {inn : Nat → Int} {cs nx pv : Nat → Nat} {lo hi : Nat} (h : RM w p inn cs nx pv) (hb : Chg lo hi w w') (hd : p.hi ≤ lo ∨ hi ≤ p.lo) : RM w' p inn cs nx pv := h.of hb.size fun k h1 hk => hb.block k (Nat.lt_of_lt_of_le hk h.sz) (by omega)
theorem RM.drew {w : World} {p : Pl} {inn : Nat → Int} {cs nx pv : Nat → Nat} (h : RM w p inn cs nx pv) : RM w.drew p inn cs nx pv := h.below ((Below.refl _ w).drew)
theorem set_far {w : World} {g k i : Nat} (v : Value) (h : k ≠ g) : (w.setCell ⟨g, i, none⟩ v).heap[k]? = w.heap[k]? := Below.heap_setCell _ _ _ _ (fun e => h e)
theorem set_size (w : World) (a : Addr) (v : Value) : (w.setCell a v).heap.size = w.heap.size := by simp [World.setCell]
theorem RM.set0 {w : World} {p : Pl} {inn : Nat → Int} {cs nx pv : Nat → Nat} (h : RM w p inn cs nx pv) {i : Nat} (hi : i < p.n) (v : Int) : RM (w.setCell ⟨p.a, i, none⟩ (.int .i64 v)) p (up inn i v) cs nx pv :=
  have o := h.ok
  have e := set_far (w := w) (i := i) (.int .i64 v) o.qa
  ⟨o, by rw [set_size]; exact h.sz, (cell_same e).trans h.s0, (cell_same e).trans h.s1, (cell_same e).trans h.s2, (cell_same e).trans h.s3, h.r0.set hi v, h.r1.of (set_far _ o.ab.symm), h.r2.of (set_far _ o.ac.symm), h.r3.of (set_far _ o.ad.symm), h.kq.imp fun _ hb => hb.of e⟩
theorem RM.set1 {w : World} {p : Pl} {inn : Nat → Int} {cs nx pv : Nat → Nat} (h : RM w p inn cs nx pv) {i : Nat} (hi : i < p.m) (v : Nat) : RM (w.setCell ⟨p.b, i, none⟩ (.int .i64 (v : Int))) p inn (up cs i v) nx pv :=
  have o := h.ok
  have e := set_far (w := w) (i := i) (.int .i64 (v : Int)) o.qb
  ⟨o, by rw [set_size]; exact h.sz, (cell_same e).trans h.s0, (cell_same e).trans h.s1, (cell_same e).trans h.s2, (cell_same e).trans h.s3, h.r0.of (set_far _ o.ab), h.r1.setn hi v, h.r2.of (set_far _ o.bc.symm), h.r3.of (set_far _ o.bd.symm), h.kq.imp fun _ hb => hb.of e⟩
theorem RM.set2 {w : World} {p : Pl} {inn : Nat → Int} {cs nx pv : Nat → Nat} (h : RM w p inn cs nx pv) {i : Nat} (hi : i < p.n + p.m) (v : Nat) : RM (w.setCell ⟨p.c, i, none⟩ (.int .i64 (v : Int))) p inn cs (up nx i v) pv :=
  have o := h.ok
  have e := set_far (w := w) (i := i) (.int .i64 (v : Int)) o.qc
  ⟨o, by rw [set_size]; exact h.sz, (cell_same e).trans h.s0, (cell_same e).trans h.s1, (cell_same e).trans h.s2, (cell_same e).trans h.s3, h.r0.of (set_far _ o.ac), h.r1.of (set_far _ o.bc), h.r2.setn hi v, h.r3.of (set_far _ o.cd'.symm), h.kq.imp fun _ hb => hb.of e⟩
theorem RM.set3 {w : World} {p : Pl} {inn : Nat → Int} {cs nx pv : Nat → Nat} (h : RM w p inn cs nx pv) {i : Nat} (hi : i < p.n + p.m) (v : Nat) : RM (w.setCell ⟨p.d, i, none⟩ (.int .i64 (v : Int))) p inn cs nx (up pv i v) :=
  have o := h.ok
  have e := set_far (w := w) (i := i) (.int .i64 (v : Int)) o.qd
  ⟨o, by rw [set_size]; exact h.sz, (cell_same e).trans h.s0, (cell_same e).trans h.s1, (cell_same e).trans h.s2, (cell_same e).trans h.s3, h.r0.of (set_far _ o.ad), h.r1.of (set_far _ o.bd), h.r2.of (set_far _ o.cd'), h.r3.setn hi v, h.kq.imp fun _ hb => hb.of e⟩
/-- Items in these lists. -/
def Ring (w : World) (p : Pl) (L : Nat → List Nat) : Prop := ∃ inn cs nx pv, RM w p inn cs nx pv ∧ Fits p.n p.m L inn cs nx pv
theorem Ring.below {w w' : World} {p : Pl} {L : Nat → List Nat} (h : Ring w p L) (hb : Below w.heap.size w w') : Ring w' p L := by
  obtain ⟨inn, cs, nx, pv, h, hf⟩ := h; exact ⟨inn, cs, nx, pv, h.below hb, hf⟩
theorem Ring.far {w w' : World} {p : Pl} {L : Nat → List Nat} {lo hi : Nat} (h : Ring w p L) (hb : Chg lo hi w w') (hd : p.hi ≤ lo ∨ hi ≤ p.lo) : Ring w' p L := by
  obtain ⟨inn, cs, nx, pv, h, hf⟩ := h; exact ⟨inn, cs, nx, pv, h.far hb hd, hf⟩
theorem Ring.good {w : World} {p : Pl} {L : Nat → List Nat} (h : Ring w p L) : Good p.n p.m L := by obtain ⟨_, _, _, _, _, hf⟩ := h; exact hf.good
theorem Ring.ok {w : World} {p : Pl} {L : Nat → List Nat} (h : Ring w p L) : p.ok := by obtain ⟨_, _, _, _, h, _⟩ := h; exact h.ok
theorem Ring.sz {w : World} {p : Pl} {L : Nat → List Nat} (h : Ring w p L) : p.hi ≤ w.heap.size := by obtain ⟨_, _, _, _, h, _⟩ := h; exact h.sz
end Go.Proofs.YtckcgaliphpgeaaGreatDoor.Ri

/-
  What the small functions do: contracts that the claimed proofs use.
-/
namespace Go.Proofs.YtckcgaliphpgeaaGreatDoor.Ri
set_option maxRecDepth 100000
open Go.RowKit

/-- Is there such an item, or list? -/
def hasB (n : Nat) (k : Int) : Bool := decide (0 ≤ k ∧ k < n)
theorem hasB_iff {n : Nat} {k : Int} : hasB n k = true ↔ 0 ≤ k ∧ k < n := by simp [hasB]
theorem hasB_not {n : Nat} {k : Int} : hasB n k = false ↔ ¬ (0 ≤ k ∧ k < n) := by simp only [hasB, decide_eq_false_iff_not]
theorem item_any (q a n ca : Nat) (k : Int) (w : World) (hc : w.cell? ⟨q, 0, none⟩ = some (.slice (some ⟨a, 0, none⟩) n ca)) :
    Calls Tryz.prog 142 #[.pointer (some ⟨q, 0, none⟩), .int .i64 k] w fun e w' => e = .returned (.bool (hasB n k)) ∧ w = w' := by
  by_cases h0 : 0 ≤ k
  · go_enter Tryz.func142, Tryz.ntmps142
    go_wp2
    go_ret
    exact ⟨ret_b (by unfold hasB; rw [decide_eq_decide]; omega), rfl⟩
  · have hd : decide (0 ≤ k) = false := by simpa using h0
    go_enter Tryz.func142, Tryz.ntmps142
    go_wp2
    go_ret
    exact ⟨ret_b (by unfold hasB; symm; rw [decide_eq_false_iff_not]; omega), rfl⟩
theorem list_any (q b m cb : Nat) (k : Int) (w : World) (hc : w.cell? ⟨q, 1, none⟩ = some (.slice (some ⟨b, 0, none⟩) m cb)) :
    Calls Tryz.prog 143 #[.pointer (some ⟨q, 0, none⟩), .int .i64 k] w fun e w' => e = .returned (.bool (hasB m k)) ∧ w = w' := by
  by_cases h0 : 0 ≤ k
  · go_enter Tryz.func143, Tryz.ntmps143
    go_wp2
    go_ret
    exact ⟨ret_b (by unfold hasB; rw [decide_eq_decide]; omega), rfl⟩
  · have hd : decide (0 ≤ k) = false := by simpa using h0
    go_enter Tryz.func143, Tryz.ntmps143
    go_wp2
    go_ret
    exact ⟨ret_b (by unfold hasB; symm; rw [decide_eq_false_iff_not]; omega), rfl⟩
theorem knot_any (q a n ca l : Nat) (w : World) (hc : w.cell? ⟨q, 0, none⟩ = some (.slice (some ⟨a, 0, none⟩) n ca)) (hn : n ≤ 4096) (hl : l ≤ 256) :
    Calls Tryz.prog 119 #[.pointer (some ⟨q, 0, none⟩), .int .i64 (l : Int)] w fun e w' => e = .returned (.int .i64 ((n + l : Nat) : Int)) ∧ w = w' := by
  go_enter Tryz.func119, Tryz.ntmps119
  go_wp2
  go_ret
  exact ⟨ret_i (by omega), rfl⟩
/-- An item, or none where it is a knot. -/
def bh (n v : Nat) : Int := if v < n then (v : Int) else -1
theorem behind_any (q a n ca c N cc k v : Nat) (w : World) (h0 : w.cell? ⟨q, 0, none⟩ = some (.slice (some ⟨a, 0, none⟩) n ca)) (h2 : w.cell? ⟨q, 2, none⟩ = some (.slice (some ⟨c, 0, none⟩) N cc))
    (hk : k < N) (hv : w.cell? ⟨c, k, none⟩ = some (.int .i64 (v : Int))) :
    Calls Tryz.prog 134 #[.pointer (some ⟨q, 0, none⟩), .int .i64 (k : Int)] w fun e w' => e = .returned (.int .i64 (bh n v)) ∧ w = w' := by
  have b1 : (0 : Int) ≤ (k : Int) := by omega
  have b2 : (k : Int) < (N : Int) := by omega
  have HI := Lib.hid (item_any q a n ca (v : Int) w h0)
  cases h : hasB n (v : Int)
  · rw [h] at HI
    have e : bh n v = -1 := by unfold bh; rw [if_neg]; have := hasB_not.1 h; omega
    rw [e]
    clear e h
    go_enter Tryz.func134, Tryz.ntmps134
    go_wp2_with (go_at_call 142; refine HI.out.mono ?_; rintro e w' ⟨rfl, rfl⟩)
    go_ret
    exact ⟨rfl, rfl⟩
  · rw [h] at HI
    have e : bh n v = (v : Int) := by unfold bh; rw [if_pos]; have := hasB_iff.1 h; omega
    rw [e]
    clear e h
    go_enter Tryz.func134, Tryz.ntmps134
    go_wp2_with (go_at_call 142; refine HI.out.mono ?_; rintro e w' ⟨rfl, rfl⟩)
    go_ret
    exact ⟨rfl, rfl⟩
/-! ### In -/
theorem in_no (q a n ca : Nat) (k : Int) (w : World) (hc : w.cell? ⟨q, 0, none⟩ = some (.slice (some ⟨a, 0, none⟩) n ca)) (hno : hasB n k = false) :
    Calls Tryz.prog 104 #[.pointer (some ⟨q, 0, none⟩), .int .i64 k] w fun e w' => e = .returned (.int .i64 (-1)) ∧ w = w' := by
  have HI := Lib.hid (item_any q a n ca k w hc)
  rw [hno] at HI
  clear hno
  go_enter Tryz.func104, Tryz.ntmps104
  go_wp2_with (go_at_call 142; refine HI.out.mono ?_; rintro e w' ⟨rfl, rfl⟩)
  go_ret
  exact ⟨rfl, rfl⟩
theorem in_yes (q a n ca k : Nat) (v : Int) (w : World) (hc : w.cell? ⟨q, 0, none⟩ = some (.slice (some ⟨a, 0, none⟩) n ca)) (hk : k < n) (hv : w.cell? ⟨a, k, none⟩ = some (.int .i64 v)) :
    Calls Tryz.prog 104 #[.pointer (some ⟨q, 0, none⟩), .int .i64 (k : Int)] w fun e w' => e = .returned (.int .i64 v) ∧ w = w' := by
  have HI := Lib.hid (item_any q a n ca k w hc)
  rw [hasB_iff.2 (by omega)] at HI
  have b1 : (0 : Int) ≤ (k : Int) := by omega
  have b2 : (k : Int) < (n : Int) := by omega
  go_enter Tryz.func104, Tryz.ntmps104
  go_wp2_with (go_at_call 142; refine HI.out.mono ?_; rintro e w' ⟨rfl, rfl⟩)
  go_ret
  exact ⟨rfl, rfl⟩
/-! ### Next -/
/-! ### First -/
theorem first_no (q b m cb : Nat) (k : Int) (w : World) (hc : w.cell? ⟨q, 1, none⟩ = some (.slice (some ⟨b, 0, none⟩) m cb)) (hno : hasB m k = false) :
    Calls Tryz.prog 113 #[.pointer (some ⟨q, 0, none⟩), .int .i64 k] w fun e w' => e = .returned (.int .i64 (-1)) ∧ w = w' := by
  have HI := Lib.hid (list_any q b m cb k w hc)
  rw [hno] at HI
  clear hno
  go_enter Tryz.func113, Tryz.ntmps113
  go_wp2_with (go_at_call 143; refine HI.out.mono ?_; rintro e w' ⟨rfl, rfl⟩)
  go_ret
  exact ⟨rfl, rfl⟩
theorem first_yes (q a n ca b m cb c N cc l v : Nat) (w : World) (h0 : w.cell? ⟨q, 0, none⟩ = some (.slice (some ⟨a, 0, none⟩) n ca)) (h1 : w.cell? ⟨q, 1, none⟩ = some (.slice (some ⟨b, 0, none⟩) m cb)) (h2 : w.cell? ⟨q, 2, none⟩ = some (.slice (some ⟨c, 0, none⟩) N cc))
    (hn : n ≤ 4096) (hm : m ≤ 256) (hl : l < m) (hk : n + l < N) (hv : w.cell? ⟨c, n + l, none⟩ = some (.int .i64 (v : Int))) :
    Calls Tryz.prog 113 #[.pointer (some ⟨q, 0, none⟩), .int .i64 (l : Int)] w fun e w' => e = .returned (.int .i64 (bh n v)) ∧ w = w' := by
  have HI := Lib.hid (list_any q b m cb l w h1)
  have HK := Lib.hid (knot_any q a n ca l w h0 hn (by omega))
  have HB := Lib.hid (behind_any q a n ca c N cc (n + l) v w h0 h2 hk hv)
  rw [hasB_iff.2 (by omega)] at HI
  obtain ⟨r, hr⟩ : ∃ r, bh n v = r := ⟨_, rfl⟩
  rw [hr] at HB ⊢
  clear hr
  obtain ⟨z, hz⟩ : ∃ z, n + l = z := ⟨_, rfl⟩
  rw [hz] at HB HK
  clear h0 h1 h2 hv hz hk
  go_enter Tryz.func113, Tryz.ntmps113
  go_wp2_with (first | (go_at_call 143; refine HI.out.mono ?_; rintro e w' ⟨rfl, rfl⟩) | (go_at_call 119; refine HK.out.mono ?_; rintro e w' ⟨rfl, rfl⟩) | (go_at_call 134; refine HB.out.mono ?_; rintro e w' ⟨rfl, rfl⟩))
  go_ret
  exact ⟨rfl, rfl⟩
/-! ### Len -/
theorem len_no (q b m cb : Nat) (k : Int) (w : World) (hc : w.cell? ⟨q, 1, none⟩ = some (.slice (some ⟨b, 0, none⟩) m cb)) (hno : hasB m k = false) :
    Calls Tryz.prog 105 #[.pointer (some ⟨q, 0, none⟩), .int .i64 k] w fun e w' => e = .returned (.int .i64 0) ∧ w = w' := by
  have HI := Lib.hid (list_any q b m cb k w hc)
  rw [hno] at HI
  clear hno
  go_enter Tryz.func105, Tryz.ntmps105
  go_wp2_with (go_at_call 143; refine HI.out.mono ?_; rintro e w' ⟨rfl, rfl⟩)
  go_ret
  exact ⟨rfl, rfl⟩
theorem len_yes (q b m cb k : Nat) (v : Int) (w : World) (hc : w.cell? ⟨q, 1, none⟩ = some (.slice (some ⟨b, 0, none⟩) m cb)) (hk : k < m) (hv : w.cell? ⟨b, k, none⟩ = some (.int .i64 v)) :
    Calls Tryz.prog 105 #[.pointer (some ⟨q, 0, none⟩), .int .i64 (k : Int)] w fun e w' => e = .returned (.int .i64 v) ∧ w = w' := by
  have HI := Lib.hid (list_any q b m cb k w hc)
  rw [hasB_iff.2 (by omega)] at HI
  have b1 : (0 : Int) ≤ (k : Int) := by omega
  have b2 : (k : Int) < (m : Int) := by omega
  go_enter Tryz.func105, Tryz.ntmps105
  go_wp2_with (go_at_call 143; refine HI.out.mono ?_; rintro e w' ⟨rfl, rfl⟩)
  go_ret
  exact ⟨rfl, rfl⟩
/-! ### mayEnter -/
theorem may_bad (q a n ca b m cb : Nat) (i x : Int) (w : World) (h0 : w.cell? ⟨q, 0, none⟩ = some (.slice (some ⟨a, 0, none⟩) n ca)) (h1 : w.cell? ⟨q, 1, none⟩ = some (.slice (some ⟨b, 0, none⟩) m cb)) (hno : (hasB m i && hasB n x) = false) :
    Calls Tryz.prog 145 #[.pointer (some ⟨q, 0, none⟩), .int .i64 i, .int .i64 x] w fun e w' => e = .returned (.int .i64 11) ∧ w = w' := by
  have HI := Lib.hid (item_any q a n ca x w h0)
  have HL := Lib.hid (list_any q b m cb i w h1)
  cases hi : hasB m i
  · rw [hi] at HL
    clear hi hno h0 h1
    go_enter Tryz.func145, Tryz.ntmps145
    go_wp2_with (first | (go_at_call 143; refine HL.out.mono ?_; rintro e w' ⟨rfl, rfl⟩))
    go_ret
    exact ⟨rfl, rfl⟩
  · rw [hi, Bool.true_and] at hno
    rw [hi] at HL
    rw [hno] at HI
    clear hi hno h0 h1
    go_enter Tryz.func145, Tryz.ntmps145
    go_wp2_with (first | (go_at_call 143; refine HL.out.mono ?_; rintro e w' ⟨rfl, rfl⟩) | (go_at_call 142; refine HI.out.mono ?_; rintro e w' ⟨rfl, rfl⟩))
    go_ret
    exact ⟨rfl, rfl⟩
theorem may_ok (q a n ca b m cb i x : Nat) (v E : Int) (w : World) (h0 : w.cell? ⟨q, 0, none⟩ = some (.slice (some ⟨a, 0, none⟩) n ca)) (h1 : w.cell? ⟨q, 1, none⟩ = some (.slice (some ⟨b, 0, none⟩) m cb)) (hi : i < m) (hx : x < n)
    (hv : w.cell? ⟨a, x, none⟩ = some (.int .i64 v)) (hE : (0 ≤ v ∧ E = 15) ∨ (v = -1 ∧ E = 0)) :
    Calls Tryz.prog 145 #[.pointer (some ⟨q, 0, none⟩), .int .i64 (i : Int), .int .i64 (x : Int)] w fun e w' => e = .returned (.int .i64 E) ∧ w = w' := by
  have HI := Lib.hid (item_any q a n ca x w h0)
  have HL := Lib.hid (list_any q b m cb i w h1)
  rw [hasB_iff.2 (by omega)] at HI HL
  have b1 : (0 : Int) ≤ (x : Int) := by omega
  have b2 : (x : Int) < (n : Int) := by omega
  clear h1
  rcases hE with ⟨hv0, rfl⟩ | ⟨rfl, rfl⟩
  · have hne : (v != -1) = true := by simp; omega
    go_enter Tryz.func145, Tryz.ntmps145
    go_wp2_with (first | (go_at_call 143; refine HL.out.mono ?_; rintro e w' ⟨rfl, rfl⟩) | (go_at_call 142; refine HI.out.mono ?_; rintro e w' ⟨rfl, rfl⟩))
    go_ret
    exact ⟨rfl, rfl⟩
  · go_enter Tryz.func145, Tryz.ntmps145
    go_wp2_with (first | (go_at_call 143; refine HL.out.mono ?_; rintro e w' ⟨rfl, rfl⟩) | (go_at_call 142; refine HI.out.mono ?_; rintro e w' ⟨rfl, rfl⟩))
    go_ret
    exact ⟨rfl, rfl⟩
end Go.Proofs.YtckcgaliphpgeaaGreatDoor.Ri

/-
  What join, enter and leave do: contracts that the claimed proofs use.
-/
namespace Go.Proofs.YtckcgaliphpgeaaGreatDoor.Ri
set_option maxRecDepth 100000
open Go.RowKit

theorem join_w (q c d N cc cd B A : Nat) (v1 v2 : Int) (w : World) (h2 : w.cell? ⟨q, 2, none⟩ = some (.slice (some ⟨c, 0, none⟩) N cc)) (h3 : w.cell? ⟨q, 3, none⟩ = some (.slice (some ⟨d, 0, none⟩) N cd))
    (hB : B < N) (hA : A < N) (f1 : w.frozen? ⟨c, B, none⟩ = false) (f2 : w.frozen? ⟨d, A, none⟩ = false) (k1 : w.cell? ⟨c, B, none⟩ = some (.int .i64 v1)) (k2 : w.cell? ⟨d, A, none⟩ = some (.int .i64 v2)) (hcd : ¬ c = d) :
    Calls Tryz.prog 177 #[.pointer (some ⟨q, 0, none⟩), .int .i64 (B : Int), .int .i64 (A : Int)] w fun e w' => (∃ v, e = .returned v) ∧ w' = ((w.setCell ⟨c, B, none⟩ (.int .i64 (A : Int))).setCell ⟨d, A, none⟩ (.int .i64 (B : Int))).drew := by
  have b1 : (0 : Int) ≤ (B : Int) := by omega
  have b2 : (B : Int) < (N : Int) := by omega
  have b3 : (0 : Int) ≤ (A : Int) := by omega
  have b4 : (A : Int) < (N : Int) := by omega
  go_enter Tryz.func177, Tryz.ntmps177
  go_wp2_with fail
  go_region
  go_end0
  exact ⟨⟨_, rfl⟩, rfl⟩
theorem join_any (p : Pl) (inn : Nat → Int) (cs nx pv : Nat → Nat) (B A : Nat) (w : World) (h : RM w p inn cs nx pv) (hB : B < p.n + p.m) (hA : A < p.n + p.m) :
    Calls Tryz.prog 177 #[.pointer (some ⟨p.q, 0, none⟩), .int .i64 (B : Int), .int .i64 (A : Int)] w fun e w' => (∃ v, e = .returned v) ∧ RM w' p inn cs (up nx B A) (up pv A B) ∧ Chg p.lo p.hi w w' := by
  refine (join_w p.q p.c p.d _ _ _ B A _ _ w h.s2 h.s3 hB hA (h.r2.frozen _) (h.r3.frozen _) (h.r2.cell hB) (h.r3.cell hA) h.ok.cd').mono ?_
  rintro e w' ⟨he, rfl⟩
  exact ⟨he, ((h.set2 hB A).set3 hA B).drew, ((Chg.set w _ h.ok.c1.1 h.ok.c1.2).trans (Chg.set _ _ h.ok.d1.1 h.ok.d1.2)).drew⟩
set_option maxHeartbeats 1000000 in
theorem enter_any (p : Pl) (inn : Nat → Int) (cs nx pv : Nat → Nat) (i x B A z : Nat) (w : World) (h : RM w p inn cs nx pv) (hi : i < p.m) (hx : x < p.n) (hB : B < p.n + p.m) (hA : A < p.n + p.m) (hn : nx B = A) (hc : cs i = z) (hz : z ≤ 4096) :
    Calls Tryz.prog 146 #[.pointer (some ⟨p.q, 0, none⟩), .int .i64 (i : Int), .int .i64 (x : Int), .int .i64 (B : Int)] w fun e w' => (∃ v, e = .returned v) ∧ RM w' p (up inn x (i : Int)) (up cs i (z + 1)) (up (up nx B x) x A) (up (up pv x B) A x) ∧ Chg p.lo p.hi w w' := by
  have hxN : x < p.n + p.m := by omega
  have H := Lib.hid h
  have g2 := h.s2
  have gB := h.r2.cell hB
  rw [hn] at gB
  have b1 : (0 : Int) ≤ (B : Int) := by omega
  have b2 : (B : Int) < (p.n : Int) + (p.m : Int) := by omega
  clear h hn
  go_enter Tryz.func146, Tryz.ntmps146
  go_wp2_with fail
  refine (join_any p inn cs nx pv B x _ H.out hB hxN).mono ?_
  rintro e w1 ⟨⟨v1, rfl⟩, h1, c1⟩
  have H1 := Lib.hid h1
  have C1 := Lib.hid c1
  clear h1 c1 g2 gB b1 b2
  go_wp2_with fail
  refine (join_any p inn cs _ _ x A _ H1.out hxN hA).mono ?_
  rintro e w2 ⟨⟨v2, rfl⟩, h2, c2⟩
  have H2 := Lib.hid h2
  have C2 := Lib.hid (C1.out.trans c2)
  have g0 := h2.s0
  have g1 := h2.s1
  have f0 := h2.r0.frozen x
  have f1 := h2.r1.frozen i
  have k0 := h2.r0.cell hx
  have k1 := h2.r1.cell hi
  have oqa := h2.ok.qa
  have oqb := h2.ok.qb
  have oab := h2.ok.ab
  have b1 : (0 : Int) ≤ (x : Int) := by omega
  have b2 : (x : Int) < (p.n : Int) := by omega
  have b3 : (0 : Int) ≤ (i : Int) := by omega
  have b4 : (i : Int) < (p.m : Int) := by omega
  rw [hc] at k1
  clear h2 c2 hc
  go_wp2_with fail
  go_end0
  have e : ((z : Int) + 1) = ((z + 1 : Nat) : Int) := by omega
  have st := (H2.out.set0 hx (i : Int)).set1 hi (z + 1)
  refine ⟨⟨_, rfl⟩, ?_, ?_⟩
  · first | exact st | (rw [e]; exact st)
  · exact C2.out.trans ((Chg.set w2 _ H2.out.ok.a1.1 H2.out.ok.a1.2).trans (Chg.set _ _ H2.out.ok.b1.1 H2.out.ok.b1.2))
set_option maxHeartbeats 1000000 in
theorem leave_any (p : Pl) (inn : Nat → Int) (cs nx pv : Nat → Nat) (i x B A z : Nat) (w : World) (h : RM w p inn cs nx pv) (hi : i < p.m) (hx : x < p.n) (hB : B < p.n + p.m) (hA : A < p.n + p.m) (hn : nx x = A) (hp : pv x = B) (hin : inn x = (i : Int)) (hc : cs i = z + 1) (hz : z ≤ 4096) :
    Calls Tryz.prog 144 #[.pointer (some ⟨p.q, 0, none⟩), .int .i64 (x : Int)] w fun e w' => (∃ v, e = .returned v) ∧ RM w' p (up inn x (-1)) (up cs i z) (up nx B A) (up pv A B) ∧ Chg p.lo p.hi w w' := by
  have hxN : x < p.n + p.m := by omega
  have H := Lib.hid h.drew
  have C0 : Hid (Chg p.lo p.hi w w.drew) := (Chg.refl _ _ w).drew
  have g2 := h.s2
  have g3 := h.s3
  have gA := h.r2.cell hxN
  have gB := h.r3.cell hxN
  rw [hn] at gA
  rw [hp] at gB
  have b1 : (0 : Int) ≤ (x : Int) := by omega
  have b2 : (x : Int) < (p.n : Int) + (p.m : Int) := by omega
  clear h hn hp
  go_enter Tryz.func144, Tryz.ntmps144
  go_wp2_with fail
  go_still_tail 15, (by kernel_rfl)
  change wpList _ _ _ _ _ w.drew
  go_wp2_with fail
  refine (join_any p inn cs nx pv B A _ H.out hB hA).mono ?_
  rintro e w1 ⟨⟨v1, rfl⟩, h1, c1⟩
  have H1 := Lib.hid h1
  have C1 := Lib.hid (C0.out.trans c1)
  have g0 := h1.s0
  have g1 := h1.s1
  have f0 := h1.r0.frozen x
  have f1 := h1.r1.frozen i
  have k0 := h1.r0.cell hx
  have k1 := h1.r1.cell hi
  rw [hin] at k0
  rw [hc] at k1
  have oqa := h1.ok.qa
  have oqb := h1.ok.qb
  have oab := h1.ok.ab
  have b2' : (x : Int) < (p.n : Int) := by omega
  have b3 : (0 : Int) ≤ (i : Int) := by omega
  have b4 : (i : Int) < (p.m : Int) := by omega
  clear h1 c1 g2 g3 gA gB b2 hin hc
  go_wp2_with fail
  go_region
  have oba : ¬ p.b = p.a := fun e => oab e.symm
  go_wp2_with fail
  go_end0
  exact ⟨⟨_, rfl⟩, (H1.out.set1 hi z).drew.set0 hx (-1), (C1.out.trans (Chg.set w1 _ H1.out.ok.b1.1 H1.out.ok.b1.2)).drew.trans (Chg.set _ _ H1.out.ok.a1.1 H1.out.ok.a1.2)⟩
end Go.Proofs.YtckcgaliphpgeaaGreatDoor.Ri

/-
  What the exported functions do to lists, and what they answer of them: contracts that the claimed proofs use.
-/
namespace Go.Proofs.YtckcgaliphpgeaaGreatDoor.Ri
set_option maxRecDepth 100000
open Go.RowKit

/-! ### What is asked and answered -/
/-- A list's items (of none: none). -/
def of (L : Nat → List Nat) (i : Int) : List Nat := if 0 ≤ i then L i.toNat else []
theorem of_nat (L : Nat → List Nat) (i : Nat) : of L (i : Int) = L i := by simp [of]
theorem of_no {n m : Nat} {L : Nat → List Nat} (h : Good n m L) {i : Int} (hi : hasB m i = false) : of L i = [] := by
  unfold of
  split
  · exact h.out _ (by have := hasB_not.1 hi; omega)
  · rfl
/-- The first one, or -1. -/
def hd : List Nat → Int
  | [] => -1
  | x :: _ => (x : Int)
/-- An item's list, or -1. -/
def InR (L : Nat → List Nat) (x v : Int) : Prop := (∃ X i : Nat, x = (X : Int) ∧ X ∈ L i ∧ v = (i : Int)) ∨ ((∀ X i : Nat, x = (X : Int) → X ∉ L i) ∧ v = -1)
/-- The one behind an item, or -1. -/
def NextR (L : Nat → List Nat) (x r : Int) : Prop := (∃ (X i : Nat) (A C : List Nat), x = (X : Int) ∧ L i = A ++ X :: C ∧ r = hd C) ∨ ((∀ X i : Nat, x = (X : Int) → X ∉ L i) ∧ r = -1)
/-- What Push and Append answer, and the lists behind them. -/
def PutR (n m : Nat) (L : Nat → List Nat) (i x : Int) (first : Bool) (E : Int) (L' : Nat → List Nat) : Prop :=
  ((hasB m i && hasB n x) = false ∧ E = 11 ∧ L' = L) ∨
  (∃ I X : Nat, i = (I : Int) ∧ x = (X : Int) ∧ I < m ∧ X < n ∧ (∃ j, X ∈ L j) ∧ E = 15 ∧ L' = L) ∨
  (∃ I X : Nat, i = (I : Int) ∧ x = (X : Int) ∧ I < m ∧ X < n ∧ (∀ j, X ∉ L j) ∧ E = 0 ∧ L' = up L I (if first then X :: L I else L I ++ [X]))
theorem putR_some (n m : Nat) (L : Nat → List Nat) (i x : Int) (first : Bool) : ∃ E L', PutR n m L i x first E L' := by
  cases h : hasB m i && hasB n x
  · exact ⟨_, _, .inl ⟨h, rfl, rfl⟩⟩
  · rw [Bool.and_eq_true] at h
    obtain ⟨h0, h1⟩ := hasB_iff.1 h.1
    obtain ⟨h2, h3⟩ := hasB_iff.1 h.2
    obtain ⟨I, rfl⟩ := Int.eq_ofNat_of_zero_le h0
    obtain ⟨X, rfl⟩ := Int.eq_ofNat_of_zero_le h2
    by_cases he : ∃ j, X ∈ L j
    · exact ⟨_, _, .inr (.inl ⟨I, X, rfl, rfl, by omega, by omega, he, rfl, rfl⟩)⟩
    · exact ⟨_, _, .inr (.inr ⟨I, X, rfl, rfl, by omega, by omega, fun j hj => he ⟨j, hj⟩, rfl, rfl⟩)⟩
/-- What Remove answers, and the lists behind it. -/
def RemR (n : Nat) (L : Nat → List Nat) (x E : Int) (L' : Nat → List Nat) : Prop :=
  (hasB n x = false ∧ E = 11 ∧ L' = L) ∨ (∃ X : Nat, x = (X : Int) ∧ X < n ∧ (∀ j, X ∉ L j) ∧ E = 16 ∧ L' = L) ∨
  (∃ (X i : Nat) (A C : List Nat), x = (X : Int) ∧ L i = A ++ X :: C ∧ E = 0 ∧ L' = up L i (A ++ C))
theorem remR_some (n : Nat) (L : Nat → List Nat) (x : Int) : ∃ E L', RemR n L x E L' := by
  cases h : hasB n x
  · exact ⟨_, _, .inl ⟨h, rfl, rfl⟩⟩
  · obtain ⟨h2, h3⟩ := hasB_iff.1 h
    obtain ⟨X, rfl⟩ := Int.eq_ofNat_of_zero_le h2
    by_cases he : ∃ j, X ∈ L j
    · obtain ⟨j, hj⟩ := he
      obtain ⟨A, C, e⟩ := List.append_of_mem hj
      exact ⟨_, _, .inr (.inr ⟨X, j, A, C, rfl, e, rfl, rfl⟩)⟩
    · exact ⟨_, _, .inr (.inl ⟨X, rfl, by omega, fun j hj => he ⟨j, hj⟩, rfl, rfl⟩)⟩
theorem Good.list_lt {n m : Nat} {L : Nat → List Nat} (h : Good n m L) {i x : Nat} (hx : x ∈ L i) : i < m := by
  rcases Nat.lt_or_ge i m with hi | hi
  · exact hi
  · have := h.out i hi; rw [this] at hx; simp at hx
theorem len_le : ∀ (n : Nat) {l : List Nat}, l.Nodup → (∀ x ∈ l, x < n) → l.length ≤ n
  | 0, l, _, hl => by
    cases l with
    | nil => simp
    | cons x l => have := hl x (by simp); omega
  | n + 1, l, hn, hl => by
    by_cases h : n ∈ l
    · have := len_le n (l := l.erase n) (hn.erase n) (fun x hx => by
        rw [hn.mem_erase_iff] at hx
        have := hl x hx.2
        omega)
      rw [List.length_erase_of_mem h] at this
      omega
    · have := len_le n hn (fun x hx => by
        have := hl x hx
        have : x ≠ n := fun e => h (e ▸ hx)
        omega)
      omega
theorem Good.len {n m : Nat} {L : Nat → List Nat} (h : Good n m L) (i : Nat) : (L i).length ≤ n := len_le n (h.nd i) (h.lt i)

/-! ### Questions -/
theorem in_r {w : World} {p : Pl} {L : Nat → List Nat} {x v : Int} (h : Ring w p L) (hv : InR L x v) :
    Calls Tryz.prog 104 #[.pointer (some ⟨p.q, 0, none⟩), .int .i64 x] w fun e w' => e = .returned (.int .i64 v) ∧ w = w' := by
  obtain ⟨inn, cs, nx, pv, h, hf⟩ := h
  cases hb : hasB p.n x
  · have : v = -1 := by
      rcases hv with ⟨X, i, rfl, hx, rfl⟩ | ⟨_, e⟩
      · have := hf.good.lt _ _ hx
        have := hasB_not.1 hb; omega
      · exact e
    subst this
    exact in_no p.q p.a p.n p.ca x w h.s0 hb
  · obtain ⟨h2, h3⟩ := hasB_iff.1 hb
    obtain ⟨X, rfl⟩ := Int.eq_ofNat_of_zero_le h2
    have hX : X < p.n := by omega
    have : inn X = v := by
      rcases hv with ⟨X', i, e, hx, rfl⟩ | ⟨hno, rfl⟩
      · have : X' = X := by omega
        subst this
        exact hf.at_ _ _ hx
      · exact hf.no X hX (fun i => hno X i rfl)
    rw [← this]
    exact in_yes p.q p.a p.n p.ca X _ w h.s0 hX (h.r0.cell hX)
theorem bh_head {n m : Nat} {L : Nat → List Nat} (h : Good n m L) {i : Nat} {C : List Nat} (hC : ∀ x ∈ C, x ∈ L i) : bh n ((C ++ [n + i]).head (by simp)) = hd C := by
  cases C with
  | nil => simp [bh, hd]; omega
  | cons c C => have := h.lt i c (hC c (by simp)); simp [bh, hd, this]
theorem behind_r {w : World} {p : Pl} {inn : Nat → Int} {cs nx pv : Nat → Nat} (h : RM w p inn cs nx pv) {k : Nat} (hk : k < p.n + p.m) :
    Calls Tryz.prog 134 #[.pointer (some ⟨p.q, 0, none⟩), .int .i64 (k : Int)] w fun e w' => e = .returned (.int .i64 (bh p.n (nx k))) ∧ w = w' :=
  behind_any p.q p.a p.n p.ca p.c _ p.cc k (nx k) w h.s0 h.s2 hk (h.r2.cell hk)
theorem first_r {w : World} {p : Pl} {L : Nat → List Nat} {i : Int} (h : Ring w p L) :
    Calls Tryz.prog 113 #[.pointer (some ⟨p.q, 0, none⟩), .int .i64 i] w fun e w' => e = .returned (.int .i64 (hd (of L i))) ∧ w = w' := by
  obtain ⟨inn, cs, nx, pv, h, hf⟩ := h
  cases hb : hasB p.m i
  · rw [of_no hf.good hb]
    exact first_no p.q p.b p.m p.cb i w h.s1 hb
  · obtain ⟨h2, h3⟩ := hasB_iff.1 hb
    obtain ⟨I, rfl⟩ := Int.eq_ofNat_of_zero_le h2
    have hI : I < p.m := by omega
    have := first_yes p.q p.a p.n p.ca p.b p.m p.cb p.c _ p.cc I _ w h.s0 h.s1 h.s2 h.ok.n1 h.ok.m1 hI (by omega) (h.r2.cell (i := p.n + I) (by omega))
    rwa [hf.first hI, bh_head hf.good (fun y hy => hy), ← of_nat L I] at this
theorem len_r {w : World} {p : Pl} {L : Nat → List Nat} {i : Int} (h : Ring w p L) :
    Calls Tryz.prog 105 #[.pointer (some ⟨p.q, 0, none⟩), .int .i64 i] w fun e w' => e = .returned (.int .i64 ((of L i).length : Int)) ∧ w = w' := by
  obtain ⟨inn, cs, nx, pv, h, hf⟩ := h
  cases hb : hasB p.m i
  · rw [of_no hf.good hb]
    exact len_no p.q p.b p.m p.cb i w h.s1 hb
  · obtain ⟨h2, h3⟩ := hasB_iff.1 hb
    obtain ⟨I, rfl⟩ := Int.eq_ofNat_of_zero_le h2
    have hI : I < p.m := by omega
    have := len_yes p.q p.b p.m p.cb I _ w h.s1 hI (h.r1.cell hI)
    rwa [hf.cnt I hI, ← of_nat L I] at this

/-! ### Push and Append -/
theorem push_e (q : Nat) (i x E : Int) (w : World) (hE : (E != 0) = true) (hm : Calls Tryz.prog 145 #[.pointer (some ⟨q, 0, none⟩), .int .i64 i, .int .i64 x] w fun e w' => e = .returned (.int .i64 E) ∧ w = w') :
    Calls Tryz.prog 110 #[.pointer (some ⟨q, 0, none⟩), .int .i64 i, .int .i64 x] w fun e w' => e = .returned (.int .i64 E) ∧ w = w' := by
  have HM := Lib.hid hm
  clear hm
  go_enter Tryz.func110, Tryz.ntmps110
  go_wp2_with (go_at_call 145; refine HM.out.mono ?_; rintro e w' ⟨rfl, rfl⟩)
  go_ret
  exact ⟨rfl, rfl⟩
theorem push_w {p : Pl} {i x k : Nat} {w : World} {R : World → Prop} (hm : Calls Tryz.prog 145 #[.pointer (some ⟨p.q, 0, none⟩), .int .i64 (i : Int), .int .i64 (x : Int)] w fun e w' => e = .returned (.int .i64 0) ∧ w = w')
    (hk : Calls Tryz.prog 119 #[.pointer (some ⟨p.q, 0, none⟩), .int .i64 (i : Int)] w fun e w' => e = .returned (.int .i64 (k : Int)) ∧ w = w')
    (he : Calls Tryz.prog 146 #[.pointer (some ⟨p.q, 0, none⟩), .int .i64 (i : Int), .int .i64 (x : Int), .int .i64 (k : Int)] w fun e w' => (∃ v, e = .returned v) ∧ R w') :
    Calls Tryz.prog 110 #[.pointer (some ⟨p.q, 0, none⟩), .int .i64 (i : Int), .int .i64 (x : Int)] w fun e w' => e = .returned (.int .i64 0) ∧ R w' := by
  have HM := Lib.hid hm
  have HK := Lib.hid hk
  have HE := Lib.hid he
  clear hm hk he
  go_enter Tryz.func110, Tryz.ntmps110
  go_wp2_with (first | (go_at_call 145; refine HM.out.mono ?_; rintro e w' ⟨rfl, rfl⟩) | (go_at_call 119; refine HK.out.mono ?_; rintro e w' ⟨rfl, rfl⟩) | (go_at_call 146; refine HE.out.mono ?_; rintro e w1 ⟨⟨v1, rfl⟩, h1⟩))
  go_ret
  exact ⟨rfl, h1⟩
theorem put_bad {p : Pl} {L : Nat → List Nat} {i x : Int} {w : World} (h : Ring w p L) (hno : (hasB p.m i && hasB p.n x) = false) :
    Calls Tryz.prog 145 #[.pointer (some ⟨p.q, 0, none⟩), .int .i64 i, .int .i64 x] w fun e w' => e = .returned (.int .i64 11) ∧ w = w' := by
  obtain ⟨inn, cs, nx, pv, h, hf⟩ := h
  exact may_bad p.q p.a p.n p.ca p.b p.m p.cb i x w h.s0 h.s1 hno
theorem put_there {p : Pl} {L : Nat → List Nat} {i x : Nat} {w : World} (h : Ring w p L) (hi : i < p.m) (hx : x < p.n) (ht : ∃ j, x ∈ L j) :
    Calls Tryz.prog 145 #[.pointer (some ⟨p.q, 0, none⟩), .int .i64 (i : Int), .int .i64 (x : Int)] w fun e w' => e = .returned (.int .i64 15) ∧ w = w' := by
  obtain ⟨inn, cs, nx, pv, h, hf⟩ := h
  obtain ⟨j, hj⟩ := ht
  exact may_ok p.q p.a p.n p.ca p.b p.m p.cb i x _ 15 w h.s0 h.s1 hi hx (h.r0.cell hx) (.inl ⟨by rw [hf.at_ j x hj]; omega, rfl⟩)
theorem push_r {p : Pl} {L L' : Nat → List Nat} {i x E : Int} {w : World} (h : Ring w p L) (hp : PutR p.n p.m L i x true E L') :
    Calls Tryz.prog 110 #[.pointer (some ⟨p.q, 0, none⟩), .int .i64 i, .int .i64 x] w fun e w' => e = .returned (.int .i64 E) ∧ Ring w' p L' ∧ Chg p.lo p.hi w w' := by
  rcases hp with ⟨hno, rfl, rfl⟩ | ⟨I, X, rfl, rfl, hI, hX, ht, rfl, rfl⟩ | ⟨I, X, rfl, rfl, hI, hX, hno, rfl, rfl⟩
  · exact (push_e p.q i x 11 w rfl (put_bad h hno)).mono fun e w' ⟨he, hw⟩ => ⟨he, hw ▸ h, hw ▸ Chg.refl _ _ _⟩
  · exact (push_e p.q I X 15 w rfl (put_there h hI hX ht)).mono fun e w' ⟨he, hw⟩ => ⟨he, hw ▸ h, hw ▸ Chg.refl _ _ _⟩
  · obtain ⟨inn, cs, nx, pv, h, hf⟩ := h
    obtain ⟨a, S, hS⟩ : ∃ a S, a :: S = L I ++ [p.n + I] := by
      cases L I with
      | nil => exact ⟨_, _, rfl⟩
      | cons x r => exact ⟨_, _, rfl⟩
    have he : Ends (p.n + I) [] (L I) (p.n + I) a := ⟨⟨[], rfl⟩, S, hS⟩
    obtain ⟨e1, _, e3, e4⟩ := hf.near hI (A := []) rfl he
    have hen := enter_any p inn cs nx pv I X (p.n + I) a _ w h hI hX e3 e4 e1 (hf.cnt I hI) (by have := hf.good.len I; have := h.ok.n1; omega)
    refine (push_w (may_ok p.q p.a p.n p.ca p.b p.m p.cb I X _ 0 w h.s0 h.s1 hI hX (h.r0.cell hX) (.inr ⟨hf.no X hX hno, rfl⟩)) (knot_any p.q p.a p.n p.ca I w h.s0 h.ok.n1 (by have := h.ok.m1; omega)) hen).mono ?_
    rintro e w' ⟨he', h', hc⟩
    have hfin := hf.insert hI hX hno (A := []) rfl he
    rw [hf.cnt I hI] at hfin
    exact ⟨he', ⟨_, _, _, _, h', hfin⟩, hc⟩
/-! ### Remove and Pop -/
theorem leave_r {p : Pl} {L : Nat → List Nat} {i X : Nat} {A C : List Nat} {w : World} (h : Ring w p L) (hl : L i = A ++ X :: C) :
    Calls Tryz.prog 144 #[.pointer (some ⟨p.q, 0, none⟩), .int .i64 (X : Int)] w fun e w' => (∃ v, e = .returned v) ∧ Ring w' p (up L i (A ++ C)) ∧ Chg p.lo p.hi w w' := by
  obtain ⟨inn, cs, nx, pv, h, hf⟩ := h
  have hx : X ∈ L i := by rw [hl]; simp
  have hi := hf.good.list_lt hx
  obtain ⟨hfin, e1, e2, e3⟩ := hf.remove hi hl
  obtain ⟨z, hz⟩ : ∃ z, cs i = z + 1 := ⟨cs i - 1, by omega⟩
  have hz4 : z ≤ 4096 := by have := hf.good.len i; have := h.ok.n1; have := hf.cnt i hi; omega
  refine (leave_any p inn cs nx pv i X (pv X) (nx X) z w h hi (hf.good.lt _ _ hx) e1 e2 rfl rfl (hf.at_ _ _ hx) hz hz4).mono ?_
  rintro e w' ⟨he, h', hc⟩
  rw [hz, Nat.add_sub_cancel] at hfin
  exact ⟨he, ⟨_, _, _, _, h', hfin⟩, hc⟩
theorem remove_bad (q a n ca : Nat) (k : Int) (w : World) (hc : w.cell? ⟨q, 0, none⟩ = some (.slice (some ⟨a, 0, none⟩) n ca)) (hno : hasB n k = false) :
    Calls Tryz.prog 109 #[.pointer (some ⟨q, 0, none⟩), .int .i64 k] w fun e w' => e = .returned (.int .i64 11) ∧ w = w' := by
  have HI := Lib.hid (item_any q a n ca k w hc)
  rw [hno] at HI
  clear hno
  go_enter Tryz.func109, Tryz.ntmps109
  go_wp2_with (go_at_call 142; refine HI.out.mono ?_; rintro e w' ⟨rfl, rfl⟩)
  go_ret
  exact ⟨rfl, rfl⟩
theorem remove_none (q a n ca k : Nat) (w : World) (hc : w.cell? ⟨q, 0, none⟩ = some (.slice (some ⟨a, 0, none⟩) n ca)) (hk : k < n) (hv : w.cell? ⟨a, k, none⟩ = some (.int .i64 (-1))) :
    Calls Tryz.prog 109 #[.pointer (some ⟨q, 0, none⟩), .int .i64 (k : Int)] w fun e w' => e = .returned (.int .i64 16) ∧ w = w' := by
  have HI := Lib.hid (item_any q a n ca k w hc)
  rw [hasB_iff.2 (by omega)] at HI
  have b1 : (0 : Int) ≤ (k : Int) := by omega
  have b2 : (k : Int) < (n : Int) := by omega
  go_enter Tryz.func109, Tryz.ntmps109
  go_wp2_with (go_at_call 142; refine HI.out.mono ?_; rintro e w' ⟨rfl, rfl⟩)
  go_ret
  exact ⟨rfl, rfl⟩
theorem remove_w (q a n ca k i : Nat) (w : World) {R : World → Prop} (hc : w.cell? ⟨q, 0, none⟩ = some (.slice (some ⟨a, 0, none⟩) n ca)) (hk : k < n) (hv : w.cell? ⟨a, k, none⟩ = some (.int .i64 (i : Int)))
    (hl : Calls Tryz.prog 144 #[.pointer (some ⟨q, 0, none⟩), .int .i64 (k : Int)] w fun e w' => (∃ v, e = .returned v) ∧ R w') :
    Calls Tryz.prog 109 #[.pointer (some ⟨q, 0, none⟩), .int .i64 (k : Int)] w fun e w' => e = .returned (.int .i64 0) ∧ R w' := by
  have HI := Lib.hid (item_any q a n ca k w hc)
  rw [hasB_iff.2 (by omega)] at HI
  have HL := Lib.hid hl
  have b1 : (0 : Int) ≤ (k : Int) := by omega
  have b2 : (k : Int) < (n : Int) := by omega
  have hne : ((i : Int) == -1) = false := by simp
  clear hl
  go_enter Tryz.func109, Tryz.ntmps109
  go_wp2_with (first | (go_at_call 142; refine HI.out.mono ?_; rintro e w' ⟨rfl, rfl⟩) | (go_at_call 144; refine HL.out.mono ?_; rintro e w1 ⟨⟨v1, rfl⟩, h1⟩))
  go_ret
  exact ⟨rfl, h1⟩
theorem remove_r {p : Pl} {L L' : Nat → List Nat} {x E : Int} {w : World} (h : Ring w p L) (hp : RemR p.n L x E L') :
    Calls Tryz.prog 109 #[.pointer (some ⟨p.q, 0, none⟩), .int .i64 x] w fun e w' => e = .returned (.int .i64 E) ∧ Ring w' p L' ∧ Chg p.lo p.hi w w' := by
  rcases hp with ⟨hno, rfl, rfl⟩ | ⟨X, rfl, hX, hno, rfl, rfl⟩ | ⟨X, i, A, C, rfl, hl, rfl, rfl⟩
  · obtain ⟨inn, cs, nx, pv, hm, hf⟩ := h
    exact (remove_bad p.q p.a p.n p.ca x w hm.s0 hno).mono fun e w' ⟨he, hw⟩ => ⟨he, hw ▸ ⟨_, _, _, _, hm, hf⟩, hw ▸ Chg.refl _ _ _⟩
  · obtain ⟨inn, cs, nx, pv, hm, hf⟩ := h
    have hv := hm.r0.cell hX
    rw [hf.no X hX hno] at hv
    exact (remove_none p.q p.a p.n p.ca X w hm.s0 hX hv).mono fun e w' ⟨he, hw⟩ => ⟨he, hw ▸ ⟨_, _, _, _, hm, hf⟩, hw ▸ Chg.refl _ _ _⟩
  · have hlv := leave_r h hl
    obtain ⟨inn, cs, nx, pv, hm, hf⟩ := h
    have hx : X ∈ L i := by rw [hl]; simp
    have hX := hf.good.lt _ _ hx
    have hv := hm.r0.cell hX
    rw [hf.at_ _ _ hx] at hv
    exact remove_w p.q p.a p.n p.ca X i w hm.s0 hX hv hlv
end Go.Proofs.YtckcgaliphpgeaaGreatDoor.Ri
