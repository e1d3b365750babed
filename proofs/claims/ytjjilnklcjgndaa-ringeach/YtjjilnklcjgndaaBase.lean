/-
  Rings of numbers, no program in sight: neighbours along a path, a ring into which one comes and out of which one goes; facts that the claimed proofs use.
-/
import Derived.Test.YtjjilnklcjgndaaRows
namespace Go.Proofs.Ytjjilnklcjgndaa

/-! ### One value turned -/
def up {α : Type} (f : Nat → α) (i : Nat) (v : α) : Nat → α := fun j => if j = i then v else f j
theorem up_at {α : Type} (f : Nat → α) (i : Nat) (v : α) : up f i v i = v := by simp [up]
theorem up_far {α : Type} {f : Nat → α} {i j : Nat} {v : α} (h : j ≠ i) : up f i v j = f j := by simp [up, h]

theorem mem_mid {A C : List Nat} {x : Nat} (y : Nat) : y ∈ A ++ x :: C ↔ y = x ∨ y ∈ A ++ C := by
  rw [List.perm_middle.mem_iff, List.mem_cons]

/-! ### Neighbours along a path -/
def Lk (nx pv : Nat → Nat) : List Nat → Prop
  | a :: b :: r => nx a = b ∧ pv b = a ∧ Lk nx pv (b :: r)
  | _ => True
theorem lk_app {nx pv : Nat → Nat} : ∀ (A : List Nat) (b : Nat) (C : List Nat), Lk nx pv (A ++ b :: C) ↔ Lk nx pv (A ++ [b]) ∧ Lk nx pv (b :: C)
  | [], b, C => by simp [Lk]
  | [a], b, C => by simp [Lk, and_assoc]
  | a :: a' :: A, b, C => by
    have ih := lk_app (nx := nx) (pv := pv) (a' :: A) b C
    simp only [List.cons_append] at ih ⊢
    simp only [Lk, ih, and_assoc]
theorem lk_same {nx pv nx' pv' : Nat → Nat} : ∀ (l : List Nat), (∀ a ∈ l.dropLast, nx' a = nx a) → (∀ b ∈ l.tail, pv' b = pv b) → Lk nx pv l → Lk nx' pv' l
  | [], _, _, _ => trivial
  | [_], _, _, _ => trivial
  | a :: b :: r, h1, h2, h => by
    obtain ⟨e1, e2, h⟩ := h
    refine ⟨(h1 a (by simp)).trans e1, (h2 b (by simp)).trans e2, lk_same (b :: r) (fun x hx => h1 x (by simp only [List.dropLast]; exact List.mem_cons_of_mem _ hx)) (fun x hx => h2 x (by simp at hx ⊢; exact .inr hx)) h⟩
/-- A ring through a knot. -/
def Rg (nx pv : Nat → Nat) (k : Nat) (l : List Nat) : Prop := Lk nx pv (k :: (l ++ [k]))
theorem rg_same {nx pv nx' pv' : Nat → Nat} {k : Nat} {l : List Nat} (h1 : ∀ a, a = k ∨ a ∈ l → nx' a = nx a) (h2 : ∀ a, a = k ∨ a ∈ l → pv' a = pv a) (h : Rg nx pv k l) : Rg nx' pv' k l := by
  refine lk_same _ (fun a ha => h1 a ?_) (fun a ha => h2 a ?_) h
  · have e : (k :: (l ++ [k])).dropLast = k :: l := by rw [← List.cons_append, List.dropLast_concat]
    rw [e] at ha; simpa using ha
  · simp at ha; exact ha.symm
/-- Where one comes in, and where one goes out: the neighbours. -/
def Ends (k : Nat) (A C : List Nat) (b a : Nat) : Prop := (∃ P, P ++ [b] = k :: A) ∧ ∃ S, a :: S = C ++ [k]
theorem ends_some (k : Nat) (A C : List Nat) : ∃ b a, Ends k A C b a := by
  obtain ⟨P, b, h⟩ : ∃ P b, P ++ [b] = k :: A := ⟨(k :: A).dropLast, (k :: A).getLast (by simp), List.dropLast_concat_getLast _⟩
  cases C with
  | nil => exact ⟨b, k, ⟨P, h⟩, [], rfl⟩
  | cons c C => exact ⟨b, c, ⟨P, h⟩, C ++ [k], rfl⟩
theorem ends_mem {k b a : Nat} {A C : List Nat} (h : Ends k A C b a) : (b = k ∨ b ∈ A) ∧ (a = k ∨ a ∈ C) := by
  obtain ⟨⟨P, hP⟩, S, hS⟩ := h
  constructor
  · have : b ∈ k :: A := by rw [← hP]; simp
    simpa using this
  · have : a ∈ C ++ [k] := by rw [← hS]; simp
    simp at this; exact this.symm
theorem rg_path {nx pv : Nat → Nat} {k b a : Nat} {A C : List Nat} (X : List Nat) (h : Ends k A C b a) : ∃ P S, P ++ [b] = k :: A ∧ a :: S = C ++ [k] ∧ (Rg nx pv k (A ++ X ++ C) ↔ Lk nx pv (P ++ [b]) ∧ Lk nx pv (b :: (X ++ a :: S))) := by
  obtain ⟨⟨P, hP⟩, S, hS⟩ := h
  refine ⟨P, S, hP, hS, ?_⟩
  have e : k :: (A ++ X ++ C ++ [k]) = P ++ b :: (X ++ a :: S) := by
    rw [hS, show P ++ b :: (X ++ (C ++ [k])) = (P ++ [b]) ++ (X ++ (C ++ [k])) by simp, hP]; simp
  rw [Rg, e, lk_app]
theorem rg_cut {nx pv nx' pv' : Nat → Nat} {k b a : Nat} {A C P S : List Nat} (hP : P ++ [b] = k :: A) (hS : a :: S = C ++ [k]) (hnd : (k :: (A ++ C)).Nodup)
    (h1 : ∀ y, y ≠ b → (y = k ∨ y ∈ A ∨ y ∈ C) → nx' y = nx y) (h2 : ∀ y, y ≠ a → (y = k ∨ y ∈ A ∨ y ∈ C) → pv' y = pv y) (h : Lk nx pv (P ++ [b])) (h' : Lk nx pv (a :: S)) : Lk nx' pv' (P ++ [b]) ∧ Lk nx' pv' (a :: S) := by
  have hnd' : (P ++ [b] ++ C).Nodup := by rw [hP]; simpa using hnd
  have hmem : ∀ y, y ∈ P ++ [b] ↔ y = k ∨ y ∈ A := fun y => by rw [hP]; simp
  have hmem2 : ∀ y, y ∈ a :: S ↔ y = k ∨ y ∈ C := fun y => by rw [hS]; simp [or_comm]
  simp only [List.nodup_append, List.nodup_cons, List.mem_append, List.mem_singleton, not_or] at hnd hnd'
  have ha := (hmem2 a).1 (by simp)
  have hb := (hmem b).1 (by simp)
  have hS' : (C ++ [k]).Nodup := by simp only [List.nodup_append, List.nodup_cons, List.mem_singleton]; exact ⟨hnd.2.2.1, by simp, by rintro x hx y rfl e; exact hnd.1.2 (e ▸ hx)⟩
  rw [← hS, List.nodup_cons] at hS'
  constructor
  · refine lk_same _ (fun y hy => ?_) (fun y hy => ?_) h
    · rw [List.dropLast_concat] at hy
      refine h1 y (fun e => hnd'.1.2.2 y hy b (by simp) e) ?_
      rcases (hmem y).1 (by simp [hy]) with e | e
      · exact .inl e
      · exact .inr (.inl e)
    · rw [hP, List.tail_cons] at hy
      refine h2 y (fun e => ?_) (.inr (.inl hy))
      rcases ha with e' | e'
      · rw [e, e'] at hy; exact hnd.1.1 hy
      · exact hnd.2.2.2 y hy a e' e
  · refine lk_same _ (fun y hy => ?_) (fun y hy => ?_) h'
    · rw [hS, List.dropLast_concat] at hy
      refine h1 y (fun e => ?_) (.inr (.inr hy))
      rcases hb with e' | e'
      · rw [e, e'] at hy; exact hnd.1.2 hy
      · exact hnd.2.2.2 b e' y hy e.symm
    · rw [List.tail_cons] at hy
      refine h2 y (fun e => hS'.1 (e ▸ hy)) ?_
      rcases (hmem2 y).1 (by simp [hy]) with e | e
      · exact .inl e
      · exact .inr (.inr e)
theorem rg_near {nx pv : Nat → Nat} {k b a : Nat} {A C : List Nat} (he : Ends k A C b a) (h : Rg nx pv k (A ++ C)) : nx b = a ∧ pv a = b := by
  obtain ⟨P, S, hP, hS, hi⟩ := rg_path (nx := nx) (pv := pv) [] he
  rw [List.append_nil] at hi
  exact ⟨(hi.1 h).2.1, (hi.1 h).2.2.1⟩
theorem rg_insert {nx pv : Nat → Nat} {k b a x : Nat} {A C : List Nat} (he : Ends k A C b a) (hnd : (k :: (A ++ C)).Nodup) (hx : x ≠ k ∧ x ∉ A ∧ x ∉ C) (h : Rg nx pv k (A ++ C)) :
    Rg (up (up nx b x) x a) (up (up pv x b) a x) k (A ++ x :: C) := by
  obtain ⟨hbm, ham⟩ := ends_mem he
  obtain ⟨P, S, hP, hS, hi⟩ := rg_path (nx := nx) (pv := pv) [] he
  obtain ⟨P', S', hP', hS', hi'⟩ := rg_path (nx := up (up nx b x) x a) (pv := up (up pv x b) a x) [x] he
  have hxb : b ≠ x := fun e => by rcases hbm with h | h <;> simp_all
  have hxa : a ≠ x := fun e => by rcases ham with h | h <;> simp_all
  rw [List.append_nil] at hi
  obtain ⟨l1, _, _, l2⟩ := hi.1 h
  have hne : ∀ y, (y = k ∨ y ∈ A ∨ y ∈ C) → y ≠ x := fun y hy e => by subst e; rcases hy with h | h | h <;> simp_all
  obtain ⟨g1, g2⟩ := rg_cut (nx' := up (up nx b x) x a) (pv' := up (up pv x b) a x) hP hS hnd (fun y h1 hy => by rw [up_far (hne y hy), up_far h1]) (fun y h1 hy => by rw [up_far h1, up_far (hne y hy)]) l1 l2
  have e1 : P = P' := by have := hP.trans hP'.symm; simpa using this
  have e2 : S = S' := by have := hS.trans hS'.symm; simpa using this
  subst e1 e2
  have : A ++ x :: C = A ++ [x] ++ C := by simp
  rw [this]
  exact hi'.2 ⟨g1, by rw [up_far hxb, up_at], by rw [up_far (fun e => hxa e.symm), up_at], up_at _ _ _, up_at _ _ _, g2⟩
theorem rg_remove {nx pv : Nat → Nat} {k x : Nat} {A C : List Nat} (hnd : (k :: (A ++ x :: C)).Nodup) (h : Rg nx pv k (A ++ x :: C)) :
    Ends k A C (pv x) (nx x) ∧ Rg (up nx (pv x) (nx x)) (up pv (nx x) (pv x)) k (A ++ C) := by
  obtain ⟨b, a, he⟩ := ends_some k A C
  obtain ⟨P, S, hP, hS, hi⟩ := rg_path (nx := nx) (pv := pv) [x] he
  have : A ++ x :: C = A ++ [x] ++ C := by simp
  rw [this] at h
  obtain ⟨l1, _, e2, e3, _, l2⟩ := hi.1 h
  rw [e2, e3]
  refine ⟨he, ?_⟩
  obtain ⟨P', S', hP', hS', hi'⟩ := rg_path (nx := up nx b a) (pv := up pv a b) [] he
  have e1 : P = P' := by have := hP.trans hP'.symm; simpa using this
  have e2 : S = S' := by have := hS.trans hS'.symm; simpa using this
  subst e1 e2
  have hnd2 : (k :: (A ++ C)).Nodup := by
    refine hnd.sublist ?_
    exact List.Sublist.cons_cons _ ((List.sublist_cons_self x C).append_left A)
  obtain ⟨g1, g2⟩ := rg_cut (nx' := up nx b a) (pv' := up pv a b) hP hS hnd2 (fun y h1 _ => up_far h1) (fun y h1 _ => up_far h1) l1 l2
  rw [List.append_nil] at hi'
  exact hi'.2 ⟨g1, up_at _ _ _, up_at _ _ _, g2⟩
theorem rg_step {nx pv : Nat → Nat} {k x : Nat} {A C : List Nat} (h : Rg nx pv k (A ++ x :: C)) : nx x = (C ++ [k]).head (by simp) := by
  have : Lk nx pv ((k :: A) ++ x :: (C ++ [k])) := by simpa [Rg] using h
  rw [lk_app] at this
  obtain ⟨_, h2⟩ := this
  cases C with
  | nil => exact h2.1
  | cons c C => exact h2.1
theorem rg_first {nx pv : Nat → Nat} {k : Nat} {l : List Nat} (h : Rg nx pv k l) : nx k = (l ++ [k]).head (by simp) := by
  cases l with
  | nil => exact h.1
  | cons c C => exact h.1
theorem rg_empty (nx pv : Nat → Nat) (k : Nat) (h1 : nx k = k) (h2 : pv k = k) : Rg nx pv k [] := ⟨h1, h2, trivial⟩

/-! ### Items in lists -/
/-- Lists in which each item stands once at most. -/
structure Good (n m : Nat) (L : Nat → List Nat) : Prop where
  out : ∀ i, m ≤ i → L i = []
  lt : ∀ i x, x ∈ L i → x < n
  nd : ∀ i, (L i).Nodup
  apart : ∀ i j x, x ∈ L i → x ∈ L j → i = j
theorem Good.none (n m : Nat) : Good n m (fun _ => []) := ⟨fun _ _ => rfl, fun _ _ h => by simp at h, fun _ => List.nodup_nil, fun _ _ _ h => by simp at h⟩
theorem Good.insert {n m : Nat} {L : Nat → List Nat} (h : Good n m L) {i x : Nat} {A C : List Nat} (hi : i < m) (hx : x < n) (hno : ∀ j, x ∉ L j) (hl : L i = A ++ C) : Good n m (up L i (A ++ x :: C)) := by
  have hmem : ∀ y, y ∈ A ++ x :: C ↔ y = x ∨ y ∈ L i := fun y => by rw [hl]; exact mem_mid y
  refine ⟨fun j hj => ?_, fun j y hy => ?_, fun j => ?_, fun j j' y h1 h2 => ?_⟩
  · rw [up_far (by omega)]; exact h.out j hj
  · by_cases e : j = i
    · subst e; rw [up_at, hmem] at hy
      rcases hy with rfl | hy
      · exact hx
      · exact h.lt _ _ hy
    · rw [up_far e] at hy; exact h.lt _ _ hy
  · by_cases e : j = i
    · subst e; rw [up_at]
      have h1 := h.nd j
      have h2 := hno j
      rw [hl] at h1 h2
      have hp : (A ++ x :: C).Perm (x :: (A ++ C)) := List.perm_middle
      rw [hp.nodup_iff, List.nodup_cons]
      exact ⟨h2, h1⟩
    · rw [up_far e]; exact h.nd j
  · by_cases e : j = i
    · by_cases e' : j' = i
      · omega
      · subst e; rw [up_at, hmem] at h1; rw [up_far e'] at h2
        rcases h1 with rfl | h1
        · exact absurd h2 (hno _)
        · exact h.apart _ _ _ h1 h2
    · rw [up_far e] at h1
      by_cases e' : j' = i
      · subst e'; rw [up_at, hmem] at h2
        rcases h2 with rfl | h2
        · exact absurd h1 (hno _)
        · exact h.apart _ _ _ h1 h2
      · rw [up_far e'] at h2; exact h.apart _ _ _ h1 h2
theorem Good.remove {n m : Nat} {L : Nat → List Nat} (h : Good n m L) {i x : Nat} {A C : List Nat} (hl : L i = A ++ x :: C) : Good n m (up L i (A ++ C)) := by
  have hsub : ∀ y, y ∈ A ++ C → y ∈ L i := fun y hy => by rw [hl]; exact (mem_mid y).2 (.inr hy)
  have hi : i < m := by
    rcases Nat.lt_or_ge i m with hi | hi
    · exact hi
    · have := h.out i hi; rw [hl] at this; simp at this
  have hto : ∀ j y, y ∈ up L i (A ++ C) j → y ∈ L j := fun j y hy => by
    by_cases e : j = i
    · subst e; rw [up_at] at hy; exact hsub y hy
    · rw [up_far e] at hy; exact hy
  refine ⟨fun j hj => by rw [up_far (by omega)]; exact h.out j hj, fun j y hy => h.lt _ _ (hto j y hy), fun j => ?_, fun j j' y h1 h2 => h.apart _ _ _ (hto _ _ h1) (hto _ _ h2)⟩
  by_cases e : j = i
  · subst e; rw [up_at]
    have := h.nd j
    rw [hl] at this
    exact this.sublist ((List.sublist_cons_self x C).append_left A)
  · rw [up_far e]; exact h.nd j
theorem Good.knot {n m : Nat} {L : Nat → List Nat} (h : Good n m L) (i : Nat) : ((n + i) :: L i).Nodup := List.nodup_cons.2 ⟨fun hx => by have := h.lt _ _ hx; omega, h.nd i⟩

/-- Numbers that tell these lists: each item's list, each list's length, and neighbours. -/
structure Fits (n m : Nat) (L : Nat → List Nat) (inn : Nat → Int) (cs nx pv : Nat → Nat) : Prop where
  good : Good n m L
  ring : ∀ i, i < m → Rg nx pv (n + i) (L i)
  at_ : ∀ i x, x ∈ L i → inn x = (i : Int)
  no : ∀ x, x < n → (∀ i, x ∉ L i) → inn x = -1
  cnt : ∀ i, i < m → cs i = (L i).length
theorem Fits.insert {n m : Nat} {L : Nat → List Nat} {inn : Nat → Int} {cs nx pv : Nat → Nat} (h : Fits n m L inn cs nx pv) {i x b a : Nat} {A C : List Nat} (hi : i < m) (hx : x < n) (hno : ∀ j, x ∉ L j) (hl : L i = A ++ C)
    (he : Ends (n + i) A C b a) : Fits n m (up L i (A ++ x :: C)) (up inn x (i : Int)) (up cs i (cs i + 1)) (up (up nx b x) x a) (up (up pv x b) a x) := by
  obtain ⟨hbm, ham⟩ := ends_mem he
  have hnd := h.good.knot i
  rw [hl] at hnd
  have hxi := hno i
  rw [hl] at hxi
  simp only [List.mem_append, not_or] at hxi
  have hmem : ∀ y, y ∈ A ++ x :: C ↔ y = x ∨ y ∈ L i := fun y => by rw [hl]; exact mem_mid y
  have hbL : b = n + i ∨ b ∈ L i := by rw [hl]; rcases hbm with h | h <;> simp [h]
  have haL : a = n + i ∨ a ∈ L i := by rw [hl]; rcases ham with h | h <;> simp [h]
  have hfar : ∀ j, j < m → j ≠ i → ∀ y, (y = n + j ∨ y ∈ L j) → ∀ c, (c = n + i ∨ c ∈ L i) → y ≠ c := by
    intro j hj hji y hy c hc e
    subst e
    rcases hy with rfl | hy <;> rcases hc with e | hc
    · omega
    · have := h.good.lt _ _ hc; omega
    · have := h.good.lt _ _ hy; omega
    · exact hji (h.good.apart _ _ _ hy hc)
  refine ⟨h.good.insert hi hx hno hl, fun j hj => ?_, fun j y hy => ?_, fun y hy hn => ?_, fun j hj => ?_⟩
  · by_cases e : j = i
    · subst e; rw [up_at]
      exact rg_insert he hnd ⟨by omega, hxi⟩ (hl ▸ h.ring j hj)
    · rw [up_far e]
      have hx' : ∀ y, (y = n + j ∨ y ∈ L j) → y ≠ x := fun y hy e => by
        subst e
        rcases hy with h | h
        · omega
        · exact hno _ h
      exact rg_same (fun y hy => by rw [up_far (hx' y hy), up_far (hfar j hj e y hy b hbL)]) (fun y hy => by rw [up_far (hfar j hj e y hy a haL), up_far (hx' y hy)]) (h.ring j hj)
  · by_cases e : j = i
    · subst e; rw [up_at, hmem] at hy
      by_cases e2 : y = x
      · subst e2; rw [up_at]
      · rw [up_far e2]
        exact h.at_ _ _ (hy.resolve_left e2)
    · rw [up_far e] at hy
      rw [up_far (fun (e2 : y = x) => hno j (e2 ▸ hy))]; exact h.at_ _ _ hy
  · have e2 : y ≠ x := fun e => by
      subst e
      exact hn i (by rw [up_at, hmem]; exact .inl rfl)
    rw [up_far e2]
    refine h.no y hy (fun j hj => ?_)
    by_cases e : j = i
    · subst e; exact hn j (by rw [up_at, hmem]; exact .inr hj)
    · exact hn j (by rw [up_far e]; exact hj)
  · by_cases e : j = i
    · subst e; rw [up_at, up_at, h.cnt j hj, hl]; simp; omega
    · rw [up_far e, up_far e]; exact h.cnt j hj
theorem Fits.near {n m : Nat} {L : Nat → List Nat} {inn : Nat → Int} {cs nx pv : Nat → Nat} (h : Fits n m L inn cs nx pv) {i b a : Nat} {A C : List Nat} (hi : i < m) (hl : L i = A ++ C) (he : Ends (n + i) A C b a) : nx b = a ∧ pv a = b ∧ b < n + m ∧ a < n + m := by
  obtain ⟨e1, e2⟩ := rg_near he (hl ▸ h.ring i hi)
  obtain ⟨hbm, ham⟩ := ends_mem he
  refine ⟨e1, e2, ?_, ?_⟩
  · rcases hbm with e | e
    · omega
    · have := h.good.lt i b (by rw [hl]; simp [e]); omega
  · rcases ham with e | e
    · omega
    · have := h.good.lt i a (by rw [hl]; simp [e]); omega
theorem Fits.remove {n m : Nat} {L : Nat → List Nat} {inn : Nat → Int} {cs nx pv : Nat → Nat} (h : Fits n m L inn cs nx pv) {i x : Nat} {A C : List Nat} (hi : i < m) (hl : L i = A ++ x :: C) :
    Fits n m (up L i (A ++ C)) (up inn x (-1)) (up cs i (cs i - 1)) (up nx (pv x) (nx x)) (up pv (nx x) (pv x)) ∧ pv x < n + m ∧ nx x < n + m ∧ 0 < cs i := by
  have hnd := h.good.knot i
  rw [hl] at hnd
  obtain ⟨he, hr⟩ := rg_remove hnd (hl ▸ h.ring i hi)
  obtain ⟨hbm, ham⟩ := ends_mem he
  have hxi : x ∈ L i := by rw [hl]; simp
  have hbL : pv x = n + i ∨ pv x ∈ L i := by rw [hl]; rcases hbm with h | h <;> simp [h]
  have haL : nx x = n + i ∨ nx x ∈ L i := by rw [hl]; rcases ham with h | h <;> simp [h]
  have hfar : ∀ j, j < m → j ≠ i → ∀ y, (y = n + j ∨ y ∈ L j) → ∀ c, (c = n + i ∨ c ∈ L i) → y ≠ c := by
    intro j hj hji y hy c hc e
    subst e
    rcases hy with rfl | hy <;> rcases hc with e | hc
    · omega
    · have := h.good.lt _ _ hc; omega
    · have := h.good.lt _ _ hy; omega
    · exact hji (h.good.apart _ _ _ hy hc)
  have hnx : x ∉ A ++ C := by
    have := h.good.nd i
    rw [hl, List.perm_middle.nodup_iff, List.nodup_cons] at this
    exact this.1
  have hmem : ∀ y, y ∈ L i ↔ y = x ∨ y ∈ A ++ C := fun y => by rw [hl]; exact mem_mid y
  have hc := h.cnt i hi
  rw [hl] at hc
  simp at hc
  refine ⟨⟨h.good.remove hl, fun j hj => ?_, fun j y hy => ?_, fun y hy hn => ?_, fun j hj => ?_⟩, ?_, ?_, by omega⟩
  · by_cases e : j = i
    · subst e; rw [up_at]; exact hr
    · rw [up_far e]
      exact rg_same (fun y hy => up_far (hfar j hj e y hy _ hbL)) (fun y hy => up_far (hfar j hj e y hy _ haL)) (h.ring j hj)
  · by_cases e : j = i
    · subst e; rw [up_at] at hy
      rw [up_far (fun (e : y = x) => hnx (e ▸ hy))]
      exact h.at_ _ _ ((hmem y).2 (.inr hy))
    · rw [up_far e] at hy
      rw [up_far (fun (e2 : y = x) => e (h.good.apart _ _ _ (e2 ▸ hy) hxi))]; exact h.at_ _ _ hy
  · by_cases e2 : y = x
    · subst e2; rw [up_at]
    · rw [up_far e2]
      refine h.no y hy (fun j hj => ?_)
      by_cases e : j = i
      · subst e; exact hn j (by rw [up_at]; exact ((hmem y).1 hj).resolve_left e2)
      · exact hn j (by rw [up_far e]; exact hj)
  · by_cases e : j = i
    · subst e; rw [up_at, up_at]; simp; omega
    · rw [up_far e, up_far e]; exact h.cnt j hj
  · rcases hbL with e | e
    · omega
    · have := h.good.lt _ _ e; omega
  · rcases haL with e | e
    · omega
    · have := h.good.lt _ _ e; omega
theorem Fits.first {n m : Nat} {L : Nat → List Nat} {inn : Nat → Int} {cs nx pv : Nat → Nat} (h : Fits n m L inn cs nx pv) {i : Nat} (hi : i < m) : nx (n + i) = (L i ++ [n + i]).head (by simp) := rg_first (h.ring i hi)
theorem Fits.step {n m : Nat} {L : Nat → List Nat} {inn : Nat → Int} {cs nx pv : Nat → Nat} (h : Fits n m L inn cs nx pv) {i x : Nat} {A C : List Nat} (hi : i < m) (hl : L i = A ++ x :: C) : nx x = (C ++ [n + i]).head (by simp) := rg_step (hl ▸ h.ring i hi)
theorem Fits.none (n m : Nat) (inn : Nat → Int) (cs nx pv : Nat → Nat) (h1 : ∀ x, x < n → inn x = -1) (h2 : ∀ i, i < m → cs i = 0) (h3 : ∀ i, i < m → nx (n + i) = n + i ∧ pv (n + i) = n + i) : Fits n m (fun _ => []) inn cs nx pv :=
  ⟨Good.none n m, fun i hi => rg_empty _ _ _ (h3 i hi).1 (h3 i hi).2, fun _ _ h => by simp at h, fun x hx _ => h1 x hx, fun i hi => by simpa using h2 i hi⟩
theorem Fits.same {n m : Nat} {L : Nat → List Nat} {inn inn' : Nat → Int} {cs nx pv cs' nx' pv' : Nat → Nat} (h : Fits n m L inn cs nx pv) (h1 : ∀ x, x < n → inn' x = inn x) (h2 : ∀ i, i < m → cs' i = cs i) (h3 : ∀ i, i < n + m → nx' i = nx i) (h4 : ∀ i, i < n + m → pv' i = pv i) : Fits n m L inn' cs' nx' pv' := by
  have hlt : ∀ i, i < m → ∀ y, (y = n + i ∨ y ∈ L i) → y < n + m := fun i hi y hy => by
    rcases hy with rfl | hy
    · omega
    · have := h.good.lt _ _ hy; omega
  exact ⟨h.good, fun i hi => rg_same (fun y hy => h3 y (hlt i hi y hy)) (fun y hy => h4 y (hlt i hi y hy)) (h.ring i hi), fun i x hx => (h1 x (h.good.lt _ _ hx)).trans (h.at_ i x hx), fun x hx hn => (h1 x hx).trans (h.no x hx hn), fun i hi => (h2 i hi).trans (h.cnt i hi)⟩
end Go.Proofs.Ytjjilnklcjgndaa
