/-
  What the exported functions do to lists, and what they answer of them: contracts that the claimed proofs use.
-/
import Derived.Test.YtjjilnklcjgndaaJoin
namespace Go.Proofs.Ytjjilnklcjgndaa
open Go.RowKit

/-! ### What is asked and answered -/
/-- A list's items (of none: none). -/
def of (L : Nat → List Nat) (i : Int) : List Nat := if 0 ≤ i then L i.toNat else []
theorem of_nat (L : Nat → List Nat) (i : Nat) : of L (i : Int) = L i := by simp [of]
theorem of_no {n m : Nat} {L : Nat → List Nat} (h : Good n m L) {i : Int} (hi : hasB m i = false) : of L i = [] := by
  unfold of
  split
  · exact h.out _ (by have := hasB_not.1 hi; omega)
  · rfl
/-- The first one, or -1. -/
def hd : List Nat → Int
  | [] => -1
  | x :: _ => (x : Int)
/-- An item's list, or -1. -/
def InR (L : Nat → List Nat) (x v : Int) : Prop := (∃ X i : Nat, x = (X : Int) ∧ X ∈ L i ∧ v = (i : Int)) ∨ ((∀ X i : Nat, x = (X : Int) → X ∉ L i) ∧ v = -1)
/-- The one behind an item, or -1. -/
def NextR (L : Nat → List Nat) (x r : Int) : Prop := (∃ (X i : Nat) (A C : List Nat), x = (X : Int) ∧ L i = A ++ X :: C ∧ r = hd C) ∨ ((∀ X i : Nat, x = (X : Int) → X ∉ L i) ∧ r = -1)
/-- What Push and Append answer, and the lists behind them. -/
def PutR (n m : Nat) (L : Nat → List Nat) (i x : Int) (first : Bool) (E : Int) (L' : Nat → List Nat) : Prop :=
  ((hasB m i && hasB n x) = false ∧ E = 11 ∧ L' = L) ∨
  (∃ I X : Nat, i = (I : Int) ∧ x = (X : Int) ∧ I < m ∧ X < n ∧ (∃ j, X ∈ L j) ∧ E = 15 ∧ L' = L) ∨
  (∃ I X : Nat, i = (I : Int) ∧ x = (X : Int) ∧ I < m ∧ X < n ∧ (∀ j, X ∉ L j) ∧ E = 0 ∧ L' = up L I (if first then X :: L I else L I ++ [X]))
theorem putR_some (n m : Nat) (L : Nat → List Nat) (i x : Int) (first : Bool) : ∃ E L', PutR n m L i x first E L' := by
  cases h : hasB m i && hasB n x
  · exact ⟨_, _, .inl ⟨h, rfl, rfl⟩⟩
  · rw [Bool.and_eq_true] at h
    obtain ⟨h0, h1⟩ := hasB_iff.1 h.1
    obtain ⟨h2, h3⟩ := hasB_iff.1 h.2
    obtain ⟨I, rfl⟩ := Int.eq_ofNat_of_zero_le h0
    obtain ⟨X, rfl⟩ := Int.eq_ofNat_of_zero_le h2
    by_cases he : ∃ j, X ∈ L j
    · exact ⟨_, _, .inr (.inl ⟨I, X, rfl, rfl, by omega, by omega, he, rfl, rfl⟩)⟩
    · exact ⟨_, _, .inr (.inr ⟨I, X, rfl, rfl, by omega, by omega, fun j hj => he ⟨j, hj⟩, rfl, rfl⟩)⟩
/-- What Remove answers, and the lists behind it. -/
def RemR (n : Nat) (L : Nat → List Nat) (x E : Int) (L' : Nat → List Nat) : Prop :=
  (hasB n x = false ∧ E = 11 ∧ L' = L) ∨ (∃ X : Nat, x = (X : Int) ∧ X < n ∧ (∀ j, X ∉ L j) ∧ E = 16 ∧ L' = L) ∨
  (∃ (X i : Nat) (A C : List Nat), x = (X : Int) ∧ L i = A ++ X :: C ∧ E = 0 ∧ L' = up L i (A ++ C))
theorem remR_some (n : Nat) (L : Nat → List Nat) (x : Int) : ∃ E L', RemR n L x E L' := by
  cases h : hasB n x
  · exact ⟨_, _, .inl ⟨h, rfl, rfl⟩⟩
  · obtain ⟨h2, h3⟩ := hasB_iff.1 h
    obtain ⟨X, rfl⟩ := Int.eq_ofNat_of_zero_le h2
    by_cases he : ∃ j, X ∈ L j
    · obtain ⟨j, hj⟩ := he
      obtain ⟨A, C, e⟩ := List.append_of_mem hj
      exact ⟨_, _, .inr (.inr ⟨X, j, A, C, rfl, e, rfl, rfl⟩)⟩
    · exact ⟨_, _, .inr (.inl ⟨X, rfl, by omega, fun j hj => he ⟨j, hj⟩, rfl, rfl⟩)⟩
theorem Good.list_lt {n m : Nat} {L : Nat → List Nat} (h : Good n m L) {i x : Nat} (hx : x ∈ L i) : i < m := by
  rcases Nat.lt_or_ge i m with hi | hi
  · exact hi
  · have := h.out i hi; rw [this] at hx; simp at hx
theorem len_le : ∀ (n : Nat) {l : List Nat}, l.Nodup → (∀ x ∈ l, x < n) → l.length ≤ n
  | 0, l, _, hl => by
    cases l with
    | nil => simp
    | cons x l => have := hl x (by simp); omega
  | n + 1, l, hn, hl => by
    by_cases h : n ∈ l
    · have := len_le n (l := l.erase n) (hn.erase n) (fun x hx => by
        rw [hn.mem_erase_iff] at hx
        have := hl x hx.2
        omega)
      rw [List.length_erase_of_mem h] at this
      omega
    · have := len_le n hn (fun x hx => by
        have := hl x hx
        have : x ≠ n := fun e => h (e ▸ hx)
        omega)
      omega
theorem Good.len {n m : Nat} {L : Nat → List Nat} (h : Good n m L) (i : Nat) : (L i).length ≤ n := len_le n (h.nd i) (h.lt i)

/-! ### Questions -/
theorem in_r {w : World} {p : Pl} {L : Nat → List Nat} {x v : Int} (h : Ring w p L) (hv : InR L x v) :
    Calls Try.prog 13 #[.pointer (some ⟨p.q, 0, none⟩), .int .i64 x] w fun e w' => e = .returned (.int .i64 v) ∧ w = w' := by
  obtain ⟨inn, cs, nx, pv, h, hf⟩ := h
  cases hb : hasB p.n x
  · have : v = -1 := by
      rcases hv with ⟨X, i, rfl, hx, rfl⟩ | ⟨_, e⟩
      · have := hf.good.lt _ _ hx
        have := hasB_not.1 hb; omega
      · exact e
    subst this
    exact in_no p.q p.a p.n p.ca x w h.s0 hb
  · obtain ⟨h2, h3⟩ := hasB_iff.1 hb
    obtain ⟨X, rfl⟩ := Int.eq_ofNat_of_zero_le h2
    have hX : X < p.n := by omega
    have : inn X = v := by
      rcases hv with ⟨X', i, e, hx, rfl⟩ | ⟨hno, rfl⟩
      · have : X' = X := by omega
        subst this
        exact hf.at_ _ _ hx
      · exact hf.no X hX (fun i => hno X i rfl)
    rw [← this]
    exact in_yes p.q p.a p.n p.ca X _ w h.s0 hX (h.r0.cell hX)
theorem bh_head {n m : Nat} {L : Nat → List Nat} (h : Good n m L) {i : Nat} {C : List Nat} (hC : ∀ x ∈ C, x ∈ L i) : bh n ((C ++ [n + i]).head (by simp)) = hd C := by
  cases C with
  | nil => simp [bh, hd]; omega
  | cons c C => have := h.lt i c (hC c (by simp)); simp [bh, hd, this]
theorem behind_r {w : World} {p : Pl} {inn : Nat → Int} {cs nx pv : Nat → Nat} (h : RM w p inn cs nx pv) {k : Nat} (hk : k < p.n + p.m) :
    Calls Try.prog 29 #[.pointer (some ⟨p.q, 0, none⟩), .int .i64 (k : Int)] w fun e w' => e = .returned (.int .i64 (bh p.n (nx k))) ∧ w = w' :=
  behind_any p.q p.a p.n p.ca p.c _ p.cc k (nx k) w h.s0 h.s2 hk (h.r2.cell hk)
theorem next_r {w : World} {p : Pl} {L : Nat → List Nat} {x r : Int} (h : Ring w p L) (hv : NextR L x r) :
    Calls Try.prog 14 #[.pointer (some ⟨p.q, 0, none⟩), .int .i64 x] w fun e w' => e = .returned (.int .i64 r) ∧ w = w' := by
  rcases hv with ⟨X, i, A, C, rfl, hl, rfl⟩ | ⟨hno, rfl⟩
  · have hx : X ∈ L i := by rw [hl]; simp
    have hin := in_r (v := (i : Int)) h (.inl ⟨X, i, rfl, hx, rfl⟩)
    obtain ⟨inn, cs, nx, pv, h, hf⟩ := h
    have hi := hf.good.list_lt hx
    have hX := hf.good.lt _ _ hx
    have hb := behind_r h (k := X) (by omega)
    rw [hf.step hi hl, bh_head hf.good (fun y hy => by rw [hl]; simp [hy])] at hb
    exact next_yes p.q X i _ w (by omega) hin hb
  · exact next_no p.q x w (in_r h (.inr ⟨hno, rfl⟩))
theorem first_r {w : World} {p : Pl} {L : Nat → List Nat} {i : Int} (h : Ring w p L) :
    Calls Try.prog 15 #[.pointer (some ⟨p.q, 0, none⟩), .int .i64 i] w fun e w' => e = .returned (.int .i64 (hd (of L i))) ∧ w = w' := by
  obtain ⟨inn, cs, nx, pv, h, hf⟩ := h
  cases hb : hasB p.m i
  · rw [of_no hf.good hb]
    exact first_no p.q p.b p.m p.cb i w h.s1 hb
  · obtain ⟨h2, h3⟩ := hasB_iff.1 hb
    obtain ⟨I, rfl⟩ := Int.eq_ofNat_of_zero_le h2
    have hI : I < p.m := by omega
    have := first_yes p.q p.a p.n p.ca p.b p.m p.cb p.c _ p.cc I _ w h.s0 h.s1 h.s2 h.ok.n1 h.ok.m1 hI (by omega) (h.r2.cell (i := p.n + I) (by omega))
    rwa [hf.first hI, bh_head hf.good (fun y hy => hy), ← of_nat L I] at this
theorem len_r {w : World} {p : Pl} {L : Nat → List Nat} {i : Int} (h : Ring w p L) :
    Calls Try.prog 16 #[.pointer (some ⟨p.q, 0, none⟩), .int .i64 i] w fun e w' => e = .returned (.int .i64 ((of L i).length : Int)) ∧ w = w' := by
  obtain ⟨inn, cs, nx, pv, h, hf⟩ := h
  cases hb : hasB p.m i
  · rw [of_no hf.good hb]
    exact len_no p.q p.b p.m p.cb i w h.s1 hb
  · obtain ⟨h2, h3⟩ := hasB_iff.1 hb
    obtain ⟨I, rfl⟩ := Int.eq_ofNat_of_zero_le h2
    have hI : I < p.m := by omega
    have := len_yes p.q p.b p.m p.cb I _ w h.s1 hI (h.r1.cell hI)
    rwa [hf.cnt I hI, ← of_nat L I] at this

/-! ### Push and Append -/
theorem push_e (q : Nat) (i x E : Int) (w : World) (hE : (E != 0) = true) (hm : Calls Try.prog 33 #[.pointer (some ⟨q, 0, none⟩), .int .i64 i, .int .i64 x] w fun e w' => e = .returned (.int .i64 E) ∧ w = w') :
    Calls Try.prog 21 #[.pointer (some ⟨q, 0, none⟩), .int .i64 i, .int .i64 x] w fun e w' => e = .returned (.int .i64 E) ∧ w = w' := by
  have HM := Lib.hid hm
  clear hm
  go_enter Try.func21, Try.ntmps21
  go_wp2_with (go_at_call 33; refine HM.out.mono ?_; rintro e w' ⟨rfl, rfl⟩)
  go_ret
  exact ⟨rfl, rfl⟩
theorem append_e (q : Nat) (i x E : Int) (w : World) (hE : (E != 0) = true) (hm : Calls Try.prog 33 #[.pointer (some ⟨q, 0, none⟩), .int .i64 i, .int .i64 x] w fun e w' => e = .returned (.int .i64 E) ∧ w = w') :
    Calls Try.prog 22 #[.pointer (some ⟨q, 0, none⟩), .int .i64 i, .int .i64 x] w fun e w' => e = .returned (.int .i64 E) ∧ w = w' := by
  have HM := Lib.hid hm
  clear hm
  go_enter Try.func22, Try.ntmps22
  go_wp2_with (go_at_call 33; refine HM.out.mono ?_; rintro e w' ⟨rfl, rfl⟩)
  go_ret
  exact ⟨rfl, rfl⟩
theorem push_w {p : Pl} {i x k : Nat} {w : World} {R : World → Prop} (hm : Calls Try.prog 33 #[.pointer (some ⟨p.q, 0, none⟩), .int .i64 (i : Int), .int .i64 (x : Int)] w fun e w' => e = .returned (.int .i64 0) ∧ w = w')
    (hk : Calls Try.prog 25 #[.pointer (some ⟨p.q, 0, none⟩), .int .i64 (i : Int)] w fun e w' => e = .returned (.int .i64 (k : Int)) ∧ w = w')
    (he : Calls Try.prog 34 #[.pointer (some ⟨p.q, 0, none⟩), .int .i64 (i : Int), .int .i64 (x : Int), .int .i64 (k : Int)] w fun e w' => (∃ v, e = .returned v) ∧ R w') :
    Calls Try.prog 21 #[.pointer (some ⟨p.q, 0, none⟩), .int .i64 (i : Int), .int .i64 (x : Int)] w fun e w' => e = .returned (.int .i64 0) ∧ R w' := by
  have HM := Lib.hid hm
  have HK := Lib.hid hk
  have HE := Lib.hid he
  clear hm hk he
  go_enter Try.func21, Try.ntmps21
  go_wp2_with (first | (go_at_call 33; refine HM.out.mono ?_; rintro e w' ⟨rfl, rfl⟩) | (go_at_call 25; refine HK.out.mono ?_; rintro e w' ⟨rfl, rfl⟩) | (go_at_call 34; refine HE.out.mono ?_; rintro e w1 ⟨⟨v1, rfl⟩, h1⟩))
  go_ret
  exact ⟨rfl, h1⟩
set_option maxHeartbeats 1000000 in
theorem append_w {p : Pl} {i x k B N cd : Nat} {w : World} {R : World → Prop} (hm : Calls Try.prog 33 #[.pointer (some ⟨p.q, 0, none⟩), .int .i64 (i : Int), .int .i64 (x : Int)] w fun e w' => e = .returned (.int .i64 0) ∧ w = w')
    (h3 : w.cell? ⟨p.q, 3, none⟩ = some (.slice (some ⟨p.d, 0, none⟩) N cd)) (hkN : k < N) (hB : w.cell? ⟨p.d, k, none⟩ = some (.int .i64 (B : Int)))
    (hk : Calls Try.prog 25 #[.pointer (some ⟨p.q, 0, none⟩), .int .i64 (i : Int)] w.drew fun e w' => e = .returned (.int .i64 (k : Int)) ∧ w.drew = w')
    (he : Calls Try.prog 34 #[.pointer (some ⟨p.q, 0, none⟩), .int .i64 (i : Int), .int .i64 (x : Int), .int .i64 (B : Int)] w.drew fun e w' => (∃ v, e = .returned v) ∧ R w') :
    Calls Try.prog 22 #[.pointer (some ⟨p.q, 0, none⟩), .int .i64 (i : Int), .int .i64 (x : Int)] w fun e w' => e = .returned (.int .i64 0) ∧ R w' := by
  have HM := Lib.hid hm
  have HK := Lib.hid hk
  have HE := Lib.hid he
  have b1 : (0 : Int) ≤ (k : Int) := by omega
  have b2 : (k : Int) < (N : Int) := by omega
  clear hm hk he
  go_enter Try.func22, Try.ntmps22
  go_wp2_with (go_at_call 33; refine HM.out.mono ?_; rintro e w' ⟨rfl, rfl⟩)
  go_region_with (first | (go_at_call 25; refine HK.out.mono ?_; rintro e w' ⟨rfl, rfl⟩) | (go_at_call 34; refine HE.out.mono ?_; rintro e w1 ⟨⟨v1, rfl⟩, h1⟩))
  all_goals go_wp2
  all_goals go_ret
  all_goals exact ⟨rfl, h1⟩
theorem put_bad {p : Pl} {L : Nat → List Nat} {i x : Int} {w : World} (h : Ring w p L) (hno : (hasB p.m i && hasB p.n x) = false) :
    Calls Try.prog 33 #[.pointer (some ⟨p.q, 0, none⟩), .int .i64 i, .int .i64 x] w fun e w' => e = .returned (.int .i64 11) ∧ w = w' := by
  obtain ⟨inn, cs, nx, pv, h, hf⟩ := h
  exact may_bad p.q p.a p.n p.ca p.b p.m p.cb i x w h.s0 h.s1 hno
theorem put_there {p : Pl} {L : Nat → List Nat} {i x : Nat} {w : World} (h : Ring w p L) (hi : i < p.m) (hx : x < p.n) (ht : ∃ j, x ∈ L j) :
    Calls Try.prog 33 #[.pointer (some ⟨p.q, 0, none⟩), .int .i64 (i : Int), .int .i64 (x : Int)] w fun e w' => e = .returned (.int .i64 15) ∧ w = w' := by
  obtain ⟨inn, cs, nx, pv, h, hf⟩ := h
  obtain ⟨j, hj⟩ := ht
  exact may_ok p.q p.a p.n p.ca p.b p.m p.cb i x _ 15 w h.s0 h.s1 hi hx (h.r0.cell hx) (.inl ⟨by rw [hf.at_ j x hj]; omega, rfl⟩)
theorem push_r {p : Pl} {L L' : Nat → List Nat} {i x E : Int} {w : World} (h : Ring w p L) (hp : PutR p.n p.m L i x true E L') :
    Calls Try.prog 21 #[.pointer (some ⟨p.q, 0, none⟩), .int .i64 i, .int .i64 x] w fun e w' => e = .returned (.int .i64 E) ∧ Ring w' p L' ∧ Chg p.lo p.hi w w' := by
  rcases hp with ⟨hno, rfl, rfl⟩ | ⟨I, X, rfl, rfl, hI, hX, ht, rfl, rfl⟩ | ⟨I, X, rfl, rfl, hI, hX, hno, rfl, rfl⟩
  · exact (push_e p.q i x 11 w rfl (put_bad h hno)).mono fun e w' ⟨he, hw⟩ => ⟨he, hw ▸ h, hw ▸ Chg.refl _ _ _⟩
  · exact (push_e p.q I X 15 w rfl (put_there h hI hX ht)).mono fun e w' ⟨he, hw⟩ => ⟨he, hw ▸ h, hw ▸ Chg.refl _ _ _⟩
  · obtain ⟨inn, cs, nx, pv, h, hf⟩ := h
    obtain ⟨a, S, hS⟩ : ∃ a S, a :: S = L I ++ [p.n + I] := by
      cases L I with
      | nil => exact ⟨_, _, rfl⟩
      | cons x r => exact ⟨_, _, rfl⟩
    have he : Ends (p.n + I) [] (L I) (p.n + I) a := ⟨⟨[], rfl⟩, S, hS⟩
    obtain ⟨e1, _, e3, e4⟩ := hf.near hI (A := []) rfl he
    have hen := enter_any p inn cs nx pv I X (p.n + I) a _ w h hI hX e3 e4 e1 (hf.cnt I hI) (by have := hf.good.len I; have := h.ok.n1; omega)
    refine (push_w (may_ok p.q p.a p.n p.ca p.b p.m p.cb I X _ 0 w h.s0 h.s1 hI hX (h.r0.cell hX) (.inr ⟨hf.no X hX hno, rfl⟩)) (knot_any p.q p.a p.n p.ca I w h.s0 h.ok.n1 (by have := h.ok.m1; omega)) hen).mono ?_
    rintro e w' ⟨he', h', hc⟩
    have hfin := hf.insert hI hX hno (A := []) rfl he
    rw [hf.cnt I hI] at hfin
    exact ⟨he', ⟨_, _, _, _, h', hfin⟩, hc⟩
theorem append_r {p : Pl} {L L' : Nat → List Nat} {i x E : Int} {w : World} (h : Ring w p L) (hp : PutR p.n p.m L i x false E L') :
    Calls Try.prog 22 #[.pointer (some ⟨p.q, 0, none⟩), .int .i64 i, .int .i64 x] w fun e w' => e = .returned (.int .i64 E) ∧ Ring w' p L' ∧ Chg p.lo p.hi w w' := by
  rcases hp with ⟨hno, rfl, rfl⟩ | ⟨I, X, rfl, rfl, hI, hX, ht, rfl, rfl⟩ | ⟨I, X, rfl, rfl, hI, hX, hno, rfl, rfl⟩
  · exact (append_e p.q i x 11 w rfl (put_bad h hno)).mono fun e w' ⟨he, hw⟩ => ⟨he, hw ▸ h, hw ▸ Chg.refl _ _ _⟩
  · exact (append_e p.q I X 15 w rfl (put_there h hI hX ht)).mono fun e w' ⟨he, hw⟩ => ⟨he, hw ▸ h, hw ▸ Chg.refl _ _ _⟩
  · obtain ⟨inn, cs, nx, pv, h, hf⟩ := h
    obtain ⟨P, b, hP⟩ : ∃ P b, P ++ [b] = (p.n + I) :: L I := ⟨((p.n + I) :: L I).dropLast, ((p.n + I) :: L I).getLast (by simp), List.dropLast_concat_getLast _⟩
    have he : Ends (p.n + I) (L I) [] b (p.n + I) := ⟨⟨P, hP⟩, [], rfl⟩
    obtain ⟨e1, e2, e3, e4⟩ := hf.near hI (C := []) (by simp) he
    have hd := h.drew
    have hen := enter_any p inn cs nx pv I X b (p.n + I) _ w.drew hd hI hX e3 e4 e1 (hf.cnt I hI) (by have := hf.good.len I; have := h.ok.n1; omega)
    have hB := h.r3.cell e4
    rw [e2] at hB
    refine (append_w (may_ok p.q p.a p.n p.ca p.b p.m p.cb I X _ 0 w h.s0 h.s1 hI hX (h.r0.cell hX) (.inr ⟨hf.no X hX hno, rfl⟩)) h.s3 e4 hB (knot_any p.q p.a p.n p.ca I w.drew hd.s0 h.ok.n1 (by have := h.ok.m1; omega)) hen).mono ?_
    rintro e w' ⟨he', h', hc⟩
    have hfin := hf.insert hI hX hno (C := []) (by simp) he
    rw [hf.cnt I hI] at hfin
    exact ⟨he', ⟨_, _, _, _, h', hfin⟩, (Chg.refl _ _ w).drew.trans hc⟩

/-! ### Remove and Pop -/
theorem leave_r {p : Pl} {L : Nat → List Nat} {i X : Nat} {A C : List Nat} {w : World} (h : Ring w p L) (hl : L i = A ++ X :: C) :
    Calls Try.prog 35 #[.pointer (some ⟨p.q, 0, none⟩), .int .i64 (X : Int)] w fun e w' => (∃ v, e = .returned v) ∧ Ring w' p (up L i (A ++ C)) ∧ Chg p.lo p.hi w w' := by
  obtain ⟨inn, cs, nx, pv, h, hf⟩ := h
  have hx : X ∈ L i := by rw [hl]; simp
  have hi := hf.good.list_lt hx
  obtain ⟨hfin, e1, e2, e3⟩ := hf.remove hi hl
  obtain ⟨z, hz⟩ : ∃ z, cs i = z + 1 := ⟨cs i - 1, by omega⟩
  have hz4 : z ≤ 4096 := by have := hf.good.len i; have := h.ok.n1; have := hf.cnt i hi; omega
  refine (leave_any p inn cs nx pv i X (pv X) (nx X) z w h hi (hf.good.lt _ _ hx) e1 e2 rfl rfl (hf.at_ _ _ hx) hz hz4).mono ?_
  rintro e w' ⟨he, h', hc⟩
  rw [hz, Nat.add_sub_cancel] at hfin
  exact ⟨he, ⟨_, _, _, _, h', hfin⟩, hc⟩
theorem remove_bad (q a n ca : Nat) (k : Int) (w : World) (hc : w.cell? ⟨q, 0, none⟩ = some (.slice (some ⟨a, 0, none⟩) n ca)) (hno : hasB n k = false) :
    Calls Try.prog 24 #[.pointer (some ⟨q, 0, none⟩), .int .i64 k] w fun e w' => e = .returned (.int .i64 11) ∧ w = w' := by
  have HI := Lib.hid (item_any q a n ca k w hc)
  rw [hno] at HI
  clear hno
  go_enter Try.func24, Try.ntmps24
  go_wp2_with (go_at_call 28; refine HI.out.mono ?_; rintro e w' ⟨rfl, rfl⟩)
  go_ret
  exact ⟨rfl, rfl⟩
theorem remove_none (q a n ca k : Nat) (w : World) (hc : w.cell? ⟨q, 0, none⟩ = some (.slice (some ⟨a, 0, none⟩) n ca)) (hk : k < n) (hv : w.cell? ⟨a, k, none⟩ = some (.int .i64 (-1))) :
    Calls Try.prog 24 #[.pointer (some ⟨q, 0, none⟩), .int .i64 (k : Int)] w fun e w' => e = .returned (.int .i64 16) ∧ w = w' := by
  have HI := Lib.hid (item_any q a n ca k w hc)
  rw [hasB_iff.2 (by omega)] at HI
  have b1 : (0 : Int) ≤ (k : Int) := by omega
  have b2 : (k : Int) < (n : Int) := by omega
  go_enter Try.func24, Try.ntmps24
  go_wp2_with (go_at_call 28; refine HI.out.mono ?_; rintro e w' ⟨rfl, rfl⟩)
  go_ret
  exact ⟨rfl, rfl⟩
theorem remove_w (q a n ca k i : Nat) (w : World) {R : World → Prop} (hc : w.cell? ⟨q, 0, none⟩ = some (.slice (some ⟨a, 0, none⟩) n ca)) (hk : k < n) (hv : w.cell? ⟨a, k, none⟩ = some (.int .i64 (i : Int)))
    (hl : Calls Try.prog 35 #[.pointer (some ⟨q, 0, none⟩), .int .i64 (k : Int)] w fun e w' => (∃ v, e = .returned v) ∧ R w') :
    Calls Try.prog 24 #[.pointer (some ⟨q, 0, none⟩), .int .i64 (k : Int)] w fun e w' => e = .returned (.int .i64 0) ∧ R w' := by
  have HI := Lib.hid (item_any q a n ca k w hc)
  rw [hasB_iff.2 (by omega)] at HI
  have HL := Lib.hid hl
  have b1 : (0 : Int) ≤ (k : Int) := by omega
  have b2 : (k : Int) < (n : Int) := by omega
  have hne : ((i : Int) == -1) = false := by simp
  clear hl
  go_enter Try.func24, Try.ntmps24
  go_wp2_with (first | (go_at_call 28; refine HI.out.mono ?_; rintro e w' ⟨rfl, rfl⟩) | (go_at_call 35; refine HL.out.mono ?_; rintro e w1 ⟨⟨v1, rfl⟩, h1⟩))
  go_ret
  exact ⟨rfl, h1⟩
theorem remove_r {p : Pl} {L L' : Nat → List Nat} {x E : Int} {w : World} (h : Ring w p L) (hp : RemR p.n L x E L') :
    Calls Try.prog 24 #[.pointer (some ⟨p.q, 0, none⟩), .int .i64 x] w fun e w' => e = .returned (.int .i64 E) ∧ Ring w' p L' ∧ Chg p.lo p.hi w w' := by
  rcases hp with ⟨hno, rfl, rfl⟩ | ⟨X, rfl, hX, hno, rfl, rfl⟩ | ⟨X, i, A, C, rfl, hl, rfl, rfl⟩
  · obtain ⟨inn, cs, nx, pv, hm, hf⟩ := h
    exact (remove_bad p.q p.a p.n p.ca x w hm.s0 hno).mono fun e w' ⟨he, hw⟩ => ⟨he, hw ▸ ⟨_, _, _, _, hm, hf⟩, hw ▸ Chg.refl _ _ _⟩
  · obtain ⟨inn, cs, nx, pv, hm, hf⟩ := h
    have hv := hm.r0.cell hX
    rw [hf.no X hX hno] at hv
    exact (remove_none p.q p.a p.n p.ca X w hm.s0 hX hv).mono fun e w' ⟨he, hw⟩ => ⟨he, hw ▸ ⟨_, _, _, _, hm, hf⟩, hw ▸ Chg.refl _ _ _⟩
  · have hlv := leave_r h hl
    obtain ⟨inn, cs, nx, pv, hm, hf⟩ := h
    have hx : X ∈ L i := by rw [hl]; simp
    have hX := hf.good.lt _ _ hx
    have hv := hm.r0.cell hX
    rw [hf.at_ _ _ hx] at hv
    exact remove_w p.q p.a p.n p.ca X i w hm.s0 hX hv hlv
theorem pop_none {p : Pl} {L : Nat → List Nat} {i : Int} {w : World} (h : Ring w p L) (hn : of L i = []) :
    Calls Try.prog 23 #[.pointer (some ⟨p.q, 0, none⟩), .int .i64 i] w fun e w' => e = .returned (.tuple #[.int .i64 (-1), .bool false]) ∧ w = w' := by
  have hf := first_r (i := i) h
  rw [hn] at hf
  have HF : Hid (Calls Try.prog 15 #[.pointer (some ⟨p.q, 0, none⟩), .int .i64 i] w fun e w' => e = .returned (.int .i64 (-1)) ∧ w = w') := hf
  clear hf h hn
  go_enter Try.func23, Try.ntmps23
  go_wp2_with (go_at_call 15; refine HF.out.mono ?_; rintro e w' ⟨rfl, rfl⟩)
  go_ret2
  exact ⟨rfl, rfl⟩
theorem pop_some {p : Pl} {L : Nat → List Nat} {i X : Nat} {r : List Nat} {w : World} (h : Ring w p L) (hl : L i = X :: r) :
    Calls Try.prog 23 #[.pointer (some ⟨p.q, 0, none⟩), .int .i64 (i : Int)] w fun e w' => e = .returned (.tuple #[.int .i64 (X : Int), .bool true]) ∧ Ring w' p (up L i r) ∧ Chg p.lo p.hi w w' := by
  have hf := first_r (i := i) h
  rw [of_nat, hl] at hf
  have HF : Hid (Calls Try.prog 15 #[.pointer (some ⟨p.q, 0, none⟩), .int .i64 (i : Int)] w fun e w' => e = .returned (.int .i64 (X : Int)) ∧ w = w') := hf
  have HL := Lib.hid (leave_r h (A := []) hl)
  have hne : ((X : Int) == -1) = false := by simp
  clear hf h hl
  go_enter Try.func23, Try.ntmps23
  go_wp2_with (first | (go_at_call 15; refine HF.out.mono ?_; rintro e w' ⟨rfl, rfl⟩) | (go_at_call 35; refine HL.out.mono ?_; rintro e w1 ⟨⟨v1, rfl⟩, h1⟩))
  go_ret2
  exact ⟨rfl, h1⟩
end Go.Proofs.Ytjjilnklcjgndaa
