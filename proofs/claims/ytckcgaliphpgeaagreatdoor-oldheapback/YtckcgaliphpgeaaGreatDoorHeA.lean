import Derived.Test.YtckcgaliphpgeaaGreatDoorGrB
import Derived.Test.YtckcgaliphpgeaaGreatDoorOsA
import Derived.Test.YtckcgaliphpgeaaGreatDoorRiA
/-
  All slabs of the old layout as plain lists, no program in sight: facts that the claimed proofs use.
-/
namespace Go.Proofs.YtckcgaliphpgeaaGreatDoor.He
set_option maxRecDepth 100000
open Ri (up up_at up_far)
open Go.Proofs.YtckcgaliphpgeaaGreatDoor.Os (nS fr tkI tkL tkE tkV gvE gvI gvL l0)
open Ta (sizeOf' classB)

/-! ### A heap's numbers -/
/-- A slab: its class, and which slots are taken. -/
structure Sb where
  c : Nat
  l : List Bool
/-- A heap: its ground, the lists of all classes, all slabs by their pages, and the pages of those that left. -/
structure St where
  N : Nat
  L : List Sp.Rn
  f : Ra.Ws
  t : Int
  S : List Le.Row
  R : Nat → List Nat
  U : Nat → Option Sb
  O : List Nat
/-- The slabs that the heap has. -/
def M (U : Nat → Option Sb) (O : List Nat) (p : Nat) : Option Sb := if O.contains p = true then none else U p
theorem M_in {U : Nat → Option Sb} {O : List Nat} {p : Nat} (h : p ∈ O) : M U O p = none := by unfold M; rw [if_pos (by simpa using h)]
theorem M_off {U : Nat → Option Sb} {O : List Nat} {p : Nat} (h : p ∉ O) : M U O p = U p := by unfold M; rw [if_neg (by simpa using h)]
theorem M_some {U : Nat → Option Sb} {O : List Nat} {p : Nat} {s : Sb} (h : M U O p = some s) : p ∉ O ∧ U p = some s := by
  by_cases e : p ∈ O
  · rw [M_in e] at h; cases h
  · rw [M_off e] at h; exact ⟨e, h⟩
theorem M_same {U U' : Nat → Option Sb} {O O' : List Nat} {p : Nat} (h1 : U' p = U p) (h2 : p ∈ O' ↔ p ∈ O) : M U' O' p = M U O p := by
  by_cases e : p ∈ O
  · rw [M_in e, M_in (h2.2 e)]
  · rw [M_off e, M_off (fun h => e (h2.1 h)), h1]
/-- The list of a slab's state. -/
def lst (l : List Bool) : Nat := if fr l = l.length then 2 else if fr l = 0 then 1 else 0
theorem lst_le (l : List Bool) : lst l ≤ 2 := by
  unfold lst
  split
  · omega
  · split <;> omega
/-- An item leaves its list. -/
def remR (R : Nat → List Nat) (p : Nat) : Nat → List Nat := fun i => (R i).erase p
/-- An item comes to the front of a list. -/
def frontR (R : Nat → List Nat) (p i : Nat) : Nat → List Nat := up (remR R p) i (p :: remR R p i)
def settleR (R : Nat → List Nat) (p i : Nat) : Nat → List Nat := if (R i).contains p = true then R else frontR R p i

/-! ### Lists -/
section
variable {n m : Nat} {R : Nat → List Nat}
theorem rem_mem (h : Ri.Good n m R) {p q i : Nat} : q ∈ remR R p i ↔ q ≠ p ∧ q ∈ R i := by
  unfold remR
  rw [(h.nd i).mem_erase_iff]
theorem rem_good (h : Ri.Good n m R) (p : Nat) : Ri.Good n m (remR R p) :=
  ⟨fun i hi => by unfold remR; rw [h.out i hi]; rfl, fun i x hx => h.lt i x ((rem_mem h).1 hx).2, fun i => (h.nd i).erase p, fun i j x hx hy => h.apart i j x ((rem_mem h).1 hx).2 ((rem_mem h).1 hy).2⟩
theorem front_mem (h : Ri.Good n m R) {p q i j : Nat} : q ∈ frontR R p i j ↔ (q = p ∧ j = i) ∨ (q ≠ p ∧ q ∈ R j) := by
  unfold frontR
  by_cases e : j = i
  · subst e
    rw [up_at, List.mem_cons, rem_mem h]
    constructor
    · rintro (h | h)
      · exact .inl ⟨h, rfl⟩
      · exact .inr h
    · rintro (h | h)
      · exact .inl h.1
      · exact .inr h
  · rw [up_far e, rem_mem h]
    constructor
    · exact .inr
    · rintro (h | h)
      · exact absurd h.2 e
      · exact h
theorem front_good (h : Ri.Good n m R) {p i : Nat} (hp : p < n) (hi : i < m) : Ri.Good n m (frontR R p i) := by
  refine ⟨fun j hj => ?_, fun j x hx => ?_, fun j => ?_, fun a b x hx hy => ?_⟩
  · unfold frontR; rw [up_far (by omega)]; exact (rem_good h p).out j hj
  · rcases (front_mem h).1 hx with ⟨rfl, _⟩ | ⟨_, hx⟩
    · exact hp
    · exact h.lt j x hx
  · unfold frontR
    by_cases e : j = i
    · subst e
      rw [up_at, List.nodup_cons]
      exact ⟨fun hx => ((rem_mem h).1 hx).1 rfl, (rem_good h p).nd j⟩
    · rw [up_far e]; exact (rem_good h p).nd j
  · rcases (front_mem h).1 hx with ⟨e1, e2⟩ | ⟨e1, e2⟩ <;> rcases (front_mem h).1 hy with ⟨e3, e4⟩ | ⟨e3, e4⟩
    · omega
    · exact absurd e1 e3
    · exact absurd e3 e1
    · exact h.apart a b x e2 e4
theorem rem_none {p : Nat} (h : ∀ i, p ∉ R i) : remR R p = R := funext fun i => List.erase_of_not_mem (h i)
theorem rem_split (h : Ri.Good n m R) {p i : Nat} {A C : List Nat} (hl : R i = A ++ p :: C) : remR R p = up R i (A ++ C) := funext fun j => by
  unfold remR
  by_cases e : j = i
  · subst e
    rw [up_at, hl]
    have hn := h.nd j
    rw [hl] at hn
    rw [List.erase_append_right _ (fun hm => by
      have := (List.nodup_append.1 hn).2.2 p hm p (by simp)
      exact this rfl), List.erase_cons_head]
  · rw [up_far e, List.erase_of_not_mem (fun hm => e (h.apart j i p hm (by rw [hl]; simp)))]
end
/-- Which slabs stand where. -/
structure LI (N : Nat) (R : Nat → List Nat) (U : Nat → Option Sb) (O : List Nat) : Prop where
  good : Ri.Good N 64 R
  stand : ∀ p s, M U O p = some s → (p ∈ R (4 * s.c + 3) ∧ lst s.l ≠ 2) ∨ p ∈ R (4 * s.c + lst s.l)
  only : ∀ p i, p ∈ R i → ∃ s, M U O p = some s ∧ i / 4 = s.c
  ond : O.Nodup
  out : ∀ p, p ∈ O → ∃ s, U p = some s
section
variable {N : Nat} {R : Nat → List Nat} {U U' : Nat → Option Sb} {O O' : List Nat}
theorem li_front (h : LI N R U O) {p i : Nat} {s : Sb} (hU : ∀ q, q ≠ p → U' q = U q) (hO : ∀ q, q ≠ p → (q ∈ O' ↔ q ∈ O)) (hn : O'.Nodup) (hp : M U' O' p = some s) (hpN : p < N) (hi : i < 64) (hc : i / 4 = s.c)
    (hs : (i = 4 * s.c + 3 ∧ lst s.l ≠ 2) ∨ i = 4 * s.c + lst s.l) : LI N (frontR R p i) U' O' := by
  refine ⟨front_good h.good hpN hi, fun q s' hq => ?_, fun q j hq => ?_, hn, fun q hq => ?_⟩
  · by_cases e : q = p
    · subst e
      rw [hp] at hq; cases hq
      rcases hs with ⟨h1, h2⟩ | h1
      · exact .inl ⟨(front_mem h.good).2 (.inl ⟨rfl, h1.symm⟩), h2⟩
      · exact .inr ((front_mem h.good).2 (.inl ⟨rfl, h1.symm⟩))
    · rw [M_same (hU q e) (hO q e)] at hq
      rcases h.stand q s' hq with ⟨h1, h2⟩ | h1
      · exact .inl ⟨(front_mem h.good).2 (.inr ⟨e, h1⟩), h2⟩
      · exact .inr ((front_mem h.good).2 (.inr ⟨e, h1⟩))
  · rcases (front_mem h.good).1 hq with ⟨rfl, rfl⟩ | ⟨e, hq⟩
    · exact ⟨s, hp, hc⟩
    · rw [M_same (hU q e) (hO q e)]; exact h.only q j hq
  · by_cases e : q = p
    · subst e; rw [M_in hq] at hp; cases hp
    · rw [hU q e]; exact h.out q ((hO q e).1 hq)
theorem li_rem (h : LI N R U O) {p : Nat} (hU : ∀ q, q ≠ p → U' q = U q) (hO : ∀ q, q ≠ p → (q ∈ O' ↔ q ∈ O)) (hn : O'.Nodup) (hp : M U' O' p = none) (ho : p ∈ O' → ∃ s, U' p = some s) : LI N (remR R p) U' O' := by
  refine ⟨rem_good h.good p, fun q s' hq => ?_, fun q j hq => ?_, hn, fun q hq => ?_⟩
  · by_cases e : q = p
    · subst e; rw [hp] at hq; cases hq
    · rw [M_same (hU q e) (hO q e)] at hq
      rcases h.stand q s' hq with ⟨h1, h2⟩ | h1
      · exact .inl ⟨(rem_mem h.good).2 ⟨e, h1⟩, h2⟩
      · exact .inr ((rem_mem h.good).2 ⟨e, h1⟩)
  · obtain ⟨e, hq⟩ := (rem_mem h.good).1 hq
    rw [M_same (hU q e) (hO q e)]; exact h.only q j hq
  · by_cases e : q = p
    · subst e; exact ho hq
    · rw [hU q e]; exact h.out q ((hO q e).1 hq)
theorem li_keep (h : LI N R U O) {p : Nat} {s s' : Sb} (hU : ∀ q, q ≠ p → U' q = U q) (hp : M U O p = some s) (hp' : U' p = some s') (hc : s'.c = s.c) (hs : (p ∈ R (4 * s.c + 3) ∧ lst s'.l ≠ 2) ∨ p ∈ R (4 * s.c + lst s'.l)) : LI N R U' O := by
  have hno := (M_some hp).1
  refine ⟨h.good, fun q s1 hq => ?_, fun q j hq => ?_, h.ond, fun q hq => ?_⟩
  · by_cases e : q = p
    · subst e
      rw [M_off hno, hp'] at hq; cases hq
      rw [hc]; exact hs
    · rw [M_same (hU q e) Iff.rfl] at hq; exact h.stand q s1 hq
  · by_cases e : q = p
    · subst e
      obtain ⟨s1, h1, h2⟩ := h.only q j hq
      rw [hp] at h1; cases h1
      exact ⟨s', by rw [M_off hno]; exact hp', by rw [hc]; exact h2⟩
    · rw [M_same (hU q e) Iff.rfl]; exact h.only q j hq
  · by_cases e : q = p
    · subst e; exact absurd hq hno
    · rw [hU q e]; exact h.out q hq
/-- A slab stands in one list. -/
theorem LI.one (h : LI N R U O) {p i j : Nat} (hi : p ∈ R i) (hj : p ∈ R j) : i = j := h.good.apart i j p hi hj
theorem LI.cls (h : LI N R U O) {p i : Nat} {s : Sb} (hp : M U O p = some s) (hi : p ∈ R i) : i / 4 = s.c := by
  obtain ⟨s', h1, h2⟩ := h.only p i hi
  rw [hp] at h1; cases h1; exact h2
theorem LI.lt (h : LI N R U O) {p i : Nat} (hi : p ∈ R i) : i < 64 := h.good.list_lt hi
/-- The list of its state, unless it is sealed. -/
theorem LI.open (h : LI N R U O) {p : Nat} {s : Sb} (hp : M U O p = some s) (hs : p ∉ R (4 * s.c + 3)) : p ∈ R (4 * s.c + lst s.l) := (h.stand p s hp).resolve_left (fun h => hs h.1)
theorem LI.sealed (h : LI N R U O) {p : Nat} {s : Sb} (hp : M U O p = some s) (hs : p ∈ R (4 * s.c + 3)) : lst s.l ≠ 2 := by
  rcases h.stand p s hp with h1 | h1
  · exact h1.2
  · have := h.one hs h1; have := lst_le s.l; omega
/-- A slab that isn't sealed comes to the list of its new state. -/
theorem li_settle (h : LI N R U O) {p : Nat} {s s' : Sb} (hU : ∀ q, q ≠ p → U' q = U q) (hp : M U O p = some s) (hp' : U' p = some s') (hc : s'.c = s.c) (hcl : s.c < 16) (hpN : p < N) : LI N (settleR R p (4 * s'.c + lst s'.l)) U' O := by
  have hno := (M_some hp).1
  unfold settleR
  have := lst_le s'.l
  split
  · rename_i hm
    have hm : p ∈ R (4 * s'.c + lst s'.l) := by simpa using hm
    exact li_keep h hU hp hp' hc (.inr (by rw [← hc]; exact hm))
  · exact li_front h hU (fun _ _ => Iff.rfl) h.ond (by rw [M_off hno]; exact hp') hpN (by omega) (by omega) (.inr rfl)
end
end Go.Proofs.YtckcgaliphpgeaaGreatDoor.He

/-
  What the calls of a heap change, as plain lists, no program in sight: facts that the claimed proofs use.
-/
namespace Go.Proofs.YtckcgaliphpgeaaGreatDoor.He
set_option maxRecDepth 100000
open Ri (up up_at up_far)
open Go.Proofs.YtckcgaliphpgeaaGreatDoor.Os (nS fr tkI tkL tkE tkV gvE gvI gvL l0)
open Ta (sizeOf' classB)

/-! ### The ground -/
/-- The slabs' spans. -/
structure GI (N : Nat) (L : List Sp.Rn) (f : Ra.Ws) (S : List Le.Row) (U : Nat → Option Sb) : Prop where
  gi : Gr.Inv N L f S
  reg : ∀ p s, U p = some s → p + 4 ≤ N ∧ p % 4 = 0 ∧ s.c < 16 ∧ s.l.length = nS s.c
  own : ∀ p s, U p = some s → ∀ y : Nat, y < N → (Sp.pf L y = (p : Int) + 1 ↔ p ≤ y ∧ y < p + 4)
  wrd : ∀ p s, U p = some s → f p ≠ 0 ∧ Ra.verOf (f p) = 0 ∧ Ra.clsOf (f p) = s.c
  old : ∀ y : Nat, y < N → f y ≠ 0 → Ra.verOf (f y) = 0 → ∃ (a : Nat) (s : Sb), Sp.pf L y = (a : Int) + 1 ∧ U a = some s
section
variable {N : Nat} {L : List Sp.Rn} {f : Ra.Ws} {S : List Le.Row} {U U' : Nat → Option Sb}
theorem GI.keep (h : GI N L f S U) {p : Nat} {s s' : Sb} (hU : ∀ q, q ≠ p → U' q = U q) (hp : U p = some s) (hp' : U' p = some s') (hc : s'.c = s.c) (hl : s'.l.length = s.l.length) : GI N L f S U' := by
  have ex : ∀ q s1, U' q = some s1 → ∃ s2, U q = some s2 ∧ s2.c = s1.c ∧ s2.l.length = s1.l.length := fun q s1 hq => by
    by_cases e : q = p
    · subst e; rw [hp'] at hq; cases hq; exact ⟨s, hp, hc.symm, hl.symm⟩
    · rw [hU q e] at hq; exact ⟨s1, hq, rfl, rfl⟩
  refine ⟨h.gi, fun q s1 hq => ?_, fun q s1 hq => ?_, fun q s1 hq => ?_, fun y hy h0 hv => ?_⟩
  · obtain ⟨s2, h1, h2, h3⟩ := ex q s1 hq
    have := h.reg q s2 h1
    rw [← h2, ← h3]; exact this
  · obtain ⟨s2, h1, _, _⟩ := ex q s1 hq; exact h.own q s2 h1
  · obtain ⟨s2, h1, h2, _⟩ := ex q s1 hq
    have := h.wrd q s2 h1
    rw [← h2]; exact this
  · obtain ⟨a, s1, h1, h2⟩ := h.old y hy h0 hv
    by_cases e : a = p
    · subst e; exact ⟨a, s', h1, hp'⟩
    · exact ⟨a, s1, h1, by rw [hU a e]; exact h2⟩
/-- The run of a span, by the pages that name it. -/
theorem gvv_by (h : Gr.Inv N L f S) {p n : Nat} (hn : 1 ≤ n) (hN : p + n ≤ N) (ho : ∀ y : Nat, y < N → (Sp.pf L y = (p : Int) + 1 ↔ p ≤ y ∧ y < p + n)) : Sp.gi L p < L.length ∧ Sp.gvv L p = n := by
  obtain ⟨j, hj, e1, e2, b1, b2⟩ := h.owner (x := p) (a := p) (by omega) ((ho p (by omega)).2 (by omega))
  have hg := Sp.gi_is h.wf hj e1 e2
  have hat := h.at hj
  have hlt : Sp.gi L p < L.length := by rw [hg]; exact hj
  refine ⟨hlt, ?_⟩
  have e : Sp.gvv L p = (Sp.el L j).n := by unfold Sp.gvv; rw [if_pos hlt, hg]
  rw [e]
  have vl : Sp.vl (Sp.el L j) = (p : Int) + 1 := by unfold Sp.vl; rw [e2, e1]; rfl
  -- the last page of the run
  have a1 : ((Sp.el L j).n : Int) ≤ n := by
    by_cases hh : (Sp.el L j).n ≤ n
    · exact hh
    · have := Sp.pf_at h.wf.chain hj (x := ((p + n : Nat) : Int)) (by omega) (by omega)
      rw [vl] at this
      have := (ho (p + n) (by omega)).1 this
      omega
  have a2 : (n : Int) ≤ (Sp.el L j).n := by
    have := (ho (p + (n - 1)) (by omega)).2 (by omega)
    obtain ⟨j', hj', e1', _, b1', b2'⟩ := h.owner (x := p + (n - 1)) (a := p) (by omega) this
    have hat' := h.at hj'
    have : j = j' := Sp.chain_one h.wf.chain hj hj' (x := p) (by omega) (by omega) (by omega) (by omega)
    subst this
    omega
  omega
theorem gvv_zero (h : Gr.Inv N L f S) {x : Int} (ho : ∀ y : Nat, (y : Int) < N → Sp.pf L y ≠ x + 1) : Sp.gvv L x = 0 ∧ ¬ Sp.gi L x < L.length := by
  have hn : ¬ Sp.gi L x < L.length := fun hl => by
    obtain ⟨e1, e2, b0, b1, b2, _⟩ := h.gi hl
    have := (h.taken hl e2 (x := x.toNat) (by rw [e1]; omega) (by rw [e1]; have := h.at hl; omega)).1
    rw [e1] at this
    exact ho x.toNat (by omega) this
  refine ⟨?_, hn⟩
  unfold Sp.gvv; rw [if_neg hn]
theorem GI.span (h : GI N L f S U) {p : Nat} {s : Sb} (hp : U p = some s) : Sp.gi L p < L.length ∧ Sp.gvv L p = 4 := by
  have := h.reg p s hp
  exact gvv_by h.gi (n := 4) (by omega) (by omega) (h.own p s hp)
/-- Words of a slab's pages. -/
theorem GI.words (h : GI N L f S U) {p : Nat} {s : Sb} (hp : U p = some s) {y : Nat} (h1 : p ≤ y) (h2 : y < p + 4) : f y = f p ∧ Sp.pf L y = (p : Int) + 1 := by
  obtain ⟨a, b⟩ := h.span hp
  have hr := h.reg p s hp
  refine ⟨?_, (h.own p s hp y (by omega)).2 ⟨h1, h2⟩⟩
  have := h.gi.same a (i := y) (by omega) (by rw [b]; omega)
  simpa using this
/-- What a page's word says. -/
theorem GI.at_ (h : GI N L f S U) {y : Nat} (hy : y < N) (h0 : f y ≠ 0) : ∃ a : Nat, Sp.pf L y = (a : Int) + 1 ∧ Ra.spanOf (f y) = a ∧ a ≤ y ∧ f y = f a := by
  rcases h.gi.pg y (by omega) with ⟨_, h1⟩ | ⟨a, h1, h2, h3, h4, h5⟩
  · exact absurd h1 h0
  · obtain ⟨j, hj, e1, e2, b1, b2⟩ := h.gi.owner (by omega) h1
    exact ⟨a, h1, h3, by omega, h5⟩
/-- Two slabs with a page in common are one. -/
theorem GI.apart (h : GI N L f S U) {p q y : Nat} {s s' : Sb} (hp : U p = some s) (hq : U q = some s') (h1 : p ≤ y ∧ y < p + 4) (h2 : q ≤ y ∧ y < q + 4) : p = q := by
  have r1 := h.reg p s hp
  have a := (h.own p s hp y (by omega)).2 h1
  have b := (h.own q s' hq y (by omega)).2 h2
  omega

/-! ### A span is taken -/
theorem open_yes (h : Gr.Inv N L f S) {t n a v c : Int} (he : (Gr.openO L f t S n a v c).e = 0) : ∃ u m : Nat, (Gr.openO L f t S n a v c).v = u ∧ n = m ∧ 1 ≤ m ∧ u + m ≤ N ∧ (0 ≤ v ∧ v ≤ 2 ∧ 0 ≤ c ∧ c < 64) ∧ (u : Int) % a = 0 ∧ 1 ≤ a ∧
    Gr.Inv N (Gr.openO L f t S n a v c).L (Gr.openO L f t S n a v c).f (Gr.openO L f t S n a v c).S ∧
    (∀ y : Nat, y < N → Sp.pf (Gr.openO L f t S n a v c).L y = if u ≤ y ∧ y < u + m then (u : Int) + 1 else Sp.pf L y) ∧
    (∀ y : Nat, u ≤ y → y < u + m → f y = 0 ∧ Sp.pf L y = 0) ∧
    (Gr.openO L f t S n a v c).f = Ra.fill f u m (Ra.wd u v c 0 (Ra.nx t)) ∧ (Gr.openO L f t S n a v c).S.length = S.length + 1 := by
  have hi := Gr.open_inv h (t := t) n a v c
  unfold Gr.openO at he hi ⊢
  split at he
  · rename_i hm
    rw [if_pos hm] at hi ⊢
    split at he
    · rename_i hE
      rw [if_pos hE] at hi ⊢
      obtain ⟨k, hk, hfree, u, m, e1, rfl, hm1, b1, b2, e3⟩ := Gr.tk_yes h hE
      obtain ⟨v0, v2, c0, c1, _, _⟩ := Gr.mayB_iff.1 hm
      have hat := h.at hk
      dsimp only at hi ⊢
      have hmod : (u : Int) % a = 0 ∧ 1 ≤ a := by
        unfold Sp.tke at hE
        unfold Sp.tkv at e1
        by_cases ha : Sp.askB m a = true
        · rw [if_pos ha] at hE e1
          obtain ⟨_, _, h3⟩ := Sp.askB_parts ha
          have ha1 := (Sp.powB_bd h3).1
          rcases Sp.bst_is m a L L.length with ⟨hb, _⟩ | ⟨k', hb, hk', hf⟩
          · rw [if_pos hb] at hE; omega
          · rw [if_neg (by omega), hb] at e1
            have hus := Sp.up_spec (Sp.el L k').p ha1
            have hbd := h.at hk'
            have := Sp.up_rem (Sp.el L k').p ha1 (by omega)
            rw [Int.toNat_natCast] at e1
            rw [e1] at this
            rw [Int.tmod_eq_emod_of_nonneg (by omega)] at this
            exact ⟨this, ha1⟩
        · rw [if_neg ha] at hE; omega
      refine ⟨u, m, e1, rfl, hm1, by omega, ⟨v0, v2, c0, by omega⟩, hmod.1, hmod.2, hi, fun y hy => ?_, fun y h1 h2 => ⟨h.free hk hfree (by omega) (by omega), ?_⟩, ?_, by simp⟩
      · rw [e3, Sp.pf_take h.wf hk hfree b1 (by omega) b2 (by omega) (by omega)]
        by_cases hh : u ≤ y ∧ y < u + m
        · rw [if_pos hh, if_pos (by omega)]
        · rw [if_neg hh, if_neg (by omega)]
      · rw [Sp.pf_at h.wf.chain hk (x := (y : Int)) (by omega) (by omega)]
        unfold Sp.vl; rw [hfree]; rfl
      · rw [e1]; simp
    · rename_i hE; exact absurd he hE
  · exact absurd (show (11 : Int) = 0 from he) (by decide)
/-- A slab's own span is opened. -/
theorem GI.opened (h : GI N L f S U) {t : Int} {c : Nat} (hc : c < 16) (he : (Gr.openO L f t S 4 4 0 c).e = 0) {l : List Bool} (hl : l.length = nS c) : ∃ u : Nat, (Gr.openO L f t S 4 4 0 c).v = u ∧ U u = none ∧ u + 4 ≤ N ∧ u % 4 = 0 ∧
    GI N (Gr.openO L f t S 4 4 0 c).L (Gr.openO L f t S 4 4 0 c).f (Gr.openO L f t S 4 4 0 c).S (up U u (some ⟨c, l⟩)) ∧ (Gr.openO L f t S 4 4 0 c).S.length = S.length + 1 ∧ Ra.staOf ((Gr.openO L f t S 4 4 0 c).f u) = 0 ∧
    (∀ q s, U q = some s → (Gr.openO L f t S 4 4 0 c).f q = f q) := by
  obtain ⟨u, m, e1, e2, _, hN, _, h4, _, hi, hpf, hfree, ef, eS⟩ := open_yes h.gi he
  obtain rfl : m = 4 := by omega
  have hok : Ra.okB u 0 c 0 = true := Ra.okB_iff.2 (by have := h.gi.n1; omega)
  obtain ⟨w1, w2, w3, w4⟩ := Ra.wd_parts (t := Ra.nx t) hok
  have hw0 : Ra.wd u 0 c 0 (Ra.nx t) ≠ 0 := by unfold Ra.wd; omega
  have hU : U u = none := by
    cases hu : U u with
    | none => rfl
    | some s =>
      have := (h.wrd u s hu).1
      exact absurd (hfree u (by omega) (by omega)).1 this
  have far : ∀ q s, U q = some s → ∀ y, q ≤ y → y < q + 4 → ¬ (u ≤ y ∧ y < u + 4) := fun q s hq y h1 h2 hh => by
    have := (h.words hq h1 h2).2
    rw [(hfree y hh.1 hh.2).2] at this
    omega
  have ff : ∀ q s, U q = some s → (Gr.openO L f t S 4 4 0 c).f q = f q := fun q s hq => by
    rw [ef, Gr.fill_far _ (far q s hq q (by omega) (by omega))]
  have fu : (Gr.openO L f t S 4 4 0 c).f u = Ra.wd u 0 c 0 (Ra.nx t) := by rw [ef, Gr.fill_at _ (by omega) (by omega)]
  refine ⟨u, e1, hU, by omega, by omega, ⟨hi, fun q s hq => ?_, fun q s hq y hy => ?_, fun q s hq => ?_, fun y hy h0 hv => ?_⟩, eS, by rw [fu]; exact w4, ff⟩
  · by_cases e : q = u
    · subst e; rw [up_at] at hq; cases hq; exact ⟨by omega, by omega, hc, hl⟩
    · rw [up_far e] at hq; exact h.reg q s hq
  · rw [hpf y hy]
    by_cases e : q = u
    · subst e
      by_cases hh : q ≤ y ∧ y < q + 4
      · rw [if_pos hh]; exact ⟨fun _ => hh, fun _ => rfl⟩
      · rw [if_neg hh]
        refine ⟨fun h1 => ?_, fun h1 => absurd h1 hh⟩
        obtain ⟨j, hj, b1, b2, b3, b4⟩ := h.gi.owner (by omega) h1
        have := Sp.pf_at h.gi.wf.chain hj (x := (q : Int)) (by omega) (by have := h.gi.at hj; omega)
        rw [(hfree q (by omega) (by omega)).2] at this
        unfold Sp.vl at this; rw [b2, if_pos rfl] at this; omega
    · rw [up_far e] at hq
      by_cases hh : u ≤ y ∧ y < u + 4
      · rw [if_pos hh]
        refine ⟨fun h1 => by omega, fun h1 => absurd hh (far q s hq y h1.1 h1.2)⟩
      · rw [if_neg hh]; exact h.own q s hq y hy
  · by_cases e : q = u
    · subst e; rw [up_at] at hq; cases hq; rw [fu]; exact ⟨hw0, w2, w3⟩
    · rw [up_far e] at hq; rw [ff q s hq]; exact h.wrd q s hq
  · rw [hpf y hy]
    rw [ef] at h0 hv
    by_cases hh : u ≤ y ∧ y < u + 4
    · rw [if_pos hh]; exact ⟨u, ⟨c, l⟩, rfl, up_at _ _ _⟩
    · rw [if_neg hh]
      rw [Gr.fill_far _ hh] at h0 hv
      obtain ⟨a, s, h1, h2⟩ := h.old y hy h0 hv
      refine ⟨a, s, h1, ?_⟩
      rw [up_far (fun e => by rw [e, hU] at h2; cases h2)]
      exact h2
/-- Another hand's span. -/
theorem GI.large (h : GI N L f S U) {t n : Int} (he : (Gr.openO L f t S n 1 2 0).e = 0) :
    GI N (Gr.openO L f t S n 1 2 0).L (Gr.openO L f t S n 1 2 0).f (Gr.openO L f t S n 1 2 0).S U ∧ (Gr.openO L f t S n 1 2 0).S.length = S.length + 1 ∧ (∀ q s, U q = some s → (Gr.openO L f t S n 1 2 0).f q = f q) := by
  obtain ⟨u, m, e1, rfl, _, hN, _, _, _, hi, hpf, hfree, ef, eS⟩ := open_yes h.gi he
  have hok : Ra.okB u 2 0 0 = true := Ra.okB_iff.2 (by have := h.gi.n1; omega)
  obtain ⟨w1, w2, w3, w4⟩ := Ra.wd_parts (t := Ra.nx t) hok
  have far : ∀ q s, U q = some s → ∀ y, q ≤ y → y < q + 4 → ¬ (u ≤ y ∧ y < u + m) := fun q s hq y h1 h2 hh => by
    have := (h.words hq h1 h2).2
    rw [(hfree y hh.1 hh.2).2] at this
    omega
  have ff : ∀ q s, U q = some s → (Gr.openO L f t S m 1 2 0).f q = f q := fun q s hq => by
    rw [ef, Gr.fill_far _ (far q s hq q (by omega) (by omega))]
  refine ⟨⟨hi, h.reg, fun q s hq y hy => ?_, fun q s hq => by rw [ff q s hq]; exact h.wrd q s hq, fun y hy h0 hv => ?_⟩, eS, ff⟩
  · rw [hpf y hy]
    by_cases hh : u ≤ y ∧ y < u + m
    · rw [if_pos hh]
      refine ⟨fun h1 => ?_, fun h1 => absurd hh (far q s hq y h1.1 h1.2)⟩
      obtain rfl : u = q := by omega
      exact absurd ⟨Nat.le_refl _, by omega⟩ (far u s hq u (by omega) (by omega))
    · rw [if_neg hh]; exact h.own q s hq y hy
  · rw [hpf y hy]
    rw [ef] at h0 hv
    by_cases hh : u ≤ y ∧ y < u + m
    · rw [Gr.fill_at _ hh.1 hh.2, w2] at hv; omega
    · rw [if_neg hh]
      rw [Gr.fill_far _ hh] at h0 hv
      exact h.old y hy h0 hv
/-! ### A span is given back -/
theorem close_is (h : Gr.Inv N L f S) {t x : Int} (hx : Sp.gi L x < L.length) : ∃ u m : Nat, x = u ∧ Sp.gvv L x = m ∧ 1 ≤ m ∧ u + m ≤ N ∧ (Gr.closeO L f t S x).v = m ∧ (Gr.closeO L f t S x).e = 0 ∧
    Gr.Inv N (Gr.closeO L f t S x).L (Gr.closeO L f t S x).f (Gr.closeO L f t S x).S ∧
    (∀ y : Nat, y < N → Sp.pf (Gr.closeO L f t S x).L y = if u ≤ y ∧ y < u + m then 0 else Sp.pf L y) ∧
    (∀ y : Nat, u ≤ y → y < u + m → f y = f u ∧ Sp.pf L y = (u : Int) + 1) ∧
    (Gr.closeO L f t S x).f = Ra.fill f u m 0 ∧ (Gr.closeO L f t S x).S.length = S.length + 1 := by
  have hi := Gr.close_inv h (t := t) x
  obtain ⟨g1, g2, g3, g4, g5, g6⟩ := h.gi hx
  have e : Gr.closeO L f t S x = ⟨Sp.gvv L x, 0, Sp.gvL L x, Ra.fill f x.toNat (Sp.gvv L x).toNat 0, Ra.nx t, Le.relF (Le.hd S) (Ra.verOf (f x.toNat)) (Sp.gvv L x) :: S⟩ := by
    unfold Gr.closeO; rw [if_pos hx]
  rw [e] at hi ⊢
  dsimp only at hi ⊢
  obtain ⟨u, rfl⟩ : ∃ u : Nat, x = u := ⟨x.toNat, by omega⟩
  obtain ⟨m, hm⟩ : ∃ m : Nat, Sp.gvv L u = m := ⟨(Sp.gvv L u).toNat, by omega⟩
  have hs := fun (i : Nat) => h.same hx (i := i)
  have ht := fun (y : Nat) => (h.taken hx g2 (x := y))
  rw [g1, g6] at ht
  rw [hm] at g4 g5 g6 hs ht hi ⊢
  rw [Int.toNat_natCast, Int.toNat_natCast] at hi ⊢
  rw [Int.toNat_natCast] at hs
  refine ⟨u, m, rfl, rfl, by omega, by omega, rfl, rfl, hi, fun y hy => ?_, fun y h1 h2 => ⟨hs y (by omega) (by omega), (ht y (by omega) (by omega)).1⟩, rfl, by simp⟩
  have eL : Sp.gvL L u = Sp.giveL L (Sp.gi L u) := by unfold Sp.gvL; rw [if_pos hx]
  rw [eL, Sp.pf_give h.wf hx g2 (x := (y : Int)) (by omega) (by omega), g1, g6]
  by_cases hh : u ≤ y ∧ y < u + m
  · rw [if_pos hh, if_pos (by omega)]
  · rw [if_neg hh, if_neg (by omega)]
/-- A slab's span is closed. -/
theorem GI.closed (h : GI N L f S U) {t : Int} {p : Nat} {s : Sb} (hp : U p = some s) : (Gr.closeO L f t S p).v = 4 ∧ (Gr.closeO L f t S p).e = 0 ∧
    GI N (Gr.closeO L f t S p).L (Gr.closeO L f t S p).f (Gr.closeO L f t S p).S (up U p none) ∧ (Gr.closeO L f t S p).S.length = S.length + 1 ∧ (∀ q s, q ≠ p → U q = some s → (Gr.closeO L f t S p).f q = f q) ∧
    (Gr.closeO L f t S p).f = Ra.fill f p 4 0 ∧ (∀ y : Nat, y < N → Sp.pf (Gr.closeO L f t S p).L y ≠ (p : Int) + 1) := by
  obtain ⟨hx, hv⟩ := h.span hp
  obtain ⟨u, m, e0, e1, _, hN, ev, ee, hi, hpf, hw, ef, eS⟩ := close_is h.gi (t := t) hx
  obtain rfl : p = u := by omega
  obtain rfl : m = 4 := by omega
  have far : ∀ q s, q ≠ p → U q = some s → ∀ y, q ≤ y → y < q + 4 → ¬ (p ≤ y ∧ y < p + 4) := fun q s hne hq y h1 h2 hh => hne (h.apart hq hp ⟨h1, h2⟩ hh)
  have ff : ∀ q s, q ≠ p → U q = some s → (Gr.closeO L f t S p).f q = f q := fun q s hne hq => by
    rw [ef, Gr.fill_far _ (far q s hne hq q (by omega) (by omega))]
  have split : ∀ {q s}, up U p none q = some s → q ≠ p ∧ U q = some s := fun {q s} hq => by
    by_cases e : q = p
    · subst e; rw [up_at] at hq; cases hq
    · rw [up_far e] at hq; exact ⟨e, hq⟩
  refine ⟨ev, ee, ⟨hi, fun q s hq => h.reg q s (split hq).2, fun q s hq y hy => ?_, fun q s hq => ?_, fun y hy h0 hv => ?_⟩, eS, ff, ef, fun y hy => ?_⟩
  · obtain ⟨hne, hq⟩ := split hq
    rw [hpf y hy]
    by_cases hh : p ≤ y ∧ y < p + 4
    · rw [if_pos hh]
      exact ⟨fun h1 => by omega, fun h1 => absurd hh (far q s hne hq y h1.1 h1.2)⟩
    · rw [if_neg hh]; exact h.own q s hq y hy
  · obtain ⟨hne, hq⟩ := split hq
    rw [ff q s hne hq]; exact h.wrd q s hq
  · rw [hpf y hy]
    rw [ef] at h0 hv
    by_cases hh : p ≤ y ∧ y < p + 4
    · rw [Gr.fill_at _ hh.1 hh.2] at h0; exact absurd rfl h0
    · rw [if_neg hh]
      rw [Gr.fill_far _ hh] at h0 hv
      obtain ⟨a, s1, h1, h2⟩ := h.old y hy h0 hv
      refine ⟨a, s1, h1, ?_⟩
      rw [up_far (fun e => ?_)]
      · exact h2
      · subst e; exact hh ((h.own a s1 h2 y hy).1 h1)
  · rw [hpf y hy]
    split
    · omega
    · rename_i hh; intro h1; exact hh ((h.own p s hp y hy).1 h1)
/-- A great span is closed. -/
theorem GI.largeClosed (h : GI N L f S U) {t x : Int} (hx : Sp.gi L x < L.length) (hv : Ra.verOf (f x.toNat) ≠ 0) : (Gr.closeO L f t S x).e = 0 ∧
    GI N (Gr.closeO L f t S x).L (Gr.closeO L f t S x).f (Gr.closeO L f t S x).S U ∧ (Gr.closeO L f t S x).S.length = S.length + 1 ∧ (∀ q s, U q = some s → (Gr.closeO L f t S x).f q = f q) := by
  obtain ⟨u, m, rfl, e1, hm1, hN, ev, ee, hi, hpf, hw, ef, eS⟩ := close_is h.gi (t := t) hx
  rw [Int.toNat_natCast] at hv
  have far : ∀ q s, U q = some s → ∀ y, q ≤ y → y < q + 4 → ¬ (u ≤ y ∧ y < u + m) := fun q s hq y h1 h2 hh => by
    have a := (h.words hq h1 h2).1
    have b := (hw y hh.1 hh.2).1
    rw [← b, a] at hv
    exact hv (h.wrd q s hq).2.1
  have ff : ∀ q s, U q = some s → (Gr.closeO L f t S u).f q = f q := fun q s hq => by
    rw [ef, Gr.fill_far _ (far q s hq q (by omega) (by omega))]
  refine ⟨ee, ⟨hi, h.reg, fun q s hq y hy => ?_, fun q s hq => by rw [ff q s hq]; exact h.wrd q s hq, fun y hy h0 hv' => ?_⟩, eS, ff⟩
  · rw [hpf y hy]
    by_cases hh : u ≤ y ∧ y < u + m
    · rw [if_pos hh]
      exact ⟨fun h1 => by omega, fun h1 => absurd hh (far q s hq y h1.1 h1.2)⟩
    · rw [if_neg hh]; exact h.own q s hq y hy
  · rw [hpf y hy]
    rw [ef] at h0 hv'
    by_cases hh : u ≤ y ∧ y < u + m
    · rw [Gr.fill_at _ hh.1 hh.2] at h0; exact absurd rfl h0
    · rw [if_neg hh]
      rw [Gr.fill_far _ hh] at h0 hv'
      exact h.old y hy h0 hv'
/-- A slab's span is marked. -/
theorem GI.marked (h : GI N L f S U) {t : Int} {p : Nat} {s : Sb} {z : Int} (hp : U p = some s) (hz : 0 ≤ z ∧ z ≤ 1) :
    GI N (Gr.markO L f t S p 0 s.c z).L (Gr.markO L f t S p 0 s.c z).f (Gr.markO L f t S p 0 s.c z).S U ∧ (Gr.markO L f t S p 0 s.c z).S.length = S.length + 1 ∧ Ra.staOf ((Gr.markO L f t S p 0 s.c z).f p) = z ∧
    (∀ q s', q ≠ p → U q = some s' → (Gr.markO L f t S p 0 s.c z).f q = f q) := by
  obtain ⟨hx, hv⟩ := h.span hp
  have hr := h.reg p s hp
  have hi := Gr.mark_inv h.gi (t := t) p 0 s.c z
  have hm : Gr.mayB 0 s.c z = true := Gr.mayB_iff.2 (by omega)
  have e : Gr.markO L f t S p 0 s.c z = ⟨0, 0, L, Ra.fill f p 4 (Ra.wd p 0 s.c z (Ra.nx t)), Ra.nx t, Le.shF (Le.hd S) (Ra.verOf (f p)) 0 4 :: S⟩ := by
    unfold Gr.markO; rw [if_pos hx, if_pos hm, hv]; rfl
  rw [e] at hi ⊢
  dsimp only at hi ⊢
  have hok : Ra.okB p 0 s.c z = true := Ra.okB_iff.2 (by have := h.gi.n1; omega)
  obtain ⟨w1, w2, w3, w4⟩ := Ra.wd_parts (t := Ra.nx t) hok
  have hw0 : Ra.wd p 0 s.c z (Ra.nx t) ≠ 0 := by unfold Ra.wd; omega
  have far : ∀ q s', q ≠ p → U q = some s' → ∀ y, q ≤ y → y < q + 4 → ¬ (p ≤ y ∧ y < p + 4) := fun q s' hne hq y h1 h2 hh => hne (h.apart hq hp ⟨h1, h2⟩ hh)
  have ff : ∀ q s', q ≠ p → U q = some s' → Ra.fill f p 4 (Ra.wd p 0 s.c z (Ra.nx t)) q = f q := fun q s' hne hq => Gr.fill_far _ (far q s' hne hq q (by omega) (by omega))
  have fp : Ra.fill f p 4 (Ra.wd p 0 s.c z (Ra.nx t)) p = Ra.wd p 0 s.c z (Ra.nx t) := Gr.fill_at _ (by omega) (by omega)
  refine ⟨⟨hi, h.reg, h.own, fun q s' hq => ?_, fun y hy h0 hv' => ?_⟩, by simp, by rw [fp]; exact w4, ff⟩
  · by_cases e' : q = p
    · subst e'
      rw [hp] at hq; cases hq
      rw [fp]; exact ⟨hw0, w2, w3⟩
    · rw [ff q s' e' hq]; exact h.wrd q s' hq
  · by_cases hh : p ≤ y ∧ y < p + 4
    · exact ⟨p, s, (h.own p s hp y hy).2 hh, hp⟩
    · rw [Gr.fill_far _ hh] at h0 hv'
      exact h.old y hy h0 hv'
end
end Go.Proofs.YtckcgaliphpgeaaGreatDoor.He

/-
  A heap's calls as plain functions, and that they keep what holds, no program in sight: facts that the claimed proofs use.
-/
namespace Go.Proofs.YtckcgaliphpgeaaGreatDoor.He
set_option maxRecDepth 100000
open Ri (up up_at up_far)
open Go.Proofs.YtckcgaliphpgeaaGreatDoor.Os (nS fr tkI tkL tkE tkV gvE gvI gvL l0)
open Ta (sizeOf' classB)

/-- What holds of a heap's numbers. -/
structure HI (σ : St) : Prop where
  g : GI σ.N σ.L σ.f σ.S σ.U
  l : LI σ.N σ.R σ.U σ.O
  s : ∀ p s, M σ.U σ.O p = some s → (Ra.staOf (σ.f p) = 1 ↔ p ∈ σ.R (4 * s.c + 3))
abbrev St.M (σ : St) (p : Nat) : Option Sb := He.M σ.U σ.O p
/-! ### The calls -/
/-- What a call answers and leaves. -/
structure An where
  v : Int
  e : Int
  σ : St
def setU (σ : St) (p : Nat) (s : Option Sb) : St := { σ with U := up σ.U p s }
def setR (σ : St) (R : Nat → List Nat) : St := { σ with R := R }
def setG (σ : St) (o : Gr.Out) : St := { σ with L := o.L, f := o.f, t := o.t, S := o.S }
def setO (σ : St) (O : List Nat) : St := { σ with O := O }
/-- A slab leaves the heap, and its pages are free. -/
def closeS (σ : St) (p : Nat) : St := setG (setU (setR σ (remR σ.R p)) p none) (Gr.closeO σ.L σ.f σ.t σ.S p)
/-- Of a slab a slot is taken. -/
def takeAt (σ : St) (p : Nat) (s : Sb) : An :=
  ⟨tkV (256 * p) (sizeOf' s.c) s.l, tkE s.l, setR (setU σ p (some ⟨s.c, tkL s.l⟩)) (settleR σ.R p (4 * s.c + lst (tkL s.l)))⟩
/-- The slab of which a slot would be taken. -/
def pick (R : Nat → List Nat) (c : Nat) : Option Nat := match R (4 * c) with
  | p :: _ => some p
  | [] => match R (4 * c + 2) with
    | p :: _ => some p
    | [] => none
def newS (σ : St) (c : Nat) : St := let o := Gr.openO σ.L σ.f σ.t σ.S 4 4 0 c; setU (setG σ o) o.v.toNat (some ⟨c, l0 c⟩)
def takeO (σ : St) (c : Int) : An :=
  if classB c = true then
    match pick σ.R c.toNat with
    | some p => match σ.U p with
      | some s => takeAt σ p s
      | none => ⟨-1, 0, σ⟩
    | none => let o := Gr.openO σ.L σ.f σ.t σ.S 4 4 0 c.toNat
      if o.e = 0 then takeAt (newS σ c.toNat) o.v.toNat ⟨c.toNat, l0 c.toNat⟩ else ⟨-1, o.e, σ⟩
  else ⟨-1, 11, σ⟩
/-- The page of the slab around an address. -/
def around (σ : St) (x : Int) : Option Nat :=
  let W := Ra.wAt σ.N σ.f (x / 256)
  if W = 0 then none else if (σ.M (Ra.spanOf W).toNat).isSome then some (Ra.spanOf W).toNat else none
def giveAt (σ : St) (p : Nat) (s : Sb) (x : Int) : An :=
  let l := gvL (256 * p) (sizeOf' s.c) s.l x
  let e := gvE (256 * p) (sizeOf' s.c) s.l x
  let σ1 := setU σ p (some ⟨s.c, l⟩)
  if e ≠ 0 then ⟨0, e, σ⟩
  else if lst l = 2 ∧ ((σ.R (4 * s.c + 3)).contains p = true ∨ σ.R (4 * s.c + 2) ≠ []) then ⟨0, 0, closeS σ1 p⟩
  else if (σ.R (4 * s.c + 3)).contains p = true then ⟨0, 0, σ1⟩
  else ⟨0, 0, setR σ1 (settleR σ.R p (4 * s.c + lst l))⟩
def giveO (σ : St) (x : Int) : An := match around σ x with
  | none => ⟨0, 12, σ⟩
  | some p => match σ.U p with
    | some s => giveAt σ p s x
    | none => ⟨0, 12, σ⟩
/-- The slab of a page. -/
def atI (σ : St) (x : Int) : Option Sb := if 0 ≤ x then σ.M x.toNat else none
def sealO (σ : St) (x : Int) : An := match atI σ x with
  | none => ⟨0, 16, σ⟩
  | some s =>
    if (σ.R (4 * s.c + 3)).contains x.toNat = true then ⟨0, 20, σ⟩
    else if lst s.l = 2 then ⟨0, 0, closeS σ x.toNat⟩
    else ⟨0, 0, setG (setR σ (frontR σ.R x.toNat (4 * s.c + 3))) (Gr.markO σ.L σ.f σ.t σ.S x.toNat 0 s.c 1)⟩
def unsealO (σ : St) (x : Int) : An := match atI σ x with
  | none => ⟨0, 16, σ⟩
  | some s =>
    if (σ.R (4 * s.c + 3)).contains x.toNat = true then ⟨0, 0, setG (setR σ (settleR σ.R x.toNat (4 * s.c + lst s.l))) (Gr.markO σ.L σ.f σ.t σ.S x.toNat 0 s.c 0)⟩
    else ⟨0, 20, σ⟩
def leaveO (σ : St) (x : Int) : An := match atI σ x with
  | none => ⟨0, 16, σ⟩
  | some _ => ⟨0, 0, setO (setR σ (remR σ.R x.toNat)) (σ.O ++ [x.toNat])⟩
/-- The slab that left last comes back. -/
def joinO (σ : St) (p : Nat) (s : Sb) : St := setO (setG (setR σ (settleR σ.R p (4 * s.c + lst s.l))) (Gr.markO σ.L σ.f σ.t σ.S p 0 s.c 0)) (σ.O.erase p)

/-! ### What holds is kept -/
section
variable {σ : St}
theorem HI.u (h : HI σ) {p : Nat} {s : Sb} (hp : σ.M p = some s) : σ.U p = some s ∧ p ∉ σ.O := ⟨(M_some hp).2, (M_some hp).1⟩
theorem HI.reg (h : HI σ) {p : Nat} {s : Sb} (hp : σ.M p = some s) : p + 4 ≤ σ.N ∧ p % 4 = 0 ∧ s.c < 16 ∧ s.l.length = nS s.c := h.g.reg p s (h.u hp).1
theorem HI.close (h : HI σ) {p : Nat} {s : Sb} (hp : σ.M p = some s) : HI (closeS σ p) := by
  obtain ⟨hu, ho⟩ := h.u hp
  obtain ⟨_, _, h3, _, h5, _, _⟩ := h.g.closed (t := σ.t) hu
  refine ⟨h3, li_rem h.l (fun q hq => up_far hq) (fun _ _ => Iff.rfl) h.l.ond ((M_off ho).trans (up_at _ _ _)) (fun hin => absurd hin ho), fun q s' hq => ?_⟩
  have hne : q ≠ p := fun e => by
    subst e
    have := (M_some hq).2
    change up σ.U q none q = some s' at this
    rw [up_at] at this; cases this
  have hq' : σ.M q = some s' := by
    have := hq
    change He.M (up σ.U p none) σ.O q = some s' at this
    rw [M_same (U := σ.U) (O := σ.O) (up_far hne) Iff.rfl] at this
    exact this
  change Ra.staOf ((Gr.closeO σ.L σ.f σ.t σ.S p).f q) = 1 ↔ q ∈ remR σ.R p _
  rw [h5 q s' hne (M_some hq').2, rem_mem h.l.good, h.s q s' hq']
  simp [hne]
theorem HI.settle (h : HI σ) {p : Nat} {s s' : Sb} (hp : σ.M p = some s) (hs : p ∉ σ.R (4 * s.c + 3)) (hc : s'.c = s.c) (hl : s'.l.length = s.l.length) : HI (setR (setU σ p (some s')) (settleR σ.R p (4 * s'.c + lst s'.l))) := by
  obtain ⟨hu, ho⟩ := h.u hp
  have hr := h.reg hp
  refine ⟨h.g.keep (fun q hq => up_far hq) hu (up_at _ _ _) hc hl, li_settle h.l (fun q hq => up_far hq) hp (up_at _ _ _) hc hr.2.2.1 (by omega), fun q s1 hq => ?_⟩
  change Ra.staOf (σ.f q) = 1 ↔ q ∈ settleR σ.R p _ _
  have hlst := lst_le s'.l
  by_cases e : q = p
  · subst e
    have : s1 = s' := by
      have := (M_some hq).2
      change up σ.U q (some s') q = some s1 at this
      rw [up_at] at this; cases this; rfl
    subst this
    have h1 := h.s q s hp
    rw [h1, hc]
    refine ⟨fun hh => absurd hh hs, fun hh => ?_⟩
    exfalso
    unfold settleR at hh
    split at hh
    · exact hs hh
    · rcases (front_mem h.l.good).1 hh with ⟨_, e2⟩ | ⟨e2, _⟩
      · omega
      · exact e2 rfl
  · have hq' : σ.M q = some s1 := by
      have := hq
      change He.M (up σ.U p (some s')) σ.O q = some s1 at this
      rw [M_same (U := σ.U) (O := σ.O) (up_far e) Iff.rfl] at this
      exact this
    rw [h.s q s1 hq']
    unfold settleR
    split
    · exact Iff.rfl
    · rw [front_mem h.l.good]; simp [e]
/-- A slab that is sealed keeps its place. -/
theorem HI.stay (h : HI σ) {p : Nat} {s s' : Sb} (hp : σ.M p = some s) (hs : p ∈ σ.R (4 * s.c + 3)) (hc : s'.c = s.c) (hl : s'.l.length = s.l.length) (h2 : lst s'.l ≠ 2) : HI (setU σ p (some s')) := by
  obtain ⟨hu, ho⟩ := h.u hp
  refine ⟨h.g.keep (fun q hq => up_far hq) hu (up_at _ _ _) hc hl, li_keep h.l (fun q hq => up_far hq) hp (up_at _ _ _) hc (.inl ⟨hs, h2⟩), fun q s1 hq => ?_⟩
  change Ra.staOf (σ.f q) = 1 ↔ q ∈ σ.R _
  by_cases e : q = p
  · subst e
    have : s1 = s' := by
      have := (M_some hq).2
      change up σ.U q (some s') q = some s1 at this
      rw [up_at] at this; cases this; rfl
    subst this
    rw [hc]; exact h.s q s hp
  · have hq' : σ.M q = some s1 := by
      have := hq
      change He.M (up σ.U p (some s')) σ.O q = some s1 at this
      rw [M_same (U := σ.U) (O := σ.O) (up_far e) Iff.rfl] at this
      exact this
    exact h.s q s1 hq'
/-- A new slab, of which a slot is taken at once. -/
theorem HI.fresh (h : HI σ) {c : Nat} (hc : c < 16) (he : (Gr.openO σ.L σ.f σ.t σ.S 4 4 0 c).e = 0) : ∃ u : Nat, (Gr.openO σ.L σ.f σ.t σ.S 4 4 0 c).v = u ∧ σ.U u = none ∧ u + 4 ≤ σ.N ∧ u % 4 = 0 ∧ u ∉ σ.O ∧ (∀ i, u ∉ σ.R i) ∧
    ∀ l : List Bool, l.length = nS c → HI (setR (setU (setG σ (Gr.openO σ.L σ.f σ.t σ.S 4 4 0 c)) u (some ⟨c, l⟩)) (settleR σ.R u (4 * c + lst l))) := by
  obtain ⟨u, e1, e2, e3, e4, _, _, _, _⟩ := h.g.opened hc he (l := l0 c) (by simp [l0])
  have ho : u ∉ σ.O := fun hin => by obtain ⟨s, hs⟩ := h.l.out u hin; rw [e2] at hs; cases hs
  have hR : ∀ i, u ∉ σ.R i := fun i hi => by
    obtain ⟨s, hs, _⟩ := h.l.only u i hi
    have := (M_some hs).2
    rw [e2] at this; cases this
  refine ⟨u, e1, e2, e3, e4, ho, hR, fun l hl => ?_⟩
  obtain ⟨u', e1', _, _, _, hg, _, hst, hff⟩ := h.g.opened hc he (l := l) hl
  obtain rfl : u = u' := by omega
  have hlst := lst_le l
  have eR : settleR σ.R u (4 * c + lst l) = frontR σ.R u (4 * c + lst l) := by unfold settleR; rw [if_neg (by simpa using hR _)]
  rw [eR]
  refine ⟨hg, li_front h.l (fun q hq => up_far hq) (fun _ _ => Iff.rfl) h.l.ond (s := ⟨c, l⟩) ((M_off ho).trans (up_at _ _ _)) (by omega) (by omega) (by show _ = c; omega) (.inr rfl), fun q s1 hq => ?_⟩
  change Ra.staOf ((Gr.openO σ.L σ.f σ.t σ.S 4 4 0 c).f q) = 1 ↔ q ∈ frontR σ.R u _ _
  by_cases e : q = u
  · subst e
    have : s1 = ⟨c, l⟩ := by
      have := (M_some hq).2
      change up σ.U q (some ⟨c, l⟩) q = some s1 at this
      rw [up_at] at this; cases this; rfl
    subst this
    rw [hst, front_mem h.l.good]
    constructor
    · intro hh; omega
    · rintro (⟨_, hh⟩ | ⟨hh, _⟩)
      · dsimp only at hh; omega
      · exact absurd rfl hh
  · have hq' : σ.M q = some s1 := by
      have := hq
      change He.M (up σ.U u (some ⟨c, l⟩)) σ.O q = some s1 at this
      rw [M_same (U := σ.U) (O := σ.O) (up_far e) Iff.rfl] at this
      exact this
    rw [hff q s1 (M_some hq').2, h.s q s1 hq', front_mem h.l.good]; simp [e]
/-- The lists' state and the ground's, where one slab's place and mark change. -/
theorem HI.moved (h : HI σ) {p i : Nat} {s : Sb} {z : Int} {O' : List Nat} (hu : σ.U p = some s) (hz : 0 ≤ z ∧ z ≤ 1) (hO : ∀ q, q ≠ p → (q ∈ O' ↔ q ∈ σ.O)) (hn : O'.Nodup) (hp : p ∉ O') (hi : (z = 1 ∧ i = 4 * s.c + 3 ∧ lst s.l ≠ 2) ∨ (z = 0 ∧ i = 4 * s.c + lst s.l)) :
    HI (setO (setG (setR σ (frontR σ.R p i)) (Gr.markO σ.L σ.f σ.t σ.S p 0 s.c z)) O') := by
  have hr := h.g.reg p s hu
  have hlst := lst_le s.l
  obtain ⟨hg, _, h3, h4⟩ := h.g.marked (t := σ.t) hu hz
  refine ⟨hg, li_front h.l (fun _ _ => rfl) hO hn (s := s) ((M_off hp).trans (hu)) (by omega) (by omega) (by omega) (by omega), fun q s1 hq => ?_⟩
  change Ra.staOf ((Gr.markO σ.L σ.f σ.t σ.S p 0 s.c z).f q) = 1 ↔ q ∈ frontR σ.R p i _
  by_cases e : q = p
  · subst e
    have : s1 = s := by
      have := (M_some hq).2
      change σ.U q = some s1 at this
      rw [hu] at this; cases this; rfl
    subst this
    rw [h3, front_mem h.l.good]
    constructor
    · intro hh; exact .inl ⟨rfl, by omega⟩
    · rintro (⟨_, hh⟩ | ⟨hh, _⟩)
      · omega
      · exact absurd rfl hh
  · have hq' : σ.M q = some s1 := by
      have := hq
      change He.M σ.U O' q = some s1 at this
      rw [M_same (U := σ.U) (O := σ.O) rfl (hO q e)] at this
      exact this
    rw [h4 q s1 e (M_some hq').2, h.s q s1 hq', front_mem h.l.good]; simp [e]
theorem HI.leave (h : HI σ) {p : Nat} {s : Sb} (hp : σ.M p = some s) : HI (setO (setR σ (remR σ.R p)) (σ.O ++ [p])) := by
  obtain ⟨hu, ho⟩ := h.u hp
  have hn : (σ.O ++ [p]).Nodup := by rw [List.nodup_append]; exact ⟨h.l.ond, by simp, fun a ha b hb => by simp at hb; subst hb; exact fun e => ho (e ▸ ha)⟩
  have hO : ∀ q, q ≠ p → (q ∈ σ.O ++ [p] ↔ q ∈ σ.O) := fun q hq => by simp [hq]
  refine ⟨h.g, li_rem h.l (fun _ _ => rfl) hO hn (M_in (show p ∈ σ.O ++ [p] from by simp)) (fun _ => ⟨s, hu⟩), fun q s1 hq => ?_⟩
  have e : q ≠ p := fun e => by
    have := (M_some hq).1
    exact this (show q ∈ σ.O ++ [p] from List.mem_append_right _ (by rw [e]; exact List.mem_singleton.2 rfl))
  have hq' : σ.M q = some s1 := by
    have := hq
    change He.M σ.U (σ.O ++ [p]) q = some s1 at this
    rw [M_same (U := σ.U) (O := σ.O) rfl (hO q e)] at this
    exact this
  change Ra.staOf (σ.f q) = 1 ↔ q ∈ remR σ.R p _
  rw [h.s q s1 hq', rem_mem h.l.good]; simp [e]
end
end Go.Proofs.YtckcgaliphpgeaaGreatDoor.He

/-
  Each call of a heap keeps what holds, no program in sight: facts that the claimed proofs use.
-/
namespace Go.Proofs.YtckcgaliphpgeaaGreatDoor.He
set_option maxRecDepth 100000
open Ri (up up_at up_far)
open Go.Proofs.YtckcgaliphpgeaaGreatDoor.Os (nS fr tkI tkL tkE tkV gvE gvI gvL l0)
open Ta (sizeOf' classB)

section
variable {σ : St}
theorem up_up {α : Type} (f : Nat → α) (i : Nat) (a b : α) : up (up f i a) i b = up f i b := funext fun j => by
  by_cases e : j = i
  · subst e; rw [up_at, up_at]
  · rw [up_far e, up_far e, up_far e]
theorem closeS_set (σ : St) (p : Nat) (s : Option Sb) : closeS (setU σ p s) p = closeS σ p := by
  unfold closeS setG setU setR
  simp only [up_up]
theorem setU_setU (σ : St) (p : Nat) (a b : Option Sb) : setU (setU σ p a) p b = setU σ p b := by
  unfold setU
  simp only [up_up]
theorem has_iff {l : List Nat} {p : Nat} : l.contains p = true ↔ p ∈ l := by simp
theorem pick_mem {R : Nat → List Nat} {c p : Nat} (h : pick R c = some p) : (p ∈ R (4 * c) ∧ (R (4 * c)).head? = some p) ∨ (R (4 * c) = [] ∧ p ∈ R (4 * c + 2) ∧ (R (4 * c + 2)).head? = some p) := by
  unfold pick at h
  split at h
  · rename_i q r e; cases h; rw [e]; exact .inl ⟨by simp, rfl⟩
  · rename_i e
    split at h
    · rename_i q r e2; cases h; rw [e2]; exact .inr ⟨e, by simp, rfl⟩
    · cases h
theorem pick_none {R : Nat → List Nat} {c : Nat} (h : pick R c = none) : R (4 * c) = [] ∧ R (4 * c + 2) = [] := by
  unfold pick at h
  split at h
  · cases h
  · rename_i e
    split at h
    · cases h
    · rename_i e2; exact ⟨e, e2⟩
/-- The slab that is picked is the heap's, of the class, not sealed, and has a free slot. -/
theorem HI.pick (h : HI σ) {c p : Nat} (hp : pick σ.R c = some p) : ∃ l, σ.M p = some ⟨c, l⟩ ∧ p ∉ σ.R (4 * c + 3) ∧ fr l ≠ 0 := by
  have key : ∀ i, p ∈ σ.R i → i / 4 = c → i % 4 ≠ 3 → i % 4 ≠ 1 → ∃ l, σ.M p = some ⟨c, l⟩ ∧ p ∉ σ.R (4 * c + 3) ∧ fr l ≠ 0 := fun i hi hc h3 h1 => by
    obtain ⟨⟨c', l⟩, hs, hc'⟩ := h.l.only p i hi
    dsimp only at hc'
    obtain rfl : c' = c := by omega
    have hno : p ∉ σ.R (4 * c' + 3) := fun h2 => by have := h.l.one hi h2; omega
    refine ⟨l, hs, hno, ?_⟩
    have h4 := h.l.open hs hno
    have := h.l.one hi h4
    dsimp only at this
    intro h0
    have hlen := (h.reg hs).2.2.2
    have hc16 := (h.reg hs).2.2.1
    dsimp only at hlen hc16
    unfold lst at this
    rw [h0] at this
    have h2 : 2 ≤ nS c' := (Os.cls (c := c') (Ta.classB_iff.2 (by omega))).2.2.1
    rw [if_neg (by omega), if_pos rfl] at this
    omega
  rcases pick_mem hp with ⟨h1, _⟩ | ⟨_, h1, _⟩
  · exact key _ h1 (by omega) (by omega) (by omega)
  · exact key _ h1 (by omega) (by omega) (by omega)
theorem take_keep (h : HI σ) (c : Int) : HI (takeO σ c).σ := by
  unfold takeO
  by_cases hc : classB c = true
  · rw [if_pos hc]
    obtain ⟨c0, c1⟩ := Ta.classB_iff.1 hc
    cases hp : pick σ.R c.toNat with
    | some p =>
      obtain ⟨l, hs, hno, _⟩ := h.pick hp
      dsimp only
      rw [(h.u hs).1]
      exact h.settle (s' := ⟨c.toNat, tkL l⟩) hs hno rfl (Os.tkL_len l)
    | none =>
      dsimp only
      by_cases he : (Gr.openO σ.L σ.f σ.t σ.S 4 4 0 c.toNat).e = 0
      · rw [if_pos he]
        obtain ⟨u, e1, e2, e3, e4, ho, hR, hK⟩ := h.fresh (c := c.toNat) (by omega) he
        have := hK (tkL (l0 c.toNat)) (by rw [Os.tkL_len]; simp [l0])
        have en : newS σ c.toNat = setU (setG σ (Gr.openO σ.L σ.f σ.t σ.S 4 4 0 c.toNat)) u (some ⟨c.toNat, l0 c.toNat⟩) := by
          unfold newS; dsimp only; rw [e1, Int.toNat_natCast]
        rw [en, e1, Int.toNat_natCast]
        unfold takeAt
        rw [setU_setU]
        exact this
      · rw [if_neg he]; exact h
  · rw [if_neg hc]; exact h
theorem around_some {x : Int} {p : Nat} (h : around σ x = some p) : ∃ s, σ.M p = some s ∧ Ra.wAt σ.N σ.f (x / 256) ≠ 0 ∧ Ra.spanOf (Ra.wAt σ.N σ.f (x / 256)) = p := by
  unfold around at h
  dsimp only at h
  split at h
  · cases h
  · rename_i h0
    split at h
    · rename_i h1
      cases h
      obtain ⟨s, hs⟩ := Option.isSome_iff_exists.1 h1
      exact ⟨s, hs, h0, by have := (Ra.part_bd (Ra.wAt σ.N σ.f (x / 256))).1; omega⟩
    · cases h
theorem giveAt_keep (h : HI σ) {p : Nat} {s : Sb} (hp : σ.M p = some s) (x : Int) : HI (giveAt σ p s x).σ := by
  unfold giveAt
  dsimp only
  split
  · exact h
  · split
    · rw [closeS_set]; exact h.close hp
    · rename_i hcl
      split
      · rename_i hse
        have hse' := has_iff.1 hse
        exact h.stay hp hse' rfl (Os.gvL_len ..) (fun h2 => hcl ⟨h2, .inl hse⟩)
      · rename_i hse
        exact h.settle (s' := ⟨s.c, gvL (256 * p) (sizeOf' s.c) s.l x⟩) hp (fun hh => hse (has_iff.2 hh)) rfl (Os.gvL_len ..)
theorem give_keep (h : HI σ) (x : Int) : HI (giveO σ x).σ := by
  unfold giveO
  cases ha : around σ x with
  | none => exact h
  | some p =>
    obtain ⟨s, hs, _, _⟩ := around_some ha
    dsimp only
    rw [(h.u hs).1]
    exact giveAt_keep h hs x
theorem atI_some {x : Int} {s : Sb} (h : atI σ x = some s) : ∃ p : Nat, x = p ∧ σ.M p = some s := by
  unfold atI at h
  split at h
  · exact ⟨x.toNat, by omega, h⟩
  · cases h
theorem atI_nat (σ : St) (p : Nat) : atI σ p = σ.M p := by unfold atI; rw [if_pos (by omega), Int.toNat_natCast]
theorem atI_neg {x : Int} (h : x < 0) : atI σ x = none := by unfold atI; rw [if_neg (by omega)]
theorem seal_keep (h : HI σ) (x : Int) : HI (sealO σ x).σ := by
  unfold sealO
  cases ha : atI σ x with
  | none => exact h
  | some s =>
    obtain ⟨p, rfl, hp⟩ := atI_some ha
    dsimp only
    rw [Int.toNat_natCast]
    obtain ⟨hu, ho⟩ := h.u hp
    split
    · exact h
    · split
      · exact h.close hp
      · rename_i h2
        exact h.moved hu (z := 1) (by omega) (fun _ _ => Iff.rfl) h.l.ond ho (.inl ⟨rfl, rfl, h2⟩)
theorem settle_front (h : HI σ) {p : Nat} {s : Sb} (hn : p ∈ σ.O ∨ p ∈ σ.R (4 * s.c + 3)) : settleR σ.R p (4 * s.c + lst s.l) = frontR σ.R p (4 * s.c + lst s.l) := by
  unfold settleR
  have := lst_le s.l
  rw [if_neg]
  intro hh
  have hh := has_iff.1 hh
  rcases hn with h1 | h1
  · obtain ⟨s', h2, _⟩ := h.l.only p _ hh
    exact (M_some h2).1 h1
  · have := h.l.one hh h1; omega
theorem unseal_keep (h : HI σ) (x : Int) : HI (unsealO σ x).σ := by
  unfold unsealO
  cases ha : atI σ x with
  | none => exact h
  | some s =>
    obtain ⟨p, rfl, hp⟩ := atI_some ha
    dsimp only
    rw [Int.toNat_natCast]
    obtain ⟨hu, ho⟩ := h.u hp
    split
    · rename_i hse
      rw [settle_front h (.inr (has_iff.1 hse))]
      exact h.moved hu (z := 0) (by omega) (fun _ _ => Iff.rfl) h.l.ond ho (.inr ⟨rfl, rfl⟩)
    · exact h
theorem leave_keep (h : HI σ) (x : Int) : HI (leaveO σ x).σ := by
  unfold leaveO
  cases ha : atI σ x with
  | none => exact h
  | some s =>
    obtain ⟨p, rfl, hp⟩ := atI_some ha
    dsimp only
    rw [Int.toNat_natCast]
    exact h.leave hp
theorem join_keep (h : HI σ) {p : Nat} {s : Sb} (hp : p ∈ σ.O) (hu : σ.U p = some s) : HI (joinO σ p s) := by
  unfold joinO
  rw [settle_front h (.inl hp)]
  exact h.moved hu (z := 0) (by omega) (fun q hq => ⟨List.mem_of_mem_erase, fun hh => (List.mem_erase_of_ne hq).2 hh⟩) (h.l.ond.erase p) (fun hh => ((h.l.ond.mem_erase_iff).1 hh).1 rfl) (.inr ⟨rfl, rfl⟩)
/-- Another hand's span. -/
theorem large_keep (h : HI σ) (n : Int) : HI (setG σ (Gr.openO σ.L σ.f σ.t σ.S n 1 2 0)) := by
  by_cases he : (Gr.openO σ.L σ.f σ.t σ.S n 1 2 0).e = 0
  · obtain ⟨hg, _, hff⟩ := h.g.large (t := σ.t) he
    refine ⟨hg, h.l, fun q s hq => ?_⟩
    change Ra.staOf ((Gr.openO σ.L σ.f σ.t σ.S n 1 2 0).f q) = 1 ↔ _
    rw [hff q s (M_some hq).2]; exact h.s q s hq
  · have e : setG σ (Gr.openO σ.L σ.f σ.t σ.S n 1 2 0) = σ := by
      unfold Gr.openO at he ⊢
      unfold setG
      split
      · rename_i h1
        rw [if_pos h1] at he
        split
        · rename_i h2; rw [if_pos h2] at he; exact absurd rfl he
        · rfl
      · rfl
    rw [e]; exact h
theorem shut_keep (h : HI σ) {x : Int} (hv : Sp.gi σ.L x < σ.L.length → Ra.verOf (σ.f x.toNat) ≠ 0) : HI (setG σ (Gr.closeO σ.L σ.f σ.t σ.S x)) := by
  by_cases hx : Sp.gi σ.L x < σ.L.length
  · obtain ⟨_, hg, _, hff⟩ := h.g.largeClosed (t := σ.t) hx (hv hx)
    refine ⟨hg, h.l, fun q s hq => ?_⟩
    change Ra.staOf ((Gr.closeO σ.L σ.f σ.t σ.S x).f q) = 1 ↔ _
    rw [hff q s (M_some hq).2]; exact h.s q s hq
  · have e : setG σ (Gr.closeO σ.L σ.f σ.t σ.S x) = σ := by unfold Gr.closeO setG; rw [if_neg hx]
    rw [e]; exact h
end
end Go.Proofs.YtckcgaliphpgeaaGreatDoor.He
