/-
  Runs of pages as plain lists, no program in sight: facts that the claimed proofs use.
-/
import Derived.Test.YtjnknnakllbaaaaGreatSpBase
namespace Go.Proofs.YtjnknnakllbaaaaGreat.Sp
set_option maxRecDepth 100000

structure Rn where
  p : Int
  n : Int
  t : Bool
deriving DecidableEq
def zr : Rn := ⟨0, 0, false⟩
/-- Has it pages? -/
def ne (r : Rn) : Bool := r.n != 0
def el (L : List Rn) (i : Nat) : Rn := L.getD i zr
theorem el_zero (r : Rn) (L : List Rn) : el (r :: L) 0 = r := rfl
theorem el_succ (r : Rn) (L : List Rn) (i : Nat) : el (r :: L) (i + 1) = el L i := rfl
theorem el_get {L : List Rn} {i : Nat} (h : i < L.length) : L[i]? = some (el L i) := by
  unfold el; rw [List.getD_eq_getElem?_getD, List.getElem?_eq_getElem h]; rfl
theorem el_is {L : List Rn} {i : Nat} {r : Rn} (h : L[i]? = some r) : el L i = r := by
  unfold el; rw [List.getD_eq_getElem?_getD, h]; rfl
theorem el_mem {L : List Rn} {i : Nat} (h : i < L.length) : el L i ∈ L := List.mem_of_getElem? (el_get h)
theorem el_mid (A B : List Rn) (r : Rn) : el (A ++ r :: B) A.length = r := el_is (by simp)
theorem cut_el {L : List Rn} {i : Nat} (h : i < L.length) : L = L.take i ++ el L i :: L.drop (i + 1) := by
  have e : el L i = L[i] := by have := el_get h; rw [List.getElem?_eq_getElem h] at this; exact (Option.some.inj this).symm
  rw [e, ← List.drop_eq_getElem_cons h, List.take_append_drop]
theorem el_of_mem {L : List Rn} {r : Rn} (h : r ∈ L) : ∃ i, i < L.length ∧ el L i = r := by
  obtain ⟨i, hi⟩ := List.mem_iff_getElem?.1 h
  exact ⟨i, (List.getElem?_eq_some_iff.1 hi).1, el_is hi⟩
theorem el_ext {A B : List Rn} (h : A.length = B.length) (he : ∀ i, i < A.length → el A i = el B i) : A = B := by
  apply List.ext_getElem?
  intro i
  by_cases hi : i < A.length
  · rw [el_get hi, el_get (h ▸ hi), he i hi]
  · rw [List.getElem?_eq_none (by omega), List.getElem?_eq_none (by omega)]

/-! ### What lies side by side -/
/-- From a on up to e, without a gap, none empty. -/
def Chain : Int → List Rn → Int → Prop
  | a, [], e => a = e
  | a, r :: L, e => r.p = a ∧ 1 ≤ r.n ∧ Chain (a + r.n) L e
/-- No two free ones side by side; f: the one before is free. -/
def Ap : Bool → List Rn → Prop
  | _, [] => True
  | f, r :: L => (f = true → r.t = true) ∧ Ap (!r.t) L
/-- Is the last one free? -/
def lf (f : Bool) : List Rn → Bool
  | [] => f
  | r :: L => lf (!r.t) L
theorem chain_app : ∀ {A : List Rn} {a e : Int} {B : List Rn}, Chain a (A ++ B) e ↔ ∃ m, Chain a A m ∧ Chain m B e
  | [], a, e, B => by simp [Chain]
  | r :: A, a, e, B => by
    simp only [List.cons_append, Chain, chain_app (A := A)]
    constructor
    · rintro ⟨h1, h2, m, h3, h4⟩; exact ⟨m, ⟨h1, h2, h3⟩, h4⟩
    · rintro ⟨m, ⟨h1, h2, h3⟩, h4⟩; exact ⟨h1, h2, m, h3, h4⟩
theorem ap_app : ∀ {A : List Rn} {f : Bool} {B : List Rn}, Ap f (A ++ B) ↔ Ap f A ∧ Ap (lf f A) B
  | [], f, B => by simp [Ap, lf]
  | r :: A, f, B => by simp only [List.cons_append, Ap, lf, ap_app (A := A), and_assoc]
theorem lf_app : ∀ {A : List Rn} {f : Bool} {B : List Rn}, lf f (A ++ B) = lf (lf f A) B
  | [], _, _ => rfl
  | r :: A, _, _ => by simp only [List.cons_append, lf]; exact lf_app
theorem ap_less {L : List Rn} {f : Bool} (h : Ap f L) : Ap false L := by
  cases L with
  | nil => trivial
  | cons r L => exact ⟨nofun, h.2⟩
theorem chain_len : ∀ {L : List Rn} {a e : Int}, Chain a L e → a + L.length ≤ e
  | [], a, e, h => by simp [Chain] at h; simp; omega
  | r :: L, a, e, h => by have := chain_len h.2.2; have := h.2.1; simp; omega
theorem chain_at : ∀ {L : List Rn} {a e : Int} {i : Nat}, Chain a L e → i < L.length → a ≤ (el L i).p ∧ 1 ≤ (el L i).n ∧ (el L i).p + (el L i).n ≤ e
  | [], _, _, _, _, h => by simp at h
  | r :: L, a, e, 0, h, _ => by
    have := chain_len h.2.2; have := h.1; have := h.2.1
    rw [el_zero]; omega
  | r :: L, a, e, i + 1, h, hi => by
    have := chain_at h.2.2 (i := i) (by simpa using hi); have := h.2.1
    rw [el_succ]; omega
theorem chain_mono : ∀ {L : List Rn} {a e : Int} {i j : Nat}, Chain a L e → i < j → j < L.length → (el L i).p + (el L i).n ≤ (el L j).p
  | [], _, _, _, _, _, _, h => by simp at h
  | r :: L, a, e, i, 0, _, h, _ => by omega
  | r :: L, a, e, 0, j + 1, h, _, hj => by
    have := chain_at h.2.2 (i := j) (by simpa using hj); have := h.1
    rw [el_zero, el_succ]; omega
  | r :: L, a, e, i + 1, j + 1, h, hij, hj => by
    rw [el_succ, el_succ]; exact chain_mono h.2.2 (by omega) (by simpa using hj)
theorem chain_find : ∀ {L : List Rn} {a e x : Int}, Chain a L e → a ≤ x → x < e → ∃ i, i < L.length ∧ (el L i).p ≤ x ∧ x < (el L i).p + (el L i).n
  | [], _, _, _, h, _, _ => by simp [Chain] at h; omega
  | r :: L, a, e, x, h, h1, h2 => by
    by_cases hx : x < a + r.n
    · exact ⟨0, by simp, by rw [el_zero, h.1]; omega⟩
    · obtain ⟨i, hi, h3⟩ := chain_find h.2.2 (x := x) (by omega) h2
      exact ⟨i + 1, by simpa using hi, h3⟩
theorem chain_one {L : List Rn} {a e x : Int} {i j : Nat} (h : Chain a L e) (hi : i < L.length) (hj : j < L.length) (h1 : (el L i).p ≤ x) (h2 : x < (el L i).p + (el L i).n) (h3 : (el L j).p ≤ x) (h4 : x < (el L j).p + (el L j).n) : i = j := by
  rcases Nat.lt_trichotomy i j with hl | hl | hl
  · have := chain_mono h hl hj; omega
  · exact hl
  · have := chain_mono h hl hi; omega
theorem filter_ne : ∀ {L : List Rn} {a e : Int}, Chain a L e → L.filter ne = L
  | [], _, _, _ => rfl
  | r :: L, _, _, h => by
    have : ne r = true := by have := h.2.1; simp [ne]; omega
    rw [List.filter_cons_of_pos this, filter_ne h.2.2]
/-- All pages, once each, no two free runs side by side. -/
structure WF (N : Int) (L : List Rn) : Prop where
  chain : Chain 0 L N
  apart : Ap false L
theorem WF.len {N : Int} {L : List Rn} (h : WF N L) : (L.length : Int) ≤ N := by have := chain_len h.chain; omega
/-- Pages of which none is taken. -/
def newL (N : Int) : List Rn := [⟨0, N, false⟩].filter ne
theorem new_wf {N : Int} (h : 0 ≤ N) : WF N (newL N) := by
  by_cases h0 : N = 0
  · subst h0; exact ⟨rfl, trivial⟩
  · have e : newL N = [⟨0, N, false⟩] := by unfold newL; rw [List.filter_cons_of_pos (by simp [ne, h0])]; rfl
    rw [e]
    exact ⟨⟨rfl, by show 1 ≤ N; omega, by show 0 + N = N; omega⟩, ⟨nofun, trivial⟩⟩

/-! ### Taking -/
def fit (n a : Int) (r : Rn) : Bool := !r.t && decide (n ≤ r.n - (up r.p a - r.p))
/-- Where the best of the first runs stands, or -1. -/
def bst (n a : Int) (L : List Rn) : Nat → Int
  | 0 => -1
  | i + 1 => if fit n a (el L i) = true ∧ (bst n a L i = -1 ∨ (el L i).n < (el L (bst n a L i).toNat).n) then (i : Int) else bst n a L i
theorem bst_is (n a : Int) (L : List Rn) : ∀ i, (bst n a L i = -1 ∧ ∀ j, j < i → fit n a (el L j) = false) ∨ ∃ k : Nat, bst n a L i = k ∧ k < i ∧ fit n a (el L k) = true
  | 0 => .inl ⟨rfl, fun j h => by omega⟩
  | i + 1 => by
    unfold bst
    by_cases hc : fit n a (el L i) = true ∧ (bst n a L i = -1 ∨ (el L i).n < (el L (bst n a L i).toNat).n)
    · rw [if_pos hc]; exact .inr ⟨i, rfl, by omega, hc.1⟩
    · rw [if_neg hc]
      rcases bst_is n a L i with ⟨h1, h2⟩ | ⟨k, h1, h2, h3⟩
      · refine .inl ⟨h1, fun j hj => ?_⟩
        by_cases e : j = i
        · subst e
          cases hf : fit n a (el L j) with
          | false => rfl
          | true => exact absurd ⟨hf, .inl h1⟩ hc
        · exact h2 j (by omega)
      · exact .inr ⟨k, h1, by omega, h3⟩
def askB (n a : Int) : Bool := decide (1 ≤ n) && (decide (a ≤ 4096) && powB a)
/-- Pages from u on are a span. -/
def splL (L : List Rn) (k : Nat) (u n : Int) : List Rn :=
  L.take k ++ ([⟨(el L k).p, u - (el L k).p, false⟩, ⟨u, n, true⟩, ⟨u + n, (el L k).p + (el L k).n - (u + n), false⟩] ++ L.drop (k + 1))
def takeL (L : List Rn) (k : Nat) (u n : Int) : List Rn := (splL L k u n).filter ne
/-- What is taken, as lists. -/
def mid (p m u n : Int) : List Rn := (if u - p = 0 then [] else [⟨p, u - p, false⟩]) ++ (⟨u, n, true⟩ :: (if p + m - (u + n) = 0 then [] else [⟨u + n, p + m - (u + n), false⟩]))
theorem takeL_mid {A B : List Rn} {a m e p u n M : Int} (hA : Chain a A m) (hB : Chain e B M) (r : Rn) (hp : r.p = p) (hn : 1 ≤ n) : takeL (A ++ r :: B) A.length u n = A ++ (mid p r.n u n ++ B) := by
  subst hp
  unfold takeL splL
  rw [el_mid]
  have e1 : (A ++ r :: B).take A.length = A := by simp
  have e2 : (A ++ r :: B).drop (A.length + 1) = B := by rw [List.drop_append]; simp
  rw [e1, e2, List.filter_append, List.filter_append, filter_ne hA, filter_ne hB]
  congr 2
  have h1 : ne ⟨u, n, true⟩ = true := by simp [ne]; omega
  unfold mid
  by_cases c1 : u - r.p = 0
  · rw [List.filter_cons_of_neg (by simp [ne, c1]), List.filter_cons_of_pos h1, if_pos c1]
    by_cases c2 : r.p + r.n - (u + n) = 0
    · rw [List.filter_cons_of_neg (by simp [ne, c2]), if_pos c2]; rfl
    · rw [List.filter_cons_of_pos (by simp [ne, c2]), if_neg c2]; rfl
  · rw [List.filter_cons_of_pos (by simp [ne, c1]), List.filter_cons_of_pos h1, if_neg c1]
    by_cases c2 : r.p + r.n - (u + n) = 0
    · rw [List.filter_cons_of_neg (by simp [ne, c2]), if_pos c2]; rfl
    · rw [List.filter_cons_of_pos (by simp [ne, c2]), if_neg c2]; rfl
theorem mid_chain {p m u n : Int} (h1 : p ≤ u) (hn : 1 ≤ n) (h2 : u + n ≤ p + m) : Chain p (mid p m u n) (p + m) := by
  unfold mid
  by_cases c1 : u - p = 0 <;> by_cases c2 : p + m - (u + n) = 0
  · simp only [if_pos c1, if_pos c2, List.nil_append, Chain]; (repeat' apply And.intro) <;> first | omega | trivial
  · simp only [if_pos c1, if_neg c2, List.nil_append, Chain]; (repeat' apply And.intro) <;> first | omega | trivial
  · simp only [if_neg c1, if_pos c2, List.cons_append, List.nil_append, Chain]; (repeat' apply And.intro) <;> first | omega | trivial
  · simp only [if_neg c1, if_neg c2, List.cons_append, List.nil_append, Chain]; (repeat' apply And.intro) <;> first | omega | trivial
theorem mid_ap {p m u n : Int} {B : List Rn} (h : Ap true B) : Ap false (mid p m u n ++ B) := by
  have h0 := ap_less h
  unfold mid
  by_cases c1 : u - p = 0 <;> by_cases c2 : p + m - (u + n) = 0
  · simp only [if_pos c1, if_pos c2, List.nil_append, List.cons_append, Ap]; exact ⟨nofun, h0⟩
  · simp only [if_pos c1, if_neg c2, List.nil_append, List.cons_append, Ap]; exact ⟨nofun, nofun, h⟩
  · simp only [if_neg c1, if_pos c2, List.cons_append, List.nil_append, Ap]; exact ⟨nofun, fun _ => trivial, h0⟩
  · simp only [if_neg c1, if_neg c2, List.cons_append, List.nil_append, Ap]; exact ⟨nofun, fun _ => trivial, nofun, h⟩
/-- A list, cut at a run. -/
theorem WF.cut {N : Int} {L : List Rn} (h : WF N L) {k : Nat} (hk : k < L.length) : ∃ A B, L = A ++ el L k :: B ∧ A.length = k ∧ Chain 0 A (el L k).p ∧ Chain ((el L k).p + (el L k).n) B N ∧ 1 ≤ (el L k).n ∧ Ap false A ∧ (lf false A = true → (el L k).t = true) ∧ Ap (!(el L k).t) B := by
  have e := cut_el hk
  have hc := h.chain
  have ha := h.apart
  rw [e] at hc ha
  obtain ⟨m, c1, c2⟩ := chain_app.1 hc
  obtain ⟨a1, a2⟩ := ap_app.1 ha
  refine ⟨L.take k, L.drop (k + 1), e, by simp; omega, ?_, ?_, c2.2.1, a1, a2.1, a2.2⟩
  · rw [c2.1]; exact c1
  · have := c2.2.2; rw [c2.1]; exact this
theorem take_wf {N : Int} {L : List Rn} (h : WF N L) {k : Nat} (hk : k < L.length) {u n : Int} (ht : (el L k).t = false) (h1 : (el L k).p ≤ u) (hn : 1 ≤ n) (h2 : u + n ≤ (el L k).p + (el L k).n) : WF N (takeL L k u n) := by
  obtain ⟨A, B, e, hl, c1, c2, c3, a1, a2, a3⟩ := h.cut hk
  generalize el L k = r at *
  subst e hl
  rw [takeL_mid c1 c2 r rfl hn]
  rw [ht] at a2 a3
  have hlf : lf false A = false := by cases hl : lf false A with
    | false => rfl
    | true => cases a2 hl
  exact ⟨chain_app.2 ⟨_, c1, chain_app.2 ⟨_, mid_chain h1 hn h2, c2⟩⟩, ap_app.2 ⟨a1, by rw [hlf]; exact mid_ap a3⟩⟩

/-! ### Giving -/
def joinL (L : List Rn) (f s : Nat) : List Rn := (L.set s ⟨(el L f).p, (el L s).n + (el L f).n, false⟩).set f ⟨(el L f).p, 0, false⟩
/-- Where two neighbours are there and free, the second one has the pages of both. -/
def joinB (L : List Rn) (f s : Nat) : List Rn := if s < L.length ∧ (el L f).t = false ∧ (el L s).t = false then joinL L f s else L
def giveL (L : List Rn) (k : Nat) : List Rn :=
  let L1 := L.set k ⟨(el L k).p, (el L k).n, false⟩
  let L2 := if k = 0 then L1 else joinB L1 (k - 1) k
  (joinB L2 k (k + 1)).filter ne
/-- What is before, without a free run at its end, and that one's pages. -/
def bk (A : List Rn) : List Rn × Int := match A.getLast? with
  | some x => if x.t = false then (A.dropLast, x.n) else (A, 0)
  | none => (A, 0)
def fw : List Rn → List Rn × Int
  | x :: B => if x.t = false then (B, x.n) else (x :: B, 0)
  | [] => ([], 0)
theorem bk_snoc (A : List Rn) (x : Rn) : bk (A ++ [x]) = if x.t = false then (A, x.n) else (A ++ [x], 0) := by
  unfold bk; rw [List.getLast?_concat, List.dropLast_concat]
theorem joinB_fw (A B : List Rn) (r : Rn) (hr : r.t = false) (hn : 1 ≤ r.n) {a e : Int} (hB : Chain a B e) :
    (joinB (A ++ r :: B) A.length (A.length + 1)).filter ne = A.filter ne ++ ⟨r.p, r.n + (fw B).2, false⟩ :: (fw B).1 := by
  obtain ⟨p, n, t⟩ := r
  dsimp only at hr hn
  subst hr
  have hne : ne ⟨p, n, false⟩ = true := by simp [ne]; omega
  cases B with
  | nil =>
    unfold joinB
    rw [if_neg (by simp)]
    rw [List.filter_append, List.filter_cons_of_pos hne]
    simp [fw]
  | cons x B =>
    have hx := hB.2.1
    have hfB := filter_ne hB.2.2
    have e1 : el (A ++ ⟨p, n, false⟩ :: x :: B) A.length = ⟨p, n, false⟩ := el_mid _ _ _
    have e2 : el (A ++ ⟨p, n, false⟩ :: x :: B) (A.length + 1) = x := el_is (by simp)
    unfold joinB
    rw [e1, e2]
    cases hxt : x.t with
    | true =>
      have hnx : ne x = true := by simp [ne]; omega
      rw [if_neg (by simp), List.filter_append, List.filter_cons_of_pos hne, List.filter_cons_of_pos hnx, hfB]
      simp [fw, hxt]
    | false =>
      rw [if_pos ⟨by simp, rfl, rfl⟩]
      unfold joinL
      rw [e1, e2]
      have s1 : (A ++ ⟨p, n, false⟩ :: x :: B).set (A.length + 1) ⟨p, x.n + n, false⟩ = A ++ ⟨p, n, false⟩ :: ⟨p, x.n + n, false⟩ :: B := by
        rw [List.set_append_right _ _ (by omega)]; simp
      have s2 : (A ++ ⟨p, n, false⟩ :: ⟨p, x.n + n, false⟩ :: B).set A.length ⟨p, 0, false⟩ = A ++ ⟨p, 0, false⟩ :: ⟨p, x.n + n, false⟩ :: B := by
        rw [List.set_append_right _ _ (by omega)]; simp
      rw [s1, s2, List.filter_append, List.filter_cons_of_neg (by simp [ne]), List.filter_cons_of_pos (by simp [ne]; omega), hfB]
      simp [fw, hxt, Int.add_comm]
theorem giveL_is (A B : List Rn) (r : Rn) {a m e M : Int} (hA : Chain a A m) (hr : 1 ≤ r.n) (hrp : r.p = m) (hB : Chain e B M) :
    giveL (A ++ r :: B) A.length = (bk A).1 ++ ⟨r.p - (bk A).2, (bk A).2 + r.n + (fw B).2, false⟩ :: (fw B).1 := by
  unfold giveL
  rw [el_mid]
  have s1 : (A ++ r :: B).set A.length ⟨r.p, r.n, false⟩ = A ++ ⟨r.p, r.n, false⟩ :: B := by rw [List.set_append_right _ _ (by omega)]; simp
  dsimp only
  rw [s1]
  rcases List.eq_nil_or_concat A with rfl | ⟨A0, x, rfl⟩
  · have := joinB_fw [] B ⟨r.p, r.n, false⟩ rfl hr hB
    simp only [List.length_nil, List.nil_append, if_true] at this ⊢
    rw [this]
    simp [bk]
  · obtain ⟨m', c1, c2⟩ := chain_app.1 (by simpa using hA : Chain a (A0 ++ [x]) m)
    have hfA := filter_ne c1
    have hx := c2.2.1
    have hxe := c2.2.2
    simp only [Chain] at hxe
    have hxp := c2.1
    simp only [List.concat_eq_append] at *
    rw [if_neg (by simp), bk_snoc]
    have e1 : el (A0 ++ [x] ++ ⟨r.p, r.n, false⟩ :: B) ((A0 ++ [x]).length - 1) = x := el_is (by simp)
    have e2 : el (A0 ++ [x] ++ ⟨r.p, r.n, false⟩ :: B) (A0 ++ [x]).length = ⟨r.p, r.n, false⟩ := el_mid _ _ _
    cases hxt : x.t with
    | true =>
      have : joinB (A0 ++ [x] ++ ⟨r.p, r.n, false⟩ :: B) ((A0 ++ [x]).length - 1) (A0 ++ [x]).length = A0 ++ [x] ++ ⟨r.p, r.n, false⟩ :: B := by
        unfold joinB
        rw [e1, hxt, if_neg (by simp)]
      rw [this, joinB_fw (A0 ++ [x]) B ⟨r.p, r.n, false⟩ rfl hr hB, List.filter_append, hfA, List.filter_cons_of_pos (by simp [ne]; omega)]
      simp
    | false =>
      have s2 : joinB (A0 ++ [x] ++ ⟨r.p, r.n, false⟩ :: B) ((A0 ++ [x]).length - 1) (A0 ++ [x]).length = (A0 ++ [⟨x.p, 0, false⟩]) ++ ⟨x.p, r.n + x.n, false⟩ :: B := by
        unfold joinB
        rw [e1, e2, if_pos ⟨by simp, hxt, rfl⟩]
        unfold joinL
        rw [e1, e2]
        rw [List.set_append_right _ _ (by omega)]
        simp
      have hl : (A0 ++ [x]).length = (A0 ++ [(⟨x.p, 0, false⟩ : Rn)]).length := by simp
      rw [s2, hl, joinB_fw (A0 ++ [(⟨x.p, 0, false⟩ : Rn)]) B ⟨x.p, r.n + x.n, false⟩ rfl (by show 1 ≤ r.n + x.n; omega) hB, List.filter_append, hfA, List.filter_cons_of_neg (by simp [ne])]
      simp only [if_pos, List.filter_nil, List.append_nil]
      congr 3
      · omega
      · omega
theorem bk_wf {A : List Rn} {a m : Int} (hA : Chain a A m) (hap : Ap false A) : Chain a (bk A).1 (m - (bk A).2) ∧ Ap false (bk A).1 ∧ lf false (bk A).1 = false ∧ 0 ≤ (bk A).2 := by
  rcases List.eq_nil_or_concat A with rfl | ⟨A0, x, rfl⟩
  · refine ⟨?_, trivial, rfl, Int.le_refl _⟩
    simp only [Chain] at hA
    show a = m - 0
    omega
  · simp only [List.concat_eq_append] at *
    obtain ⟨m', c1, c2⟩ := chain_app.1 hA
    obtain ⟨a1, a2⟩ := ap_app.1 hap
    have c3 : m' + x.n = m := c2.2.2
    have c4 := c2.2.1
    rw [bk_snoc]
    cases hx : x.t with
    | false =>
      refine ⟨?_, a1, ?_, by show 0 ≤ x.n; omega⟩
      · show Chain a A0 (m - x.n)
        rw [show m - x.n = m' by omega]; exact c1
      · cases hl : lf false A0 with
        | false => exact hl
        | true => have := a2.1 hl; rw [hx] at this; cases this
    | true =>
      refine ⟨by simpa using hA, by simpa using hap, ?_, Int.le_refl _⟩
      simp only [Bool.true_eq_false, if_false]
      rw [lf_app]; simp [lf, hx]
theorem fw_wf {B : List Rn} {e M : Int} (hB : Chain e B M) (hap : Ap false B) : Chain (e + (fw B).2) (fw B).1 M ∧ Ap true (fw B).1 ∧ 0 ≤ (fw B).2 := by
  cases B with
  | nil => refine ⟨?_, trivial, Int.le_refl _⟩; simp only [fw, Chain] at hB ⊢; omega
  | cons x B =>
    have h1 := hB.1
    have h2 := hB.2.1
    have h3 := hB.2.2
    cases hx : x.t with
    | false =>
      have e1 : fw (x :: B) = (B, x.n) := by simp [fw, hx]
      rw [e1]
      refine ⟨h3, ?_, by show 0 ≤ x.n; omega⟩
      have := hap.2; rwa [hx] at this
    | true =>
      have e1 : fw (x :: B) = (x :: B, 0) := by simp [fw, hx]
      rw [e1]
      exact ⟨by show Chain (e + 0) _ _; rw [Int.add_zero]; exact hB, ⟨fun _ => hx, hap.2⟩, Int.le_refl _⟩
theorem give_wf {N : Int} {L : List Rn} (h : WF N L) {k : Nat} (hk : k < L.length) (ht : (el L k).t = true) : WF N (giveL L k) := by
  obtain ⟨A, B, e, hl, c1, c2, c3, a1, a2, a3⟩ := h.cut hk
  generalize el L k = r at *
  subst e hl
  rw [giveL_is A B r c1 c3 rfl c2]
  rw [ht] at a3
  obtain ⟨b1, b2, b3, b4⟩ := bk_wf c1 a1
  obtain ⟨f1, f2, f3⟩ := fw_wf c2 a3
  refine ⟨chain_app.2 ⟨_, b1, rfl, by show 1 ≤ (bk A).2 + r.n + (fw B).2; omega, ?_⟩, ap_app.2 ⟨b2, ?_, ?_⟩⟩
  · have : r.p - (bk A).2 + ((bk A).2 + r.n + (fw B).2) = r.p + r.n + (fw B).2 := by omega
    show Chain (r.p - (bk A).2 + ((bk A).2 + r.n + (fw B).2)) _ _
    rw [this]; exact f1
  · rw [b3]; intro h; cases h
  · exact f2
end Go.Proofs.YtjnknnakllbaaaaGreat.Sp
