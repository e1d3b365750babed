/-
  Places with tags, with no program in sight: rows in order, what is put, dropped and moved, counts and sums. Facts that the claimed proofs use.
-/
namespace Go.Proofs.Ytbgacchbldgaeaa

/-- A place and its tag: page, slot, worker, size. -/
structure Tr where
  p : Int
  s : Int
  k : Int
  z : Int
deriving DecidableEq
def plB (p s : Int) : Bool := decide (0 ≤ p) && decide (p < 4096) && decide (0 ≤ s) && decide (s < 128)
def tgB (k z : Int) : Bool := decide (0 ≤ k) && decide (k < 64) && decide (0 ≤ z) && decide (z ≤ 1099511627776)
theorem plB_iff {p s : Int} : plB p s = true ↔ 0 ≤ p ∧ p < 4096 ∧ 0 ≤ s ∧ s < 128 := by
  unfold plB; simp only [Bool.and_eq_true, decide_eq_true_eq]; constructor <;> (intro h; omega)
theorem tgB_iff {k z : Int} : tgB k z = true ↔ 0 ≤ k ∧ k < 64 ∧ 0 ≤ z ∧ z ≤ 1099511627776 := by
  unfold tgB; simp only [Bool.and_eq_true, decide_eq_true_eq]; constructor <;> (intro h; omega)
def Tr.ok (r : Tr) : Bool := plB r.p r.s && tgB r.k r.z
theorem Tr.ok_iff {r : Tr} : r.ok = true ↔ plB r.p r.s = true ∧ tgB r.k r.z = true := by unfold Tr.ok; simp
theorem Tr.ok_bd {r : Tr} (h : r.ok = true) : (0 ≤ r.p ∧ r.p < 4096 ∧ 0 ≤ r.s ∧ r.s < 128) ∧ 0 ≤ r.k ∧ r.k < 64 ∧ 0 ≤ r.z ∧ r.z ≤ 1099511627776 :=
  ⟨plB_iff.1 (Tr.ok_iff.1 h).1, tgB_iff.1 (Tr.ok_iff.1 h).2⟩
/-- Is it this place's row? -/
def atB (p s : Int) (r : Tr) : Bool := r.p == p && r.s == s
theorem atB_iff {p s : Int} {r : Tr} : atB p s r = true ↔ r.p = p ∧ r.s = s := by unfold atB; simp
/-- The order of places. -/
def ltR (a b : Tr) : Prop := a.p < b.p ∨ a.p = b.p ∧ a.s < b.s
instance (a b : Tr) : Decidable (ltR a b) := by unfold ltR; exact inferInstance
theorem ltR_trans {a b c : Tr} (h : ltR a b) (h' : ltR b c) : ltR a c := by unfold ltR at *; omega
theorem ltR_irr {a : Tr} (h : ltR a a) : False := by unfold ltR at h; omega
def hasB (L : List Tr) (p s : Int) : Bool := L.any (atB p s)
theorem hasB_iff {L : List Tr} {p s : Int} : hasB L p s = true ↔ ∃ r ∈ L, r.p = p ∧ r.s = s := by
  unfold hasB; simp only [List.any_eq_true, atB_iff]
structure Wf (L : List Tr) : Prop where
  ord : L.Pairwise ltR
  ok : ∀ r ∈ L, r.ok = true
theorem Wf.nil : Wf [] := ⟨List.Pairwise.nil, fun _ h => by cases h⟩
theorem Wf.tail {r : Tr} {L : List Tr} (h : Wf (r :: L)) : Wf L := ⟨(List.pairwise_cons.1 h.ord).2, fun x hx => h.ok x (List.mem_cons_of_mem _ hx)⟩
theorem uniq_of : ∀ {L : List Tr}, L.Pairwise ltR → ∀ {a b : Tr}, a ∈ L → b ∈ L → a.p = b.p → a.s = b.s → a = b
  | [], _, a, _, ha, _, _, _ => by cases ha
  | r :: L, h, a, b, ha, hb, e1, e2 => by
    obtain ⟨h1, h2⟩ := List.pairwise_cons.1 h
    rcases List.mem_cons.1 ha with ea | ma
    · rcases List.mem_cons.1 hb with eb | mb
      · rw [ea, eb]
      · have := h1 b mb; rw [← ea] at this; unfold ltR at this; omega
    · rcases List.mem_cons.1 hb with eb | mb
      · have := h1 a ma; rw [← eb] at this; unfold ltR at this; omega
      · exact uniq_of h2 ma mb e1 e2
theorem Wf.uniq {L : List Tr} (h : Wf L) {a b : Tr} (ha : a ∈ L) (hb : b ∈ L) (e1 : a.p = b.p) (e2 : a.s = b.s) : a = b := uniq_of h.ord ha hb e1 e2
theorem nodup_of : ∀ {L : List Tr}, L.Pairwise ltR → L.Nodup
  | [], _ => List.nodup_nil
  | r :: L, h => by
    obtain ⟨h1, h2⟩ := List.pairwise_cons.1 h
    exact List.nodup_cons.2 ⟨fun hm => ltR_irr (h1 r hm), nodup_of h2⟩
/-- Rows in order with the same members are the same. -/
theorem eq_of_ord : ∀ {A B : List Tr}, A.Pairwise ltR → B.Pairwise ltR → (∀ x, x ∈ A ↔ x ∈ B) → A = B
  | [], [], _, _, _ => rfl
  | [], b :: B, _, _, h => by have := (h b).2 (List.mem_cons_self ..); cases this
  | a :: A, [], _, _, h => by have := (h a).1 (List.mem_cons_self ..); cases this
  | a :: A, b :: B, hA, hB, h => by
    obtain ⟨a1, a2⟩ := List.pairwise_cons.1 hA
    obtain ⟨b1, b2⟩ := List.pairwise_cons.1 hB
    have e : a = b := by
      rcases List.mem_cons.1 ((h a).1 (List.mem_cons_self ..)) with e | e
      · exact e
      · rcases List.mem_cons.1 ((h b).2 (List.mem_cons_self ..)) with e' | e'
        · exact e'.symm
        · exact (ltR_irr (ltR_trans (b1 a e) (a1 b e'))).elim
    subst e
    rw [eq_of_ord a2 b2 (fun x => ?_)]
    have hx := h x
    simp only [List.mem_cons] at hx
    constructor
    · intro hm
      rcases hx.1 (.inr hm) with rfl | h'
      · exact (ltR_irr (a1 x hm)).elim
      · exact h'
    · intro hm
      rcases hx.2 (.inr hm) with rfl | h'
      · exact (ltR_irr (b1 x hm)).elim
      · exact h'
/-- How many there can be. -/
theorem len_of : ∀ {L : List Tr} {a : Int}, L.Pairwise ltR → (∀ r ∈ L, a ≤ r.p * 128 + r.s ∧ 0 ≤ r.s ∧ r.s < 128 ∧ r.p < 4096) → a ≤ 524288 → (L.length : Int) ≤ 524288 - a
  | [], a, _, _, ha => by simp; omega
  | r :: L, a, h, hb, ha => by
    obtain ⟨h1, h2⟩ := List.pairwise_cons.1 h
    have hr := hb r (List.mem_cons_self ..)
    have := len_of (a := r.p * 128 + r.s + 1) h2 (fun x hx => by
      have hx' := hb x (List.mem_cons_of_mem _ hx)
      have hl := h1 x hx
      unfold ltR at hl
      omega) (by omega)
    rw [List.length_cons]
    omega
theorem Wf.len {L : List Tr} (h : Wf L) : L.length ≤ 524288 := by
  have := len_of (a := 0) h.ord (fun r hr => by have := (Tr.ok_bd (h.ok r hr)).1; omega) (by omega)
  omega

/-! ### What is put, and what is dropped -/
def ins (r : Tr) : List Tr → List Tr
  | [] => [r]
  | x :: L => if ltR r x then r :: x :: L else x :: ins r L
theorem mem_ins {r x : Tr} : ∀ {L : List Tr}, x ∈ ins r L ↔ x = r ∨ x ∈ L
  | [] => by simp [ins]
  | y :: L => by
    unfold ins
    by_cases h : ltR r y
    · rw [if_pos h]; simp
    · rw [if_neg h, List.mem_cons, mem_ins (L := L), List.mem_cons]
      constructor
      · rintro (h | h | h)
        · exact .inr (.inl h)
        · exact .inl h
        · exact .inr (.inr h)
      · rintro (h | h | h)
        · exact .inr (.inl h)
        · exact .inl h
        · exact .inr (.inr h)
theorem len_ins (r : Tr) : ∀ L : List Tr, (ins r L).length = L.length + 1
  | [] => rfl
  | y :: L => by
    unfold ins
    by_cases h : ltR r y
    · rw [if_pos h]; simp
    · rw [if_neg h, List.length_cons, len_ins r L, List.length_cons]
theorem ord_ins {r : Tr} : ∀ {L : List Tr}, L.Pairwise ltR → (∀ x ∈ L, ¬ (x.p = r.p ∧ x.s = r.s)) → (ins r L).Pairwise ltR
  | [], _, _ => by simp [ins]
  | y :: L, h, hn => by
    obtain ⟨h1, h2⟩ := List.pairwise_cons.1 h
    unfold ins
    by_cases hl : ltR r y
    · rw [if_pos hl]
      refine List.pairwise_cons.2 ⟨fun x hx => ?_, h⟩
      rcases List.mem_cons.1 hx with rfl | hx
      · exact hl
      · exact ltR_trans hl (h1 x hx)
    · rw [if_neg hl]
      refine List.pairwise_cons.2 ⟨fun x hx => ?_, ord_ins h2 (fun x hx => hn x (List.mem_cons_of_mem _ hx))⟩
      rcases mem_ins.1 hx with rfl | hx
      · have := hn y (List.mem_cons_self ..); unfold ltR at *; omega
      · exact h1 x hx
theorem Wf.ins {L : List Tr} (h : Wf L) {r : Tr} (ho : r.ok = true) (hn : hasB L r.p r.s = false) : Wf (ins r L) := by
  refine ⟨ord_ins h.ord (fun x hx he => ?_), fun x hx => ?_⟩
  · have := hasB_iff.2 ⟨x, hx, he⟩; rw [hn] at this; cases this
  · rcases mem_ins.1 hx with rfl | hx
    · exact ho
    · exact h.ok x hx
def del (L : List Tr) (p s : Int) : List Tr := L.filter fun r => !atB p s r
theorem mem_del {L : List Tr} {p s : Int} {x : Tr} : x ∈ del L p s ↔ x ∈ L ∧ ¬ (x.p = p ∧ x.s = s) := by
  unfold del; rw [List.mem_filter]; simp [← atB_iff]
theorem Wf.del {L : List Tr} (h : Wf L) (p s : Int) : Wf (del L p s) := ⟨h.ord.sublist List.filter_sublist, fun x hx => h.ok x (mem_del.1 hx).1⟩
theorem del_not {L : List Tr} {p s : Int} (h : hasB L p s = false) : del L p s = L := by
  unfold del
  rw [List.filter_eq_self]
  intro x hx
  cases hq : atB p s x with
  | false => rfl
  | true => have := hasB_iff.2 ⟨x, hx, atB_iff.1 hq⟩; rw [h] at this; cases this
theorem len_del : ∀ {L : List Tr}, L.Pairwise ltR → ∀ {p s : Int}, hasB L p s = true → (del L p s).length + 1 = L.length
  | [], _, p, s, h => by cases h
  | r :: L, h, p, s, hh => by
    obtain ⟨h1, h2⟩ := List.pairwise_cons.1 h
    cases hq : atB p s r with
    | true =>
      have hL : hasB L p s = false := by
        cases hc : hasB L p s with
        | false => rfl
        | true =>
          obtain ⟨x, hx, he⟩ := hasB_iff.1 hc
          have := h1 x hx
          have := atB_iff.1 hq
          unfold ltR at *
          omega
      have e : del (r :: L) p s = del L p s := by unfold del; rw [List.filter_cons_of_neg (by simp [hq])]
      rw [e, del_not hL]; rfl
    | false =>
      have hL : hasB L p s = true := by
        obtain ⟨x, hx, he⟩ := hasB_iff.1 hh
        rcases List.mem_cons.1 hx with rfl | hx
        · rw [atB_iff.2 he] at hq; cases hq
        · exact hasB_iff.2 ⟨x, hx, he⟩
      have e : del (r :: L) p s = r :: del L p s := by unfold del; rw [List.filter_cons_of_pos (by simp [hq])]
      rw [e, List.length_cons, len_del h2 hL, List.length_cons]
theorem has_del {L : List Tr} {p s p' s' : Int} : hasB (del L p s) p' s' = (hasB L p' s' && !(p' == p && s' == s)) := by
  rw [Bool.eq_iff_iff, hasB_iff, Bool.and_eq_true, hasB_iff]
  constructor
  · rintro ⟨r, hr, h1, h2⟩
    obtain ⟨hr, hn⟩ := mem_del.1 hr
    refine ⟨⟨r, hr, h1, h2⟩, ?_⟩
    rw [Bool.not_eq_true', Bool.eq_false_iff]
    simp only [Bool.and_eq_true, beq_iff_eq, ne_eq]
    rintro ⟨rfl, rfl⟩
    exact hn ⟨h1, h2⟩
  · rintro ⟨⟨r, hr, h1, h2⟩, h3⟩
    rw [Bool.not_eq_true', Bool.eq_false_iff] at h3
    simp only [Bool.and_eq_true, beq_iff_eq, ne_eq] at h3
    exact ⟨r, mem_del.2 ⟨hr, fun ⟨e1, e2⟩ => h3 ⟨h1.symm.trans e1, h2.symm.trans e2⟩⟩, h1, h2⟩
theorem has_ins {L : List Tr} {r : Tr} {p s : Int} : hasB (ins r L) p s = ((p == r.p && s == r.s) || hasB L p s) := by
  rw [Bool.eq_iff_iff, hasB_iff, Bool.or_eq_true, hasB_iff, Bool.and_eq_true, beq_iff_eq, beq_iff_eq]
  constructor
  · rintro ⟨x, hx, h1, h2⟩
    rcases mem_ins.1 hx with rfl | hx
    · exact .inl ⟨h1.symm, h2.symm⟩
    · exact .inr ⟨x, hx, h1, h2⟩
  · rintro (⟨rfl, rfl⟩ | ⟨x, hx, h⟩)
    · exact ⟨r, mem_ins.2 (.inl rfl), rfl, rfl⟩
    · exact ⟨x, mem_ins.2 (.inr hx), h⟩
/-- A row that is put and dropped again leaves all as it was. -/
theorem del_ins {L : List Tr} (h : Wf L) {r : Tr} (hn : hasB L r.p r.s = false) : del (ins r L) r.p r.s = L := by
  have hne : ∀ x ∈ L, ¬ (x.p = r.p ∧ x.s = r.s) := fun x hx he => by have := hasB_iff.2 ⟨x, hx, he⟩; rw [hn] at this; cases this
  refine eq_of_ord ((ord_ins h.ord hne).sublist List.filter_sublist) h.ord (fun x => ?_)
  rw [mem_del, mem_ins]
  constructor
  · rintro ⟨rfl | hx, hd⟩
    · exact (hd ⟨rfl, rfl⟩).elim
    · exact hx
  · exact fun hx => ⟨.inr hx, hne x hx⟩
/-- A place's row. -/
def rowOf (L : List Tr) (p s : Int) : Tr := (L.find? (atB p s)).getD ⟨p, s, 0, 0⟩
theorem rowOf_yes {L : List Tr} {p s : Int} (h : hasB L p s = true) : rowOf L p s ∈ L ∧ (rowOf L p s).p = p ∧ (rowOf L p s).s = s := by
  unfold rowOf
  cases hf : L.find? (atB p s) with
  | none =>
    obtain ⟨x, hx, he⟩ := hasB_iff.1 h
    have := List.find?_eq_none.1 hf x hx
    exact absurd (atB_iff.2 he) this
  | some r => exact ⟨List.mem_of_find?_eq_some hf, atB_iff.1 (List.find?_some hf)⟩
theorem rowOf_no {L : List Tr} {p s : Int} (h : hasB L p s = false) : rowOf L p s = ⟨p, s, 0, 0⟩ := by
  unfold rowOf
  cases hf : L.find? (atB p s) with
  | none => rfl
  | some r =>
    have := hasB_iff.2 ⟨r, List.mem_of_find?_eq_some hf, atB_iff.1 (List.find?_some hf)⟩
    rw [h] at this; cases this
theorem rowOf_is {L : List Tr} (h : Wf L) {r : Tr} (hr : r ∈ L) : rowOf L r.p r.s = r := by
  obtain ⟨h1, h2, h3⟩ := rowOf_yes (hasB_iff.2 ⟨r, hr, rfl, rfl⟩)
  exact h.uniq h1 hr h2 h3

/-! ### Calls -/
def putE (L : List Tr) (r : Tr) : Int := if r.ok then (if hasB L r.p r.s then 15 else 0) else 11
def putL (L : List Tr) (r : Tr) : List Tr := if r.ok then (if hasB L r.p r.s then L else ins r L) else L
def dropE (L : List Tr) (p s : Int) : Int := if hasB L p s then 0 else 16
def movE (L : List Tr) (p s : Int) (r : Tr) : Int := if r.ok then (if hasB L p s then (if (!(r.p == p && r.s == s)) && hasB L r.p r.s then 15 else 0) else 16) else 11
def movL (L : List Tr) (p s : Int) (r : Tr) : List Tr := if r.ok then (if hasB L p s then (if (!(r.p == p && r.s == s)) && hasB L r.p r.s then L else ins r (del L p s)) else L) else L
theorem mov_free {L : List Tr} {p s : Int} {r : Tr} (h : ((!(r.p == p && r.s == s)) && hasB L r.p r.s) = false) : hasB (del L p s) r.p r.s = false := by
  rw [has_del]
  cases h1 : hasB L r.p r.s <;> cases h2 : (r.p == p && r.s == s) <;> simp_all
theorem put_wf {L : List Tr} (h : Wf L) (r : Tr) : Wf (putL L r) := by
  unfold putL
  split
  · split
    · exact h
    · rename_i h1 h2; exact h.ins h1 (by simpa using h2)
  · exact h
theorem mov_wf {L : List Tr} (h : Wf L) (p s : Int) (r : Tr) : Wf (movL L p s r) := by
  unfold movL
  split
  · split
    · split
      · exact h
      · rename_i h1 h2 h3; exact (h.del p s).ins h1 (mov_free (by simpa using h3))
    · exact h
  · exact h
/-- Call number i: what is left. -/
def doL (L : List Tr) (c : Int) (r : Tr) (p2 s2 : Int) : List Tr := if c = 0 then putL L r else if c = 1 then del L r.p r.s else if c = 2 then movL L r.p r.s ⟨p2, s2, r.k, r.z⟩ else L
theorem do_wf {L : List Tr} (h : Wf L) (c : Int) (r : Tr) (p2 s2 : Int) : Wf (doL L c r p2 s2) := by
  unfold doL
  split
  · exact put_wf h r
  · split
    · exact h.del _ _
    · split
      · exact mov_wf h _ _ _
      · exact h

/-! ### Counts and sums -/
def bytes (L : List Tr) : Int := (L.map (·.z)).sum
theorem bytes_perm {A B : List Tr} (h : A.Perm B) : bytes A = bytes B := by
  unfold bytes
  induction h with
  | nil => rfl
  | cons x _ ih => simp [ih]
  | swap x y l => simp; omega
  | trans _ _ ih1 ih2 => exact ih1.trans ih2
theorem bytes_snoc (A : List Tr) (r : Tr) : bytes (A ++ [r]) = bytes A + r.z := by unfold bytes; simp
theorem bytes_bd : ∀ {L : List Tr}, (∀ r ∈ L, r.ok = true) → 0 ≤ bytes L ∧ bytes L ≤ 1099511627776 * L.length
  | [], _ => by simp [bytes]
  | r :: L, h => by
    have ih := bytes_bd (L := L) (fun x hx => h x (List.mem_cons_of_mem _ hx))
    have hr := (Tr.ok_bd (h r (List.mem_cons_self ..))).2
    have e : bytes (r :: L) = r.z + bytes L := by unfold bytes; simp
    rw [e, List.length_cons]
    omega
def isT (k z : Int) (r : Tr) : Bool := r.k == k && r.z == z
def same (L : List Tr) (k z : Int) : Nat := L.countP (isT k z)
def ofW (L : List Tr) (k : Int) : List Tr := L.filter fun r => r.k == k
def inP (L : List Tr) (p : Int) : List Tr := L.filter fun r => r.p == p
theorem has_in {L : List Tr} (p s : Int) : hasB L p s = (inP L p).any fun r => r.s == s := by
  unfold hasB inP
  rw [List.any_filter]
  rfl
end Go.Proofs.Ytbgacchbldgaeaa
