/-
  Lists of places in memory, and that the sort puts them in order: contracts that the claimed proofs use.
-/
import Derived.Test.YtbgacchbldgaeaaSort
import Derived.Shelf.SlSortCmp.NoneTotal
namespace Go.Proofs.Ytbgacchbldgaeaa
open Go.Shelf Go.RowKit Go.Lib Go.Sort

def ltP (a b : Int × Int) : Prop := a.1 < b.1 ∨ a.1 = b.1 ∧ a.2 < b.2
def plc (r : Tr) : Int × Int := (r.p, r.s)
theorem ltP_irr {a : Int × Int} (h : ltP a a) : False := by unfold ltP at h; omega
theorem ltP_trans {a b c : Int × Int} (h : ltP a b) (h' : ltP b c) : ltP a c := by unfold ltP at *; omega
theorem ord_plc {L : List Tr} (h : L.Pairwise ltR) : (L.map plc).Pairwise ltP := by
  rw [List.pairwise_map]; exact h
theorem nodup_ltP : ∀ {L : List (Int × Int)}, L.Pairwise ltP → L.Nodup
  | [], _ => List.nodup_nil
  | r :: L, h => by
    obtain ⟨h1, h2⟩ := List.pairwise_cons.1 h
    exact List.nodup_cons.2 ⟨fun hm => ltP_irr (h1 r hm), nodup_ltP h2⟩
theorem eq_of_ltP : ∀ {A B : List (Int × Int)}, A.Pairwise ltP → B.Pairwise ltP → (∀ x, x ∈ A ↔ x ∈ B) → A = B
  | [], [], _, _, _ => rfl
  | [], b :: B, _, _, h => by have := (h b).2 (List.mem_cons_self ..); cases this
  | a :: A, [], _, _, h => by have := (h a).1 (List.mem_cons_self ..); cases this
  | a :: A, b :: B, hA, hB, h => by
    obtain ⟨a1, a2⟩ := List.pairwise_cons.1 hA
    obtain ⟨b1, b2⟩ := List.pairwise_cons.1 hB
    have e : a = b := by
      rcases List.mem_cons.1 ((h a).1 (List.mem_cons_self ..)) with e | e
      · exact e
      · rcases List.mem_cons.1 ((h b).2 (List.mem_cons_self ..)) with e' | e'
        · exact e'.symm
        · exact (ltP_irr (ltP_trans (b1 a e) (a1 b e'))).elim
    subst e
    rw [eq_of_ltP a2 b2 (fun x => ?_)]
    have hx := h x
    simp only [List.mem_cons] at hx
    constructor
    · intro hm
      rcases hx.1 (.inr hm) with rfl | h'
      · exact (ltP_irr (a1 x hm)).elim
      · exact h'
    · intro hm
      rcases hx.2 (.inr hm) with rfl | h'
      · exact (ltP_irr (b1 x hm)).elim
      · exact h'
/-- The cells of a list of places. -/
def flat (ps : List (Int × Int)) : List Value := ps.flatMap enc
theorem flat_len (ps : List (Int × Int)) : (flat ps).length = ps.length * 2 := by
  induction ps with
  | nil => rfl
  | cons a l ih =>
    have e : flat (a :: l) = .int .i64 a.1 :: .int .i64 a.2 :: flat l := rfl
    rw [e, List.length_cons, List.length_cons, ih, List.length_cons]; omega
theorem flat_snoc (ps : List (Int × Int)) (x : Int × Int) : flat (ps ++ [x]) = flat ps ++ [.int .i64 x.1, .int .i64 x.2] := by simp [flat, enc]
theorem flat_get : ∀ (ps : List (Int × Int)) (t : Nat), t < ps.length * 2 → (flat ps)[t]? = some ((enc ps.toArray[t / 2]!)[t % 2]!)
  | [], t, h => by simp at h
  | a :: l, 0, _ => by simp [flat, enc]
  | a :: l, 1, _ => by simp [flat, enc]
  | a :: l, t + 2, h => by
    have e : flat (a :: l) = .int .i64 a.1 :: .int .i64 a.2 :: flat l := rfl
    rw [e, List.getElem?_cons_succ, List.getElem?_cons_succ, flat_get l t (by simp at h; omega)]
    have e1 : (t + 2) / 2 = t / 2 + 1 := by omega
    have e2 : (t + 2) % 2 = t % 2 := by omega
    rw [e1, e2]
    have hl : t / 2 < l.length := by simp at h; omega
    simp [hl]
theorem flatK_eq (ps : List (Int × Int)) : (flatK enc 2 ps.toArray).toList = flat ps := by
  refine List.ext_getElem? fun t => ?_
  by_cases h : t < ps.length * 2
  · rw [flat_get ps t h]
    have hs : t < (flatK enc 2 ps.toArray).size := by simpa using h
    have := get_flatK enc 2 ps.toArray t (by simpa using h)
    rw [← this, Array.getElem?_toList, getElem!_pos _ t hs, Array.getElem?_eq_getElem hs]
  · rw [List.getElem?_eq_none (by simp; omega), List.getElem?_eq_none (by rw [flat_len]; omega)]
theorem take_get {cur : Array Value} {n : Nat} {xs : List Value} (h : cur.toList.take n = xs) {j : Nat} (hj : j < n) : cur[j]? = xs[j]? := by
  rw [← h, List.getElem?_take, if_pos hj, Array.getElem?_toList]
theorem put_heap {w : World} {g n : Nat} {cur : Array Value} {t : TypeId} (d : List (Int × Int)) (os : Array Obj) (hb : w.heap[g]? = some (.cells cur t (0, 0))) (hc : d.length * 2 ≤ cur.size) :
    ∃ cur', (sortWorldK enc 2 w g 0 n d.toArray os).heap[g]? = some (.cells cur' t (0, 0)) ∧ cur'.size = cur.size ∧ cur'.toList.take (d.length * 2) = flat d := by
  have hlt := (Array.getElem?_eq_some_iff.1 hb).1
  refine ⟨putCells id 0 (flatK enc 2 d.toArray) cur, ?_, by simp [putCells], ?_⟩
  · unfold sortWorldK grow putRowK putRow mapBlock Sort.ahead
    simp only []
    rw [Array.getElem?_append_left (by simpa using hlt), Array.getElem?_modify, if_pos rfl, hb]
    rfl
  · refine List.ext_getElem? fun j => ?_
    by_cases hj : j < d.length * 2
    · rw [List.getElem?_take, if_pos hj, Array.getElem?_toList, flat_get d j hj]
      unfold putCells
      rw [Array.getElem?_mapIdx, Array.getElem?_eq_getElem (by omega)]
      have hk : 0 ≤ j ∧ j < 0 + (flatK enc 2 d.toArray).size := by simp; omega
      have := get_flatK enc 2 d.toArray j (by simpa using hj)
      rw [Option.map_some, if_pos hk, Nat.sub_zero, this]; rfl
    · rw [List.getElem?_eq_none (by simp; omega), List.getElem?_eq_none (by rw [flat_len]; omega)]
theorem put_grown {w : World} {g n : Nat} (d : Array (Int × Int)) (os : Array Obj) : w.grownBy (sortWorldK enc 2 w g 0 n d os) (some g) := by
  refine ⟨rfl, rfl, rfl, ?_, fun k hk hne => ?_⟩
  · unfold sortWorldK grow putRowK putRow mapBlock Sort.ahead; simp
  · unfold sortWorldK grow putRowK putRow mapBlock Sort.ahead
    simp only []
    rw [Array.getElem?_append_left (by simpa using hk), Array.getElem?_modify, if_neg (fun e => hne (by rw [e]))]
theorem sorted_pw {d : Array (Int × Int)} (h : SortedIn (ltOf cf) 0 d.size d) (hn : d.toList.Nodup) : d.toList.Pairwise ltP := by
  rw [List.pairwise_iff_getElem]
  intro i j hi hj hij
  have hi' : i < d.size := by simpa using hi
  have hj' : j < d.size := by simpa using hj
  have h1 := h i j (Nat.zero_le _) hij hj'
  rw [cf_lt, getElem!_pos d i hi', getElem!_pos d j hj', decide_eq_false_iff_not] at h1
  rw [Array.getElem_toList, Array.getElem_toList]
  have hne : d[i] ≠ d[j] := fun e => by
    have := (List.getElem_inj (h₀ := hi) (h₁ := hj) hn).1 (by rw [Array.getElem_toList, Array.getElem_toList]; exact e)
    omega
  have hne2 : ¬ (d[i].1 = d[j].1 ∧ d[i].2 = d[j].2) := fun ⟨e1, e2⟩ => hne (Prod.ext e1 e2)
  unfold ltP
  omega
/-- A list of places of one's own, and how many. -/
abbrev Ps (w : World) (base : Nat) (v : Value) (ps : List (Int × Int)) : Prop := w.ownsRow base 24 2 v ps.length (flat ps)
/-- The sort at a list of places: they stand in order behind it. -/
theorem sort_own {base : Nat} {v : Value} {ps : List (Int × Int)} {K : List Tr} {w : World} (h : Ps w base v ps) (hp : ps.Perm (K.map plc)) (hK : K.Pairwise ltR) (hl : ps.length ≤ 524288) :
    Calls Try.prog 32 #[v, .func (.func 33) #[] #[]] w fun e w' => e = .returned (.tuple #[]) ∧ Ps w' base v (K.map plc) ∧ w.grownBy w' v.ownBlock := by
  obtain ⟨h0, h⟩ := h
  have hpl := hp.length_eq
  rcases h with ⟨rfl, hn⟩ | ⟨g, cap, cur, rfl, hb, hg, h1, h2, h3, h4⟩
  · have hps : ps = [] := List.length_eq_zero_iff.1 hn
    subst hps
    have e : K.map plc = [] := List.length_eq_zero_iff.1 (by rw [← hpl]; rfl)
    rw [e]
    refine (AnyF.slices_SortFunc_none sortPl none 0 (.func (.func 33) #[] #[]) w).mono ?_
    rintro e w' ⟨rfl, rfl⟩
    exact ⟨rfl, ⟨rfl, .inl ⟨rfl, rfl⟩⟩, grown_refl _ _⟩
  · have hH : HoldsK enc 2 w g 0 ps.toArray := fun j hj => by
      have hj' : j < ps.length * 2 := by simpa using hj
      refine ⟨?_, frozen_of_row w g (0 + j) cur 24 hg⟩
      rw [cell_of_row w g (0 + j) cur 24 (0, 0) hg, Nat.zero_add, take_get h4 hj', flat_get ps j hj']
      have := get_flatK enc 2 ps.toArray j (by simpa using hj')
      rw [this]; rfl
    have hc := sort_row g cap ps.toArray w hH (Array.getElem?_eq_some_iff.1 hg).1 (by simp; omega)
    simp only [List.size_toArray] at hc
    refine hc.mono ?_
    rintro e w' ⟨rfl, d', n, os, hP, hS, rfl⟩
    obtain ⟨s1, _, s3⟩ := hP
    have s1' : d'.size = ps.length := by simpa using s1
    have e1 : (d'.extract 0 ps.length).toList = d'.toList := by rw [← s1']; simp
    have e2 : (ps.toArray.extract 0 ps.length).toList = ps := by simp
    rw [e1, e2] at s3
    have hperm := s3.trans hp
    have hnd : d'.toList.Nodup := hperm.nodup_iff.2 (nodup_ltP (ord_plc hK))
    have hpw := sorted_pw (by rw [s1']; exact hS) hnd
    have he : d'.toList = K.map plc := eq_of_ltP hpw (ord_plc hK) (fun x => hperm.mem_iff)
    have hd : d' = (K.map plc).toArray := by rw [← he]
    rw [hd]
    obtain ⟨cur', k1, k2, k3⟩ := put_heap (n := n) (K.map plc) os hg (by rw [← hpl, h3]; exact Nat.mul_le_mul_right 2 h1)
    refine ⟨rfl, ⟨flat_len _, .inr ⟨g, cap, cur', by rw [← hpl], hb, k1, by rw [← hpl]; exact h1, h2, k2.trans h3, k3⟩⟩, put_grown _ _⟩
end Go.Proofs.Ytbgacchbldgaeaa
