/-
  Slots that are taken from the outset, no program in sight; copies of lists: facts and a contract that the claimed proofs use.
-/
import Derived.Test.YtiemgeflkmbfoaaDoorOsInts
namespace Go.Proofs.YtiemgeflkmbfoaaDoor.Os
set_option maxRecDepth 100000
open Go.RowKit
open Ta (sz szs classB classB_iff classB_not sizeOf' slotsOf)
open Bi (sets bt on first setL setB tst hasB up_alloc up_trans)

theorem setB_true {l : List Bool} {x : Int} (h : setB l x true = true) : ∃ k : Nat, x = k ∧ k < l.length ∧ bt l k = false ∧ setL l x true = l.set k true := by
  unfold setB at h
  rw [Bool.and_eq_true] at h
  obtain ⟨h0, h1⟩ := Bi.hasB_iff.1 h.1
  obtain ⟨k, rfl⟩ := Int.eq_ofNat_of_zero_le h0
  refine ⟨k, rfl, by omega, ?_, setL_nat (by omega) true⟩
  have := h.2
  rw [Int.toNat_natCast] at this
  unfold bt
  simpa using this
theorem wi_facts : ∀ (xs : List Int) (l : List Bool), wiB l xs = true → (∀ j, bt l j = true → bt (wiS l xs) j = true) ∧ (∀ x ∈ xs, ∃ k : Nat, x = k ∧ k < l.length ∧ bt (wiS l xs) k = true) ∧ (sets (wiS l xs)).length = (sets l).length + xs.length
  | [], l, _ => ⟨fun _ h => h, fun x h => (List.not_mem_nil h).elim, rfl⟩
  | x :: r, l, h => by
    rw [wiB, Bool.and_eq_true] at h
    obtain ⟨k, rfl, hk, hb, hs⟩ := setB_true h.1
    have h2 := h.2
    rw [hs] at h2
    obtain ⟨i1, i2, i3⟩ := wi_facts r _ h2
    rw [wiS, hs]
    have hbk : bt (l.set k true) k = true := by rw [bt_set true hk, if_pos rfl]
    refine ⟨fun j hj => i1 j ?_, fun y hy => ?_, ?_⟩
    · rw [bt_set true hk]; split
      · rfl
      · exact hj
    · rcases List.mem_cons.1 hy with rfl | hy
      · exact ⟨k, rfl, hk, i1 k hbk⟩
      · obtain ⟨m, e1, e2, e3⟩ := i2 y hy
        rw [List.length_set] at e2
        exact ⟨m, e1, e2, e3⟩
    · rw [i3, List.length_cons]
      have := sets_set hk true
      rw [hb] at this
      simp at this
      omega
theorem wi_nats : ∀ (ys : List Nat) (l : List Bool), ys.Nodup → (∀ y ∈ ys, y < l.length ∧ bt l y = false) → wiB l (nats ys) = true ∧ ∀ j, bt (wiS l (nats ys)) j = (bt l j || decide (j ∈ ys))
  | [], l, _, _ => ⟨rfl, fun j => by show bt l j = _; simp⟩
  | y :: r, l, hn, h => by
    obtain ⟨hy, hb⟩ := h y (List.mem_cons_self ..)
    have hs : setB l (y : Int) true = true := by
      unfold setB; rw [Bi.hasB_iff.2 (by omega), Int.toNat_natCast]
      unfold bt at hb; rw [hb]; rfl
    have e : setL l (y : Int) true = l.set y true := setL_nat hy true
    obtain ⟨hn1, hn2⟩ := List.nodup_cons.1 hn
    obtain ⟨i1, i2⟩ := wi_nats r (l.set y true) hn2 (fun z hz => by
      obtain ⟨a, b⟩ := h z (List.mem_cons_of_mem _ hz)
      refine ⟨by rw [List.length_set]; exact a, ?_⟩
      rw [bt_set true hy, if_neg (fun e' : z = y => hn1 (e' ▸ hz))]; exact b)
    refine ⟨?_, fun j => ?_⟩
    · show (setB l (y : Int) true && wiB (setL l (y : Int) true) (nats r)) = true
      rw [hs, e, i1]; rfl
    · show bt (wiS (setL l (y : Int) true) (nats r)) j = _
      rw [e, i2, bt_set true hy]
      by_cases hj : j = y
      · subst hj; simp
      · rw [if_neg hj]; simp [hj]
theorem l0_bt (c : Int) (j : Nat) : bt (l0 c) j = false := by
  unfold bt l0; rw [List.getD_eq_getElem?_getD, List.getElem?_replicate]; split <;> rfl
theorem sets_l0 (c : Int) : (sets (l0 c)).length = 0 := by rw [sets_count]; unfold l0; rw [List.count_replicate]; rfl
theorem sets_mem {l : List Bool} {j : Nat} : j ∈ sets l ↔ bt l j = true := by
  unfold sets
  rw [Bi.mem_on]
  constructor
  · exact fun h => h.2
  · intro h
    refine ⟨?_, h⟩
    apply Classical.byContradiction
    intro hh
    rw [Bi.bt_beyond (by omega)] at h
    cases h
/-- What Taken tells makes the same slab again. -/
theorem wi_again {l : List Bool} {c : Int} (h : l.length = nS c) : wiB (l0 c) (nats (sets l)) = true ∧ wiS (l0 c) (nats (sets l)) = l := by
  obtain ⟨h1, h2⟩ := wi_nats (sets l) (l0 c) (List.nodup_range.filter _) (fun y hy => by
    have := sets_mem.1 hy
    refine ⟨?_, l0_bt c y⟩
    rw [l0_len]
    apply Classical.byContradiction
    intro hh
    rw [Bi.bt_beyond (by omega)] at this
    cases this)
  refine ⟨h1, bt_ext (by rw [wiS_len, l0_len, h]) fun j _ => ?_⟩
  rw [h2, l0_bt, Bool.false_or]
  cases hb : bt l j
  · simp only [decide_eq_false_iff_not]
    intro hm; rw [sets_mem.1 hm] at hb; cases hb
  · simp only [decide_eq_true_eq]; exact sets_mem.2 hb
theorem sets_inj {a b : List Bool} (hl : a.length = b.length) : sets a = sets b ↔ a = b := by
  constructor
  · intro h
    refine bt_ext hl fun j _ => ?_
    have : bt a j = true ↔ bt b j = true := by rw [← sets_mem, ← sets_mem, h]
    cases ha : bt a j <;> cases hb : bt b j <;> simp [ha, hb] at this ⊢
  · intro h; rw [h]
theorem at_ia {B : Nat} {w : World} {A : Option Addr} {xs : List Int} (h : IA B w A xs) : At B w A (ints xs) := fun hp => by
  rw [ints_len] at hp
  obtain ⟨g, o, e, h1, h2⟩ := h hp
  refine ⟨g, o, e, h1, fun j v hj => ?_⟩
  have hl : j < xs.length := by have := (List.getElem?_eq_some_iff.1 hj).1; rwa [ints_len] at this
  rw [ints_getD hl] at hj
  rw [h2 j hl]; exact hj
/-- A list that came in. -/
structure In (w : World) (A : Option Addr) (n cap : Nat) (xs : List Int) : Prop where
  ia : IA w.heap.size w A xs
  len : xs.length = n
  nil : A = none → n = 0 ∧ cap = 0
  i64 : ∀ x ∈ xs, I64 x
theorem In.up {w w' : World} {A : Option Addr} {n cap : Nat} {xs : List Int} (h : In w A n cap xs) (hb : Below w.heap.size w w') : In w' A n cap xs := ⟨(h.ia.below hb).more hb.size, h.len, h.nil, h.i64⟩
theorem copyints_any (w : World) (A : Option Addr) (n cap : Nat) (xs : List Int) (h : In w A n cap xs) (hn : n ≤ 4194304) : Calls Tryd.prog 10 #[.slice A n cap] w fun e w' =>
    ∃ g cap', e = .returned (.slice (some ⟨g, 0, none⟩) n cap') ∧ At w'.heap.size w' (some ⟨g, 0, none⟩) (ints xs) ∧ w.heap.size ≤ g ∧ Below w.heap.size w w' := by
  have HI := Lib.hid (h.ia.below (up_alloc (Below.refl _ w) (.cells #[] 3)))
  have HL := Lib.hid h.len
  have HN := Lib.hid h.nil
  have OE := Lib.hid (iown_empty w)
  have hsz : w.heap.size ≤ (w.alloc (.cells #[] 3)).heap.size := (up_alloc (Below.refl _ w) (.cells #[] 3)).size
  have HB := Lib.hid (up_alloc (Below.refl _ w) (.cells #[] 3))
  clear h
  go_enter Tryd.func10, Tryd.ntmps10
  go_wp2_with (at_builtin; refine list_app0 rfl _ _ rfl w.heap.size w.heap.size 0 n cap w.heap.size xs A rfl OE.out rfl HL.out HN.out HI.out hn hsz ?_; intro g5 cap5 w5 O5 B5 G5)
  go_ret
  exact ⟨g5, cap5, rfl, own_at O5.out, Bi.own_base O5.out _ rfl, HB.out.trans B5.out⟩
end Go.Proofs.YtiemgeflkmbfoaaDoor.Os
