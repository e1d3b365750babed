/-
  A slab as a plain list of bits, no program in sight: facts that the claimed proofs use.
-/
import Derived.Test.YtiemgeflkmbfoaaDoorBiFirst
import Derived.Test.YtiemgeflkmbfoaaDoorTaBase
namespace Go.Proofs.YtiemgeflkmbfoaaDoor.Os
set_option maxRecDepth 100000
open Ta (sz szs classB classB_iff classB_not sizeOf' slotsOf)
open Bi (sets bt on first setL setB tst hasB)

/-- May a slab begin there? -/
def baseB (b : Int) : Bool := decide (0 ≤ b ∧ b ≤ 1047552 ∧ b % 1024 = 0)
theorem baseB_iff {b : Int} : baseB b = true ↔ 0 ≤ b ∧ b ≤ 1047552 ∧ b % 1024 = 0 := by simp [baseB]
theorem baseB_not {b : Int} : baseB b = false ↔ ¬ (0 ≤ b ∧ b ≤ 1047552 ∧ b % 1024 = 0) := by simp only [baseB, decide_eq_false_iff_not]
/-- How many slots a class has. -/
def nS (c : Int) : Nat := (slotsOf c).toNat
theorem cls_nat : ∀ k, k < 16 → 16 ≤ sz k ∧ sz k ≤ 512 ∧ 2 ≤ (1024 / sz k) ∧ (1024 / sz k) ≤ 64 ∧ (1024 / sz k) * sz k ≤ 1024 := by decide +kernel
theorem cls {c : Int} (h : classB c = true) : 16 ≤ sizeOf' c ∧ sizeOf' c ≤ 512 ∧ 2 ≤ nS c ∧ nS c ≤ 64 ∧ (nS c : Int) * sizeOf' c ≤ 1024 ∧ slotsOf c = nS c ∧ (nS c : Int) = 1024 / sizeOf' c := by
  obtain ⟨h0, h1⟩ := classB_iff.1 h
  obtain ⟨k, rfl⟩ := Int.eq_ofNat_of_zero_le h0
  have := cls_nat k (by omega)
  unfold nS
  rw [Ta.sizeOf_nat (by omega), Ta.slotsOf_nat (by omega)]
  generalize 1024 / sz k = m at this ⊢
  obtain ⟨M, rfl⟩ := Int.eq_ofNat_of_zero_le (show 0 ≤ m by omega)
  refine ⟨by omega, by omega, by omega, by omega, ?_, by omega, by omega⟩
  simpa using this.2.2.2.2
/-! ### Places -/
def slotI (n : Nat) (b z x : Int) : Int := if (x - b) % z = 0 ∧ 0 ≤ (x - b) / z ∧ (x - b) / z < n then (x - b) / z else -1
theorem slot_at {n k : Nat} {b z : Int} (hz : 0 < z) (hk : k < n) : slotI n b z (b + k * z) = k := by
  unfold slotI
  have e : b + k * z - b = k * z := by omega
  rw [e, Int.mul_ediv_cancel _ (by omega), Int.mul_emod_left, if_pos (by omega)]
theorem slot_is {n : Nat} {b z : Int} (x : Int) (hz : 0 < z) : (slotI n b z x = -1 ∧ ∀ k : Nat, k < n → b + k * z ≠ x) ∨ ∃ k : Nat, k < n ∧ slotI n b z x = k ∧ x = b + k * z := by
  by_cases h : (x - b) % z = 0 ∧ 0 ≤ (x - b) / z ∧ (x - b) / z < n
  · right
    obtain ⟨k, hk⟩ := Int.eq_ofNat_of_zero_le h.2.1
    have h3 := Int.mul_ediv_add_emod (x - b) z
    rw [h.1, hk, Int.mul_comm] at h3
    refine ⟨k, by omega, by unfold slotI; rw [if_pos h, hk], by omega⟩
  · left
    refine ⟨by unfold slotI; rw [if_neg h], fun k hk e => h ?_⟩
    have e1 : x - b = k * z := by omega
    rw [e1, Int.mul_emod_left, Int.mul_ediv_cancel _ (by omega)]
    omega
/-! ### What is taken and given -/
def tkI (l : List Bool) : Int := first l 0 false
def tkV (b z : Int) (l : List Bool) : Int := if tkI l < 0 then -1 else b + tkI l * z
def tkE (l : List Bool) : Int := if tkI l < 0 then 18 else 0
def tkL (l : List Bool) : List Bool := if tkI l < 0 then l else setL l (tkI l) true
def gvI (b z : Int) (l : List Bool) (x : Int) : Int := slotI l.length b z x
def gvE (b z : Int) (l : List Bool) (x : Int) : Int := if gvI b z l x < 0 then 12 else if tst l (gvI b z l x) = false then 19 else 0
def gvL (b z : Int) (l : List Bool) (x : Int) : List Bool := if gvE b z l x = 0 then setL l (gvI b z l x) false else l
theorem tkL_len (l : List Bool) : (tkL l).length = l.length := by unfold tkL; split <;> simp [Bi.setL_length]
theorem gvL_len (b z : Int) (l : List Bool) (x : Int) : (gvL b z l x).length = l.length := by unfold gvL; split <;> simp [Bi.setL_length]
/-- All of them, one after the other. -/
def gaE (b z : Int) : List Bool → List Int → Int
  | _, [] => 0
  | l, x :: r => if gvE b z l x = 0 then gaE b z (gvL b z l x) r else gvE b z l x
def gaS (b z : Int) : List Bool → List Int → List Bool
  | l, [] => l
  | l, x :: r => gaS b z (gvL b z l x) r
def gaL (b z : Int) (l : List Bool) (xs : List Int) : List Bool := if gaE b z l xs = 0 then gaS b z l xs else l
def smO (b z : Int) : List Bool → Nat → List Int
  | _, 0 => []
  | l, m + 1 => tkV b z l :: smO b z (tkL l) m
def smS : List Bool → Nat → List Bool
  | l, 0 => l
  | l, m + 1 => smS (tkL l) m
theorem smO_len (b z : Int) : ∀ (l : List Bool) (m : Nat), (smO b z l m).length = m
  | _, 0 => rfl
  | l, m + 1 => by rw [smO, List.length_cons, smO_len b z (tkL l) m]
theorem smS_len : ∀ (l : List Bool) (m : Nat), (smS l m).length = l.length
  | _, 0 => rfl
  | l, m + 1 => by rw [smS, smS_len, tkL_len]
theorem gaS_len (b z : Int) : ∀ (l : List Bool) (xs : List Int), (gaS b z l xs).length = l.length
  | _, [] => rfl
  | l, x :: r => by rw [gaS, gaS_len, gvL_len]
theorem gaL_len (b z : Int) (l : List Bool) (xs : List Int) : (gaL b z l xs).length = l.length := by unfold gaL; split <;> simp [gaS_len]
/-- Slots that are taken from the outset. -/
def wiB : List Bool → List Int → Bool
  | _, [] => true
  | l, x :: r => setB l x true && wiB (setL l x true) r
def wiS : List Bool → List Int → List Bool
  | l, [] => l
  | l, x :: r => wiS (setL l x true) r
theorem wiS_len : ∀ (l : List Bool) (xs : List Int), (wiS l xs).length = l.length
  | _, [] => rfl
  | l, x :: r => by rw [wiS, wiS_len, Bi.setL_length]
/-! ### How many are free -/
def fr (l : List Bool) : Nat := l.length - (sets l).length
theorem sets_count (l : List Bool) : (sets l).length = l.count true := by
  have h : ∀ k, k ≤ l.length → (on (bt l) k).length = (l.take k).count true := by
    intro k
    induction k with
    | zero => intro _; rfl
    | succ k ih =>
      intro hk
      rw [Bi.on_succ, List.length_append, ih (by omega), List.take_succ_eq_append_getElem (by omega), List.count_append]
      congr 1
      have : bt l k = l[k] := by unfold bt; rw [List.getD_eq_getElem?_getD, List.getElem?_eq_getElem (by omega)]; rfl
      rw [this]
      cases l[k] <;> rfl
  have := h l.length (Nat.le_refl _)
  rwa [List.take_length] at this
theorem count_set {l : List Bool} {k : Nat} (hk : k < l.length) (b : Bool) : (l.set k b).count true + (if bt l k = true then 1 else 0) = l.count true + (if b = true then 1 else 0) := by
  have e : bt l k = l[k] := by unfold bt; rw [List.getD_eq_getElem?_getD, List.getElem?_eq_getElem hk]; rfl
  rw [e, List.count_set hk]
  have h1 : 0 < l.count true ∨ l[k] = false := by
    cases h : l[k]
    · exact .inr rfl
    · left; exact List.count_pos_iff.2 (h ▸ List.getElem_mem hk)
  generalize l.count true = M at h1 ⊢
  cases hb : l[k] <;> cases b <;> simp [hb] at h1 ⊢ <;> omega
theorem sets_set {l : List Bool} {k : Nat} (hk : k < l.length) (b : Bool) : (sets (l.set k b)).length + (if bt l k = true then 1 else 0) = (sets l).length + (if b = true then 1 else 0) := by
  rw [sets_count, sets_count]; exact count_set hk b
theorem tk_is (l : List Bool) : (tkI l = -1 ∧ ∀ k, k < l.length → bt l k = true) ∨ ∃ k : Nat, tkI l = k ∧ k < l.length ∧ bt l k = false ∧ ∀ j, j < k → bt l j = true := by
  rcases Bi.isFirst_first l 0 false with ⟨h, h2⟩ | ⟨k, h, _, h3, h4, h5⟩
  · exact .inl ⟨h, fun k hk => by have := h2 k (by omega) hk; simpa using this⟩
  · exact .inr ⟨k, h, h3, h4, fun j hj => by have := h5 j (by omega) hj; simpa using this⟩
theorem setL_nat {l : List Bool} {k : Nat} (hk : k < l.length) (b : Bool) : setL l (k : Int) b = l.set k b := by
  unfold setL; rw [if_pos (Bi.hasB_iff.2 (by omega)), Int.toNat_natCast]
theorem tk_no {l : List Bool} (h : tkI l < 0) : tkL l = l ∧ tkE l = 18 ∧ (∀ b z, tkV b z l = -1) ∧ fr l = 0 := by
  refine ⟨by unfold tkL; rw [if_pos h], by unfold tkE; rw [if_pos h], fun b z => by unfold tkV; rw [if_pos h], ?_⟩
  rcases tk_is l with ⟨_, h2⟩ | ⟨k, h2, _⟩
  · unfold fr
    have : sets l = List.range l.length := by
      unfold sets Bi.on
      exact List.filter_eq_self.2 (fun a ha => h2 a (List.mem_range.1 ha))
    rw [this, List.length_range]; omega
  · omega
theorem tk_yes {l : List Bool} (h : ¬ tkI l < 0) : ∃ k : Nat, tkI l = k ∧ k < l.length ∧ bt l k = false ∧ (∀ j, j < k → bt l j = true) ∧ tkL l = l.set k true ∧ tkE l = 0 ∧ (∀ b z, tkV b z l = b + k * z) ∧ fr l = fr (tkL l) + 1 := by
  rcases tk_is l with ⟨h2, _⟩ | ⟨k, h1, h2, h3, h4⟩
  · omega
  · have e : tkL l = l.set k true := by unfold tkL; rw [if_neg h, h1, setL_nat h2]
    refine ⟨k, h1, h2, h3, h4, e, by unfold tkE; rw [if_neg h], fun b z => by unfold tkV; rw [if_neg h, h1], ?_⟩
    have := sets_set h2 true
    rw [h3] at this
    have h5 := Bi.sets_length_le (l.set k true)
    rw [List.length_set] at h5
    unfold fr
    rw [e, List.length_set]
    simp at this
    omega
theorem fr_zero {l : List Bool} : fr l = 0 ↔ tkI l < 0 := by
  constructor
  · intro h
    apply Classical.byContradiction
    intro h2
    obtain ⟨_, _, _, _, _, _, _, _, h3⟩ := tk_yes h2
    omega
  · intro h; exact (tk_no h).2.2.2
theorem fr_le (l : List Bool) : fr l ≤ l.length := Nat.sub_le _ _
end Go.Proofs.YtiemgeflkmbfoaaDoor.Os
