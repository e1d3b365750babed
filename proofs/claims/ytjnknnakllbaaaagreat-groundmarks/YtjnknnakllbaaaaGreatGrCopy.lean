/-
  How a clone's spans are laid anew: facts and a contract that the claimed proofs use.
-/
import Derived.Test.YtjnknnakllbaaaaGreatGrNew
import Derived.Test.YtjnknnakllbaaaaGreatSpPages
namespace Go.Proofs.YtjnknnakllbaaaaGreat.Gr
set_option maxRecDepth 100000
open Go.RowKit

def tr (r : Sp.Rn) : Sp.Rn := ⟨r.p, r.n, true⟩
theorem chain_tr : ∀ {L : List Sp.Rn} {a e : Int}, Sp.Chain a L e → Sp.Chain a (L.map tr) e
  | [], _, _, h => h
  | r :: L, _, _, h => ⟨h.1, h.2.1, chain_tr h.2.2⟩
/-- Where the i-th run begins. -/
def ps (N : Int) (L : List Sp.Rn) (i : Nat) : Int := if i < L.length then (Sp.el L i).p else N
/-- The first i runs are taken, the rest is one free run. -/
def Tk (N : Int) (L : List Sp.Rn) (i : Nat) : List Sp.Rn := (L.take i).map tr ++ (if ps N L i = N then [] else [⟨ps N L i, N - ps N L i, false⟩])
/-- All runs are taken, but that the first i ones are as they were. -/
def Gv (L : List Sp.Rn) (i : Nat) : List Sp.Rn := L.take i ++ (L.drop i).map tr
section
variable {N : Int} {L : List Sp.Rn}
theorem tk_zero (h : Sp.WF N L) (h0 : 0 ≤ N) : Tk N L 0 = Sp.newL N := by
  unfold Tk
  have e : ps N L 0 = 0 := by
    unfold ps
    cases L with
    | nil => have : (0 : Int) = N := h.chain; simp; omega
    | cons r L => rw [if_pos (by simp)]; exact h.chain.1
  rw [e]
  unfold Sp.newL
  by_cases hN : N = 0
  · subst hN; simp [Sp.ne]
  · rw [if_neg (by omega)]
    have : Sp.ne ⟨0, N, false⟩ = true := by simp [Sp.ne]; exact hN
    rw [List.filter_cons_of_pos this]; simp
theorem tk_len : Tk N L L.length = L.map tr := by
  have e : ps N L L.length = N := by unfold ps; rw [if_neg (by omega)]
  unfold Tk
  rw [e, if_pos rfl]; simp
theorem gv_zero : Gv L 0 = L.map tr := by simp [Gv]
theorem gv_len : Gv L L.length = L := by simp [Gv]
theorem ps_succ (h : Sp.WF N L) {i : Nat} (hi : i < L.length) : ps N L (i + 1) = (Sp.el L i).p + (Sp.el L i).n := by
  unfold ps
  by_cases h1 : i + 1 < L.length
  · rw [if_pos h1]; exact Sp.next_at h.chain h1
  · rw [if_neg h1]; exact (Sp.last_at h.chain (by omega)).symm
theorem up_id (n : Int) : Sp.up n 1 = n := by unfold Sp.up; omega
theorem tk_step (h : Sp.WF N L) {i : Nat} (hi : i < L.length) (hN : N ≤ 4096) : Sp.tkL (Tk N L i) (Sp.el L i).n 1 = Tk N L (i + 1) := by
  obtain ⟨A, B, e, hl, c1, c2, c3, _, _, _⟩ := h.cut hi
  have hps : ps N L i = (Sp.el L i).p := by unfold ps; rw [if_pos hi]
  have hbd := Sp.chain_at h.chain hi
  have hA : L.take i = A := by rw [e, ← hl]; simp
  have e2 := ps_succ h hi
  have ht1 : L.take (i + 1) = A ++ [Sp.el L i] := by
    rw [List.take_succ_eq_append_getElem hi, hA]
    have := Sp.el_get hi
    rw [List.getElem?_eq_getElem hi] at this
    rw [← Option.some.inj this]
  have hT : Tk N L i = A.map tr ++ ⟨(Sp.el L i).p, N - (Sp.el L i).p, false⟩ :: [] := by unfold Tk; rw [hps, hA, if_neg (by omega)]
  have hT' : Tk N L (i + 1) = A.map tr ++ ((tr (Sp.el L i)) :: (if (Sp.el L i).p + (Sp.el L i).n = N then [] else [⟨(Sp.el L i).p + (Sp.el L i).n, N - ((Sp.el L i).p + (Sp.el L i).n), false⟩])) := by
    unfold Tk; rw [e2, ht1]; simp
  have hlA : (A.map tr).length = i := by rw [List.length_map]; exact hl
  rw [hT, hT']
  have htr : tr (Sp.el L i) = ⟨(Sp.el L i).p, (Sp.el L i).n, true⟩ := rfl
  rw [htr]
  generalize Sp.el L i = r at *
  obtain ⟨p, n, t⟩ := r
  dsimp only at *
  have hask : Sp.askB n 1 = true := by unfold Sp.askB; simp; exact ⟨by omega, by decide⟩
  have hel : Sp.el (A.map tr ++ ⟨p, N - p, false⟩ :: []) i = ⟨p, N - p, false⟩ := by rw [← hlA]; exact Sp.el_mid _ _ _
  have hlen : (A.map tr ++ (⟨p, N - p, false⟩ : Sp.Rn) :: []).length = i + 1 := by rw [List.length_append, hlA]; rfl
  have hb : Sp.bst n 1 (A.map tr ++ ⟨p, N - p, false⟩ :: []) (i + 1) = i := by
    have hfi : Sp.fit n 1 ⟨p, N - p, false⟩ = true := by unfold Sp.fit; rw [up_id]; simp; omega
    have hft : ∀ j, j < i → Sp.fit n 1 (Sp.el (A.map tr ++ ⟨p, N - p, false⟩ :: []) j) = false := fun j hj => by
      have : Sp.el (A.map tr ++ (⟨p, N - p, false⟩ : Sp.Rn) :: []) j = tr (Sp.el A j) := Sp.el_is (by
        rw [List.getElem?_append_left (by rw [hlA]; exact hj), List.getElem?_map, Sp.el_get (by rw [hl]; exact hj)]; rfl)
      rw [this]; rfl
    rcases Sp.bst_is n 1 (A.map tr ++ ⟨p, N - p, false⟩ :: []) (i + 1) with ⟨_, hno⟩ | ⟨k, hk, hlt, hf⟩
    · have := hno i (by omega); rw [hel, hfi] at this; cases this
    · rcases Nat.lt_or_ge k i with h1 | h1
      · rw [hft k h1] at hf; cases hf
      · rw [hk, show k = i by omega]
  have hTk : Sp.tkL (A.map tr ++ ⟨p, N - p, false⟩ :: []) n 1 = Sp.takeL (A.map tr ++ ⟨p, N - p, false⟩ :: []) i p n := by
    unfold Sp.tkL
    rw [if_pos hask, hlen, hb, if_neg (by omega), Int.toNat_natCast, hel, up_id]
  rw [hTk]
  have := Sp.takeL_mid (A := A.map tr) (B := []) (u := p) (n := n) (chain_tr c1) (show Sp.Chain 0 [] 0 from rfl) ⟨p, N - p, false⟩ rfl (by omega)
  rw [hlA] at this
  rw [this]
  unfold Sp.mid
  dsimp only
  rw [if_pos (by omega)]
  by_cases hz : p + n = N
  · rw [if_pos (by omega), if_pos hz]; rfl
  · rw [if_neg (by omega), if_neg hz]
    have e3 : p + (N - p) - (p + n) = N - (p + n) := by omega
    rw [e3]; rfl
theorem gv_el {i : Nat} (hi : i < L.length) : Sp.el (Gv L i) i = tr (Sp.el L i) := Sp.el_is (by
  unfold Gv
  rw [List.getElem?_append_right (by simp; omega), List.getElem?_map, List.getElem?_drop]
  have e : i + (i - (L.take i).length) = i := by simp; omega
  rw [e, Sp.el_get hi]; rfl)
theorem gv_length (i : Nat) : (Gv L i).length = L.length := by unfold Gv; simp; omega
theorem gv_cut {i : Nat} (hi : i < L.length) : Gv L i = L.take i ++ tr (Sp.el L i) :: (L.drop (i + 1)).map tr ∧ Gv L (i + 1) = L.take i ++ Sp.el L i :: (L.drop (i + 1)).map tr := by
  have e : L[i] = Sp.el L i := by have := Sp.el_get hi; rw [List.getElem?_eq_getElem hi] at this; exact Option.some.inj this
  constructor
  · unfold Gv; rw [List.drop_eq_getElem_cons hi, List.map_cons, e]
  · unfold Gv; rw [List.take_succ_eq_append_getElem hi, e]; simp
theorem gv_skip {i : Nat} (hi : i < L.length) (ht : (Sp.el L i).t = true) : Gv L (i + 1) = Gv L i := by
  obtain ⟨h1, h2⟩ := gv_cut hi
  rw [h1, h2]
  congr 2
  unfold tr; rw [← ht]
theorem gv_step (h : Sp.WF N L) {i : Nat} (hi : i < L.length) (ht : (Sp.el L i).t = false) : Sp.giveL (Gv L i) i = Gv L (i + 1) := by
  obtain ⟨h1, h2⟩ := gv_cut hi
  obtain ⟨A, B, e, hl, c1, c2, c3, a1, a2, a3⟩ := h.cut hi
  have hA : L.take i = A := by rw [e, ← hl]; simp
  have hB : L.drop (i + 1) = B := by
    conv => lhs; rw [e]
    rw [← hl, List.drop_append]; simp
  rw [h1, h2, hA, hB]
  have hbk : Sp.bk A = (A, 0) := by
    rcases List.eq_nil_or_concat A with rfl | ⟨A0, x, rfl⟩
    · rfl
    · simp only [List.concat_eq_append] at *
      rw [Sp.bk_snoc, if_neg]
      intro hx
      have : Sp.lf false (A0 ++ [x]) = true := by rw [Sp.lf_app]; simp [Sp.lf, hx]
      have := a2 this
      rw [ht] at this; cases this
  have hfw : Sp.fw (B.map tr) = (B.map tr, 0) := by cases B <;> rfl
  have := Sp.giveL_is A (B.map tr) (tr (Sp.el L i)) c1 (by show 1 ≤ (Sp.el L i).n; exact c3) rfl (chain_tr c2)
  rw [hl, hbk, hfw] at this
  rw [this]
  have er : (⟨(tr (Sp.el L i)).p - (A, (0 : Int)).2, (A, (0 : Int)).2 + (tr (Sp.el L i)).n + (B.map tr, (0 : Int)).2, false⟩ : Sp.Rn) = Sp.el L i := by
    generalize Sp.el L i = r at *
    obtain ⟨p, n, t⟩ := r
    dsimp only at ht
    subst ht
    simp [tr]
  rw [er]
end
end Go.Proofs.YtjnknnakllbaaaaGreat.Gr
