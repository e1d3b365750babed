/-
  How lists that come in are read, with their capacities: lemmas that the claimed proof uses.
-/
import Derived.Test.YtaelfgdiboekpaaDoorNsCallsIn
namespace Go.Proofs.YtaelfgdiboekpaaDoor.Ns
set_option maxRecDepth 100000
open Go.ChangeShapes Go.WideShapes Go.ChangeAt Go.RowKit Go.Joins Go.Deep
open Ce (y BA)

theorem cap_of {H : Type} {enc : TypeId × Value → H} {W : World} {A : Option Addr} {n c : Nat} {x : DataW H × List MemPlace} {fuel : Nat} (hf : DataW.trod enc Tryd.prog W 0 (fun _ => true) true fuel 30 [.slice A n c] = some x) : n ≤ c := by
  rcases open_ints Tryd.underlying30 Tryd.underlying3 (by kernel_rfl) hf with ⟨hcs, _⟩ | ⟨a, len, cap, zs, hcs, _, hl, _⟩
  · simp only [List.cons.injEq, and_true, Value.slice.injEq] at hcs
    omega
  · simp only [List.cons.injEq, and_true, Value.slice.injEq] at hcs
    omega
/-- A call's four cells. -/
theorem call_of2 {H : Type} {enc : TypeId × Value → H} {W : World} {n : Nat} {cs : List Value} {x : DataW H × List MemPlace} (hl : cs.length = 4) (h2 : DataW.trod enc Tryd.prog W 0 (fun _ => true) true n 55 cs = some x) :
    ∃ X : Cl, cs = [.int .i64 X.x, .int .i64 X.a, .slice X.A X.n X.cap, .slice X.B X.m X.mcap] ∧ In W X.A X.n X.cap X.xs ∧ I64 X.a ∧ Ib W X.B X.m X.mcap X.ys ∧ X.n ≤ X.cap := by
  obtain ⟨v0, v1, v2, v3, k, y0, y1, y2, y3, rfl, g0, g1, g2, g3⟩ := four_trod Tryd.underlying55 rfl rfl rfl rfl (by kernel_rfl) (by kernel_rfl) (by kernel_rfl) (by kernel_rfl) hl h2
  obtain ⟨z0, e0, _, _⟩ := DataW.trod_int Tryd.underlying3 g0
  obtain ⟨z1, e1, _, w1⟩ := DataW.trod_int Tryd.underlying3 g1
  obtain ⟨A, n, c, rfl⟩ := slice_of g2
  obtain ⟨xs, hin⟩ := open_in (a0 := A) (len := n) (cap := c) rfl g2
  have hcp := cap_of g2
  obtain ⟨B, bs, d, rfl, hba, hB⟩ := bytes_of_trod g3
  simp only [List.cons.injEq, and_true] at e0 e1
  subst e0 e1
  exact ⟨⟨z0, z1, A, n, c, xs, B, bs.length, d, bs⟩, rfl, hin, i64_wf w1, ⟨hba, rfl, hB⟩, hcp⟩
theorem open_calls2 {H : Type} {enc : TypeId × Value → H} {W : World} {r : Reach} {b0 : Nat} {v : Value} {dd : DataW H} {p : List MemPlace} (hval : Value.okWide Tryd.prog W r b0 31 v) (h : DataW.Trod enc Tryd.prog W 0 (fun _ => true) true 31 v dd p) :
    ∃ A l c, v = .slice A (List.length (α := Cl) l) c ∧ CA W A l ∧ ∀ j (h : j < l.length), l[j].n ≤ l[j].cap := by
  obtain ⟨a0, len, cap, rfl⟩ := okWide_slice Tryd.underlying31 hval
  obtain ⟨fuel, hf⟩ := h
  rcases open_slice Tryd.underlying31 hf with ⟨hcs, _⟩ | ⟨a, len', cap', m, n, D, Pl, hcs, _, hl, _, hm, _, hx⟩
  · simp [Value.cells] at hcs
    obtain ⟨rfl, rfl, rfl⟩ := hcs
    exact ⟨none, [], 0, rfl, fun j h => by simp at h, fun j h => by simp at h⟩
  · simp [Value.cells] at hcs
    obtain ⟨rfl, rfl, rfl⟩ := hcs
    rw [if_pos rfl] at hm
    subst hm
    have ce : Tryd.prog.cellsOf 55 = 4 := by kernel_rfl
    have ha : 0 < len → a = ⟨a.block, a.off, none⟩ := by
      intro hp
      obtain ⟨cs', h1, _⟩ := hx 0 (by omega)
      rw [ce, Nat.zero_mul] at h1
      obtain ⟨_, hlen, hcell⟩ := World.cells?_some h1
      have q := hcell 0 (by omega)
      rw [List.getElem?_eq_getElem (by omega)] at q
      obtain ⟨b, off, spot⟩ := a
      have hspot : spot = none := by simpa [Addr.add] using World.cell?_spot q
      subst hspot
      rfl
    have each : ∀ i, i < len → ∃ x : Cl, W.cell? ⟨a.block, a.off + i * 4, none⟩ = some (.int .i64 x.x) ∧ W.cell? ⟨a.block, a.off + i * 4 + 1, none⟩ = some (.int .i64 x.a) ∧ W.cell? ⟨a.block, a.off + i * 4 + 2, none⟩ = some (.slice x.A x.n x.cap) ∧ W.cell? ⟨a.block, a.off + i * 4 + 3, none⟩ = some (.slice x.B x.m x.mcap) ∧ In W x.A x.n x.cap x.xs ∧ I64 x.a ∧ Ib W x.B x.m x.mcap x.ys ∧ x.n ≤ x.cap := by
      intro i hi
      obtain ⟨cs', h1, h2⟩ := hx i (by omega)
      rw [ce] at h1
      obtain ⟨_, hlen, hcell⟩ := World.cells?_some h1
      obtain ⟨X, rfl, hin, hI, hB, hq⟩ := call_of2 hlen h2
      have q0 := hcell 0 (by omega)
      have q1 := hcell 1 (by omega)
      have q2 := hcell 2 (by omega)
      have q3 := hcell 3 (by omega)
      have hA : a.add (i * 4) = ⟨a.block, a.off + i * 4, none⟩ := by
        have e := ha (by omega)
        rw [e]
        exact add_plain _ _ _
      rw [hA] at q0 q1 q2 q3
      have pl := fun k => at_plain (k := k) q0
      rw [pl] at q0 q1 q2 q3
      exact ⟨X, q0, q1, q2, q3, hin, hI, hB, hq⟩
    obtain ⟨f, hfn⟩ := choose_lt each
    refine ⟨some a, (List.range len).map f, m, by simp, fun j hj => ?_, fun j hj => ?_⟩
    · have hj' : j < len := by simpa using hj
      obtain ⟨c0, c1, c2, c3, hi, hw, hB, -⟩ := hfn j hj'
      have eg : ((List.range len).map f)[j] = f j := by simp
      rw [eg]
      exact ⟨a.block, a.off, by rw [← ha (by omega)], World.block_lt_of_cell? W ⟨a.block, a.off + j * 4, none⟩ c0, c0, c1, c2, c3, hi, hw, hB⟩
    · have hj' : j < len := by simpa using hj
      obtain ⟨_, _, _, _, _, _, _, hq⟩ := hfn j hj'
      have eg : ((List.range len).map f)[j] = f j := by simp
      rw [eg]
      exact hq
end Go.Proofs.YtaelfgdiboekpaaDoor.Ns
