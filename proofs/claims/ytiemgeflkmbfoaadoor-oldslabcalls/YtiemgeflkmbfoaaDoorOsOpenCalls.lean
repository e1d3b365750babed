/-
  How a list of calls that comes in is read: a lemma that the claimed proofs use.
-/
import Derived.Test.YtiemgeflkmbfoaaDoorOsIns
import Derived.Test.YtiemgeflkmbfoaaDoorOsGreat
namespace Go.Proofs.YtiemgeflkmbfoaaDoor
set_option maxRecDepth 100000
open Go.ChangeShapes Go.WideShapes Go.ChangeAt Go.RowKit Go.Joins Go.Deep

section
variable {H : Type} {enc : TypeId × Value → H} {P : Program} {w : World} {base : Nat} {spare : Nat → Bool} {held : Bool}
theorem three_cells {e : TypeId} {f0 f1 f2 : Field} {n : Nat} {cs : List Value} {x : DataW H × List MemPlace} {b : Nat} {a : Addr} (he : P.underlying e = some (.struct #[f0, f1, f2]))
    (o0 : f0.offset = 0) (o1 : f1.offset = 1) (o2 : f2.offset = 2) (c0 : P.cellsOf f0.type = 1) (c1 : P.cellsOf f1.type = 1) (c2 : P.cellsOf f2.type = 1)
    (h1 : w.cells? b a 3 = some cs) (h2 : DataW.trod enc P w base spare held n e cs = some x) :
    ∃ (v0 v1 v2 : Value) (k : Nat) (y0 y1 y2 : DataW H × List MemPlace), w.cell? (a.add 0) = some v0 ∧ w.cell? (a.add 1) = some v1 ∧ w.cell? (a.add 2) = some v2 ∧
      DataW.trod enc P w base spare held k f0.type [v0] = some y0 ∧ DataW.trod enc P w base spare held k f1.type [v1] = some y1 ∧ DataW.trod enc P w base spare held k f2.type [v2] = some y2 := by
  obtain ⟨_, hlen, hcell⟩ := World.cells?_some h1
  obtain ⟨xs, k, hk, hxy, _, hxl, hf⟩ := DataW.trod_struct he h2
  match xs, hxl, cs, hlen with
  | [y0, y1, y2], _, [v0, v1, v2], _ =>
    have g0 := hf 0 f0 rfl
    have g1 := hf 1 f1 rfl
    have g2 := hf 2 f2 rfl
    simp [o0, o1, o2, c0, c1, c2] at g0 g1 g2
    exact ⟨v0, v1, v2, k, y0, y1, y2, hcell 0 (by omega), hcell 1 (by omega), hcell 2 (by omega), g0, g1, g2⟩
end
theorem slice_of {H : Type} {enc : TypeId × Value → H} {W : World} {v : Value} {x : DataW H × List MemPlace} {fuel : Nat} (hf : DataW.trod enc Tryd.prog W 0 (fun _ => true) true fuel 22 [v] = some x) : ∃ A n c, v = .slice A n c := by
  rcases open_ints Tryd.underlying22 Tryd.underlying3 (by kernel_rfl) hf with ⟨hcs, _⟩ | ⟨a, len, cap, zs, hcs, _⟩
  · simp only [List.cons.injEq, and_true] at hcs
    exact ⟨_, _, _, hcs⟩
  · simp only [List.cons.injEq, and_true] at hcs
    exact ⟨_, _, _, hcs⟩

def cl0 : Os.Cl := ⟨0, 0, none, 0, 0, []⟩
instance : Inhabited Os.Cl := ⟨cl0⟩
theorem open_calls {H : Type} {enc : TypeId × Value → H} {W : World} {r : Reach} {b0 : Nat} {v : Value} {dd : DataW H} {p : List MemPlace} (hval : Value.okWide Tryd.prog W r b0 23 v) (h : DataW.Trod enc Tryd.prog W 0 (fun _ => true) true 23 v dd p) :
    ∃ A l c, v = .slice A (List.length (α := Os.Cl) l) c ∧ Os.CA W A l := by
  obtain ⟨a0, len, cap, rfl⟩ := okWide_slice Tryd.underlying23 hval
  obtain ⟨fuel, hf⟩ := h
  rcases open_slice Tryd.underlying23 hf with ⟨hcs, _⟩ | ⟨a, len', cap', m, n, D, Pl, hcs, _, hl, _, hm, _, hx⟩
  · simp [Value.cells] at hcs
    obtain ⟨rfl, rfl, rfl⟩ := hcs
    exact ⟨none, [], 0, rfl, fun j h => by simp at h⟩
  · simp [Value.cells] at hcs
    obtain ⟨rfl, rfl, rfl⟩ := hcs
    rw [if_pos rfl] at hm
    subst hm
    have ce : Tryd.prog.cellsOf 40 = 3 := by kernel_rfl
    have ha : 0 < len → a = ⟨a.block, a.off, none⟩ := by
      intro hp
      obtain ⟨cs', h1, _⟩ := hx 0 (by omega)
      rw [ce, Nat.zero_mul] at h1
      obtain ⟨_, hlen, hcell⟩ := World.cells?_some h1
      have q := hcell 0 (by omega)
      rw [List.getElem?_eq_getElem (by omega)] at q
      obtain ⟨b, off, spot⟩ := a
      have hspot : spot = none := by simpa [Addr.add] using World.cell?_spot q
      subst hspot
      rfl
    have each : ∀ i, i < len → ∃ x : Os.Cl, W.cell? ⟨a.block, a.off + i * 3, none⟩ = some (.int .i64 x.x) ∧ W.cell? ⟨a.block, a.off + i * 3 + 1, none⟩ = some (.int .i64 x.a) ∧ W.cell? ⟨a.block, a.off + i * 3 + 2, none⟩ = some (.slice x.A x.n x.cap) ∧ Os.In W x.A x.n x.cap x.xs ∧ Os.I64 x.a := by
      intro i hi
      obtain ⟨cs', h1, h2⟩ := hx i (by omega)
      rw [ce] at h1
      obtain ⟨v0, v1, v2, k, y0, y1, y2, q0, q1, q2, g0, g1, g2⟩ := three_cells Tryd.underlying40 rfl rfl rfl (by kernel_rfl) (by kernel_rfl) (by kernel_rfl) h1 h2
      obtain ⟨z0, e0, _, _⟩ := DataW.trod_int Tryd.underlying3 g0
      obtain ⟨z1, e1, _, w1⟩ := DataW.trod_int Tryd.underlying3 g1
      obtain ⟨A, n, c, rfl⟩ := slice_of g2
      obtain ⟨xs, hin⟩ := open_in (a0 := A) (len := n) (cap := c) rfl g2
      simp only [List.cons.injEq, and_true] at e0 e1
      subst e0 e1
      have hA : a.add (i * 3) = ⟨a.block, a.off + i * 3, none⟩ := by
        have e := ha (by omega)
        rw [e]
        exact add_plain _ _ _
      rw [hA] at q0 q1 q2
      have pl := fun k => at_plain (k := k) q0
      rw [pl] at q0 q1 q2
      exact ⟨⟨z0, z1, A, n, c, xs⟩, q0, q1, q2, hin, i64_wf w1⟩
    obtain ⟨f, hfn⟩ := choose_lt each
    refine ⟨some a, (List.range len).map f, m, by simp, fun j hj => ?_⟩
    have hj' : j < len := by simpa using hj
    obtain ⟨c0, c1, c2, hi, hw⟩ := hfn j hj'
    have eg : ((List.range len).map f)[j] = f j := by simp
    rw [eg]
    exact ⟨a.block, a.off, by rw [← ha (by omega)], World.block_lt_of_cell? W ⟨a.block, a.off + j * 3, none⟩ c0, c0, c1, c2, hi, hw⟩
end Go.Proofs.YtiemgeflkmbfoaaDoor
