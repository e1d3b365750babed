/-
  How a list of calls that comes in is read: a lemma that the claimed proofs use.
-/
import Derived.Test.YtjbndkbjoefeoaaBounds
import Derived.Test.YtjbndkbjoefeoaaEnd
import Derived.Deep.SlicePairs
namespace Go.Proofs.Ytjbndkbjoefeoaa
open Go.ChangeShapes Go.WideShapes Go.ChangeAt Go.RowKit Go.Joins Go.Deep

theorem plain_at {W : World} {a : Addr} {k : Nat} {v : Value} (h : W.cell? (a.add 0) = some v) : a.add k = ⟨a.block, a.off + k, none⟩ := by
  obtain ⟨b, off, spot⟩ := a
  have hspot : spot = none := by simpa [Addr.add] using World.cell?_spot h
  subst hspot
  exact add_plain b off k
section
variable {H : Type} {enc : TypeId × Value → H} {P : Program} {w : World} {base : Nat} {spare : Nat → Bool} {held : Bool}
theorem four_fields {e : TypeId} {f0 f1 f2 f3 : Field} {n : Nat} {cs : List Value} {x : DataW H × List MemPlace} {b : Nat} {a : Addr} (he : P.underlying e = some (.struct #[f0, f1, f2, f3]))
    (o0 : f0.offset = 0) (o1 : f1.offset = 1) (o2 : f2.offset = 2) (o3 : f3.offset = 3) (c0 : P.cellsOf f0.type = 1) (c1 : P.cellsOf f1.type = 1) (c2 : P.cellsOf f2.type = 1) (c3 : P.cellsOf f3.type = 1)
    (h1 : w.cells? b a 4 = some cs) (h2 : DataW.trod enc P w base spare held n e cs = some x) :
    ∃ (v0 v1 v2 v3 : Value) (k : Nat) (y0 y1 y2 y3 : DataW H × List MemPlace), w.cell? (a.add 0) = some v0 ∧ w.cell? (a.add 1) = some v1 ∧ w.cell? (a.add 2) = some v2 ∧ w.cell? (a.add 3) = some v3 ∧
      DataW.trod enc P w base spare held k f0.type [v0] = some y0 ∧ DataW.trod enc P w base spare held k f1.type [v1] = some y1 ∧ DataW.trod enc P w base spare held k f2.type [v2] = some y2 ∧ DataW.trod enc P w base spare held k f3.type [v3] = some y3 := by
  obtain ⟨_, hlen, hcell⟩ := World.cells?_some h1
  obtain ⟨xs, k, hk, hxy, _, hxl, hf⟩ := DataW.trod_struct he h2
  match xs, hxl, cs, hlen with
  | [y0, y1, y2, y3], _, [v0, v1, v2, v3], _ =>
    have g0 := hf 0 f0 rfl
    have g1 := hf 1 f1 rfl
    have g2 := hf 2 f2 rfl
    have g3 := hf 3 f3 rfl
    simp [o0, o1, o2, o3, c0, c1, c2, c3] at g0 g1 g2 g3
    exact ⟨v0, v1, v2, v3, k, y0, y1, y2, y3, hcell 0 (by omega), hcell 1 (by omega), hcell 2 (by omega), hcell 3 (by omega), g0, g1, g2, g3⟩
end
theorem open_calls {H : Type} {enc : TypeId × Value → H} {W : World} {r : Reach} {b0 : Nat} {v : Value} {dd : DataW H} {p : List MemPlace} (hval : Value.okWide Try.prog W r b0 22 v) (h : DataW.Trod enc Try.prog W 0 (fun _ => true) true 22 v dd p) :
    ∃ A l c, v = .slice A (List.length (α := Cl) l) c ∧ CA W.heap.size W A l := by
  obtain ⟨a0, len, cap, rfl⟩ := okWide_slice Try.underlying22 hval
  obtain ⟨fuel, hf⟩ := h
  rcases open_slice Try.underlying22 hf with ⟨hcs, _⟩ | ⟨a, len', cap', m, n, D, Pl, hcs, _, hl, _, hm, _, hx⟩
  · simp [Value.cells] at hcs
    obtain ⟨rfl, rfl, rfl⟩ := hcs
    exact ⟨none, [], 0, rfl, fun h => by simp at h⟩
  · simp [Value.cells] at hcs
    obtain ⟨rfl, rfl, rfl⟩ := hcs
    rw [if_pos rfl] at hm
    subst hm
    have ce : Try.prog.cellsOf 34 = 4 := by kernel_rfl
    have ha : 0 < len → a = ⟨a.block, a.off, none⟩ := by
      intro hp
      obtain ⟨cs', h1, _⟩ := hx 0 (by omega)
      rw [ce, Nat.zero_mul] at h1
      obtain ⟨_, hlen, hcell⟩ := World.cells?_some h1
      have q := hcell 0 (by omega)
      rw [List.getElem?_eq_getElem (by omega)] at q
      obtain ⟨b, off, spot⟩ := a
      have hspot : spot = none := by simpa [Addr.add] using World.cell?_spot q
      subst hspot
      rfl
    have each : ∀ i, i < len → ∃ x : Cl, W.cell? ⟨a.block, a.off + i * 4, none⟩ = some (.int .i64 x.1) ∧ W.cell? ⟨a.block, a.off + i * 4 + 1, none⟩ = some (.int .i64 x.2.1) ∧ W.cell? ⟨a.block, a.off + i * 4 + 2, none⟩ = some (.int .i64 x.2.2.1) ∧ W.cell? ⟨a.block, a.off + i * 4 + 3, none⟩ = some (.int .i64 x.2.2.2) := by
      intro i hi
      obtain ⟨cs', h1, h2⟩ := hx i (by omega)
      rw [ce] at h1
      obtain ⟨v0, v1, v2, v3, k, y0, y1, y2, y3, q0, q1, q2, q3, g0, g1, g2, g3⟩ := four_fields Try.underlying34 rfl rfl rfl rfl (by kernel_rfl) (by kernel_rfl) (by kernel_rfl) (by kernel_rfl) h1 h2
      obtain ⟨z0, e0, _, _⟩ := DataW.trod_int Try.underlying3 g0
      obtain ⟨z1, e1, _, _⟩ := DataW.trod_int Try.underlying3 g1
      obtain ⟨z2, e2, _, _⟩ := DataW.trod_int Try.underlying3 g2
      obtain ⟨z3, e3, _, _⟩ := DataW.trod_int Try.underlying3 g3
      simp only [List.cons.injEq, and_true] at e0 e1 e2 e3
      subst e0 e1 e2 e3
      have hA : a.add (i * 4) = ⟨a.block, a.off + i * 4, none⟩ := by
        have e := ha (by omega)
        rw [e]
        exact add_plain _ _ _
      rw [hA] at q0 q1 q2 q3
      have pl := fun k => plain_at (k := k) q0
      rw [pl] at q0 q1 q2 q3
      exact ⟨(z0, z1, z2, z3), q0, q1, q2, q3⟩
    obtain ⟨f, hfn⟩ := choose_lt each
    refine ⟨some a, (List.range len).map f, m, by simp, fun hp => ?_⟩
    have hp' : 0 < len := by simpa using hp
    obtain ⟨c0, _⟩ := hfn 0 hp'
    refine ⟨a.block, a.off, by rw [← ha hp'], World.block_lt_of_cell? W ⟨a.block, a.off + 0 * 4, none⟩ c0, fun i hlt => ?_⟩
    have hlt' : i < len := by simpa using hlt
    have eg : cl ((List.range len).map f) i = f i := by
      unfold cl
      rw [List.getD_eq_getElem?_getD, List.getElem?_map, List.getElem?_range hlt']; rfl
    rw [eg]
    exact hfn i hlt'
end Go.Proofs.Ytjbndkbjoefeoaa
