/-
  How a list of calls and a row of eight numbers that come in are read: lemmas that the claimed proof uses.
-/
import Derived.Test.YtjnknnakllbaaaaGreatGrOpen
namespace Go.Proofs.YtjnknnakllbaaaaGreat.Gr
set_option maxRecDepth 100000
open Go.ChangeShapes Go.WideShapes Go.ChangeAt Go.RowKit Go.Joins Go.Deep

section
variable {H : Type} {enc : TypeId × Value → H} {w : World} {base : Nat} {spare : Nat → Bool} {held : Bool}
theorem call_fields2 {n : Nat} {cs : List Value} {x : DataW H × List MemPlace} {b : Nat} {a : Addr} (h1 : w.cells? b a 7 = some cs) (h2 : DataW.trod enc Tryz.prog w base spare held n 37 cs = some x) :
    ∃ X : Cl, w.cell? (a.add 0) = some (.int .i64 X.x) ∧ w.cell? (a.add 1) = some (.int .i64 X.g) ∧ w.cell? (a.add 2) = some (.int .i64 X.n) ∧ w.cell? (a.add 3) = some (.int .i64 X.a) ∧
      w.cell? (a.add 4) = some (.int .i64 X.v) ∧ w.cell? (a.add 5) = some (.int .i64 X.c) ∧ w.cell? (a.add 6) = some (.int .i64 X.s) ∧ Ra.I64 X.g := by
  obtain ⟨_, hlen, hcell⟩ := World.cells?_some h1
  obtain ⟨xs, k, hk, hxy, _, hxl, hf⟩ := DataW.trod_struct Tryz.underlying37 h2
  have ci : Tryz.prog.cellsOf 3 = 1 := by kernel_rfl
  match xs, hxl, cs, hlen with
  | [y0, y1, y2, y3, y4, y5, y6], _, [v0, v1, v2, v3, v4, v5, v6], _ =>
    have g0 := hf 0 _ rfl
    have g1 := hf 1 _ rfl
    have g2 := hf 2 _ rfl
    have g3 := hf 3 _ rfl
    have g4 := hf 4 _ rfl
    have g5 := hf 5 _ rfl
    have g6 := hf 6 _ rfl
    simp [ci] at g0 g1 g2 g3 g4 g5 g6
    obtain ⟨z0, e0, _⟩ := DataW.trod_int Tryz.underlying3 g0
    obtain ⟨z1, e1, _, w1⟩ := DataW.trod_int Tryz.underlying3 g1
    obtain ⟨z2, e2, _⟩ := DataW.trod_int Tryz.underlying3 g2
    obtain ⟨z3, e3, _⟩ := DataW.trod_int Tryz.underlying3 g3
    obtain ⟨z4, e4, _⟩ := DataW.trod_int Tryz.underlying3 g4
    obtain ⟨z5, e5, _⟩ := DataW.trod_int Tryz.underlying3 g5
    obtain ⟨z6, e6, _⟩ := DataW.trod_int Tryz.underlying3 g6
    simp only [List.cons.injEq, and_true] at e0 e1 e2 e3 e4 e5 e6
    subst e0 e1 e2 e3 e4 e5 e6
    exact ⟨⟨z0, z1, z2, z3, z4, z5, z6⟩, hcell 0 (by omega), hcell 1 (by omega), hcell 2 (by omega), hcell 3 (by omega), hcell 4 (by omega), hcell 5 (by omega), hcell 6 (by omega), int_of w1⟩
end
theorem open_calls2 {H : Type} {enc : TypeId × Value → H} {W : World} {r : Reach} {b0 : Nat} {v : Value} {dd : DataW H} {p : List MemPlace} (hval : Value.okWide Tryz.prog W r b0 22 v) (h : DataW.Trod enc Tryz.prog W 0 (fun _ => true) true 22 v dd p) :
    ∃ A l c, v = .slice A (List.length (α := Cl) l) c ∧ CA W.heap.size W A l ∧ ∀ j (h : j < l.length), Ra.I64 l[j].g := by
  obtain ⟨a0, len, cap, rfl⟩ := okWide_slice Tryz.underlying22 hval
  obtain ⟨fuel, hf⟩ := h
  rcases open_slice Tryz.underlying22 hf with ⟨hcs, _⟩ | ⟨a, len', cap', m, n, D, Pl, hcs, _, hl, _, hm, _, hx⟩
  · simp [Value.cells] at hcs
    obtain ⟨rfl, rfl, rfl⟩ := hcs
    exact ⟨none, [], 0, rfl, fun j h => by simp at h, fun j h => by simp at h⟩
  · simp [Value.cells] at hcs
    obtain ⟨rfl, rfl, rfl⟩ := hcs
    rw [if_pos rfl] at hm
    subst hm
    have ce : Tryz.prog.cellsOf 37 = 7 := by kernel_rfl
    have ha : 0 < len → a = ⟨a.block, a.off, none⟩ := by
      intro hp
      obtain ⟨cs', h1, _⟩ := hx 0 (by omega)
      rw [ce, Nat.zero_mul] at h1
      obtain ⟨_, hlen, hcell⟩ := World.cells?_some h1
      have q := hcell 0 (by omega)
      rw [List.getElem?_eq_getElem (by omega)] at q
      obtain ⟨b, off, spot⟩ := a
      have hspot : spot = none := by simpa [Addr.add] using World.cell?_spot q
      subst hspot
      rfl
    have each : ∀ i, i < len → ∃ x : Cl, W.cell? ⟨a.block, a.off + i * 7, none⟩ = some (.int .i64 x.x) ∧ W.cell? ⟨a.block, a.off + i * 7 + 1, none⟩ = some (.int .i64 x.g) ∧ W.cell? ⟨a.block, a.off + i * 7 + 2, none⟩ = some (.int .i64 x.n) ∧ W.cell? ⟨a.block, a.off + i * 7 + 3, none⟩ = some (.int .i64 x.a) ∧ W.cell? ⟨a.block, a.off + i * 7 + 4, none⟩ = some (.int .i64 x.v) ∧ W.cell? ⟨a.block, a.off + i * 7 + 5, none⟩ = some (.int .i64 x.c) ∧ W.cell? ⟨a.block, a.off + i * 7 + 6, none⟩ = some (.int .i64 x.s) ∧ Ra.I64 x.g := by
      intro i hi
      obtain ⟨cs', h1, h2⟩ := hx i (by omega)
      rw [ce] at h1
      obtain ⟨X, q0, q1, q2, q3, q4, q5, q6, q7⟩ := call_fields2 h1 h2
      have hA : a.add (i * 7) = ⟨a.block, a.off + i * 7, none⟩ := by
        have e := ha (by omega)
        rw [e]
        exact add_plain _ _ _
      rw [hA] at q0 q1 q2 q3 q4 q5 q6
      have pl := fun k => plain_at (k := k) q0
      rw [pl] at q0 q1 q2 q3 q4 q5 q6
      exact ⟨X, q0, q1, q2, q3, q4, q5, q6, q7⟩
    have inh : Inhabited Cl := ⟨⟨0, 0, 0, 0, 0, 0, 0⟩⟩
    obtain ⟨f, hfn⟩ := choose_lt each
    refine ⟨some a, (List.range len).map f, m, by simp, fun j hj => ?_, fun j hj => ?_⟩
    · have hj' : j < len := by simpa using hj
      have eg : ((List.range len).map f)[j] = f j := by simp
      obtain ⟨q0, q1, q2, q3, q4, q5, q6, _⟩ := hfn j hj'
      rw [eg]
      exact ⟨a.block, a.off, by rw [← ha (by omega)], World.block_lt_of_cell? W ⟨a.block, a.off + j * 7, none⟩ q0, q0, q1, q2, q3, q4, q5, q6⟩
    · have hj' : j < len := by simpa using hj
      have eg : ((List.range len).map f)[j] = f j := by simp
      rw [eg]
      exact (hfn j hj').2.2.2.2.2.2.2
theorem open_row {H : Type} {enc : TypeId × Value → H} {W : World} {r : Reach} {b0 : Nat} {v : Value} {dd : DataW H} {p : List MemPlace} (hv : Value.okWide Tryz.prog W r b0 24 v) (h : DataW.Trod enc Tryz.prog W 0 (fun _ => true) true 24 v dd p) :
    ∃ f, v = Le.rowV f ∧ Le.okR f := by
  simp only [Value.okWide, Tryz.underlying24] at hv
  obtain ⟨cs, rfl, hsz, _⟩ := hv
  have hc : Tryz.prog.cellsOf 24 = 8 := by kernel_rfl
  have hc1 : Tryz.prog.cellsOf 3 = 1 := by kernel_rfl
  rw [hc] at hsz
  obtain ⟨fuel, hf⟩ := h
  obtain ⟨xs, m, _, _, _, hx, hi⟩ := DataW.trod_array Tryz.underlying24 hf
  have each : ∀ i, i < 8 → ∃ x : Int, cs[i]? = some (.int .i64 x) ∧ (Lit.int .i64 x).wf = true := fun i hlt => by
    have h1 := hi i hlt
    rw [hc1, Nat.mul_one, List.getElem?_eq_getElem (by omega)] at h1
    obtain ⟨z, e, _, wz⟩ := DataW.trod_int Tryz.underlying3 h1
    refine ⟨z, ?_, wz⟩
    have e2 : ((Value.agg cs).cells.toList.drop i).head? = some (.int .i64 z) := by
      have := congrArg List.head? e
      rw [List.head?_take] at this
      simpa using this
    rw [List.head?_drop] at e2
    simpa [Value.cells] using e2
  obtain ⟨f, hfn⟩ := choose_lt each
  refine ⟨f, ?_, fun i hlt => (hfn i hlt).2⟩
  unfold Le.rowV
  congr 1
  apply Array.ext_getElem?
  intro i
  by_cases hlt : i < 8
  · rw [(hfn i hlt).1, Le.row_at f hlt]
  · rw [Array.getElem?_eq_none (by omega), Array.getElem?_eq_none (by show 8 ≤ i; omega)]

end Go.Proofs.YtjnknnakllbaaaaGreat.Gr
