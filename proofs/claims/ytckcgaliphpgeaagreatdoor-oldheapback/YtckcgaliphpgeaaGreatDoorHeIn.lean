/-
  How a list of calls that comes in is read: a lemma that the claimed proofs use.
-/
import Derived.Test.YtckcgaliphpgeaaGreatDoorHeCalls
import Derived.Test.YtckcgaliphpgeaaGreatDoorHeEnd
import Derived.Deep.SlicePairs
namespace Go.Proofs.YtckcgaliphpgeaaGreatDoor.He
set_option maxRecDepth 100000
open Go.ChangeShapes Go.WideShapes Go.ChangeAt Go.RowKit Go.Joins Go.Deep

theorem i64_wf {n : Int} (h : (Lit.int .i64 n).wf = true) : I64 n := by
  obtain ⟨h0, h1⟩ := Go.bounds_i64 h
  unfold I64
  exact ⟨by omega, by omega⟩
theorem plain_at {W : World} {a : Addr} {k : Nat} {v : Value} (h : W.cell? (a.add 0) = some v) : a.add k = ⟨a.block, a.off + k, none⟩ := by
  obtain ⟨b, off, spot⟩ := a
  have hspot : spot = none := by simpa [Addr.add] using World.cell?_spot h
  subst hspot
  exact add_plain b off k
section
variable {H : Type} {enc : TypeId × Value → H} {w : World} {base : Nat} {spare : Nat → Bool} {held : Bool}
theorem call_fields {n : Nat} {cs : List Value} {x : DataW H × List MemPlace} {b : Nat} {a : Addr} (h1 : w.cells? b a 5 = some cs) (h2 : DataW.trod enc Tryz.prog w base spare held n 34 cs = some x) :
    ∃ X : Cl, w.cell? (a.add 0) = some (.int .i64 X.x) ∧ w.cell? (a.add 1) = some (.int .i64 X.c) ∧ w.cell? (a.add 2) = some (.int .i64 X.a) ∧ w.cell? (a.add 3) = some (.int .i64 X.n) ∧
      w.cell? (a.add 4) = some (.int .i64 X.p) ∧ X.ok := by
  obtain ⟨_, hlen, hcell⟩ := World.cells?_some h1
  obtain ⟨xs, k, hk, hxy, _, hxl, hf⟩ := DataW.trod_struct Tryz.underlying34 h2
  have ci : Tryz.prog.cellsOf 3 = 1 := by kernel_rfl
  match xs, hxl, cs, hlen with
  | [y0, y1, y2, y3, y4], _, [v0, v1, v2, v3, v4], _ =>
    have g0 := hf 0 _ rfl
    have g1 := hf 1 _ rfl
    have g2 := hf 2 _ rfl
    have g3 := hf 3 _ rfl
    have g4 := hf 4 _ rfl
    simp [ci] at g0 g1 g2 g3 g4
    obtain ⟨z0, e0, _, m0⟩ := DataW.trod_int Tryz.underlying3 g0
    obtain ⟨z1, e1, _, m1⟩ := DataW.trod_int Tryz.underlying3 g1
    obtain ⟨z2, e2, _, m2⟩ := DataW.trod_int Tryz.underlying3 g2
    obtain ⟨z3, e3, _, m3⟩ := DataW.trod_int Tryz.underlying3 g3
    obtain ⟨z4, e4, _, m4⟩ := DataW.trod_int Tryz.underlying3 g4
    simp only [List.cons.injEq, and_true] at e0 e1 e2 e3 e4
    subst e0 e1 e2 e3 e4
    exact ⟨⟨z0, z1, z2, z3, z4⟩, hcell 0 (by omega), hcell 1 (by omega), hcell 2 (by omega), hcell 3 (by omega), hcell 4 (by omega), ⟨i64_wf m0, i64_wf m1, i64_wf m2, i64_wf m3, i64_wf m4⟩⟩
end
theorem open_calls {H : Type} {enc : TypeId × Value → H} {W : World} {r : Reach} {b0 : Nat} {v : Value} {dd : DataW H} {p : List MemPlace} (hval : Value.okWide Tryz.prog W r b0 22 v) (h : DataW.Trod enc Tryz.prog W 0 (fun _ => true) true 22 v dd p) :
    ∃ A l c, v = .slice A (List.length (α := Cl) l) c ∧ CA W.heap.size W A l := by
  obtain ⟨a0, len, cap, rfl⟩ := okWide_slice Tryz.underlying22 hval
  obtain ⟨fuel, hf⟩ := h
  rcases open_slice Tryz.underlying22 hf with ⟨hcs, _⟩ | ⟨a, len', cap', m, n, D, Pl, hcs, _, hl, _, hm, _, hx⟩
  · simp [Value.cells] at hcs
    obtain ⟨rfl, rfl, rfl⟩ := hcs
    exact ⟨none, [], 0, rfl, fun j h => by simp at h⟩
  · simp [Value.cells] at hcs
    obtain ⟨rfl, rfl, rfl⟩ := hcs
    rw [if_pos rfl] at hm
    subst hm
    have ce : Tryz.prog.cellsOf 34 = 5 := by kernel_rfl
    have ha : 0 < len → a = ⟨a.block, a.off, none⟩ := by
      intro hp
      obtain ⟨cs', h1, _⟩ := hx 0 (by omega)
      rw [ce, Nat.zero_mul] at h1
      obtain ⟨_, hlen, hcell⟩ := World.cells?_some h1
      have q := hcell 0 (by omega)
      rw [List.getElem?_eq_getElem (by omega)] at q
      obtain ⟨b, off, spot⟩ := a
      have hspot : spot = none := by simpa [Addr.add] using World.cell?_spot q
      subst hspot
      rfl
    have each : ∀ i, i < len → ∃ x : Cl, W.cell? ⟨a.block, a.off + i * 5, none⟩ = some (.int .i64 x.x) ∧ W.cell? ⟨a.block, a.off + i * 5 + 1, none⟩ = some (.int .i64 x.c) ∧ W.cell? ⟨a.block, a.off + i * 5 + 2, none⟩ = some (.int .i64 x.a) ∧ W.cell? ⟨a.block, a.off + i * 5 + 3, none⟩ = some (.int .i64 x.n) ∧ W.cell? ⟨a.block, a.off + i * 5 + 4, none⟩ = some (.int .i64 x.p) ∧ x.ok := by
      intro i hi
      obtain ⟨cs', h1, h2⟩ := hx i (by omega)
      rw [ce] at h1
      obtain ⟨X, q0, q1, q2, q3, q4, qk⟩ := call_fields h1 h2
      have hA : a.add (i * 5) = ⟨a.block, a.off + i * 5, none⟩ := by
        have e := ha (by omega)
        rw [e]
        exact add_plain _ _ _
      rw [hA] at q0 q1 q2 q3 q4
      have pl := fun k => plain_at (k := k) q0
      rw [pl] at q0 q1 q2 q3 q4
      exact ⟨X, q0, q1, q2, q3, q4, qk⟩
    have inh : Inhabited Cl := ⟨⟨0, 0, 0, 0, 0⟩⟩
    obtain ⟨f, hfn⟩ := choose_lt each
    refine ⟨some a, (List.range len).map f, m, by simp, fun j hj => ?_⟩
    have hj' : j < len := by simpa using hj
    have eg : ((List.range len).map f)[j] = f j := by simp
    have q := hfn j hj'
    rw [eg]
    exact ⟨a.block, a.off, by rw [← ha (by omega)], World.block_lt_of_cell? W ⟨a.block, a.off + j * 5, none⟩ q.1, q⟩
end Go.Proofs.YtckcgaliphpgeaaGreatDoor.He
