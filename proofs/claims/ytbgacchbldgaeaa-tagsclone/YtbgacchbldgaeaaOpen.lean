/-
  How a list of calls, a place and a tag that come in are read: lemmas that the claimed proofs use.
-/
import Derived.Test.YtbgacchbldgaeaaMoves
import Derived.Test.YtbgacchbldgaeaaEnd
import Derived.Deep.SlicePairs
namespace Go.Proofs.Ytbgacchbldgaeaa
open Go.ChangeShapes Go.WideShapes Go.ChangeAt Go.RowKit Go.Joins Go.Deep

theorem plain_at {W : World} {a : Addr} {k : Nat} {v : Value} (h : W.cell? (a.add 0) = some v) : a.add k = ⟨a.block, a.off + k, none⟩ := by
  obtain ⟨b, off, spot⟩ := a
  have hspot : spot = none := by simpa [Addr.add] using World.cell?_spot h
  subst hspot
  exact add_plain b off k
section
variable {H : Type} {enc : TypeId × Value → H} {w : World} {base : Nat} {spare : Nat → Bool} {held : Bool}
set_option maxRecDepth 100000 in
theorem two_ints {n : Nat} {v0 v1 : Value} {x : DataW H × List MemPlace} {t : TypeId} (ht : t = 24 ∨ t = 26) (h : DataW.trod enc Try.prog w base spare held n t [v0, v1] = some x) : ∃ a b, v0 = .int .i64 a ∧ v1 = .int .i64 b ∧ I64 a ∧ I64 b := by
  have ci : Try.prog.cellsOf 3 = 1 := by kernel_rfl
  rcases ht with rfl | rfl
  · obtain ⟨xs, k, _, _, _, hxl, hf⟩ := DataW.trod_struct Try.underlying24 h
    match xs, hxl with
    | [y0, y1], _ =>
      have g0 := hf 0 _ rfl
      have g1 := hf 1 _ rfl
      simp [ci] at g0 g1
      obtain ⟨a, e0, _, w0⟩ := DataW.trod_int Try.underlying3 g0
      obtain ⟨b, e1, _, w1⟩ := DataW.trod_int Try.underlying3 g1
      simp only [List.cons.injEq, and_true] at e0 e1
      exact ⟨a, b, e0, e1, int_of w0, int_of w1⟩
  · obtain ⟨xs, k, _, _, _, hxl, hf⟩ := DataW.trod_struct Try.underlying26 h
    match xs, hxl with
    | [y0, y1], _ =>
      have g0 := hf 0 _ rfl
      have g1 := hf 1 _ rfl
      simp [ci] at g0 g1
      obtain ⟨a, e0, _, w0⟩ := DataW.trod_int Try.underlying3 g0
      obtain ⟨b, e1, _, w1⟩ := DataW.trod_int Try.underlying3 g1
      simp only [List.cons.injEq, and_true] at e0 e1
      exact ⟨a, b, e0, e1, int_of w0, int_of w1⟩
set_option maxRecDepth 100000 in
/-- A struct of an int and three structs of two ints. -/
theorem call_fields {n : Nat} {cs : List Value} {x : DataW H × List MemPlace} {b : Nat} {a : Addr} (h1 : w.cells? b a 7 = some cs) (h2 : DataW.trod enc Try.prog w base spare held n 36 cs = some x) :
    ∃ X : Cl, I64 X.p ∧ I64 X.s ∧ w.cell? (a.add 0) = some (.int .i64 X.c) ∧ w.cell? (a.add 1) = some (.int .i64 X.p) ∧ w.cell? (a.add 2) = some (.int .i64 X.s) ∧ w.cell? (a.add 3) = some (.int .i64 X.p2) ∧
      w.cell? (a.add 4) = some (.int .i64 X.s2) ∧ w.cell? (a.add 5) = some (.int .i64 X.k) ∧ w.cell? (a.add 6) = some (.int .i64 X.z) := by
  obtain ⟨_, hlen, hcell⟩ := World.cells?_some h1
  obtain ⟨xs, k, hk, hxy, _, hxl, hf⟩ := DataW.trod_struct Try.underlying36 h2
  have c24 : Try.prog.cellsOf 24 = 2 := by kernel_rfl
  have c26 : Try.prog.cellsOf 26 = 2 := by kernel_rfl
  have ci : Try.prog.cellsOf 3 = 1 := by kernel_rfl
  match xs, hxl, cs, hlen with
  | [y0, y1, y2, y3], _, [v0, v1, v2, v3, v4, v5, v6], _ =>
    have g0 := hf 0 _ rfl
    have g1 := hf 1 _ rfl
    have g2 := hf 2 _ rfl
    have g3 := hf 3 _ rfl
    simp [c24, c26, ci] at g0 g1 g2 g3
    obtain ⟨c, e0, _⟩ := DataW.trod_int Try.underlying3 g0
    obtain ⟨p, s, rfl, rfl, i1, i2⟩ := two_ints (.inl rfl) g1
    obtain ⟨p2, s2, rfl, rfl, _, _⟩ := two_ints (.inl rfl) g2
    obtain ⟨k', z, rfl, rfl, _, _⟩ := two_ints (.inr rfl) g3
    simp only [List.cons.injEq, and_true] at e0
    subst e0
    exact ⟨⟨c, p, s, p2, s2, k', z⟩, i1, i2, hcell 0 (by omega), hcell 1 (by omega), hcell 2 (by omega), hcell 3 (by omega), hcell 4 (by omega), hcell 5 (by omega), hcell 6 (by omega)⟩
end
set_option maxRecDepth 100000 in
theorem open_two {H : Type} {enc : TypeId × Value → H} {W : World} {r : Reach} {b0 : Nat} {v : Value} {dd : DataW H} {p : List MemPlace} {t : TypeId} (ht : t = 24 ∨ t = 26) (hval : Value.okWide Try.prog W r b0 t v) (h : DataW.Trod enc Try.prog W 0 (fun _ => true) true t v dd p) :
    ∃ a b, v = pv a b ∧ I64 a ∧ I64 b := by
  have hc : ∃ cs : Array Value, v = .agg cs ∧ cs.size = 2 := by
    rcases ht with rfl | rfl
    · obtain ⟨cs, e, hs⟩ := okWide_struct Try.underlying24 hval
      exact ⟨cs, e, hs.trans (by kernel_rfl)⟩
    · obtain ⟨cs, e, hs⟩ := okWide_struct Try.underlying26 hval
      exact ⟨cs, e, hs.trans (by kernel_rfl)⟩
  obtain ⟨⟨l⟩, rfl, hs⟩ := hc
  match l, hs with
  | [v0, v1], _ =>
    obtain ⟨fuel, hf⟩ := h
    obtain ⟨a, b, rfl, rfl, i1, i2⟩ := two_ints ht hf
    exact ⟨a, b, rfl, i1, i2⟩
set_option maxRecDepth 100000 in
theorem open_calls {H : Type} {enc : TypeId × Value → H} {W : World} {r : Reach} {b0 : Nat} {v : Value} {dd : DataW H} {p : List MemPlace} (hval : Value.okWide Try.prog W r b0 22 v) (h : DataW.Trod enc Try.prog W 0 (fun _ => true) true 22 v dd p) :
    ∃ A l c, v = .slice A (List.length (α := Cl) l) c ∧ CA W.heap.size W A l := by
  obtain ⟨a0, len, cap, rfl⟩ := okWide_slice Try.underlying22 hval
  obtain ⟨fuel, hf⟩ := h
  rcases open_slice Try.underlying22 hf with ⟨hcs, _⟩ | ⟨a, len', cap', m, n, D, Pl, hcs, _, hl, _, hm, _, hx⟩
  · simp [Value.cells] at hcs
    obtain ⟨rfl, rfl, rfl⟩ := hcs
    exact ⟨none, [], 0, rfl, fun j h => by simp at h⟩
  · simp [Value.cells] at hcs
    obtain ⟨rfl, rfl, rfl⟩ := hcs
    rw [if_pos rfl] at hm
    subst hm
    have ce : Try.prog.cellsOf 36 = 7 := by kernel_rfl
    have ha : 0 < len → a = ⟨a.block, a.off, none⟩ := by
      intro hp
      obtain ⟨cs', h1, _⟩ := hx 0 (by omega)
      rw [ce, Nat.zero_mul] at h1
      obtain ⟨_, hlen, hcell⟩ := World.cells?_some h1
      have q := hcell 0 (by omega)
      rw [List.getElem?_eq_getElem (by omega)] at q
      obtain ⟨b, off, spot⟩ := a
      have hspot : spot = none := by simpa [Addr.add] using World.cell?_spot q
      subst hspot
      rfl
    have each : ∀ i, i < len → ∃ x : Cl, I64 x.p ∧ I64 x.s ∧ W.cell? ⟨a.block, a.off + i * 7, none⟩ = some (.int .i64 x.c) ∧ W.cell? ⟨a.block, a.off + i * 7 + 1, none⟩ = some (.int .i64 x.p) ∧ W.cell? ⟨a.block, a.off + i * 7 + 2, none⟩ = some (.int .i64 x.s) ∧ W.cell? ⟨a.block, a.off + i * 7 + 3, none⟩ = some (.int .i64 x.p2) ∧
        W.cell? ⟨a.block, a.off + i * 7 + 4, none⟩ = some (.int .i64 x.s2) ∧ W.cell? ⟨a.block, a.off + i * 7 + 5, none⟩ = some (.int .i64 x.k) ∧ W.cell? ⟨a.block, a.off + i * 7 + 6, none⟩ = some (.int .i64 x.z) := by
      intro i hi
      obtain ⟨cs', h1, h2⟩ := hx i (by omega)
      rw [ce] at h1
      obtain ⟨X, i1, i2, q0, q1, q2, q3, q4, q5, q6⟩ := call_fields h1 h2
      have hA : a.add (i * 7) = ⟨a.block, a.off + i * 7, none⟩ := by
        have e := ha (by omega)
        rw [e]
        exact add_plain _ _ _
      rw [hA] at q0 q1 q2 q3 q4 q5 q6
      have pl := fun k => plain_at (k := k) q0
      rw [pl] at q0 q1 q2 q3 q4 q5 q6
      exact ⟨X, i1, i2, q0, q1, q2, q3, q4, q5, q6⟩
    have inh : Inhabited Cl := ⟨⟨0, 0, 0, 0, 0, 0, 0⟩⟩
    obtain ⟨f, hfn⟩ := choose_lt each
    refine ⟨some a, (List.range len).map f, m, by simp, fun j hj => ?_⟩
    have hj' : j < len := by simpa using hj
    have eg : ((List.range len).map f)[j] = f j := by simp
    obtain ⟨i1, i2, q⟩ := hfn j hj'
    rw [eg]
    exact ⟨a.block, a.off, by rw [← ha (by omega)], World.block_lt_of_cell? W ⟨a.block, a.off + j * 7, none⟩ q.1, i1, i2, q⟩
end Go.Proofs.Ytbgacchbldgaeaa
