/-
  How a list of calls that comes in is read: a lemma that the claimed proofs use.
-/
import Derived.Test.YtadmhocpnbgegaaIns
import Derived.Test.YtadmhocpnbgegaaEnd
import Derived.Deep.SlicePairs
namespace Go.Proofs.Ytadmhocpnbgegaa
open Go.ChangeShapes Go.WideShapes Go.ChangeAt Go.RowKit Go.Joins Go.Deep

theorem plain_at {W : World} {a : Addr} {k : Nat} {v : Value} (h : W.cell? (a.add 0) = some v) : a.add k = ⟨a.block, a.off + k, none⟩ := by
  obtain ⟨b, off, spot⟩ := a
  have hspot : spot = none := by simpa [Addr.add] using World.cell?_spot h
  subst hspot
  exact add_plain b off k
section
variable {H : Type} {enc : TypeId × Value → H} {w : World} {base : Nat} {spare : Nat → Bool} {held : Bool}
/-- A struct of a bool, two ints and a struct of four ints. -/
theorem call_fields {n : Nat} {cs : List Value} {x : DataW H × List MemPlace} {b : Nat} {a : Addr} (h1 : w.cells? b a 7 = some cs) (h2 : DataW.trod enc Try.prog w base spare held n 34 cs = some x) :
    ∃ X : Cl, I6 X.p X.k X.a X.b X.c X.d ∧ w.cell? (a.add 0) = some (.bool X.z) ∧ w.cell? (a.add 1) = some (.int .i64 X.p) ∧ w.cell? (a.add 2) = some (.int .i64 X.k) ∧ w.cell? (a.add 3) = some (.int .i64 X.a) ∧
      w.cell? (a.add 4) = some (.int .i64 X.b) ∧ w.cell? (a.add 5) = some (.int .i64 X.c) ∧ w.cell? (a.add 6) = some (.int .i64 X.d) := by
  obtain ⟨_, hlen, hcell⟩ := World.cells?_some h1
  obtain ⟨xs, k, hk, hxy, _, hxl, hf⟩ := DataW.trod_struct Try.underlying34 h2
  have ce : Try.prog.cellsOf 32 = 4 := by kernel_rfl
  have ci : Try.prog.cellsOf 3 = 1 := by kernel_rfl
  have cb : Try.prog.cellsOf 4 = 1 := by kernel_rfl
  match xs, hxl, cs, hlen with
  | [y0, y1, y2, y3], _, [v0, v1, v2, v3, v4, v5, v6], _ =>
    have g0 := hf 0 _ rfl
    have g1 := hf 1 _ rfl
    have g2 := hf 2 _ rfl
    have g3 := hf 3 _ rfl
    simp [ce, ci, cb] at g0 g1 g2 g3
    obtain ⟨z, e0, _⟩ := DataW.trod_bool Try.underlying4 g0
    obtain ⟨p, e1, _, w1⟩ := DataW.trod_int Try.underlying3 g1
    obtain ⟨k', e2, _, w2⟩ := DataW.trod_int Try.underlying3 g2
    obtain ⟨zs, m, _, _, _, hzl, hz⟩ := DataW.trod_struct Try.underlying32 g3
    match zs, hzl with
    | [u0, u1, u2, u3], _ =>
      have k0 := hz 0 _ rfl
      have k1 := hz 1 _ rfl
      have k2 := hz 2 _ rfl
      have k3 := hz 3 _ rfl
      simp [ci] at k0 k1 k2 k3
      obtain ⟨a', e3, _, w3⟩ := DataW.trod_int Try.underlying3 k0
      obtain ⟨b', e4, _, w4⟩ := DataW.trod_int Try.underlying3 k1
      obtain ⟨c', e5, _, w5⟩ := DataW.trod_int Try.underlying3 k2
      obtain ⟨d', e6, _, w6⟩ := DataW.trod_int Try.underlying3 k3
      simp only [List.cons.injEq, and_true] at e0 e1 e2 e3 e4 e5 e6
      subst e0 e1 e2 e3 e4 e5 e6
      exact ⟨⟨z, p, k', a', b', c', d'⟩, ⟨int_of w1, int_of w2, int_of w3, int_of w4, int_of w5, int_of w6⟩, hcell 0 (by omega), hcell 1 (by omega), hcell 2 (by omega), hcell 3 (by omega), hcell 4 (by omega), hcell 5 (by omega), hcell 6 (by omega)⟩
end
theorem open_calls {H : Type} {enc : TypeId × Value → H} {W : World} {r : Reach} {b0 : Nat} {v : Value} {dd : DataW H} {p : List MemPlace} (hval : Value.okWide Try.prog W r b0 22 v) (h : DataW.Trod enc Try.prog W 0 (fun _ => true) true 22 v dd p) :
    ∃ A l c, v = .slice A (List.length (α := Cl) l) c ∧ CA W.heap.size W A l := by
  obtain ⟨a0, len, cap, rfl⟩ := okWide_slice Try.underlying22 hval
  obtain ⟨fuel, hf⟩ := h
  rcases open_slice Try.underlying22 hf with ⟨hcs, _⟩ | ⟨a, len', cap', m, n, D, Pl, hcs, _, hl, _, hm, _, hx⟩
  · simp [Value.cells] at hcs
    obtain ⟨rfl, rfl, rfl⟩ := hcs
    exact ⟨none, [], 0, rfl, fun h => by simp at h⟩
  · simp [Value.cells] at hcs
    obtain ⟨rfl, rfl, rfl⟩ := hcs
    rw [if_pos rfl] at hm
    subst hm
    have ce : Try.prog.cellsOf 34 = 7 := by kernel_rfl
    have ha : 0 < len → a = ⟨a.block, a.off, none⟩ := by
      intro hp
      obtain ⟨cs', h1, _⟩ := hx 0 (by omega)
      rw [ce, Nat.zero_mul] at h1
      obtain ⟨_, hlen, hcell⟩ := World.cells?_some h1
      have q := hcell 0 (by omega)
      rw [List.getElem?_eq_getElem (by omega)] at q
      obtain ⟨b, off, spot⟩ := a
      have hspot : spot = none := by simpa [Addr.add] using World.cell?_spot q
      subst hspot
      rfl
    have each : ∀ i, i < len → ∃ x : Cl, C7 W a.block (a.off + i * 7) x ∧ I6 x.p x.k x.a x.b x.c x.d := by
      intro i hi
      obtain ⟨cs', h1, h2⟩ := hx i (by omega)
      rw [ce] at h1
      obtain ⟨X, hX, q0, q1, q2, q3, q4, q5, q6⟩ := call_fields h1 h2
      have hA : a.add (i * 7) = ⟨a.block, a.off + i * 7, none⟩ := by
        have e := ha (by omega)
        rw [e]
        exact add_plain _ _ _
      rw [hA] at q0 q1 q2 q3 q4 q5 q6
      have pl := fun k => plain_at (k := k) q0
      rw [pl] at q0 q1 q2 q3 q4 q5 q6
      exact ⟨X, ⟨q0, q1, q2, q3, q4, q5, q6⟩, hX⟩
    have inh : Inhabited Cl := ⟨⟨false, 0, 0, 0, 0, 0, 0⟩⟩
    obtain ⟨f, hfn⟩ := choose_lt each
    refine ⟨some a, (List.range len).map f, m, by simp, fun hp => ?_⟩
    have hp' : 0 < len := by simpa using hp
    obtain ⟨c0, _⟩ := hfn 0 hp'
    refine ⟨a.block, a.off, by rw [← ha hp'], World.block_lt_of_cell? W ⟨a.block, a.off + 0 * 7, none⟩ c0.c0, fun i hlt => ?_⟩
    have hlt' : i < len := by simpa using hlt
    have eg : cl ((List.range len).map f) i = f i := by
      unfold cl
      rw [List.getD_eq_getElem?_getD, List.getElem?_map, List.getElem?_range hlt']; rfl
    rw [eg]
    exact hfn i hlt'
end Go.Proofs.Ytadmhocpnbgegaa
