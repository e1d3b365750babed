/-
  How a list of calls that comes in is read: a lemma that the claimed proofs use.
-/
import Derived.Test.YtdkjbidnelbdeaaCallsAny
import Derived.Test.YtdkjbidnelbdeaaEnd
import Derived.Deep.SlicePairs
namespace Go.Proofs.Ytdkjbidnelbdeaa
open Go.ChangeShapes Go.WideShapes Go.ChangeAt Go.RowKit Go.Joins Go.Deep

theorem plain_at {W : World} {a : Addr} {k : Nat} {v : Value} (h : W.cell? (a.add 0) = some v) : a.add k = ⟨a.block, a.off + k, none⟩ := by
  obtain ⟨b, off, spot⟩ := a
  have hspot : spot = none := by simpa [Addr.add] using World.cell?_spot h
  subst hspot
  exact add_plain b off k

theorem bytes_of_trod {H : Type} {enc : TypeId × Value → H} {W : World} {v : Value} {x : DataW H × List MemPlace} {fuel : Nat} (hf : DataW.trod enc Try.prog W 0 (fun _ => true) true fuel 29 [v] = some x) :
    ∃ A bs c, v = .slice A (List.length (α := BitVec 8) bs) c ∧ BA W.heap.size W A bs ∧ (A = none → bs.length = 0 ∧ c = 0) := by
  rcases open_ints Try.underlying29 Try.underlying5 (by kernel_rfl) hf with ⟨hcs, _⟩ | ⟨a, len, cap, zs, hcs, _, hl, _, hz, _, hi, hw⟩
  · simp only [List.cons.injEq, and_true] at hcs
    subst hcs
    exact ⟨none, [], 0, rfl, fun h => by simp at h, fun _ => ⟨rfl, rfl⟩⟩
  · simp only [List.cons.injEq, and_true] at hcs
    subst hcs
    rw [if_pos rfl] at hz
    refine ⟨some a, (List.range len).map fun i => BitVec.ofNat 8 (zs.getD i 0).toNat, cap, by simp, fun hp => ?_, fun h => by cases h⟩
    have hp' : 0 < len := by simpa using hp
    have z := hi 0 (by omega)
    have ea := plain_at (k := 0) z
    have ea' : a = ⟨a.block, a.off, none⟩ := by simpa [Addr.add] using ea
    refine ⟨a.block, a.off, by rw [← ea'], World.block_lt_of_cell? W ⟨a.block, a.off + 0, none⟩ (by rw [ea] at z; exact z), fun i hlt => ?_⟩
    have hlt' : i < len := by simpa using hlt
    have eg : ((List.range len).map fun i => BitVec.ofNat 8 (zs.getD i 0).toNat).getD i 0#8 = BitVec.ofNat 8 (zs.getD i 0).toNat := by
      rw [List.getD_eq_getElem?_getD, List.getElem?_map, List.getElem?_range hlt']; rfl
    have hb := Go.bounds_u8 (hw (zs.getD i 0) (by rw [List.getD_eq_getElem?_getD, List.getElem?_eq_getElem (by omega : i < zs.length)]; exact List.getElem_mem _))
    have eu : y (BitVec.ofNat 8 (zs.getD i 0).toNat) = zs.getD i 0 := by
      unfold y; rw [BitVec.toNat_ofNat, Nat.mod_eq_of_lt (by omega)]; omega
    rw [eg, eu, ← plain_at z]
    exact hi i (by omega)

section
variable {H : Type} {enc : TypeId × Value → H} {P : Program} {w : World} {base : Nat} {spare : Nat → Bool} {held : Bool}
theorem seven_fields {e : TypeId} {f0 f1 f2 f3 f4 f5 f6 : Field} {n : Nat} {cs : List Value} {x : DataW H × List MemPlace} {b : Nat} {a : Addr} (he : P.underlying e = some (.struct #[f0, f1, f2, f3, f4, f5, f6]))
    (o0 : f0.offset = 0) (o1 : f1.offset = 1) (o2 : f2.offset = 2) (o3 : f3.offset = 3) (o4 : f4.offset = 4) (o5 : f5.offset = 5) (o6 : f6.offset = 6)
    (c0 : P.cellsOf f0.type = 1) (c1 : P.cellsOf f1.type = 1) (c2 : P.cellsOf f2.type = 1) (c3 : P.cellsOf f3.type = 1) (c4 : P.cellsOf f4.type = 1) (c5 : P.cellsOf f5.type = 1) (c6 : P.cellsOf f6.type = 1)
    (h1 : w.cells? b a 7 = some cs) (h2 : DataW.trod enc P w base spare held n e cs = some x) :
    ∃ (v0 v1 v2 v3 v4 v5 v6 : Value) (k : Nat) (y0 y1 y2 y3 y4 y5 y6 : DataW H × List MemPlace), w.cell? (a.add 0) = some v0 ∧ w.cell? (a.add 1) = some v1 ∧ w.cell? (a.add 2) = some v2 ∧ w.cell? (a.add 3) = some v3 ∧ w.cell? (a.add 4) = some v4 ∧ w.cell? (a.add 5) = some v5 ∧ w.cell? (a.add 6) = some v6 ∧
      DataW.trod enc P w base spare held k f0.type [v0] = some y0 ∧ DataW.trod enc P w base spare held k f1.type [v1] = some y1 ∧ DataW.trod enc P w base spare held k f2.type [v2] = some y2 ∧ DataW.trod enc P w base spare held k f3.type [v3] = some y3 ∧
      DataW.trod enc P w base spare held k f4.type [v4] = some y4 ∧ DataW.trod enc P w base spare held k f5.type [v5] = some y5 ∧ DataW.trod enc P w base spare held k f6.type [v6] = some y6 := by
  obtain ⟨_, hlen, hcell⟩ := World.cells?_some h1
  obtain ⟨xs, k, hk, hxy, _, hxl, hf⟩ := DataW.trod_struct he h2
  match xs, hxl, cs, hlen with
  | [y0, y1, y2, y3, y4, y5, y6], _, [v0, v1, v2, v3, v4, v5, v6], _ =>
    have g0 := hf 0 f0 rfl
    have g1 := hf 1 f1 rfl
    have g2 := hf 2 f2 rfl
    have g3 := hf 3 f3 rfl
    have g4 := hf 4 f4 rfl
    have g5 := hf 5 f5 rfl
    have g6 := hf 6 f6 rfl
    simp [o0, o1, o2, o3, o4, o5, o6, c0, c1, c2, c3, c4, c5, c6] at g0 g1 g2 g3 g4 g5 g6
    exact ⟨v0, v1, v2, v3, v4, v5, v6, k, y0, y1, y2, y3, y4, y5, y6, hcell 0 (by omega), hcell 1 (by omega), hcell 2 (by omega), hcell 3 (by omega), hcell 4 (by omega), hcell 5 (by omega), hcell 6 (by omega), g0, g1, g2, g3, g4, g5, g6⟩
end

instance : Inhabited Cl := ⟨cl0⟩
theorem open_calls {H : Type} {enc : TypeId × Value → H} {W : World} {r : Reach} {b0 : Nat} {v : Value} {dd : DataW H} {p : List MemPlace} (hval : Value.okWide Try.prog W r b0 22 v) (h : DataW.Trod enc Try.prog W 0 (fun _ => true) true 22 v dd p) :
    ∃ A l c, v = .slice A (List.length (α := Cl) l) c ∧ CS W.heap.size W A l := by
  obtain ⟨a0, len, cap, rfl⟩ := okWide_slice Try.underlying22 hval
  obtain ⟨fuel, hf⟩ := h
  rcases open_slice Try.underlying22 hf with ⟨hcs, _⟩ | ⟨a, len', cap', m, n, D, Pl, hcs, _, hl, _, hm, _, hx⟩
  · simp [Value.cells] at hcs
    obtain ⟨rfl, rfl, rfl⟩ := hcs
    exact ⟨none, [], 0, rfl, fun h => by simp at h⟩
  · simp [Value.cells] at hcs
    obtain ⟨rfl, rfl, rfl⟩ := hcs
    rw [if_pos rfl] at hm
    subst hm
    have ce : Try.prog.cellsOf 34 = 7 := by kernel_rfl
    have ha : 0 < len → a = ⟨a.block, a.off, none⟩ := by
      intro hp
      obtain ⟨cs', h1, _⟩ := hx 0 (by omega)
      rw [ce, Nat.zero_mul] at h1
      obtain ⟨_, hlen, hcell⟩ := World.cells?_some h1
      have q := hcell 0 (by omega)
      rw [List.getElem?_eq_getElem (by omega)] at q
      obtain ⟨b, off, spot⟩ := a
      have hspot : spot = none := by simpa [Addr.add] using World.cell?_spot q
      subst hspot
      rfl
    have each : ∀ i, i < len → ∃ x : Cl, ClAt W a.block (a.off + i * 7) x ∧ ClOk W.heap.size W x := by
      intro i hi
      obtain ⟨cs', h1, h2⟩ := hx i (by omega)
      rw [ce] at h1
      obtain ⟨v0, v1, v2, v3, v4, v5, v6, k, y0, y1, y2, y3, y4, y5, y6, q0, q1, q2, q3, q4, q5, q6, g0, g1, g2, g3, g4, g5, g6⟩ :=
        seven_fields Try.underlying34 rfl rfl rfl rfl rfl rfl rfl (by kernel_rfl) (by kernel_rfl) (by kernel_rfl) (by kernel_rfl) (by kernel_rfl) (by kernel_rfl) (by kernel_rfl) h1 h2
      obtain ⟨z0, e0, _, _⟩ := DataW.trod_int Try.underlying3 g0
      obtain ⟨z1, e1, _, w1⟩ := DataW.trod_int Try.underlying3 g1
      obtain ⟨z2, e2, _, _⟩ := DataW.trod_int Try.underlying3 g2
      obtain ⟨z3, e3, _, w3⟩ := DataW.trod_int Try.underlying3 g3
      obtain ⟨z4, e4, _, _⟩ := DataW.trod_int Try.underlying3 g4
      obtain ⟨z5, e5, _, w5⟩ := DataW.trod_int Try.underlying32 g5
      obtain ⟨X, xs, d, rfl, hba, hX⟩ := bytes_of_trod g6
      simp only [List.cons.injEq, and_true] at e0 e1 e2 e3 e4 e5
      subst e0 e1 e2 e3 e4 e5
      obtain ⟨x5, rfl⟩ := word_of w5
      have hA : a.add (i * 7) = ⟨a.block, a.off + i * 7, none⟩ := by
        have e := ha (by omega)
        rw [e]
        exact add_plain _ _ _
      rw [hA] at q0 q1 q2 q3 q4 q5 q6
      have pl := fun k => plain_at (k := k) q0
      rw [pl] at q0 q1 q2 q3 q4 q5 q6
      refine ⟨⟨z0, z1, z2, z3, z4, x5, X, xs, d⟩, ⟨q0, q1, q2, q3, q4, q5, q6⟩, ⟨?_, ?_, hba, hX⟩⟩
      · have := Go.bounds_i64 w1; exact this.2
      · have := Go.bounds_i64 w3; exact this.2
    obtain ⟨f, hfn⟩ := choose_lt each
    refine ⟨some a, (List.range len).map f, m, by simp, fun hp => ?_⟩
    have hp' : 0 < len := by simpa using hp
    obtain ⟨c0, _⟩ := hfn 0 hp'
    refine ⟨a.block, a.off, by rw [← ha hp'], World.block_lt_of_cell? W ⟨a.block, a.off + 0 * 7, none⟩ c0.1, fun i hlt => ?_⟩
    have hlt' : i < len := by simpa using hlt
    have eg : ((List.range len).map f).getD i cl0 = f i := by
      rw [List.getD_eq_getElem?_getD, List.getElem?_map, List.getElem?_range hlt']; rfl
    rw [eg]
    exact hfn i hlt'

end Go.Proofs.Ytdkjbidnelbdeaa
