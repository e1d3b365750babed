/-
  How lists of numbers, of bytes and of calls that come in are read: lemmas that the claimed proofs use.
-/
import Derived.Test.YtaelfgdiboekpaaDoorNsIns
import Derived.Test.YtaelfgdiboekpaaDoorNsGreat
import Derived.Deep.SlicePairs
namespace Go.Proofs.YtaelfgdiboekpaaDoor.Ns
set_option maxRecDepth 100000
open Go.ChangeShapes Go.WideShapes Go.ChangeAt Go.RowKit Go.Joins Go.Deep
open Ce (y BA)

theorem at_plain {W : World} {a : Addr} {k : Nat} {v : Value} (h : W.cell? (a.add 0) = some v) : a.add k = ⟨a.block, a.off + k, none⟩ := by
  obtain ⟨b, off, spot⟩ := a
  have hspot : spot = none := by simpa [Addr.add] using World.cell?_spot h
  subst hspot
  exact add_plain b off k
theorem open_in {H : Type} {enc : TypeId × Value → H} {W : World} {fuel : Nat} {v : Value} {a0 : Option Addr} {len cap : Nat} {x : DataW H × List MemPlace} (hv : v = .slice a0 len cap) (hf : DataW.trod enc Tryd.prog W 0 (fun _ => true) true fuel 30 v.cells.toList = some x) :
    ∃ xs, In W a0 len cap xs := by
  subst hv
  rcases open_ints Tryd.underlying30 Tryd.underlying3 (by kernel_rfl) hf with ⟨hcs, _⟩ | ⟨a, len', cap', zs, hcs, _, hl, _, hz, _, hi, hw⟩
  · simp [Value.cells] at hcs
    obtain ⟨rfl, rfl, rfl⟩ := hcs
    exact ⟨[], fun h => absurd h (by simp [ints]), rfl, fun _ => ⟨rfl, rfl⟩, fun y hy => (List.not_mem_nil hy).elim⟩
  · simp [Value.cells] at hcs
    obtain ⟨rfl, rfl, rfl⟩ := hcs
    rw [if_pos rfl] at hz
    have hzl : len ≤ zs.length := by omega
    refine ⟨zs.take len, fun hp => ?_, by rw [List.length_take]; omega, (fun h => by cases h), fun y hy => i64_wf (hw y (List.mem_of_mem_take hy))⟩
    rw [ints_len, List.length_take] at hp
    have z := hi 0 (by omega)
    have ea := at_plain (k := 0) z
    have ea' : a = ⟨a.block, a.off, none⟩ := by simpa [Addr.add] using ea
    refine ⟨a.block, a.off, by rw [← ea'], World.block_lt_of_cell? W ⟨a.block, a.off + 0, none⟩ (by rw [ea] at z; exact z), fun i v hiv => ?_⟩
    have hlt := (List.getElem?_eq_some_iff.1 hiv).1
    rw [ints_len, List.length_take] at hlt
    have e : v = .int .i64 (zs.getD i 0) := by
      have h2 : i < zs.length := by omega
      have h3 : i < (zs.take len).length := by rw [List.length_take]; omega
      rw [ints_get _ h3] at hiv
      rw [← Option.some.inj hiv, List.getElem_take, List.getD_eq_getElem?_getD, List.getElem?_eq_getElem h2]; rfl
    rw [e, ← at_plain z]
    exact hi i (by omega)
theorem bytes_of_trod {H : Type} {enc : TypeId × Value → H} {W : World} {v : Value} {x : DataW H × List MemPlace} {fuel : Nat} (hf : DataW.trod enc Tryd.prog W 0 (fun _ => true) true fuel 45 [v] = some x) :
    ∃ A bs c, v = .slice A (List.length (α := BitVec 8) bs) c ∧ BA W.heap.size W A bs ∧ (A = none → bs.length = 0 ∧ c = 0) := by
  rcases open_ints Tryd.underlying45 Tryd.underlying5 (by kernel_rfl) hf with ⟨hcs, _⟩ | ⟨a, len, cap, zs, hcs, _, hl, _, hz, _, hi, hw⟩
  · simp only [List.cons.injEq, and_true] at hcs
    subst hcs
    exact ⟨none, [], 0, rfl, fun h => by simp at h, fun _ => ⟨rfl, rfl⟩⟩
  · simp only [List.cons.injEq, and_true] at hcs
    subst hcs
    rw [if_pos rfl] at hz
    refine ⟨some a, (List.range len).map fun i => BitVec.ofNat 8 (zs.getD i 0).toNat, cap, by simp, fun hp => ?_, fun h => by cases h⟩
    have hp' : 0 < len := by simpa using hp
    have z := hi 0 (by omega)
    have ea := at_plain (k := 0) z
    have ea' : a = ⟨a.block, a.off, none⟩ := by simpa [Addr.add] using ea
    refine ⟨a.block, a.off, by rw [← ea'], World.block_lt_of_cell? W ⟨a.block, a.off + 0, none⟩ (by rw [ea] at z; exact z), fun i hlt => ?_⟩
    have hlt' : i < len := by simpa using hlt
    have eg : ((List.range len).map fun i => BitVec.ofNat 8 (zs.getD i 0).toNat).getD i 0#8 = BitVec.ofNat 8 (zs.getD i 0).toNat := by
      rw [List.getD_eq_getElem?_getD, List.getElem?_map, List.getElem?_range hlt']; rfl
    have hb := Go.bounds_u8 (hw (zs.getD i 0) (by rw [List.getD_eq_getElem?_getD, List.getElem?_eq_getElem (by omega : i < zs.length)]; exact List.getElem_mem _))
    have eu : y (BitVec.ofNat 8 (zs.getD i 0).toNat) = zs.getD i 0 := by
      unfold Ce.y; rw [BitVec.toNat_ofNat, Nat.mod_eq_of_lt (by omega)]; omega
    rw [eg, eu, ← at_plain z]
    exact hi i (by omega)
section
variable {H : Type} {enc : TypeId × Value → H} {P : Program} {w : World} {base : Nat} {spare : Nat → Bool} {held : Bool}
theorem four_trod {e : TypeId} {f0 f1 f2 f3 : Field} {n : Nat} {cs : List Value} {x : DataW H × List MemPlace} (he : P.underlying e = some (.struct #[f0, f1, f2, f3]))
    (o0 : f0.offset = 0) (o1 : f1.offset = 1) (o2 : f2.offset = 2) (o3 : f3.offset = 3) (c0 : P.cellsOf f0.type = 1) (c1 : P.cellsOf f1.type = 1) (c2 : P.cellsOf f2.type = 1) (c3 : P.cellsOf f3.type = 1)
    (hl : cs.length = 4) (h2 : DataW.trod enc P w base spare held n e cs = some x) :
    ∃ (v0 v1 v2 v3 : Value) (k : Nat) (y0 y1 y2 y3 : DataW H × List MemPlace), cs = [v0, v1, v2, v3] ∧
      DataW.trod enc P w base spare held k f0.type [v0] = some y0 ∧ DataW.trod enc P w base spare held k f1.type [v1] = some y1 ∧ DataW.trod enc P w base spare held k f2.type [v2] = some y2 ∧ DataW.trod enc P w base spare held k f3.type [v3] = some y3 := by
  obtain ⟨xs, k, hk, hxy, _, hxl, hf⟩ := DataW.trod_struct he h2
  match xs, hxl, cs, hl with
  | [y0, y1, y2, y3], _, [v0, v1, v2, v3], _ =>
    have g0 := hf 0 f0 rfl
    have g1 := hf 1 f1 rfl
    have g2 := hf 2 f2 rfl
    have g3 := hf 3 f3 rfl
    simp [o0, o1, o2, o3, c0, c1, c2, c3] at g0 g1 g2 g3
    exact ⟨v0, v1, v2, v3, k, y0, y1, y2, y3, rfl, g0, g1, g2, g3⟩
end
theorem slice_of {H : Type} {enc : TypeId × Value → H} {W : World} {v : Value} {x : DataW H × List MemPlace} {fuel : Nat} (hf : DataW.trod enc Tryd.prog W 0 (fun _ => true) true fuel 30 [v] = some x) : ∃ A n c, v = .slice A n c := by
  rcases open_ints Tryd.underlying30 Tryd.underlying3 (by kernel_rfl) hf with ⟨hcs, _⟩ | ⟨a, len, cap, zs, hcs, _⟩
  · simp only [List.cons.injEq, and_true] at hcs
    exact ⟨_, _, _, hcs⟩
  · simp only [List.cons.injEq, and_true] at hcs
    exact ⟨_, _, _, hcs⟩
/-- A call's four cells. -/
theorem call_of {H : Type} {enc : TypeId × Value → H} {W : World} {n : Nat} {cs : List Value} {x : DataW H × List MemPlace} (hl : cs.length = 4) (h2 : DataW.trod enc Tryd.prog W 0 (fun _ => true) true n 55 cs = some x) :
    ∃ X : Cl, cs = [.int .i64 X.x, .int .i64 X.a, .slice X.A X.n X.cap, .slice X.B X.m X.mcap] ∧ In W X.A X.n X.cap X.xs ∧ I64 X.a ∧ Ib W X.B X.m X.mcap X.ys := by
  obtain ⟨v0, v1, v2, v3, k, y0, y1, y2, y3, rfl, g0, g1, g2, g3⟩ := four_trod Tryd.underlying55 rfl rfl rfl rfl (by kernel_rfl) (by kernel_rfl) (by kernel_rfl) (by kernel_rfl) hl h2
  obtain ⟨z0, e0, _, _⟩ := DataW.trod_int Tryd.underlying3 g0
  obtain ⟨z1, e1, _, w1⟩ := DataW.trod_int Tryd.underlying3 g1
  obtain ⟨A, n, c, rfl⟩ := slice_of g2
  obtain ⟨xs, hin⟩ := open_in (a0 := A) (len := n) (cap := c) rfl g2
  obtain ⟨B, bs, d, rfl, hba, hB⟩ := bytes_of_trod g3
  simp only [List.cons.injEq, and_true] at e0 e1
  subst e0 e1
  exact ⟨⟨z0, z1, A, n, c, xs, B, bs.length, d, bs⟩, rfl, hin, i64_wf w1, hba, rfl, hB⟩
def cl0 : Cl := ⟨0, 0, none, 0, 0, [], none, 0, 0, []⟩
instance : Inhabited Cl := ⟨cl0⟩
theorem open_calls {H : Type} {enc : TypeId × Value → H} {W : World} {r : Reach} {b0 : Nat} {v : Value} {dd : DataW H} {p : List MemPlace} (hval : Value.okWide Tryd.prog W r b0 31 v) (h : DataW.Trod enc Tryd.prog W 0 (fun _ => true) true 31 v dd p) :
    ∃ A l c, v = .slice A (List.length (α := Cl) l) c ∧ CA W A l := by
  obtain ⟨a0, len, cap, rfl⟩ := okWide_slice Tryd.underlying31 hval
  obtain ⟨fuel, hf⟩ := h
  rcases open_slice Tryd.underlying31 hf with ⟨hcs, _⟩ | ⟨a, len', cap', m, n, D, Pl, hcs, _, hl, _, hm, _, hx⟩
  · simp [Value.cells] at hcs
    obtain ⟨rfl, rfl, rfl⟩ := hcs
    exact ⟨none, [], 0, rfl, fun j h => by simp at h⟩
  · simp [Value.cells] at hcs
    obtain ⟨rfl, rfl, rfl⟩ := hcs
    rw [if_pos rfl] at hm
    subst hm
    have ce : Tryd.prog.cellsOf 55 = 4 := by kernel_rfl
    have ha : 0 < len → a = ⟨a.block, a.off, none⟩ := by
      intro hp
      obtain ⟨cs', h1, _⟩ := hx 0 (by omega)
      rw [ce, Nat.zero_mul] at h1
      obtain ⟨_, hlen, hcell⟩ := World.cells?_some h1
      have q := hcell 0 (by omega)
      rw [List.getElem?_eq_getElem (by omega)] at q
      obtain ⟨b, off, spot⟩ := a
      have hspot : spot = none := by simpa [Addr.add] using World.cell?_spot q
      subst hspot
      rfl
    have each : ∀ i, i < len → ∃ x : Cl, W.cell? ⟨a.block, a.off + i * 4, none⟩ = some (.int .i64 x.x) ∧ W.cell? ⟨a.block, a.off + i * 4 + 1, none⟩ = some (.int .i64 x.a) ∧ W.cell? ⟨a.block, a.off + i * 4 + 2, none⟩ = some (.slice x.A x.n x.cap) ∧ W.cell? ⟨a.block, a.off + i * 4 + 3, none⟩ = some (.slice x.B x.m x.mcap) ∧ In W x.A x.n x.cap x.xs ∧ I64 x.a ∧ Ib W x.B x.m x.mcap x.ys := by
      intro i hi
      obtain ⟨cs', h1, h2⟩ := hx i (by omega)
      rw [ce] at h1
      obtain ⟨_, hlen, hcell⟩ := World.cells?_some h1
      obtain ⟨X, rfl, hin, hI, hB⟩ := call_of hlen h2
      have q0 := hcell 0 (by omega)
      have q1 := hcell 1 (by omega)
      have q2 := hcell 2 (by omega)
      have q3 := hcell 3 (by omega)
      have hA : a.add (i * 4) = ⟨a.block, a.off + i * 4, none⟩ := by
        have e := ha (by omega)
        rw [e]
        exact add_plain _ _ _
      rw [hA] at q0 q1 q2 q3
      have pl := fun k => at_plain (k := k) q0
      rw [pl] at q0 q1 q2 q3
      exact ⟨X, q0, q1, q2, q3, hin, hI, hB⟩
    obtain ⟨f, hfn⟩ := choose_lt each
    refine ⟨some a, (List.range len).map f, m, by simp, fun j hj => ?_⟩
    have hj' : j < len := by simpa using hj
    obtain ⟨c0, c1, c2, c3, hi, hw, hB⟩ := hfn j hj'
    have eg : ((List.range len).map f)[j] = f j := by simp
    rw [eg]
    exact ⟨a.block, a.off, by rw [← ha (by omega)], World.block_lt_of_cell? W ⟨a.block, a.off + j * 4, none⟩ c0, c0, c1, c2, c3, hi, hw, hB⟩
end Go.Proofs.YtaelfgdiboekpaaDoor.Ns
