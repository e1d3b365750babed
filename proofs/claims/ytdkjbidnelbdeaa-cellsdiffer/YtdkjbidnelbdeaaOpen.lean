/-
  How a list of bytes that comes in is read: a lemma that the claimed proofs use.
-/
import Derived.Test.YtdkjbidnelbdeaaSame
import Derived.Test.YtdkjbidnelbdeaaEnd
import Derived.Deep.SlicePairs
namespace Go.Proofs.Ytdkjbidnelbdeaa
open Go.ChangeShapes Go.WideShapes Go.ChangeAt Go.RowKit Go.Joins Go.Deep

theorem at_plain {W : World} {a : Addr} {k : Nat} {v : Value} (h : W.cell? (a.add 0) = some v) : a.add k = ⟨a.block, a.off + k, none⟩ := by
  obtain ⟨b, off, spot⟩ := a
  have hspot : spot = none := by simpa [Addr.add] using World.cell?_spot h
  subst hspot
  exact add_plain b off k

theorem open_bytes {H : Type} {enc : TypeId × Value → H} {W : World} {r : Reach} {b0 : Nat} {v : Value} {dd : DataW H} {p : List MemPlace} (hval : Value.okWide Try.prog W r b0 29 v) (h : DataW.Trod enc Try.prog W 0 (fun _ => true) true 29 v dd p) :
    ∃ A bs c, v = .slice A (List.length (α := BitVec 8) bs) c ∧ BA W.heap.size W A bs := by
  obtain ⟨a0, len, cap, rfl⟩ := okWide_slice Try.underlying29 hval
  obtain ⟨fuel, hf⟩ := h
  rcases open_ints Try.underlying29 Try.underlying5 (by kernel_rfl) hf with ⟨hcs, _⟩ | ⟨a, len', cap', zs, hcs, _, hl, _, hz, _, hi, hw⟩
  · simp [Value.cells] at hcs
    obtain ⟨rfl, rfl, rfl⟩ := hcs
    exact ⟨none, [], 0, rfl, fun h => by simp at h⟩
  · simp [Value.cells] at hcs
    obtain ⟨rfl, rfl, rfl⟩ := hcs
    rw [if_pos rfl] at hz
    refine ⟨some a, (List.range len).map fun i => BitVec.ofNat 8 (zs.getD i 0).toNat, cap, by simp, fun hp => ?_⟩
    have hp' : 0 < len := by simpa using hp
    have z := hi 0 (by omega)
    have ea := at_plain (k := 0) z
    have ea' : a = ⟨a.block, a.off, none⟩ := by simpa [Addr.add] using ea
    refine ⟨a.block, a.off, by rw [← ea'], World.block_lt_of_cell? W ⟨a.block, a.off + 0, none⟩ (by rw [ea] at z; exact z), fun i hlt => ?_⟩
    have hlt' : i < len := by simpa using hlt
    have eg : ((List.range len).map fun i => BitVec.ofNat 8 (zs.getD i 0).toNat).getD i 0#8 = BitVec.ofNat 8 (zs.getD i 0).toNat := by
      rw [List.getD_eq_getElem?_getD, List.getElem?_map, List.getElem?_range hlt']; rfl
    have hb := Go.bounds_u8 (hw (zs.getD i 0) (by rw [List.getD_eq_getElem?_getD, List.getElem?_eq_getElem (by omega : i < zs.length)]; exact List.getElem_mem _))
    have eu : y (BitVec.ofNat 8 (zs.getD i 0).toNat) = zs.getD i 0 := by
      unfold y; rw [BitVec.toNat_ofNat, Nat.mod_eq_of_lt (by omega)]; omega
    rw [eg, eu, ← at_plain z]
    exact hi i (by omega)

end Go.Proofs.Ytdkjbidnelbdeaa
