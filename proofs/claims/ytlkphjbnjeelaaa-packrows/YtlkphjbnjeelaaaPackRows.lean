/-
  For every row of fields, row of values and word the law on Apart, Pack and Unpack answers true, and its arguments read as before.
  Conditions: none beyond those of the given statement.
-/
import Derived.Test.YtlkphjbnjeelaaaRowsNil
import Derived.Test.YtlkphjbnjeelaaaEnd
import Derived.Deep.SlicePairs
namespace Go.Proofs.Ytlkphjbnjeelaaa
open Go.ChangeShapes Go.WideShapes Go.ChangeAt Go.RowKit Go.Joins Go.Deep

theorem at_plain {W : World} {a : Addr} {k : Nat} {v : Value} (h : W.cell? (a.add 0) = some v) : a.add k = ⟨a.block, a.off + k, none⟩ := by
  obtain ⟨b, off, spot⟩ := a
  have hspot : spot = none := by simpa [Addr.add] using World.cell?_spot h
  subst hspot
  exact add_plain b off k

theorem open_fields {H : Type} {enc : TypeId × Value → H} {W : World} {r : Reach} {b0 : Nat} {v : Value} {dd : DataW H} {p : List MemPlace} (hval : Value.okWide Try.prog W r b0 42 v) (h : DataW.Trod enc Try.prog W 0 (fun _ => true) true 42 v dd p) :
    ∃ A l c, v = .slice A (List.length (α := Int × Int) l) c ∧ FS W.heap.size W A l := by
  obtain ⟨a0, len, cap, rfl⟩ := okWide_slice Try.underlying42 hval
  obtain ⟨fuel, hf⟩ := h
  rcases open_slice_pairs Try.underlying42 Try.underlying24 (by kernel_rfl) rfl rfl (by kernel_rfl) (by kernel_rfl) hf with ⟨hcs, _⟩ | ⟨a, len', cap', m, n, V0, V1, D0, D1, P0, P1, hcs, _, hl, _, hm, _, hi⟩
  · simp [Value.cells] at hcs
    obtain ⟨rfl, rfl, rfl⟩ := hcs
    exact ⟨none, [], 0, rfl, fun h => by simp at h⟩
  · simp [Value.cells] at hcs
    obtain ⟨rfl, rfl, rfl⟩ := hcs
    rw [if_pos rfl] at hm
    subst hm
    have e : ∀ i, i < len → W.cell? ⟨a.block, a.off + i * 2, none⟩ = some (.int .i64 (intOf (V0 i))) ∧ W.cell? ⟨a.block, a.off + i * 2 + 1, none⟩ = some (.int .i64 (intOf (V1 i))) := by
      intro i hlt
      have z := (hi 0 (by omega)).1
      rw [Nat.zero_mul] at z
      obtain ⟨q0, q1, t0, t1⟩ := hi i (by omega)
      obtain ⟨x0, e0, _, _⟩ := DataW.trod_int Try.underlying3 t0
      obtain ⟨x1, e1, _, _⟩ := DataW.trod_int Try.underlying3 t1
      simp only [List.cons.injEq, and_true] at e0 e1
      rw [at_plain z, e0] at q0
      rw [at_plain z, e1] at q1
      rw [e0, e1]
      exact ⟨q0, q1⟩
    refine ⟨some a, (List.range len).map fun i => (intOf (V0 i), intOf (V1 i)), m, by simp, fun hp => ?_⟩
    have hp' : 0 < len := by simpa using hp
    have z := (hi 0 (by omega)).1
    rw [Nat.zero_mul] at z
    have ea := at_plain (k := 0) z
    have ea' : a = ⟨a.block, a.off, none⟩ := by simpa [Addr.add] using ea
    refine ⟨a.block, a.off, by rw [← ea'], World.block_lt_of_cell? W ⟨a.block, a.off + 0 * 2, none⟩ (e 0 hp').1, fun i hlt => ?_⟩
    have hlt' : i < len := by simpa using hlt
    have eg : ((List.range len).map fun i => (intOf (V0 i), intOf (V1 i))).getD i (0, 0) = (intOf (V0 i), intOf (V1 i)) := by
      rw [List.getD_eq_getElem?_getD, List.getElem?_map, List.getElem?_range hlt']; rfl
    rw [eg]
    exact e i hlt'

theorem open_words {H : Type} {enc : TypeId × Value → H} {W : World} {r : Reach} {b0 : Nat} {v : Value} {dd : DataW H} {p : List MemPlace} (hval : Value.okWide Try.prog W r b0 43 v) (h : DataW.Trod enc Try.prog W 0 (fun _ => true) true 43 v dd p) :
    ∃ A vs c, v = .slice A (List.length (α := BitVec 64) vs) c ∧ WS W.heap.size W A vs := by
  obtain ⟨a0, len, cap, rfl⟩ := okWide_slice Try.underlying43 hval
  obtain ⟨fuel, hf⟩ := h
  rcases open_ints Try.underlying43 Try.underlying22 (by kernel_rfl) hf with ⟨hcs, _⟩ | ⟨a, len', cap', zs, hcs, _, hl, _, hz, _, hi, hw⟩
  · simp [Value.cells] at hcs
    obtain ⟨rfl, rfl, rfl⟩ := hcs
    exact ⟨none, [], 0, rfl, fun h => by simp at h⟩
  · simp [Value.cells] at hcs
    obtain ⟨rfl, rfl, rfl⟩ := hcs
    rw [if_pos rfl] at hz
    refine ⟨some a, (List.range len).map fun i => BitVec.ofNat 64 (zs.getD i 0).toNat, cap, by simp, fun hp => ?_⟩
    have hp' : 0 < len := by simpa using hp
    have z := hi 0 (by omega)
    have ea := at_plain (k := 0) z
    have ea' : a = ⟨a.block, a.off, none⟩ := by simpa [Addr.add] using ea
    refine ⟨a.block, a.off, by rw [← ea'], World.block_lt_of_cell? W ⟨a.block, a.off + 0, none⟩ (by rw [ea] at z; exact z), fun i hlt => ?_⟩
    have hlt' : i < len := by simpa using hlt
    have eg : ((List.range len).map fun i => BitVec.ofNat 64 (zs.getD i 0).toNat).getD i 0#64 = BitVec.ofNat 64 (zs.getD i 0).toNat := by
      rw [List.getD_eq_getElem?_getD, List.getElem?_map, List.getElem?_range hlt']; rfl
    have hb := Go.bounds_u64 (hw (zs.getD i 0) (by rw [List.getD_eq_getElem?_getD, List.getElem?_eq_getElem (by omega : i < zs.length)]; exact List.getElem_mem _))
    have eu : u (BitVec.ofNat 64 (zs.getD i 0).toNat) = zs.getD i 0 := by
      unfold u; rw [BitVec.toNat_ofNat, Nat.mod_eq_of_lt (by omega)]; omega
    rw [eg, eu, ← at_plain z]
    exact hi i (by omega)

set_option maxRecDepth 100000 in
theorem rows_lifted (os : Os) (started : os.Started) (H : Type) (enc : TypeId × Value → H) :
    ReturnsInHanded {} Try.checked os 5 .any (Rows.packRowsSpec.pre6 enc Try.prog Try.f5 Rows.packRowsRow.domain false) (Rows.packRowsSpec.post enc Try.prog Try.f5 false true false false) := by
  refine returnsInHanded_of_change (C := Try.checked) Try.own started (by kernel_rfl) Try.func5
    (ChangeSpec.witness6 (enc := enc) (C := Try.checked) false ⟨#[], #[.slice none 0 0, .slice none 0 0, .int .u64 0], []⟩ 8 (by kernel_rfl) (by kernel_rfl) (by kernel_rfl) (by kernel_rfl)) ?_
  intro W base args ds gs before hval0 hW hcnd _
  have hval : ∀ (j : Nat) t v, Try.f5.params[j]? = some t → args[j]? = some v → Value.okWide Try.prog W .any base t v := hval0
  have hW' := hW
  obtain ⟨p, q, hA0, hV, rfl, hfz, hnd⟩ := hW
  have hA : DataW.TrodAll enc Try.prog W 0 (fun _ => true) true Try.f5.params.toList args.toList ds p := hA0
  rw [Try.params5] at hA hval
  obtain ⟨v0, v1, v2, d0, d1, d2, p0, p1, p2, rfl, rfl, rfl, h0, h1, h2⟩ := trodAll_three hA
  obtain ⟨rfl, rfl⟩ := trodVars_none hV
  obtain ⟨A, l, c, rfl, hf⟩ := open_fields (hval 0 42 v0 rfl rfl) h0
  obtain ⟨V, vs, d, rfl, hv⟩ := open_words (hval 1 43 v1 rfl rfl) h1
  obtain ⟨a2, rfl, rfl, rfl, w2⟩ := open_int Try.underlying22 (hval 2 22 v2 rfl rfl) h2
  obtain ⟨x, rfl⟩ := word_of w2
  refine (rows_any A V l vs c d x W hf hv).mono fun e W' ⟨he, hb⟩ => ?_
  subst he
  exact ⟨_, rfl, law_post Try.laidOut (by rw [Try.params5]; decide +kernel) (by kernel_rfl) (fun _ _ _ => shut_bool Try.underlying4 true) rfl hW' rfl rfl rfl hb⟩

theorem packRows_holds : Rows.PackRowsSaid :=
  OpenClaim.holds_of_wide 5 Try.f5 rfl rfl rfl rfl rfl rfl rfl ⟨rfl, rfl, rfl, rfl, rfl⟩ rfl rfl rfl rfl rfl (by kernel_rfl) Try.func5 (by kernel_rfl)
    (of_decide_eq_true (by kernel_rfl)) (by unfold Func.isWrapper; first | (rw [if_pos (by decide +kernel)]; kernel_rfl) | (rw [if_neg (by decide +kernel)]; exact ⟨rfl, rfl⟩))
    (fun os started H enc _ => rows_lifted os started H enc)
#print axioms packRows_holds

end Go.Proofs.Ytlkphjbnjeelaaa
