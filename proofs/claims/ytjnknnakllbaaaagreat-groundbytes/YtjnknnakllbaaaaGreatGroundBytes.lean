/-
  For every number of pages, every two rows of calls and every list of bytes the law on bytes answers true, and its arguments read as before.
  Conditions: none beyond those of the given statement.
-/
import Derived.Test.YtjnknnakllbaaaaGreatGrOpen
import Derived.Test.YtjnknnakllbaaaaGreatGrBytes
namespace Go.Proofs.YtjnknnakllbaaaaGreat
open Go.ChangeShapes Go.WideShapes Go.ChangeAt Go.RowKit Go.Joins
open Go.Deep
set_option maxRecDepth 100000 in
theorem open_bytes {H : Type} {enc : TypeId × Value → H} {W : World} {r : Reach} {b0 : Nat} {v : Value} {dd : DataW H} {p : List MemPlace} (hval : Value.okWide Tryz.prog W r b0 44 v) (h : DataW.Trod enc Tryz.prog W 0 (fun _ => true) true 44 v dd p) :
    ∃ A bs c, v = .slice A (List.length (α := BitVec 8) bs) c ∧ Ce.BA W.heap.size W A bs := by
  obtain ⟨a0, len, cap, rfl⟩ := okWide_slice Tryz.underlying44 hval
  obtain ⟨fuel, hf⟩ := h
  rcases open_ints Tryz.underlying44 Tryz.underlying5 (by kernel_rfl) hf with ⟨hcs, _⟩ | ⟨a, len', cap', zs, hcs, _, hl, _, hz, _, hi, hw⟩
  · simp [Value.cells] at hcs
    obtain ⟨rfl, rfl, rfl⟩ := hcs
    exact ⟨none, [], 0, rfl, fun h => by simp at h⟩
  · simp [Value.cells] at hcs
    obtain ⟨rfl, rfl, rfl⟩ := hcs
    rw [if_pos rfl] at hz
    refine ⟨some a, (List.range len).map fun i => BitVec.ofNat 8 (zs.getD i 0).toNat, cap, by simp, fun hp => ?_⟩
    have hp' : 0 < len := by simpa using hp
    have z := hi 0 (by omega)
    have ea := Gr.plain_at (k := 0) z
    have ea' : a = ⟨a.block, a.off, none⟩ := by simpa [Addr.add] using ea
    refine ⟨a.block, a.off, by rw [← ea'], World.block_lt_of_cell? W ⟨a.block, a.off + 0, none⟩ (by rw [ea] at z; exact z), fun i hlt => ?_⟩
    have hlt' : i < len := by simpa using hlt
    have eg : ((List.range len).map fun i => BitVec.ofNat 8 (zs.getD i 0).toNat).getD i 0#8 = BitVec.ofNat 8 (zs.getD i 0).toNat := by
      rw [List.getD_eq_getElem?_getD, List.getElem?_map, List.getElem?_range hlt']; rfl
    have hb := Go.bounds_u8 (hw (zs.getD i 0) (by rw [List.getD_eq_getElem?_getD, List.getElem?_eq_getElem (by omega : i < zs.length)]; exact List.getElem_mem _))
    have eu : Ce.y (BitVec.ofNat 8 (zs.getD i 0).toNat) = zs.getD i 0 := by
      unfold Ce.y; rw [BitVec.toNat_ofNat, Nat.mod_eq_of_lt (by omega)]; omega
    rw [eg, eu, ← Gr.plain_at z]
    exact hi i (by omega)


set_option maxRecDepth 100000 in
theorem bytes_lifted (os : Os) (started : os.Started) (H : Type) (enc : TypeId × Value → H) :
    ReturnsInHanded {} Tryz.checked os 5 .any (Rows.groundBytesSpec.pre6 enc Tryz.prog Tryz.f5 Rows.groundBytesRow.domain false) (Rows.groundBytesSpec.post enc Tryz.prog Tryz.f5 false true false false) := by
  refine returnsInHanded_of_change (C := Tryz.checked) Gr.own_ok started (by kernel_rfl) Tryz.func5
    (ChangeSpec.witness6 (enc := enc) (C := Tryz.checked) false ⟨#[], #[.int .i64 0, .slice none 0 0, .slice none 0 0, .slice none 0 0], []⟩ 8 (by kernel_rfl) (by kernel_rfl) (by kernel_rfl) (by kernel_rfl)) ?_
  intro W base args ds gs before hval0 hW hcnd _
  have hval : ∀ (j : Nat) t v, Tryz.f5.params[j]? = some t → args[j]? = some v → Value.okWide Tryz.prog W .any base t v := hval0
  have hW' := hW
  obtain ⟨p, q, hA0, hV, rfl, hfz, hnd⟩ := hW
  have hA : DataW.TrodAll enc Tryz.prog W 0 (fun _ => true) true Tryz.f5.params.toList args.toList ds p := hA0
  rw [Tryz.params5] at hA hval
  obtain ⟨args⟩ := args
  obtain ⟨v0, r0, d0, e0, p0, q0, x0, rfl, rfl, h0, hA⟩ := trodAll_cons hA
  obtain ⟨v1, r1, d1, e1, p1, q1, rfl, rfl, rfl, h1, hA⟩ := trodAll_cons hA
  obtain ⟨v2, r2, d2, e2, p2, q2, rfl, rfl, rfl, h2, hA⟩ := trodAll_cons hA
  obtain ⟨v3, r3, d3, e3, p3, q3, rfl, rfl, rfl, h3, hA⟩ := trodAll_cons hA
  obtain ⟨rfl, rfl, rfl⟩ := trodAll_nil hA
  cases x0
  obtain ⟨rfl, rfl⟩ := trodVars_none hV
  obtain ⟨a0, rfl, _, _, w0⟩ := open_int Tryz.underlying3 (hval 0 3 v0 rfl rfl) h0
  obtain ⟨A1, l1, c1, rfl, hcs1⟩ := Gr.open_calls (hval 1 22 v1 rfl rfl) h1
  obtain ⟨A2, l2, c2, rfl, hcs2⟩ := Gr.open_calls (hval 2 22 v2 rfl rfl) h2
  obtain ⟨A3, bs3, c3, rfl, hbs3⟩ := open_bytes (hval 3 44 v3 rfl rfl) h3
  refine (Gr.bytes_any a0 A1 A2 A3 l1 l2 bs3 c1 c2 c3 W hcs1 hcs2 hbs3).mono fun e W' ⟨he, hb⟩ => ?_
  subst he
  exact ⟨_, rfl, Gr.law_post Gr.laid_ok (by rw [Tryz.params5]; decide +kernel) (by kernel_rfl) (fun _ _ _ => shut_bool Tryz.underlying4 true) rfl hW' rfl rfl rfl hb⟩

theorem groundBytes_holds : Rows.GroundBytesSaid :=
  OpenClaim.holds_of_wide 5 Tryz.f5 rfl rfl rfl rfl rfl rfl rfl ⟨rfl, rfl, rfl, rfl, rfl⟩ rfl rfl rfl rfl rfl (by kernel_rfl) Tryz.func5 (by kernel_rfl)
    (of_decide_eq_true (by kernel_rfl)) (by unfold Func.isWrapper; first | (rw [if_pos (by decide +kernel)]; kernel_rfl) | (rw [if_neg (by decide +kernel)]; exact ⟨rfl, rfl⟩))
    (fun os started H enc _ => bytes_lifted os started H enc)
#print axioms groundBytes_holds

end Go.Proofs.YtjnknnakllbaaaaGreat
