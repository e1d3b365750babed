/-
  For every number the law on Log, Grain and Power answers true, and its argument reads as before.
  Conditions: none beyond those of the given statement.
-/
import Derived.Test.YtbmmnapcbhbhkaaPowers
import Derived.Test.YtbmmnapcbhbhkaaEnd
namespace Go.Proofs.Ytbmmnapcbhbhkaa
open Go.ChangeShapes Go.WideShapes Go.ChangeAt Go.RowKit Go.Joins

set_option maxRecDepth 100000 in
theorem powers_lifted (os : Os) (started : os.Started) (H : Type) (enc : TypeId × Value → H) :
    ReturnsInHanded {} Try.checked os 6 .any (Rows.sizesPowersSpec.pre6 enc Try.prog Try.f6 Rows.sizesPowersRow.domain false) (Rows.sizesPowersSpec.post enc Try.prog Try.f6 false true false false) := by
  refine returnsInHanded_of_change (C := Try.checked) Try.own started (by kernel_rfl) Try.func6
    (ChangeSpec.witness6 (enc := enc) (C := Try.checked) false ⟨#[], #[.int .i64 0], []⟩ 8 (by kernel_rfl) (by kernel_rfl) (by kernel_rfl) (by kernel_rfl)) ?_
  intro W base args ds gs before hval0 hW hcnd _
  have hval : ∀ (j : Nat) t v, Try.f6.params[j]? = some t → args[j]? = some v → Value.okWide Try.prog W .any base t v := hval0
  have hW' := hW
  obtain ⟨p, q, hA0, hV, rfl, hfz, hnd⟩ := hW
  have hA : DataW.TrodAll enc Try.prog W 0 (fun _ => true) true Try.f6.params.toList args.toList ds p := hA0
  rw [Try.params6] at hA hval
  obtain ⟨v0, d0, rfl, rfl, h0⟩ := trodAll_one hA
  obtain ⟨rfl, rfl⟩ := trodVars_none hV
  obtain ⟨a0, rfl, rfl, rfl, w0⟩ := open_int Try.underlying3 (hval 0 3 v0 rfl rfl) h0
  refine (powers_any a0 W (Go.bounds_i64 w0).2).mono fun e W' ⟨he, hb⟩ => ?_
  subst he
  subst hb
  exact ⟨_, rfl, law_post Try.laidOut (by rw [Try.params6]; decide +kernel) (by kernel_rfl) (fun _ _ _ => shut_bool Try.underlying4 true) rfl hW' rfl rfl rfl (Below.refl _ _)⟩

theorem sizesPowers_holds : Rows.SizesPowersSaid :=
  OpenClaim.holds_of_wide 6 Try.f6 rfl rfl rfl rfl rfl rfl rfl ⟨rfl, rfl, rfl, rfl, rfl⟩ rfl rfl rfl rfl rfl (by kernel_rfl) Try.func6 (by kernel_rfl)
    (of_decide_eq_true (by kernel_rfl)) (by unfold Func.isWrapper; first | (rw [if_pos (by decide +kernel)]; kernel_rfl) | (rw [if_neg (by decide +kernel)]; exact ⟨rfl, rfl⟩))
    (fun os started H enc _ => powers_lifted os started H enc)
#print axioms sizesPowers_holds

end Go.Proofs.Ytbmmnapcbhbhkaa
