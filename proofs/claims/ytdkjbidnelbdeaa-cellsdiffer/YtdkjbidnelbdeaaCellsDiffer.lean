/-
  For every two lists of bytes the law on what is unlike answers true, and its arguments read as before.
  Conditions: none beyond those of the given statement.
-/
import Derived.Test.YtdkjbidnelbdeaaDiffLaw
import Derived.Test.YtdkjbidnelbdeaaOpen
namespace Go.Proofs.Ytdkjbidnelbdeaa
open Go.ChangeShapes Go.WideShapes Go.ChangeAt Go.RowKit Go.Joins

set_option maxRecDepth 100000 in
theorem differ_lifted (os : Os) (started : os.Started) (H : Type) (enc : TypeId × Value → H) :
    ReturnsInHanded {} Try.checked os 4 .any (Rows.cellsDifferSpec.pre6 enc Try.prog Try.f4 Rows.cellsDifferRow.domain false) (Rows.cellsDifferSpec.post enc Try.prog Try.f4 false true false false) := by
  refine returnsInHanded_of_change (C := Try.checked) Try.own started (by kernel_rfl) Try.func4
    (ChangeSpec.witness6 (enc := enc) (C := Try.checked) false ⟨#[], #[.slice none 0 0, .slice none 0 0], []⟩ 8 (by kernel_rfl) (by kernel_rfl) (by kernel_rfl) (by kernel_rfl)) ?_
  intro W base args ds gs before hval0 hW hcnd _
  have hval : ∀ (j : Nat) t v, Try.f4.params[j]? = some t → args[j]? = some v → Value.okWide Try.prog W .any base t v := hval0
  have hW' := hW
  obtain ⟨p, q, hA0, hV, rfl, hfz, hnd⟩ := hW
  have hA : DataW.TrodAll enc Try.prog W 0 (fun _ => true) true Try.f4.params.toList args.toList ds p := hA0
  rw [Try.params4] at hA hval
  obtain ⟨v0, v1, d0, d1, p0, p1, rfl, rfl, rfl, h0, h1⟩ := trodAll_two hA
  obtain ⟨rfl, rfl⟩ := trodVars_none hV
  obtain ⟨A, ps, c, rfl, hps⟩ := open_bytes (hval 0 29 v0 rfl rfl) h0
  obtain ⟨B, bs, d, rfl, hbs⟩ := open_bytes (hval 1 29 v1 rfl rfl) h1
  refine (diff_all A B ps bs c d W hps hbs).mono fun e W' ⟨he, hb⟩ => ?_
  subst he
  exact ⟨_, rfl, law_post Try.laidOut (by rw [Try.params4]; decide +kernel) (by kernel_rfl) (fun _ _ _ => shut_bool Try.underlying4 true) rfl hW' rfl rfl rfl hb⟩

theorem cellsDiffer_holds : Rows.CellsDifferSaid :=
  OpenClaim.holds_of_wide 4 Try.f4 rfl rfl rfl rfl rfl rfl rfl ⟨rfl, rfl, rfl, rfl, rfl⟩ rfl rfl rfl rfl rfl (by kernel_rfl) Try.func4 (by kernel_rfl)
    (of_decide_eq_true (by kernel_rfl)) (by unfold Func.isWrapper; first | (rw [if_pos (by decide +kernel)]; kernel_rfl) | (rw [if_neg (by decide +kernel)]; exact ⟨rfl, rfl⟩))
    (fun os started H enc _ => differ_lifted os started H enc)
#print axioms cellsDiffer_holds

end Go.Proofs.Ytdkjbidnelbdeaa
