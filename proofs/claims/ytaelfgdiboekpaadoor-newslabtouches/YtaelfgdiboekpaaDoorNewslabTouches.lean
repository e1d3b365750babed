/-
  For every class, byte, row of calls and last call the law on the bytes that calls change answers true, and its arguments read as before.
  Conditions: none beyond those of the given statement (the two tables of the classes' sizes hold what their initialisers lay, tied to the program's text by the given tie).
-/
import Derived.Test.YtaelfgdiboekpaaDoorNsTouches
import Derived.Test.YtaelfgdiboekpaaDoorNsOpen
import Derived.Test.YtaelfgdiboekpaaDoorNsCallIn
import Derived.Test.YtaelfgdiboekpaaDoorTie
import Derived.Test.YtaelfgdiboekpaaDoorCards
import Derived.SevenTiedAt
import Derived.Stop.Joined
namespace Go.Proofs.YtaelfgdiboekpaaDoor
open Go.ChangeShapes Go.WideShapes Go.ChangeAt Go.RowKit Go.Joins

set_option maxRecDepth 100000 in
theorem newslabTouches_lifted (os : Os) (started : os.Started) (H : Type) (enc : TypeId × Value → H) :
    ReturnsInHanded {} Tryd.checked os 5 .any (fun w args => (Rows.newslabTouchesSpec.pre enc Tryd.prog Tryd.f5 [] false w args ∧ laidMetH Tryd.prog tabs w) ∧ sizedMet enc Tryd.prog Tryd.f5 (OpenSpec.ofChange Rows.newslabTouchesSpec) false w args)
      (Rows.newslabTouchesSpec.post enc Tryd.prog Tryd.f5 false true false false) := by
  refine returnsInHanded_of_change_and (C := Tryd.checked) (X := fun w _ => laidMetH Tryd.prog tabs w) (fun _ _ _ hh h => h.of_heap hh) Tryd.own started (by kernel_rfl) Tryd.func5
    (ChangeSpec.witness_shaped (enc := enc) (C := Tryd.checked) (os := os) (X := fun w _ => laidMetH Tryd.prog tabs w) false (World.doorLaid Tryd.prog 20 os) #[.int .i64 0, .int .u8 0, .slice none 0 0, .agg #[.int .i64 0, .int .i64 0, .slice none 0 0, .slice none 0 0]] 8 rfl (World.shaped_of_RefB (by kernel_rfl) (by kernel_rfl)) (by kernel_rfl) (by kernel_rfl) (by kernel_rfl) (door_met os _)) ?_
  intro W base args ds gs before hval0 hW _ _ hL _
  have hval : ∀ (j : Nat) t v, Tryd.f5.params[j]? = some t → args[j]? = some v → Value.okWide Tryd.prog W .any base t v := hval0
  have hW' := hW
  obtain ⟨p, q, hA0, hV, rfl, hfz, hnd⟩ := hW
  have hA : DataW.TrodAll enc Tryd.prog W 0 (fun _ => true) true Tryd.f5.params.toList args.toList ds p := hA0
  rw [Tryd.params5] at hA hval
  obtain ⟨args⟩ := args
  obtain ⟨v0, r0, d0, e0, p0, q0, x0, rfl, rfl, h0, hA⟩ := trodAll_cons hA
  obtain ⟨v1, r1, d1, e1, p1, q1, rfl, rfl, rfl, h1, hA⟩ := trodAll_cons hA
  obtain ⟨v2, r2, d2, e2, p2, q2, rfl, rfl, rfl, h2, hA⟩ := trodAll_cons hA
  obtain ⟨v3, r3, d3, e3, p3, q3, rfl, rfl, rfl, h3, hA⟩ := trodAll_cons hA
  obtain ⟨rfl, rfl, rfl⟩ := trodAll_nil hA
  cases x0
  obtain ⟨rfl, rfl⟩ := trodVars_none hV
  obtain ⟨a0, rfl, rfl, rfl, wf0⟩ := open_int Tryd.underlying3 (hval 0 3 v0 rfl rfl) h0
  obtain ⟨a1, rfl, rfl, rfl, wf1⟩ := open_int Tryd.underlying5 (hval 1 5 v1 rfl rfl) h1
  obtain ⟨x1, rfl⟩ := Ns.open_u8 wf1
  obtain ⟨A2, l2, c2, rfl, hcs2⟩ := Ns.open_calls (hval 2 31 v2 rfl rfl) h2
  obtain ⟨X3, rfl, in3, ia3, ib3⟩ := Ns.open_call (hval 3 55 v3 rfl rfl) h3
  refine Calls.mono (Ns.touches_any _ _ _ _ _ X3 W (tab_of_laid hL) hcs2 in3 ia3) fun e W' ⟨he, hb⟩ => ?_
  subst he
  exact ⟨_, rfl, law_post Tryd.laidOut (by rw [Tryd.params5]; decide +kernel) (by kernel_rfl) (fun _ _ _ => shut_bool Tryd.underlying4 true) rfl hW' rfl rfl rfl hb⟩

theorem newslabTouches_row : Rows.NewslabTouchesSaid :=
  OpenClaim.holds_of_wide 5 Tryd.f5 rfl rfl rfl rfl rfl rfl rfl ⟨rfl, rfl, rfl, rfl, rfl⟩ rfl rfl rfl rfl rfl (by kernel_rfl) Tryd.func5 (by kernel_rfl)
    (of_decide_eq_true (by kernel_rfl)) (by unfold Func.isWrapper; first | (rw [if_pos (by decide +kernel)]; kernel_rfl) | (rw [if_neg (by decide +kernel)]; exact ⟨rfl, rfl⟩))
    (fun os started H enc _ => newslabTouches_lifted os started H enc)
theorem newslabTouches_holds : Rows.NewslabTouchesCardSaid :=
  Claim7.holds_tied_plain_at .later [] [.data, .data] true (true, "9feca2f2682b42646a5e3cc0d79c7e4144a81b18b08337d6d641e8ed77dcd5a6") false
    newslabTouches_row (fun _ h => by cases h) (by kernel_rfl) (fun _ h => by cases h) newslabTouches_row_tie rfl ⟨rfl, rfl⟩ (by kernel_rfl) rfl
    (fun f fn hf hfn => by
      obtain rfl : f = 5 := Option.some.inj ((show Tryd.prog.funcNamed "underpin/underpinlaw15.NewslabTouches" = some 5 by kernel_rfl).symm.trans hf) |>.symm
      obtain rfl : fn = Tryd.f5 := (Option.some.inj (Tryd.func5.symm.trans hfn)).symm
      exact ⟨by kernel_rfl, fun j t ht => by
        rw [Tryd.params5] at ht
        have hm : t ∈ [3, 5, 31, 55] := by simpa using Array.mem_of_getElem? ht
        have hall : ([3, 5, 31, 55].all fun u => !Tryd.prog.wantsStandIn u) = true := by kernel_rfl
        exact (show Tryd.prog.wantsStandIn t = false by simpa using List.all_eq_true.1 hall t hm)⟩)
    (by kernel_rfl)
#print axioms newslabTouches_holds
end Go.Proofs.YtaelfgdiboekpaaDoor
