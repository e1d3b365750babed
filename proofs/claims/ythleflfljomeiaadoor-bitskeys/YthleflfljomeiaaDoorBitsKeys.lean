/-
  For every number and two lists of calls the law on keys answers true, and its arguments read as before.
  Conditions: none beyond those of the given statement (the library's table of places holds what its initialiser lays, tied to the program's text by the given tie).
-/
import Derived.Test.YthleflfljomeiaaDoorKeys
import Derived.Test.YthleflfljomeiaaDoorOpen
import Derived.Test.YthleflfljomeiaaDoorTie
import Derived.Test.YthleflfljomeiaaDoorCards
import Derived.SevenTiedAt
import Derived.Stop.Joined
namespace Go.Proofs.YthleflfljomeiaaDoor
open Go.ChangeShapes Go.WideShapes Go.ChangeAt Go.RowKit Go.Joins

theorem keys_any (n : Int) (A A2 : Option Addr) (cs cs2 : List (Bool × Int)) (c c2 : Nat) (w : World) (hT : Tab w) (hca : CA w.heap.size w A cs) (hca2 : CA w.heap.size w A2 cs2) :
    Calls Tryd.prog 4 #[.int .i64 n, .slice A cs.length c, .slice A2 cs2.length c2] w fun e w' => e = .returned (.bool true) ∧ Below w.heap.size w w' := by
  by_cases h : n < 0 ∨ 256 < n ∨ 300 < cs.length ∨ 300 < cs2.length
  · exact keys_out n A A2 cs.length cs2.length c c2 w hT h
  · obtain ⟨N, rfl⟩ := Int.eq_ofNat_of_zero_le (by omega : 0 ≤ n)
    exact keys_in N A A2 cs cs2 c c2 w hT (by omega) (by omega) (by omega) hca hca2

set_option maxRecDepth 100000 in
theorem keys_lifted (os : Os) (started : os.Started) (H : Type) (enc : TypeId × Value → H) :
    ReturnsInHanded {} Tryd.checked os 4 .any (fun w args => (Rows.bitsKeysSpec.pre enc Tryd.prog Tryd.f4 [] false w args ∧ laidMetH Tryd.prog [("math/bits.deBruijn64tab", Rows.laid_math_bits_deBruijn64tab)] w) ∧ sizedMet enc Tryd.prog Tryd.f4 (OpenSpec.ofChange Rows.bitsKeysSpec) false w args)
      (Rows.bitsKeysSpec.post enc Tryd.prog Tryd.f4 false true false false) := by
  refine returnsInHanded_of_change_and (C := Tryd.checked) (X := fun w _ => laidMetH Tryd.prog [("math/bits.deBruijn64tab", Rows.laid_math_bits_deBruijn64tab)] w) (fun _ _ _ hh h => h.of_heap hh) Tryd.own started (by kernel_rfl) Tryd.func4
    (ChangeSpec.witness_shaped (enc := enc) (C := Tryd.checked) (os := os) (X := fun w _ => laidMetH Tryd.prog [("math/bits.deBruijn64tab", Rows.laid_math_bits_deBruijn64tab)] w) false (World.doorLaid Tryd.prog 14 os) #[.int .i64 0, .slice none 0 0, .slice none 0 0] 8 rfl (World.shaped_of_RefB (by kernel_rfl) (by kernel_rfl)) (by kernel_rfl) (by kernel_rfl) (by kernel_rfl) (door_met os _)) ?_
  intro W base args ds gs before hval0 hW _ _ hL _
  have hval : ∀ (j : Nat) t v, Tryd.f4.params[j]? = some t → args[j]? = some v → Value.okWide Tryd.prog W .any base t v := hval0
  have hW' := hW
  obtain ⟨p, q, hA0, hV, rfl, hfz, hnd⟩ := hW
  have hA : DataW.TrodAll enc Tryd.prog W 0 (fun _ => true) true Tryd.f4.params.toList args.toList ds p := hA0
  rw [Tryd.params4] at hA hval
  obtain ⟨v0, v1, v2, d0, d1, d2, p0, p1, p2, rfl, rfl, rfl, h0, h1, h2⟩ := trodAll_three hA
  obtain ⟨rfl, rfl⟩ := trodVars_none hV
  obtain ⟨n, rfl, rfl, rfl, _⟩ := open_int Tryd.underlying3 (hval 0 3 v0 rfl rfl) h0
  obtain ⟨A, cs, c, rfl, hcs⟩ := open_calls (hval 1 22 v1 rfl rfl) h1
  obtain ⟨A2, cs2, c2, rfl, hcs2⟩ := open_calls (hval 2 22 v2 rfl rfl) h2
  refine (keys_any n A A2 cs cs2 c c2 W (tab_of_laid hL) hcs hcs2).mono fun e W' ⟨he, hb⟩ => ?_
  subst he
  exact ⟨_, rfl, law_post Tryd.laidOut (by rw [Tryd.params4]; decide +kernel) (by kernel_rfl) (fun _ _ _ => shut_bool Tryd.underlying4 true) rfl hW' rfl rfl rfl hb⟩

theorem bitsKeys_row : Rows.BitsKeysSaid :=
  OpenClaim.holds_of_wide 4 Tryd.f4 rfl rfl rfl rfl rfl rfl rfl ⟨rfl, rfl, rfl, rfl, rfl⟩ rfl rfl rfl rfl rfl (by kernel_rfl) Tryd.func4 (by kernel_rfl)
    (of_decide_eq_true (by kernel_rfl)) (by unfold Func.isWrapper; first | (rw [if_pos (by decide +kernel)]; kernel_rfl) | (rw [if_neg (by decide +kernel)]; exact ⟨rfl, rfl⟩))
    (fun os started H enc _ => keys_lifted os started H enc)
theorem bitsKeys_holds : Rows.BitsKeysCardSaid :=
  Claim7.holds_tied_plain_at .later [] [.data] true (true, "bd46554bcc28253c034c13c964b89252d32b915461f88070cf8a8801e5de4c1d") false
    bitsKeys_row (fun _ h => by cases h) (by kernel_rfl) (fun _ h => by cases h) bitsKeys_row_tie rfl ⟨rfl, rfl⟩ (by kernel_rfl) rfl
    (fun f fn hf hfn => by
      obtain rfl : f = 4 := Option.some.inj ((show Tryd.prog.funcNamed "underpin/underpinlaw03.BitsKeys" = some 4 by kernel_rfl).symm.trans hf) |>.symm
      obtain rfl : fn = Tryd.f4 := (Option.some.inj (Tryd.func4.symm.trans hfn)).symm
      exact ⟨by kernel_rfl, fun j t ht => by
        rw [Tryd.params4] at ht
        have hm : t ∈ [3, 22, 22] := by simpa using Array.mem_of_getElem? ht
        have hall : ([3, 22, 22].all fun u => !Tryd.prog.wantsStandIn u) = true := by kernel_rfl
        exact (show Tryd.prog.wantsStandIn t = false by simpa using List.all_eq_true.1 hall t hm)⟩)
    (by kernel_rfl)
#print axioms bitsKeys_holds
end Go.Proofs.YthleflfljomeiaaDoor
