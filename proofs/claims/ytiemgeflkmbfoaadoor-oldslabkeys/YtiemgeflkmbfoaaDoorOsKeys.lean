/-
  The walk of the statement on keys.
-/
import Derived.Test.YtiemgeflkmbfoaaDoorOsWit
import Derived.Test.YtiemgeflkmbfoaaDoorBiMap
namespace Go.Proofs.YtiemgeflkmbfoaaDoor.Os
set_option maxRecDepth 100000
open Go.RowKit
open Ta (sz szs classB classB_iff classB_not sizeOf' slotsOf)
open Bi (sets bt on first setL setB tst hasB u Blk Drawn grown_refl grown_trans grown_below up_alloc up_drew up_trans i64_in ret_i ret_b)

section
variable {w w' w0 : World} {b c z : Int} {A B : Option Addr} {na ca nb cb : Nat} {a : List Int} {s q g : Nat} {l : List Bool}
theorem taken_nat (h : Sl w s q g b c l) (hT : Tb w) : Calls Tryd.prog 29 #[.pointer (some ⟨s, 0, none⟩)] w fun e w' => ∃ g cap, e = .returned (.slice (some ⟨g, 0, none⟩) (sets l).length cap) ∧ Bi.IA w'.heap.size w' (some ⟨g, 0, none⟩) (sets l) ∧ Below w.heap.size w w' := by
  have c2 := h.c2
  obtain ⟨ws, hm⟩ := h.bits
  have HL := Lib.hid (Bi.list_any q g l ws w hm hT.bits)
  generalize sets l = xs at *
  obtain ⟨n, hn⟩ : ∃ n, xs.length = n := ⟨_, rfl⟩
  unfold Bi.Gave at HL
  rw [hn] at HL ⊢
  clear h hm hT hn
  go_enter Tryd.func29, Tryd.ntmps29
  go_wp2_with fail
  refine HL.out.mono ?_
  rintro e w1 ⟨g', cap, rfl, _, ha, hb⟩
  have HA := Lib.hid ha
  have HB := Lib.hid hb
  clear ha hb
  go_wp2
  go_ret
  exact ⟨_, _, rfl, HA.out, HB.out⟩
theorem many_keys (hT : Tb w) (hn : decide (100 < (na : Int)) = true ∨ (decide (100 < (na : Int)) = false ∧ decide (100 < (nb : Int)) = true)) : Calls Tryd.prog 6 #[.int .i64 c, .slice A na ca, .slice B nb cb] w fun e w' => e = .returned (.bool true) ∧ Below w.heap.size w w' := by
  have HA := Lib.hid (alive_any w hT)
  clear hT
  rcases hn with hn | ⟨hn, hn2⟩
  · go_enter Tryd.func6, Tryd.ntmps6
    go_wp2_with (go_at_call 7; refine HA.out.mono ?_; rintro e w1 ⟨rfl, b1⟩)
    go_ret
    exact ⟨rfl, b1⟩
  · go_enter Tryd.func6, Tryd.ntmps6
    go_wp2_with (go_at_call 7; refine HA.out.mono ?_; rintro e w1 ⟨rfl, b1⟩)
    go_ret
    exact ⟨rfl, b1⟩
theorem base0 : baseB 0 = true := by decide +kernel
theorem keys_class {a b' : List Int} (hT : Tb w) (hA : In w A na ca a) (hB : In w B nb cb b') (h1 : na ≤ 100) (h2 : nb ≤ 100) (hc : classB c = false) : Calls Tryd.prog 6 #[.int .i64 c, .slice A na ca, .slice B nb cb] w fun e w' => e = .returned (.bool true) ∧ Below w.heap.size w w' := by
  have HAl := Lib.hid (alive_any w hT)
  have hn1 : decide (100 < (na : Int)) = false := by simp; omega
  have hn2 : decide (100 < (nb : Int)) = false := by simp; omega
  have HW := Lib.hid (fun (V : World) (hV : Below w.heap.size w V) (A : Option Addr) (n cap : Nat) => with_no (b := 0) (c := c) A n cap (hT.below hV) (by rw [base0, hc]; rfl))
  have HC1 := Lib.hid (fun (V : World) (hV : Below w.heap.size w V) => copyints_any V A na ca a (hA.up hV) (by omega))
  have HC2 := Lib.hid (fun (V : World) (hV : Below w.heap.size w V) => copyints_any V B nb cb b' (hB.up hV) (by omega))
  clear hT hA hB h1 h2 hc
  go_enter Tryd.func6, Tryd.ntmps6
  go_wp2_with fail
  refine HAl.out.mono ?_
  rintro e w1 ⟨rfl, b1⟩
  have B1 := Lib.hid b1
  clear b1
  go_wp2_with fail
  refine (HC1.out _ B1.out).mono ?_
  rintro e w2 ⟨g1, c1, rfl, -, -, b2⟩
  have B2 := Lib.hid (up_trans B1.out b2)
  clear b2
  go_wp2_with fail
  refine (HW.out _ B2.out _ _ _).mono ?_
  rintro e w' ⟨rfl, rfl⟩
  go_wp2_with fail
  refine (HC2.out _ B2.out).mono ?_
  rintro e w3 ⟨g2, c2, rfl, -, -, b3⟩
  have B3 := Lib.hid (up_trans B2.out b3)
  clear b3
  go_wp2_with fail
  refine (HW.out _ B3.out _ _ _).mono ?_
  rintro e w' ⟨rfl, rfl⟩
  go_wp2_with fail
  go_ret
  exact ⟨rfl, B3.out⟩
theorem keys_form {a b' : List Int} (hT : Tb w) (hA : In w A na ca a) (hB : In w B nb cb b') (h1 : na ≤ 100) (h2 : nb ≤ 100) (hc : classB c = true) (hf : (wiB (l0 c) a && wiB (l0 c) b') = false) : Calls Tryd.prog 6 #[.int .i64 c, .slice A na ca, .slice B nb cb] w fun e w' => e = .returned (.bool true) ∧ Below w.heap.size w w' := by
  have HAl := Lib.hid (alive_any w hT)
  have hn1 : decide (100 < (na : Int)) = false := by simp; omega
  have hn2 : decide (100 < (nb : Int)) = false := by simp; omega
  have HW1 := Lib.hid (fun (V : World) (hV : Below w.heap.size w V) (g cap : Nat) (hA' : At V.heap.size V (some ⟨g, 0, none⟩) (ints a)) => with_yes (b := 0) (c := c) (some ⟨g, 0, none⟩) na cap a hA' hA.len (by omega) (hT.below hV) base0 hc)
  have HW2 := Lib.hid (fun (V : World) (hV : Below w.heap.size w V) (g cap : Nat) (hA' : At V.heap.size V (some ⟨g, 0, none⟩) (ints b')) => with_yes (b := 0) (c := c) (some ⟨g, 0, none⟩) nb cap b' hA' hB.len (by omega) (hT.below hV) base0 hc)
  have HC1 := Lib.hid (fun (V : World) (hV : Below w.heap.size w V) => copyints_any V A na ca a (hA.up hV) (by omega))
  have HC2 := Lib.hid (fun (V : World) (hV : Below w.heap.size w V) => copyints_any V B nb cb b' (hB.up hV) (by omega))
  have HF := Lib.hid hf
  clear hT hA hB h1 h2 hc hf
  go_enter Tryd.func6, Tryd.ntmps6
  go_wp2_with fail
  refine HAl.out.mono ?_
  rintro e w1 ⟨rfl, b1⟩
  have B1 := Lib.hid b1
  clear b1
  go_wp2_with fail
  refine (HC1.out _ B1.out).mono ?_
  rintro e w2 ⟨g1, c1, rfl, at1, -, b2⟩
  have B2 := Lib.hid (up_trans B1.out b2)
  have AT1 := Lib.hid at1
  clear b2 at1
  go_wp2_with fail
  refine (HW1.out _ B2.out _ _ AT1.out).mono ?_
  rintro e w3 ⟨b3, h3⟩
  have B3 := Lib.hid (up_trans B2.out b3)
  clear b3 AT1
  rcases h3 with ⟨f1, s, q, g, rfl, -, -, -⟩ | ⟨f1, rfl⟩
  all_goals
    have F1 := Lib.hid f1
    clear f1
    go_wp2_with fail
    refine (HC2.out _ B3.out).mono ?_
    rintro e w4 ⟨g2, c2, rfl, at2, -, b4⟩
    have B4 := Lib.hid (up_trans B3.out b4)
    have AT2 := Lib.hid at2
    clear b4 at2
    go_wp2_with fail
    refine (HW2.out _ B4.out _ _ AT2.out).mono ?_
    rintro e w5 ⟨b5, h5⟩
    have B5 := Lib.hid (up_trans B4.out b5)
    clear b5 AT2
    rcases h5 with ⟨f2, s', q', g', rfl, -, -, -⟩ | ⟨f2, rfl⟩
  · exfalso
    have := HF.out
    rw [F1.out, f2] at this
    cases this
  all_goals
    clear f2
    go_wp2_with fail
    go_ret
    exact ⟨rfl, B5.out⟩
end
end Go.Proofs.YtiemgeflkmbfoaaDoor.Os
