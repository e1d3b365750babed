/-
  The walk of the statement on rows of calls, where no slab is made.
-/
import Derived.Test.YtiemgeflkmbfoaaDoorOsGreat
import Derived.Test.YtiemgeflkmbfoaaDoorOsWithD
import Derived.Test.YtiemgeflkmbfoaaDoorOsAgree
namespace Go.Proofs.YtiemgeflkmbfoaaDoor.Os
set_option maxRecDepth 100000
open Go.RowKit
open Ta (sz szs classB classB_iff classB_not sizeOf' slotsOf)
open Bi (sets bt on first setL setB tst hasB u Blk Drawn grown_refl grown_trans grown_below up_alloc up_drew up_trans i64_in ret_i ret_b brow)

section
variable {w w' : World} {P A : Option Addr} {l : List Cl} {b c : Int} {n cap m cp : Nat} {xs : List Int}
theorem calls_many (hT : Tb w) (hC : CA w P l) (hm : l.length = m) (hg : greatB l = true ∨ (greatB l = false ∧ 200 < n)) : Calls Tryd.prog 3 #[.int .i64 b, .int .i64 c, .slice A n cap, .slice P m cp] w fun e w' => e = .returned (.bool true) ∧ Below w.heap.size w w' := by
  have HA := Lib.hid (alive_any w hT)
  have HG := Lib.hid (fun (V : World) (hV : Below w.heap.size w V) => great_any m cp (hC.up hV) hm)
  clear hT hC hm
  rcases hg with hg | ⟨hg, hn⟩
  · rw [hg] at HG
    clear hg
    go_enter Tryd.func3, Tryd.ntmps3
    go_wp2_with (first
      | (go_at_call 7; refine HA.out.mono ?_; rintro e w1 ⟨rfl, b1⟩; have B1 := Lib.hid b1; clear b1)
      | (go_at_call 8; refine (HG.out _ B1.out).mono ?_; rintro e w' ⟨rfl, rfl⟩))
    go_ret
    exact ⟨rfl, B1.out⟩
  · rw [hg] at HG
    have d0 : decide ((200 : Int) < (n : Int)) = true := by simp; omega
    clear hg hn
    go_enter Tryd.func3, Tryd.ntmps3
    go_wp2_with (first
      | (go_at_call 7; refine HA.out.mono ?_; rintro e w1 ⟨rfl, b1⟩; have B1 := Lib.hid b1; clear b1)
      | (go_at_call 8; refine (HG.out _ B1.out).mono ?_; rintro e w' ⟨rfl, rfl⟩))
    go_ret
    exact ⟨rfl, B1.out⟩
theorem calls_class (hT : Tb w) (hC : CA w P l) (hm : l.length = m) (hI : In w A n cap xs) (hg : greatB l = false) (hn : n ≤ 200) (hbc : (baseB b && classB c) = false) : Calls Tryd.prog 3 #[.int .i64 b, .int .i64 c, .slice A n cap, .slice P m cp] w fun e w' => e = .returned (.bool true) ∧ Below w.heap.size w w' := by
  have HA := Lib.hid (alive_any w hT)
  have HG := Lib.hid (fun (V : World) (hV : Below w.heap.size w V) => great_any m cp (hC.up hV) hm)
  have HCp := Lib.hid (fun (V : World) (hV : Below w.heap.size w V) => copyints_any V A n cap xs (hI.up hV) (by omega))
  have HW := Lib.hid (fun (V : World) (hV : Below w.heap.size w V) (A : Option Addr) (n cap : Nat) => with_no (b := b) (c := c) A n cap (hT.below hV) hbc)
  have HN := Lib.hid (fun (V : World) (hV : Below w.heap.size w V) => new_no (b := b) (c := c) (hT.below hV) hbc)
  have HDW := Lib.hid (fun (V : World) => dwith_no (w := V) (b := b) (c := c) (A := A) (n := n) (cap := cap) hbc)
  have HDN := Lib.hid (fun (V : World) => rnew_no (w := V) (b := b) (c := c) hbc)
  have d0 : decide ((200 : Int) < (n : Int)) = false := by simp; omega
  rw [hg] at HG
  clear hT hC hm hI hg hn hbc
  go_enter Tryd.func3, Tryd.ntmps3
  go_wp2_with (first
    | (go_at_call 7; refine HA.out.mono ?_; rintro e w1 ⟨rfl, b1⟩; have B1 := Lib.hid b1; clear b1)
    | (go_at_call 8; refine (HG.out _ B1.out).mono ?_; rintro e w' ⟨rfl, rfl⟩)
    | (go_at_call 10; refine (HCp.out _ B1.out).mono ?_; rintro e w2 ⟨g2, c2, rfl, -, -, b2⟩; have B2 := Lib.hid (up_trans B1.out b2); clear b2)
    | (go_at_call 9; refine (HW.out _ B2.out _ _ _).mono ?_; rintro e w' ⟨rfl, rfl⟩)
    | (go_at_call 11; refine (HDW.out _).mono ?_; rintro e w3 ⟨rfl, b3⟩; have B3 := Lib.hid (up_trans B2.out b3); clear b3)
    | (go_at_call 12; refine (HN.out _ B3.out).mono ?_; rintro e w' ⟨rfl, rfl⟩)
    | (go_at_call 13; refine (HDN.out _).mono ?_; rintro e w4 ⟨rfl, b4⟩; have B4 := Lib.hid (up_trans B3.out b4); clear b4))
  go_ret
  exact ⟨rfl, B4.out⟩
end
end Go.Proofs.YtiemgeflkmbfoaaDoor.Os
