/-
  The walk of the statement that of the old layout all is as layer 5 tells it.
-/
import Derived.Test.YthdjceihbmdneaaDoorRefs
namespace Go.Proofs.YthdjceihbmdneaaDoor
open Go.RowKit

theorem old_walk (n a cl c A S L : Int) (b bA : Bool) (w : World) (hT : Tab w) (g1 : Same 9 #[.int .i64 0, .int .i64 n] (.tuple #[.int .i64 c, .bool b])) (g2 : Same 21 #[.int .i64 n] (.tuple #[.int .i64 c, .bool b]))
    (g3 : Same 12 #[.int .i64 0, .int .i64 n, .int .i64 a] (.tuple #[.int .i64 A, .bool bA])) (g4 : Same 22 #[.int .i64 n, .int .i64 a] (.tuple #[.int .i64 A, .bool bA]))
    (g5 : Same 16 #[.int .i64 0, .int .i64 cl] (.int .i64 S)) (g6 : Same 23 #[.int .i64 cl] (.int .i64 S)) (g7 : Same 17 #[.int .i64 0, .int .i64 cl] (.int .i64 L)) (g8 : Same 24 #[.int .i64 cl] (.int .i64 L)) :
    Law 5 #[.int .i64 n, .int .i64 a, .int .i64 cl] w := by
  have G1 := Lib.hid g1
  have G2 := Lib.hid g2
  have G3 := Lib.hid g3
  have G4 := Lib.hid g4
  have G5 := Lib.hid g5
  have G6 := Lib.hid g6
  have G7 := Lib.hid g7
  have G8 := Lib.hid g8
  have HT := Lib.hid hT
  clear g1 g2 g3 g4 g5 g6 g7 g8 hT
  show Calls _ _ _ _ _
  go_enter Tryd.func5, Tryd.ntmps5
  go_wp2_with fail
  refine (alive_any _ HT.out).mono ?_
  rintro e W1 ⟨rfl, hb⟩
  have T1 := Lib.hid (HT.out.below hb)
  have B1 := Lib.hid hb
  clear hb HT
  go_wp2_with fail
  refine (G1.out _ T1.out).mono ?_
  rintro e w' ⟨rfl, rfl⟩
  go_wp2_with fail
  refine (G2.out _ T1.out).mono ?_
  rintro e w' ⟨rfl, rfl⟩
  go_wp2_with fail
  refine (G3.out _ T1.out).mono ?_
  rintro e w' ⟨rfl, rfl⟩
  go_wp2_with fail
  refine (G4.out _ T1.out).mono ?_
  rintro e w' ⟨rfl, rfl⟩
  go_wp2_with fail
  refine (G5.out _ T1.out).mono ?_
  rintro e w' ⟨rfl, rfl⟩
  go_wp2_with fail
  refine (G6.out _ T1.out).mono ?_
  rintro e w' ⟨rfl, rfl⟩
  go_wp2_with fail
  refine (G7.out _ T1.out).mono ?_
  rintro e w' ⟨rfl, rfl⟩
  go_wp2_with fail
  refine (G8.out _ T1.out).mono ?_
  rintro e w' ⟨rfl, rfl⟩
  go_wp2_with fail
  refine (sizes_any 0 _ T1.out).mono ?_
  rintro e W2 ⟨p, rfl, hp, hb⟩
  have T2 := Lib.hid (T1.out.below hb)
  have B2 := Lib.hid (up_trans B1.out hb)
  have P2 := Lib.hid hp
  clear hb hp
  go_wp2_with fail
  refine (asizes_any _ T2.out).mono ?_
  rintro e W3 ⟨q, rfl, hq, hb⟩
  have P3 := Lib.hid (P2.out.below hb)
  have B3 := Lib.hid (up_trans B2.out hb)
  have Q3 := Lib.hid hq
  clear hb hq
  go_wp2_with fail
  refine (same_any 0 _ _ _ P3.out Q3.out).mono ?_
  rintro e W4 ⟨rfl, hd⟩
  have B4 := Lib.hid (up_trans B3.out hd.below)
  clear hd
  go_wp2
  go_ret
  exact ⟨rfl, B4.out⟩
theorem old_any (n a cl : Int) (w : World) (hT : Tab w) : Law 5 #[.int .i64 n, .int .i64 a, .int .i64 cl] w :=
  old_walk n a cl _ _ _ _ _ _ w hT (fun W hW => class_any 0 n W hW) (fun W hW => aclass_any n W hW) (fun W hW => aligned_any 0 n a W hW) (fun W hW => aaligned_any n a W hW)
    (fun W hW => size_any 0 cl W hW) (fun W hW => asize_any cl W hW) (fun W hW => slots_any 0 cl W hW) (fun W hW => aslots_any cl W hW)

end Go.Proofs.YthdjceihbmdneaaDoor
