/-
  The walk of the statement on rows of fields, where they are too many, or not apart.
-/
import Derived.Test.YtlkphjbnjeelaaaRefPack
import Derived.Test.YtlkphjbnjeelaaaAlive
namespace Go.Proofs.Ytlkphjbnjeelaaa
open Go.RowKit

set_option maxRecDepth 100000 in
theorem rows_big (A V : Option Addr) (n m c d : Nat) (x : Int) (w : World) (h : 70 < n ∨ 70 < m) :
    Calls Try.prog 5 #[.slice A n c, .slice V m d, .int .u64 x] w fun e w' => e = .returned (.bool true) ∧ Below w.heap.size w w' := by
  by_cases h1 : 70 < n
  · have h1' : decide (70 < (n : Int)) = true := by simp; omega
    clear h
    go_enter Try.func5, Try.ntmps5
    go_wp2_with (go_at_call 7; refine (alive_any _).mono ?_; rintro e w1 ⟨rfl, hb1⟩)
    go_ret
    exact ⟨rfl, hb1⟩
  · have h2 : 70 < m := by omega
    have h1' : decide (70 < (n : Int)) = false := by simp; omega
    have h2' : decide (70 < (m : Int)) = true := by simp; omega
    clear h
    go_enter Try.func5, Try.ntmps5
    go_wp2_with (go_at_call 7; refine (alive_any _).mono ?_; rintro e w1 ⟨rfl, hb1⟩)
    go_ret
    exact ⟨rfl, hb1⟩
theorem packV_no {l : List (Int × Int)} {vs : List (BitVec 64)} (h : apartGo 0#64 l = false) : packV l vs = .tuple #[.int .u64 0, .bool false] := by
  unfold packV packB; rw [if_neg (fun hc => by rw [h] at hc; cases hc.2)]

set_option maxRecDepth 100000 in
set_option maxHeartbeats 4000000 in
theorem rows_no (A V : Option Addr) (l : List (Int × Int)) (vs : List (BitVec 64)) (c d : Nat) (x : BitVec 64) (w : World) (hf : FS w.heap.size w A l) (hv : WS w.heap.size w V vs) (hl : l.length ≤ 70) (hm : vs.length ≤ 70) (ha : apartGo 0#64 l = false) :
    Calls Try.prog 5 #[.slice A l.length c, .slice V vs.length d, .int .u64 (u x)] w fun e w' => e = .returned (.bool true) ∧ Below w.heap.size w w' := by
  have h1' : decide (70 < (l.length : Int)) = false := by simp; omega
  have h2' : decide (70 < (vs.length : Int)) = false := by simp; omega
  have HF := Lib.hid hf
  have HV := Lib.hid hv
  have HA := Lib.hid ha
  clear hf hv ha
  go_enter Try.func5, Try.ntmps5
  go_wp2_with fail
  refine (alive_any _).mono ?_
  rintro e w1 ⟨rfl, B1⟩
  go_wp2_with fail
  refine (of_any A l c _ ((HF.out.below B1).more B1.size) hl).mono ?_
  rintro e w2 ⟨g2, cap2, rfl, hg2, hf2, hb2⟩
  have HF2 := Lib.hid hf2
  have B2 := up_trans B1 hb2
  clear hf2 hb2 B1
  go_wp2_with fail
  refine (rapart_any _ l cap2 _ (fun _ => ⟨g2, 0, rfl, hg2, HF2.out⟩) hl).mono ?_
  rintro e w3 ⟨rfl, hb3⟩
  have B3 := up_trans B2 hb3
  rw [HA.out]
  clear hb3 B2 hg2 HF2
  go_wp2_with fail
  refine (pack_any A V l vs c d _ ((HF.out.below B3).more B3.size) ((HV.out.below B3).more B3.size) hl).mono ?_
  rintro e w4 ⟨rfl, hb4⟩
  have B4 := up_trans B3 hb4
  rw [packV_no HA.out]
  clear hb4 B3
  go_wp2_with fail
  refine (of_any A l c _ ((HF.out.below B4).more B4.size) hl).mono ?_
  rintro e w5 ⟨g5, cap5, rfl, hg5, hf5, hb5⟩
  have HF5 := Lib.hid hf5
  have B5 := up_trans B4 hb5
  clear hf5 hb5 B4
  go_wp2_with fail
  refine (rpack_any _ V l vs cap5 d _ (fun _ => ⟨g5, 0, rfl, hg5, HF5.out⟩) ((HV.out.below B5).more B5.size) hl).mono ?_
  rintro e w6 ⟨rfl, hb6⟩
  have B6 := up_trans B5 hb6
  rw [packV_no HA.out]
  clear hb6 B5 hg5 HF5
  go_wp2_with fail
  refine (unpack_no x A l c _ ((HF.out.below B6).more B6.size) hl HA.out).mono ?_
  rintro e w7 ⟨rfl, hb7⟩
  have B7 := up_trans B6 hb7
  clear hb7 B6
  go_wp2_with fail
  refine (apart_any A l c _ ((HF.out.below B7).more B7.size) hl).mono ?_
  rintro e w8 ⟨rfl, hb8⟩
  have B8 := up_trans B7 hb8
  rw [HA.out]
  clear hb8 B7
  go_wp2
  go_loop [14] (fun i => i = .int .i64 0) (fun _ => 0)
  case atStart => rfl
  case round =>
    obtain rfl := hrel
    go_wp2
    go_ret
    exact ⟨rfl, B8⟩

end Go.Proofs.Ytlkphjbnjeelaaa
