/-
  The walk of the statement on rows of fields, where there are none; and all cases of it together.
-/
import Derived.Test.YtlkphjbnjeelaaaRowsYes
namespace Go.Proofs.Ytlkphjbnjeelaaa
open Go.RowKit

theorem packV_nil_some (v : BitVec 64) (vs : List (BitVec 64)) : packV [] (v :: vs) = .tuple #[.int .u64 0, .bool false] := rfl
theorem packV_nil_none : packV [] [] = .tuple #[.int .u64 0, .bool true] := rfl
theorem no_fields (B : Nat) (w : World) (A : Option Addr) : FS B w A [] := fun h => by simp at h
theorem no_words (B : Nat) (w : World) (A : Option Addr) : WS B w A [] := fun h => by simp at h

set_option maxRecDepth 100000 in
set_option maxHeartbeats 4000000 in
theorem rows_nil_none (A V : Option Addr) (c d : Nat) (x : BitVec 64) (w : World) :
    Calls Try.prog 5 #[.slice A 0 c, .slice V 0 d, .int .u64 (u x)] w fun e w' => e = .returned (.bool true) ∧ Below w.heap.size w w' := by
  go_enter Try.func5, Try.ntmps5
  go_wp2_with fail
  refine (alive_any _).mono ?_
  rintro e w1 ⟨rfl, B1⟩
  go_wp2_with fail
  refine (of_none A c _).mono ?_
  rintro e w2 ⟨g2, cap2, rfl, _, _, hb2⟩
  have B2 := up_trans B1 hb2
  clear hb2 B1
  go_wp2_with fail
  refine (rapart_none _ cap2 _).mono ?_
  rintro e w3 ⟨rfl, hb3⟩
  have B3 := up_trans B2 hb3
  clear hb3 B2
  go_wp2_with fail
  refine (pack_nil A V c d _).mono ?_
  rintro e w4 ⟨rfl, hb4⟩
  have B4 := up_trans B3 hb4
  clear hb4 B3
  go_wp2_with fail
  refine (of_none A c _).mono ?_
  rintro e w5 ⟨g5, cap5, rfl, _, _, hb5⟩
  have B5 := up_trans B4 hb5
  clear hb5 B4
  go_wp2_with fail
  refine (rpack_nil _ V cap5 d _).mono ?_
  rintro e w6 ⟨rfl, hb6⟩
  have B6 := up_trans B5 hb6
  clear hb6 B5
  go_wp2_with fail
  refine (unpack_nil x A c _).mono ?_
  rintro e w7 ⟨g7, rfl, _, _, hb7⟩
  have B7 := up_trans B6 hb7
  clear hb7 B6
  go_wp2_with fail
  refine (apart_none A c _).mono ?_
  rintro e w8 ⟨rfl, hb8⟩
  have B8 := up_trans B7 hb8
  clear hb8 B7
  go_wp2
  go_loop [14] (fun i => i = .int .i64 0) (fun _ => 0)
  case atStart => rfl
  case round =>
    obtain rfl := hrel
    go_wp2_with fail
    refine (unpack_nil 0#64 A c _).mono ?_
    rintro e w9 ⟨g9, rfl, _, _, hb9⟩
    have B9 := up_trans B8 hb9
    clear hb9 B8
    go_wp2
    go_loop [19] (fun i => i = .int .i64 0) (fun _ => 0)
    case atStart => rfl
    case round =>
      obtain rfl := hrel
      go_wp2
      go_ret
      exact ⟨rfl, B9⟩
set_option maxRecDepth 100000 in
set_option maxHeartbeats 4000000 in
theorem rows_nil_some (A V : Option Addr) (v : BitVec 64) (vs : List (BitVec 64)) (c d : Nat) (x : BitVec 64) (w : World) (hv : WS w.heap.size w V (v :: vs)) (hm : (v :: vs).length ≤ 70) :
    Calls Try.prog 5 #[.slice A 0 c, .slice V (v :: vs).length d, .int .u64 (u x)] w fun e w' => e = .returned (.bool true) ∧ Below w.heap.size w w' := by
  obtain ⟨n, hn⟩ : ∃ n, (v :: vs).length = n := ⟨_, rfl⟩
  have HN := Lib.hid hn
  have HV := Lib.hid hv
  rw [hn] at hm ⊢
  have h2' : decide (70 < (n : Int)) = false := by simp; omega
  have p4 : ∀ W : World, WS W.heap.size W V (v :: vs) → Calls Try.prog 22 #[.slice A 0 c, .slice V n d] W fun e w' => e = .returned (.tuple #[.int .u64 0, .bool false]) ∧ Below W.heap.size W w' := fun W h => by
    have := pack_any A V [] (v :: vs) c d W (no_fields _ _ _) h (by simp)
    rw [hn] at this; exact this
  have p6 : ∀ (G : Option Addr) (cap : Nat) (W : World), WS W.heap.size W V (v :: vs) → Calls Try.prog 23 #[.slice G 0 cap, .slice V n d] W fun e w' => e = .returned (.tuple #[.int .u64 0, .bool false]) ∧ Below W.heap.size W w' := fun G cap W h => by
    have := rpack_any G V [] (v :: vs) cap d W (no_fields _ _ _) h (by simp)
    rw [hn] at this; exact this
  have P4 := Lib.hid p4
  have P6 := Lib.hid p6
  clear hn hv p4 p6
  go_enter Try.func5, Try.ntmps5
  go_wp2_with fail
  refine (alive_any _).mono ?_
  rintro e w1 ⟨rfl, B1⟩
  go_wp2_with fail
  refine (of_none A c _).mono ?_
  rintro e w2 ⟨g2, cap2, rfl, _, _, hb2⟩
  have B2 := up_trans B1 hb2
  clear hb2 B1
  go_wp2_with fail
  refine (rapart_none _ cap2 _).mono ?_
  rintro e w3 ⟨rfl, hb3⟩
  have B3 := up_trans B2 hb3
  clear hb3 B2
  go_wp2_with fail
  refine (P4.out _ ((HV.out.below B3).more B3.size)).mono ?_
  rintro e w4 ⟨rfl, hb4⟩
  have B4 := up_trans B3 hb4
  clear hb4 B3
  go_wp2_with fail
  refine (of_none A c _).mono ?_
  rintro e w5 ⟨g5, cap5, rfl, _, _, hb5⟩
  have B5 := up_trans B4 hb5
  clear hb5 B4
  go_wp2_with fail
  refine (P6.out _ cap5 _ ((HV.out.below B5).more B5.size)).mono ?_
  rintro e w6 ⟨rfl, hb6⟩
  have B6 := up_trans B5 hb6
  clear hb6 B5
  go_wp2_with fail
  refine (unpack_nil x A c _).mono ?_
  rintro e w7 ⟨g7, rfl, _, _, hb7⟩
  have B7 := up_trans B6 hb7
  clear hb7 B6
  go_wp2_with fail
  refine (apart_none A c _).mono ?_
  rintro e w8 ⟨rfl, hb8⟩
  have B8 := up_trans B7 hb8
  clear hb8 B7
  go_wp2
  go_loop [14] (fun i => i = .int .i64 0) (fun _ => 0)
  case atStart => rfl
  case round =>
    obtain rfl := hrel
    go_wp2
    go_ret
    exact ⟨rfl, B8⟩

theorem rows_any (A V : Option Addr) (l : List (Int × Int)) (vs : List (BitVec 64)) (c d : Nat) (x : BitVec 64) (w : World) (hf : FS w.heap.size w A l) (hv : WS w.heap.size w V vs) :
    Calls Try.prog 5 #[.slice A l.length c, .slice V vs.length d, .int .u64 (u x)] w fun e w' => e = .returned (.bool true) ∧ Below w.heap.size w w' := by
  by_cases hbig : 70 < l.length ∨ 70 < vs.length
  · exact rows_big A V l.length vs.length c d (u x) w hbig
  · have hl : l.length ≤ 70 := by omega
    have hm : vs.length ≤ 70 := by omega
    by_cases ha : apartGo 0#64 l = true
    · rcases Nat.eq_zero_or_pos l.length with h0 | hp
      · have e1 := List.eq_nil_of_length_eq_zero h0
        subst e1
        cases vs with
        | nil => exact rows_nil_none A V c d x w
        | cons v vs => exact rows_nil_some A V v vs c d x w hv hm
      · obtain ⟨b, off, rfl, hb, hf⟩ := hf hp
        cases hpk : packB l vs with
        | none => exact rows_un b off V l vs c d x w hb hf hv hl hm ha hpk
        | some y =>
          have hne : l.length = vs.length := by
            unfold packB at hpk
            by_cases hc : l.length = vs.length ∧ apartGo 0#64 l = true
            · exact hc.1
            · rw [if_neg hc] at hpk; cases hpk
          obtain ⟨vb, voff, rfl, hvb, hv⟩ := hv (by omega)
          exact rows_ok b off vb voff l vs c d x y w hb hf hvb hv hne hl hm ha hpk
    · exact rows_no A V l vs c d x w hf hv hl hm (by simpa using ha)

end Go.Proofs.Ytlkphjbnjeelaaa
