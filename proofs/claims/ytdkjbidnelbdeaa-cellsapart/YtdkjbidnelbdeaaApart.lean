/-
  The walk of the statement on what is stored and loaded.
-/
import Derived.Test.YtdkjbidnelbdeaaAlive
namespace Go.Proofs.Ytdkjbidnelbdeaa
open Go.RowKit

theorem seven (n : Nat) : splice (List.replicate n 0#8) 0 (List.replicate n 7#8) = List.replicate n 7#8 := splice_all _ _ (by simp)
def Sevens (n q g : Nat) (w : World) (e : Ending) (w' : World) : Prop := e = .returned (.int .i64 0) ∧ Mem w' q g (List.replicate n 7#8) ∧ w.grownBy w' (some g)
theorem fill_seven (n q g : Nat) (w : World) (hm : Mem w q g (List.replicate n 0#8)) :
    Calls Try.prog 20 #[.pointer (some ⟨q, 0, none⟩), .int .i64 0, .int .i64 (n : Int), .int .u8 7] w (Sevens n q g w) := by
  have := fill_yes q g _ 0 n 7#8 w hm (by simp)
  rw [seven] at this
  exact this
theorem getD_seven (n i : Nat) (h : i < n) : (List.replicate n 7#8).getD i 0#8 = 7#8 := by
  rw [List.getD_eq_getElem?_getD, List.getElem?_replicate, if_pos h]; rfl
theorem ldW_own (bs : List (BitVec 8)) (s k : Nat) (v : BitVec 64) (h : s + k ≤ bs.length) : ldW (splice bs s (bytesOf v k)) s k = ld (by8 v) k := by
  unfold ldW
  apply ld_congr
  intro i hi
  rw [splice_getD _ _ _ _ (by rw [bytesOf_length]; exact h), bytesOf_length, if_pos (by omega), show s + i - s = i by omega, bytesOf_getD v k i hi]
theorem ldW_other (n s k o : Nat) (v : BitVec 64) (h : s + k ≤ n) (ho : o < n) (hn : o < s ∨ s + k ≤ o) : u (ldW (splice (List.replicate n 7#8) s (bytesOf v k)) o 1) = 7 := by
  have e : ldW (splice (List.replicate n 7#8) s (bytesOf v k)) o 1 = ld (fun _ => 7#8) 1 := by
    unfold ldW
    apply ld_congr
    intro i hi
    obtain rfl : i = 0 := by omega
    rw [splice_getD _ _ _ _ (by rw [bytesOf_length]; simpa using h), bytesOf_length, if_neg (by omega), getD_seven _ _ (by omega)]
  rw [e]; rfl

theorem load_other (n s k q g : Nat) (o : Int) (v : BitVec 64) (w : World) (hm : Mem w q g (splice (List.replicate n 7#8) s (bytesOf v k))) (h : s + k ≤ n) (h0 : 0 ≤ o) (h1 : o < n) (h2 : o < s ∨ (s : Int) + k ≤ o) :
    Calls Try.prog 11 #[.pointer (some ⟨q, 0, none⟩), .int .i64 o, .int .i64 1] w fun e w' => e = .returned (.tuple #[.int .u64 7, .int .i64 0]) ∧ w = w' := by
  obtain ⟨O, rfl⟩ := Int.eq_ofNat_of_zero_le h0
  have hl : (splice (List.replicate n 7#8) s (bytesOf v k)).length = n := by rw [splice_length (by rw [bytesOf_length]; simpa using h)]; simp
  have := load_yes q g _ O 1 w hm (by decide) (by rw [hl]; omega)
  rw [ldW_other n s k O v h (by omega) (by omega)] at this
  exact this
theorem low_raw (v : BitVec 64) (k : Nat) (hk : k < 8) : bits .and .u64 (u v) (IntKind.u64.wrap (IntKind.u64.wrap (2 ^ (8 * k)) - 1)) = u (ld (by8 v) k) := by
  have e1 : IntKind.u64.wrap ((2 : Int) ^ (8 * k)) = u (1#64 <<< (8 * k)) := by
    rw [← shl_u]; congr 1; rw [show u 1#64 = 1 from rfl, Int.one_mul]
  have e2 : (1 : Int) = u 1#64 := rfl
  rw [e1, e2, sub_u, and_u, ld_by8_low v k hk]

theorem apart_out (n s k : Int) (v : BitVec 64) (o : Int) (w : World) (h : n < 0 ∨ 2000 < n) :
    Calls Try.prog 5 #[.int .i64 n, .int .i64 s, .int .i64 k, .int .u64 (u v), .int .i64 o] w fun e w' => e = .returned (.bool true) ∧ Below w.heap.size w w' := by
  by_cases h0 : n < 0
  · have hd : decide (n < 0) = true := by simpa using h0
    clear h h0
    go_enter Try.func5, Try.ntmps5
    go_wp2_with fail
    refine (alive_any _).mono ?_
    rintro e w1 ⟨rfl, B1⟩
    go_wp2
    go_ret
    exact ⟨rfl, B1⟩
  · have hd : decide (n < 0) = false := by simp; omega
    have hd : decide (2000 < n) = true := by simp; omega
    clear h h0
    go_enter Try.func5, Try.ntmps5
    go_wp2_with fail
    refine (alive_any _).mono ?_
    rintro e w1 ⟨rfl, B1⟩
    go_wp2
    go_ret
    exact ⟨rfl, B1⟩

theorem apart_no (n : Nat) (s k : Int) (v : BitVec 64) (o : Int) (w : World) (hn : n ≤ 2000) (hs : s ≤ 9223372036854775807) (hno : (widthB k && hasB n s k) = false) :
    Calls Try.prog 5 #[.int .i64 (n : Int), .int .i64 s, .int .i64 k, .int .u64 (u v), .int .i64 o] w fun e w' => e = .returned (.bool true) ∧ Below w.heap.size w w' := by
  go_enter Try.func5, Try.ntmps5
  go_wp2_with fail
  refine (alive_any _).mono ?_
  rintro e w1 ⟨rfl, B1⟩
  go_wp2_with fail
  refine (new_any n (by omega) _).mono ?_
  rintro e w2 ⟨rfl, m2, b2⟩
  have B2 := up_trans B1 b2
  have hs1 := B1.size
  clear b2 B1
  go_wp2_with fail
  refine (fill_seven n _ _ _ m2).mono ?_
  rintro e w3 ⟨rfl, m3, g3⟩
  have B3 := below_grown B2 g3 B2.size hs1
  clear m2 g3 B2
  have c3 := m3.cell
  rw [List.length_replicate] at c3
  go_wp2_with fail
  refine (store_no _ _ n s k v _ c3 (by omega) hs hno).mono ?_
  rintro e w4 ⟨rfl, rfl⟩
  go_wp2_with fail
  refine (read_yes _ _ _ 0 n _ m3 (by simp)).mono ?_
  rw [show sub (List.replicate n 7#8) 0 n = List.replicate n 7#8 by have := sub_all (List.replicate n 7#8); rwa [List.length_replicate] at this]
  rintro e w5 ⟨he, r5, b5⟩
  rw [List.length_replicate] at he
  subst he
  have B5 := up_trans B3 b5
  clear m3 c3 B3 b5
  have HR := Lib.hid r5
  clear r5
  go_wp2
  go_loop [15] (fun i => ∃ j : Nat, j ≤ n ∧ i = .int .i64 j) (fun i => n - (intOf i).toNat)
  case atStart => exact ⟨0, by omega, rfl⟩
  case round =>
    obtain ⟨j, hj, rfl⟩ := hrel
    by_cases hlt : j < n
    · have q1 := HR.out.cell (i := j) (by simpa using hlt)
      rw [getD_seven n j hlt] at q1
      have q2 : y 7#8 = 7 := rfl
      rw [q2] at q1
      clear q2
      go_wp2
      go_round
      case rel => exact ⟨j + 1, by omega, by go_num⟩
      case measure => simp [intOf]; omega
    · obtain rfl : j = n := by omega
      go_wp2
      go_ret
      exact ⟨rfl, B5⟩

set_option maxHeartbeats 2000000 in
theorem apart_yes (n s k : Nat) (v : BitVec 64) (o : Int) (w : World) (hn : n ≤ 2000) (hw : widthB k = true) (hh : s + k ≤ n) :
    Calls Try.prog 5 #[.int .i64 (n : Int), .int .i64 (s : Int), .int .i64 (k : Int), .int .u64 (u v), .int .i64 o] w fun e w' => e = .returned (.bool true) ∧ Below w.heap.size w w' := by
  have hk8 : 1 ≤ k ∧ k ≤ 8 := by have := widthB_iff.1 hw; omega
  obtain ⟨k1, k8⟩ := hk8
  go_enter Try.func5, Try.ntmps5
  go_wp2_with fail
  refine (alive_any _).mono ?_
  rintro e w1 ⟨rfl, B1⟩
  go_wp2_with fail
  refine (new_any n (by omega) _).mono ?_
  rintro e w2 ⟨rfl, m2, b2⟩
  have B2 := up_trans B1 b2
  have hs1 := B1.size
  clear b2 B1
  go_wp2_with fail
  refine (fill_seven n _ _ _ m2).mono ?_
  rintro e w3 ⟨rfl, m3, g3⟩
  have B3 := below_grown B2 g3 B2.size hs1
  clear m2 g3 B2
  go_wp2_with fail
  refine (store_yes _ _ _ s k v _ m3 hw (by simpa using hh)).mono ?_
  rintro e w4 ⟨rfl, m4, g4⟩
  have B4 := below_grown B3 g4 B3.size hs1
  clear g4 m3 B3
  go_wp2_with fail
  refine (load_yes _ _ _ s k _ m4 hw (by rw [splice_length (by rw [bytesOf_length]; simpa using hh)]; simpa using hh)).mono ?_
  rw [ldW_own _ _ _ _ (by simpa using hh)]
  rintro e w5 ⟨rfl, rfl⟩
  have M4 := Lib.hid m4
  clear m4
  by_cases hk : k < 8
  · have d8 : (k : Int) < 8 := by omega
    have hq := low_raw v k hk
    go_wp2_with fail
    all_goals first | (go_ret; exact ⟨rfl, B4⟩) | skip
    all_goals
      refine (load_other n s k _ _ o v _ M4.out hh (by omega) (by omega) (by omega)).mono ?_
      rintro e w6 ⟨rfl, rfl⟩
      go_wp2
      go_ret
      exact ⟨rfl, B4⟩
  · have d8 : decide ((k : Int) < 8) = false := by simp; omega
    have e8 : ((k : Int) == 8) = true := by simp; omega
    have el : ld (by8 v) k = v := by rw [show k = 8 by omega]; exact ld_by8_whole v
    rw [el]
    have hvv : (u v != u v) = false := by simp
    clear hk k8 el
    go_wp2_with fail
    all_goals first | (go_ret; exact ⟨rfl, B4⟩) | skip
    all_goals
      refine (load_other n s k _ _ o v _ M4.out hh (by omega) (by omega) (by omega)).mono ?_
      rintro e w6 ⟨rfl, rfl⟩
      go_wp2
      go_ret
      exact ⟨rfl, B4⟩

theorem apart_any (n s k : Int) (v : BitVec 64) (o : Int) (w : World) (hs : s ≤ 9223372036854775807) :
    Calls Try.prog 5 #[.int .i64 n, .int .i64 s, .int .i64 k, .int .u64 (u v), .int .i64 o] w fun e w' => e = .returned (.bool true) ∧ Below w.heap.size w w' := by
  by_cases h : n < 0 ∨ 2000 < n
  · exact apart_out n s k v o w h
  · obtain ⟨n, rfl⟩ := Int.eq_ofNat_of_zero_le (by omega : 0 ≤ n)
    cases hno : widthB k && hasB n s k
    · exact apart_no n s k v o w (by omega) hs hno
    · rw [Bool.and_eq_true] at hno
      obtain ⟨h0, h1, h2⟩ := hasB_iff.1 hno.2
      obtain ⟨s, rfl⟩ := Int.eq_ofNat_of_zero_le h0
      obtain ⟨k, rfl⟩ := Int.eq_ofNat_of_zero_le h1
      exact apart_yes n s k v o w (by omega) hno.1 (by omega)

end Go.Proofs.Ytdkjbidnelbdeaa
