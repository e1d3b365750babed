/-
  All cases of the statement on rows of calls together.
-/
import Derived.Test.YtdkjbidnelbdeaaCallsLaw
namespace Go.Proofs.Ytdkjbidnelbdeaa
open Go.RowKit

def Great (n : Int) (l : List Cl) : Prop := 2000 < n ∨ 60 < l.length ∨ ∃ i, i < l.length ∧ 2000 < (l.getD i cl0).xs.length
theorem great_no (n : Int) (A : Option Addr) (l : List Cl) (c N : Nat) (w : World) (hcs : CS N w A l) (h : ¬ Great n l) :
    Calls Try.prog 7 #[.int .i64 n, .slice A l.length c] w fun e w' => e = .returned (.bool false) ∧ w = w' := by
  have HC := Lib.hid hcs
  have HG := Lib.hid h
  have hd : decide (2000 < n) = false := by simp; exact Int.not_lt.1 fun h' => h (.inl h')
  have h60 : ¬ 60 < l.length := fun h' => h (.inr (.inl h'))
  have hd2 : decide (60 < (l.length : Int)) = false := by simp; omega
  clear hcs h
  obtain ⟨L, hl⟩ : ∃ L, l.length = L := ⟨_, rfl⟩
  have HL := Lib.hid hl
  rw [hl] at hd2 h60 ⊢
  clear hl
  go_enter Try.func7, Try.ntmps7
  go_wp2
  go_loop [5] (fun i => ∃ j : Nat, j ≤ L ∧ i = .int .i64 j) (fun i => L - (intOf i).toNat)
  case atStart => exact ⟨0, by omega, rfl⟩
  case round =>
    obtain ⟨j, hj, rfl⟩ := hrel
    by_cases hlt : j < L
    · obtain ⟨b, o, rfl, hb, hc⟩ := HC.out (by rw [HL.out]; omega)
      obtain ⟨⟨_, _, _, _, _, _, c6⟩, _⟩ := hc j (by rw [HL.out]; exact hlt)
      have hbig : ¬ 2000 < (l.getD j cl0).xs.length := fun h' => HG.out (.inr (.inr ⟨j, by rw [HL.out]; exact hlt, h'⟩))
      obtain ⟨m, hm⟩ : ∃ m, (l.getD j cl0).xs.length = m := ⟨_, rfl⟩
      rw [hm] at c6 hbig
      clear hm hc
      go_wp2
      go_round
      case rel => exact ⟨j + 1, by omega, by go_num⟩
      case measure => simp [intOf]; omega
    · obtain rfl : j = L := by omega
      go_wp2
      go_ret
      exact ⟨rfl, rfl⟩
theorem great_yes (n : Int) (A : Option Addr) (l : List Cl) (c N : Nat) (w : World) (hcs : CS N w A l) (h : Great n l) :
    Calls Try.prog 7 #[.int .i64 n, .slice A l.length c] w fun e w' => e = .returned (.bool true) ∧ w = w' := by
  have HC := Lib.hid hcs
  have HG := Lib.hid h
  clear hcs h
  obtain ⟨L, hl⟩ : ∃ L, l.length = L := ⟨_, rfl⟩
  have HL := Lib.hid hl
  rw [hl]
  clear hl
  by_cases h1 : 2000 < n
  · have hd : decide (2000 < n) = true := by simpa using h1
    go_enter Try.func7, Try.ntmps7
    go_wp2
    go_ret
    exact ⟨rfl, rfl⟩
  · have hd : decide (2000 < n) = false := by simpa using h1
    by_cases h2 : 60 < L
    · have hd2 : decide (60 < (L : Int)) = true := by simp; omega
      go_enter Try.func7, Try.ntmps7
      go_wp2
      go_ret
      exact ⟨rfl, rfl⟩
    · have hd2 : decide (60 < (L : Int)) = false := by simp; omega
      obtain ⟨t, ht, hbig⟩ : ∃ i, i < L ∧ 2000 < (l.getD i cl0).xs.length := by
        rcases HG.out with h | h | ⟨i, hi, hb⟩
        · exact absurd h h1
        · rw [HL.out] at h; exact absurd h h2
        · rw [HL.out] at hi; exact ⟨i, hi, hb⟩
      have HT := Lib.hid hbig
      clear hbig
      go_enter Try.func7, Try.ntmps7
      go_wp2
      go_loop [5] (fun i => ∃ j : Nat, j ≤ t ∧ i = .int .i64 j) (fun i => t - (intOf i).toNat)
      case atStart => exact ⟨0, by omega, rfl⟩
      case round =>
        obtain ⟨j, hj, rfl⟩ := hrel
        have hlt : j < L := by omega
        obtain ⟨b, o, rfl, hb, hc⟩ := HC.out (by rw [HL.out]; omega)
        obtain ⟨⟨_, _, _, _, _, _, c6⟩, _⟩ := hc j (by rw [HL.out]; exact hlt)
        obtain ⟨m, hm⟩ : ∃ m, (l.getD j cl0).xs.length = m := ⟨_, rfl⟩
        rw [hm] at c6
        have HM := Lib.hid hm
        clear hm hc
        by_cases hbig : 2000 < m
        · go_wp2
          go_ret
          exact ⟨rfl, rfl⟩
        · have hjt : j < t := by
            rcases Nat.lt_or_ge j t with h | h
            · exact h
            · have e : j = t := by omega
              have h1 := HT.out
              rw [← e, HM.out] at h1
              exact absurd h1 hbig
          go_wp2
          go_round
          case rel => exact ⟨j + 1, by omega, by go_num⟩
          case measure => simp [intOf]; omega

theorem calls_any (n : Int) (A : Option Addr) (l : List Cl) (c : Nat) (s k : Int) (w : World) (hcs : CS w.heap.size w A l) (hs : s ≤ 9223372036854775807) :
    Calls Try.prog 3 #[.int .i64 n, .slice A l.length c, .int .i64 s, .int .i64 k] w fun e w' => e = .returned (.bool true) ∧ Below w.heap.size w w' := by
  by_cases hg : Great n l
  · exact calls_great n A l.length c s k w fun w1 hb => great_yes n A l c w.heap.size w1 (hcs.below hb) hg
  · have hgr := fun w1 hb => great_no n A l c w.heap.size w1 (hcs.below hb) hg
    by_cases hn : n < 0
    · exact calls_neg n A l.length c s k w hn hgr
    · obtain ⟨n, rfl⟩ := Int.eq_ofNat_of_zero_le (by omega : 0 ≤ n)
      have h1 : ¬ 2000 < (n : Int) := fun h => hg (.inl h)
      have h2 : ¬ 60 < l.length := fun h => hg (.inr (.inl h))
      exact calls_main n A l c s k w hcs (by omega) (by omega) hs hgr

end Go.Proofs.Ytdkjbidnelbdeaa
