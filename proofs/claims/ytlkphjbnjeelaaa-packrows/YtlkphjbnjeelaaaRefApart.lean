/-
  What the references' Apart does: a contract that the claimed proofs use.
-/
import Derived.Test.YtlkphjbnjeelaaaOf
import Derived.Test.YtlkphjbnjeelaaaUnpack
namespace Go.Proofs.Ytlkphjbnjeelaaa
open Go.RowKit

theorem bool_info : (Try.prog.info? 4).map (fun i => (i.zero, i.size, i.bytes)) = some (some (.bool false), 1, 1) := by kernel_rfl
theorem make_bools (W : World) :
    (Instr.makeSlice 60 (.int .i64 64) (.int .i64 64)).run Try.prog W = .ok (.slice (some ⟨W.heap.size, 0, none⟩) 64 64) (W.alloc (.cells (madeCells #[.bool false] 64) 4)) := by
  obtain ⟨i, hi, hz, hs, hb⟩ := info_parts bool_info
  have := run_make (P := Try.prog) W 60 4 i (.bool false) Try.underlying60 hi hz .i64 .i64 64 64 (by omega) (by omega) (by rw [hb]; omega) (by omega)
  rw [hs] at this
  exact this
/-- The bits that are used, as the references note them: those that were seen, and the first j of a field. -/
def usedV (seen : BitVec 64) (s j i : Nat) : Value := .bool (seen.getLsbD i || (decide (s ≤ i) && decide (i < s + j)))
theorem usedV_zero (seen : BitVec 64) (s i : Nat) : usedV seen s 0 i = .bool (seen.getLsbD i) := by
  unfold usedV; congr 1
  have : (decide (s ≤ i) && decide (i < s + 0)) = false := by rw [Bool.eq_false_iff]; simp
  rw [this, Bool.or_false]
theorem usedV_full (seen : BitVec 64) (s n i : Nat) (h : s + n ≤ 64) (hi : i < 64) : usedV seen s n i = .bool ((seen ||| maskW s n).getLsbD i) := by
  unfold usedV; rw [BitVec.getLsbD_or, mask_bit s n i (by omega)]; simp [hi]
theorem usedV_step (seen : BitVec 64) (s j i : Nat) : (if i = s + j then Value.bool true else usedV seen s j i) = usedV seen s (j + 1) i := by
  unfold usedV
  by_cases h : i = s + j
  · subst h; rw [if_pos rfl]; congr 1
    have h1 : s + j < s + (j + 1) := by omega
    simp [h1]
  · rw [if_neg h]; congr 2
    rw [Bool.eq_iff_iff]; simp; omega
theorem usedV_at (seen : BitVec 64) (s j : Nat) : usedV seen s j (s + j) = .bool (seen.getLsbD (s + j)) := by
  unfold usedV; congr 1
  have : decide (s + j < s + j) = false := by simp
  rw [this, Bool.and_false, Bool.or_false]
/-- The first j bits of a field are seen nowhere. -/
def freeTo (seen : BitVec 64) (s j : Nat) : Prop := ∀ i, i < j → seen.getLsbD (s + i) = false
theorem free_all {seen : BitVec 64} {s n : Nat} (h : s + n ≤ 64) (hf : freeTo seen s n) : (seen &&& maskW s n == 0#64) = true := by
  rw [beq_iff_eq]; apply BitVec.eq_of_getLsbD_eq; intro i hi
  rw [BitVec.getLsbD_and, mask_bit s n i (by omega), BitVec.getLsbD_zero]
  by_cases hc : s ≤ i ∧ i < s + n
  · have := hf (i - s) (by omega)
    rw [show s + (i - s) = i from by omega] at this
    rw [this]; rfl
  · have : (decide (i < 64) && decide (s ≤ i) && decide (i < s + n)) = false := by rw [Bool.eq_false_iff]; simp; omega
    rw [this, Bool.and_false]
theorem free_hit {seen : BitVec 64} {s n j : Nat} (h : s + n ≤ 64) (hj : j < n) (hb : seen.getLsbD (s + j) = true) : (seen &&& maskW s n == 0#64) = false := by
  rw [Bool.eq_false_iff]; intro hc
  rw [beq_iff_eq] at hc
  have := congrArg (·.getLsbD (s + j)) hc
  simp only [BitVec.getLsbD_and, BitVec.getLsbD_zero, mask_bit s n (s + j) (by omega), hb] at this
  have h1 : s + j < 64 := by omega
  simp [h1, hj] at this

theorem rapart_none (A : Option Addr) (c : Nat) (w : World) :
    Calls Try.prog 20 #[.slice A 0 c] w fun e w' => e = .returned (.bool true) ∧ Below w.heap.size w w' := by
  have hmk := make_bools
  go_enter Try.func20, Try.ntmps20
  go_wp2
  clear hmk
  go_loop [4] (fun i => i = .int .i64 0) (fun _ => 0)
  case atStart => rfl
  case round =>
    obtain rfl := hrel
    go_wp2
    go_ret
    exact ⟨rfl, up_alloc (Below.refl _ _) _⟩
set_option maxRecDepth 100000 in
set_option maxHeartbeats 3200000 in
theorem rapart_some (b off : Nat) (l : List (Int × Int)) (c : Nat) (w : World) (hb : b < w.heap.size) (hf : FAt w b off l) (hl : l.length ≤ 70) :
    Calls Try.prog 20 #[.slice (some ⟨b, off, none⟩) l.length c] w fun e w' => e = .returned (.bool (apartGo 0#64 l)) ∧ Below w.heap.size w w' := by
  have hmk := make_bools
  have HF := Lib.hid hf
  clear hf
  have hst : (w.alloc (.cells (madeCells #[.bool false] 64) 4)).rowIs w.heap.size 4 64 (fun i => .bool ((seenTo l 0).getLsbD i)) := (World.rowIs_made w (.bool false) 64 4).congr (fun i _ => by simp [seenTo])
  have HST := Lib.hid hst
  clear hst
  go_enter Try.func20, Try.ntmps20
  go_wp2
  clear hmk
  go_loopw [4] (fun i wr => ∃ k : Nat, k ≤ l.length ∧ i = .int .i64 k ∧ okTo l k ∧ wr.rowIs w.heap.size 4 64 (fun i => .bool ((seenTo l k).getLsbD i)) ∧ Below w.heap.size w wr) (fun i _ => l.length - (intOf i).toNat)
  case atStart => exact ⟨0, by omega, rfl, okTo_zero l, HST.out, up_alloc (Below.refl _ _) _⟩
  case round =>
    obtain ⟨k, hk, rfl, hok, hrow, hbel⟩ := hrel
    have HO := Lib.hid hok
    have HR := Lib.hid hrow
    clear hok hrow HST
    obtain ⟨wo, rfl⟩ : ∃ wo : World, wo = wr := ⟨_, rfl⟩
    by_cases hlt : k < l.length
    · obtain ⟨q1, q2⟩ := (HF.out.below hb hbel) k hlt
      have hsz := hbel.size
      have hb2 : b < wo.heap.size := by omega
      have hg := HR.out.lt
      obtain ⟨s, hs⟩ : ∃ s, (l.getD k (0, 0)).1 = s := ⟨_, rfl⟩
      obtain ⟨n, hn⟩ : ∃ n, (l.getD k (0, 0)).2 = n := ⟨_, rfl⟩
      rw [hs] at q1
      rw [hn] at q2
      have HP : Hid (l.getD k (0, 0) = (s, n)) := by rw [← hs, ← hn]; rfl
      clear hs hn
      by_cases hr : rightB s n = true
      · obtain ⟨h0, h1, h2, h3⟩ := rightB_iff.1 hr
        obtain ⟨S, rfl⟩ := Int.eq_ofNat_of_zero_le h2
        obtain ⟨N, rfl⟩ := Int.eq_ofNat_of_zero_le (by omega : 0 ≤ n)
        go_wp2_with (go_at_call 13; refine (rright_any _ _ _).mono ?_; rintro e w' ⟨rfl, rfl⟩)
        have hrow1 : (wo.alloc (.cells #[.int .i64 S, .int .i64 N] 26)).rowIs w.heap.size 4 64 (usedV (seenTo l k) S 0) := (HR.out.alloc _).congr (fun i _ => (usedV_zero (seenTo l k) S i).symm)
        have HR1 := Lib.hid hrow1
        have hbel1 := up_alloc hbel (.cells #[.int .i64 S, .int .i64 N] 26)
        clear hrow1 q1 q2 hbel HR hsz hb2 hg h0 h1 h2 h3
        have n0 : 1 ≤ N := by have := (rightB_iff.1 hr); omega
        have n1 : S + N ≤ 64 := by have := (rightB_iff.1 hr); omega
        go_loopw [5] (fun i wr => ∃ j : Nat, j ≤ N ∧ i = .int .i64 j ∧ freeTo (seenTo l k) S j ∧ wr.rowIs w.heap.size 4 64 (usedV (seenTo l k) S j) ∧ Below w.heap.size w wr) (fun i _ => N - (intOf i).toNat)
        case atStart => exact ⟨0, by omega, rfl, fun i hi => by omega, HR1.out, hbel1⟩
        case round =>
          obtain ⟨j, hj, rfl, hfr, hrow, hbel⟩ := hrel
          have HFR := Lib.hid hfr
          have HR := Lib.hid hrow
          clear hfr hrow HR1
          obtain ⟨q1, q2⟩ := (HF.out.below hb hbel) k hlt
          rw [HP.out] at q1 q2
          have hsz := hbel.size
          have hb2 : b < wr.heap.size := by omega
          by_cases hjn : j < N
          · have hc := HR.out.cell (i := S + j) (by omega)
            rw [usedV_at] at hc
            have hfz := HR.out.frozen (S + j)
            by_cases ht : (seenTo l k).getLsbD (S + j) = true
            · rw [ht] at hc
              have HT := Lib.hid ht
              clear ht
              go_wp2
              go_ret
              exact ⟨ret_b (okTo_twice HO.out hlt (by rw [HP.out]; exact free_hit n1 hjn HT.out)).symm, hbel⟩
            · have ht' : (seenTo l k).getLsbD (S + j) = false := by simpa using ht
              rw [ht'] at hc
              have HT := Lib.hid ht'
              clear ht ht'
              go_wp2
              go_roundw
              case rel => exact ⟨j + 1, by omega, by go_num, fun i hi => by
                by_cases hij : i = j
                · rw [hij]; exact HT.out
                · exact HFR.out i (by omega), (HR.out.set (S + j) (.bool true)).congr (fun i _ => usedV_step (seenTo l k) S j i), hbel.setCell (Nat.le_refl _) _⟩
              case measure => simp [intOf]; omega
          · obtain rfl : j = N := by omega
            go_wp2
            go_roundw
            case rel => exact ⟨k + 1, by omega, by go_num, okTo_succ HO.out hlt (by rw [HP.out]; exact hr) (by rw [HP.out]; exact free_all n1 HFR.out), HR.out.congr (fun i hi => by rw [usedV_full (seenTo l k) S j i n1 hi, seenTo, HP.out]; rfl), hbel⟩
            case measure => simp [intOf]; omega
      · have hr' : rightB s n = false := by simpa using hr
        clear hr
        go_wp2_with (go_at_call 13; refine (rright_any _ _ _).mono ?_; rintro e w' ⟨rfl, rfl⟩)
        go_ret
        exact ⟨ret_b (okTo_wrong HO.out hlt (by rw [HP.out]; exact hr')).symm, up_alloc hbel _⟩
    · obtain rfl : k = l.length := by omega
      go_wp2
      go_ret
      exact ⟨ret_b (okTo_end HO.out).symm, hbel⟩
theorem rapart_any (A : Option Addr) (l : List (Int × Int)) (c : Nat) (w : World) (hf : FS w.heap.size w A l) (hl : l.length ≤ 70) :
    Calls Try.prog 20 #[.slice A l.length c] w fun e w' => e = .returned (.bool (apartGo 0#64 l)) ∧ Below w.heap.size w w' := by
  rcases Nat.eq_zero_or_pos l.length with h0 | hp
  · rw [List.eq_nil_of_length_eq_zero h0]; exact rapart_none A c w
  · obtain ⟨b, off, rfl, hb, hf⟩ := hf hp
    exact rapart_some b off l c w hb hf hl

end Go.Proofs.Ytlkphjbnjeelaaa
