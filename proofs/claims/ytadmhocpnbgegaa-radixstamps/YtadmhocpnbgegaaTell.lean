/-
  How many leaves are kept, how many pages have an entry of a version and a state: contracts that the claimed proofs use.
-/
import Derived.Test.YtadmhocpnbgegaaWord
namespace Go.Proofs.Ytadmhocpnbgegaa
open Go.RowKit

theorem ps_len (g : Gs) : (ps g).length = 64 := by unfold ps; simp
theorem lw_len (f : Ws) (i : Nat) : (lw f i).length = 64 := by unfold lw; simp
theorem ps_info (g : Gs) : (Try.prog.info? 59).map (·.size) = some (ps g).length := by rw [ps_len]; kernel_rfl
theorem ps_range {w : World} {q : Nat} {n t : Int} {g : Gs} (h : Blk w q (mc n t g) 61) : w.rangeAt q 2 (ps g) := fun j v hv => by
  have hj : j < 64 := by have := (List.getElem?_eq_some_iff.1 hv).1; rwa [ps_len] at this
  rw [h.cell, mc_at n t g hj, ← hv, ps_at g hj]
theorem ps_index (g : Gs) {i : Nat} (hi : i < 64) (w : World) : (Instr.index 59 (.agg (ps g).toArray) (.int .i64 i)).run Try.prog w = .ok (ptr (g i)) w := by
  have hs : (sizeOf 58).run Try.prog w = .ok 1 w := by kernel_rfl
  have hx : (ps g).toArray[i]? = some (ptr (g i)) := by rw [List.getElem?_toArray]; exact ps_at g hi
  have hc : (0 : Int) ≤ (i : Int) ∧ (i : Int) < ((64 : Nat) : Int) := by omega
  have hp : (part 58 (ps g).toArray i).run Try.prog w = .ok (ptr (g i)) w := by simp [part, isAgg, run_underlying Try.underlying58, hx]
  simp only [Instr.index, asIntOf, Sem.run_bind, Sem.run_pure, Result.andThen_ok, run_underlying Try.underlying59]
  rw [if_pos hc]
  simp only [Sem.run_bind, hs, Result.andThen_ok, Nat.mul_one, Int.toNat_natCast, hp]
section
variable {w : World} {q : Nat} {n t : Int} {g : Gs} {f : Ws}
theorem leaves_any (h : Lay w q n t g f) (hk : Kept g f) :
    Calls Try.prog 14 #[.pointer (some ⟨q, 0, none⟩)] w fun e w' => e = .returned (.int .i64 (lvs f 64 : Nat)) ∧ w = w' := by
  have HR := Lib.hid (ps_range h.blk)
  have HK := Lib.hid hk
  clear h hk
  go_enter Try.func14, Try.ntmps14
  go_wp2_with (refine wpList_load_mid rfl 59 (.tmp 8) rfl q 2 rfl (ps g) _ HR.out Try.underlying59 rfl (ps_info g) ?_)
  go_loop [3, 10] (fun c i => ∃ k : Nat, k ≤ 64 ∧ c = .int .i64 (lvs f k : Nat) ∧ i = .int .i64 k) (fun _ i => 64 - (intOf i).toNat)
  case atStart => exact ⟨0, by omega, rfl, rfl⟩
  case round =>
    obtain ⟨k, hk, rfl, rfl⟩ := hrel
    by_cases hlt : k < 64
    · have hi := ps_index g hlt w
      have hle := lvs_le f k
      have hkk := HK.out k hlt
      have hs : lvs f (k + 1) = lvs f k + if lfB f k = true then 1 else 0 := rfl
      cases hg : g k with
      | none =>
        rw [hg, ptr_none] at hi
        rw [hg] at hkk
        rw [← hkk] at hs
        have HS := Lib.hid hs
        clear hs hkk hg
        generalize lvs f k = L at *
        go_wp2
        go_round
        case rel => exact ⟨k + 1, by omega, by rw [HS.out]; rfl, by go_num⟩
        case measure => simp [intOf]; omega
      | some b =>
        rw [hg, ptr_some] at hi
        rw [hg] at hkk
        rw [← hkk] at hs
        have HS := Lib.hid hs
        clear hs hkk hg
        generalize lvs f k = L at *
        go_wp2
        go_round
        case rel => exact ⟨k + 1, by omega, by rw [HS.out]; simp, by go_num⟩
        case measure => simp [intOf]; omega
    · obtain rfl : k = 64 := by omega
      go_wp2
      go_ret
      exact ⟨rfl, rfl⟩
theorem count_any (v s : Int) (h : Lay w q n t g f) (hs : St n t f) :
    Calls Try.prog 19 #[.pointer (some ⟨q, 0, none⟩), .int .i64 v, .int .i64 s] w fun e w' => e = .returned (.int .i64 (cnt f v s n.toNat : Nat)) ∧ Below w.heap.size w w' := by
  have c0 := h.c0
  have n0 := hs.n0
  have n1 := hs.n1
  obtain ⟨N, rfl⟩ : ∃ N : Nat, n = (N : Int) := ⟨n.toNat, by omega⟩
  have HL := Lib.hid h
  have HS := Lib.hid hs
  rw [Int.toNat_natCast]
  clear h hs
  go_enter Try.func19, Try.ntmps19
  go_wp2_with fail
  go_loopw [7, 15] (fun c i wr => ∃ k : Nat, k ≤ N ∧ c = .int .i64 (cnt f v s k : Nat) ∧ i = .int .i64 k ∧ Below w.heap.size w wr) (fun _ i _ => N - (intOf i).toNat)
  case atStart => exact ⟨0, by omega, rfl, rfl, Below.refl _ _⟩
  case round =>
    obtain ⟨k, hk, rfl, rfl, hb⟩ := hrel
    have HB := Lib.hid hb
    clear hb
    by_cases hlt : k < N
    · have hG := get_any (k : Int) (HL.out.below HB.out) HS.out ⟨by omega, by omega⟩
      rw [wAt_in (by omega)] at hG
      have HG := Lib.hid hG
      have hle := cnt_le f v s k
      have hsu : cnt f v s (k + 1) = cnt f v s k + if hitB f v s k = true then 1 else 0 := rfl
      unfold hitB at hsu
      have HSU := Lib.hid hsu
      have y1 : (0 : Int) ≤ (k : Int) := by omega
      have y2 : (k : Int) < (N : Int) := by omega
      clear hG hsu
      generalize f k = X at HG HSU
      generalize cnt f v s k = L at *
      unfold entV at HG
      cases hX : (X != 0)
      · rw [hX] at HG HSU
        go_wp2_with fail
        refine HG.out.mono ?_
        rintro e w1 ⟨rfl, b1⟩
        have B1 := Lib.hid (up_alloc (up_trans HB.out b1) (.cells #[.int .i64 (spanOf X), .int .i64 (verOf X), .int .i64 (clsOf X), .int .i64 (staOf X)] 32))
        clear b1
        go_wp2
        go_roundw
        case rel => exact ⟨k + 1, by omega, by rw [HSU.out]; simp, by go_num, B1.out⟩
        case measure => simp [intOf]; omega
      · rw [hX] at HG HSU
        cases hv : (verOf X == v)
        · rw [hv] at HSU
          go_wp2_with fail
          refine HG.out.mono ?_
          rintro e w1 ⟨rfl, b1⟩
          have B1 := Lib.hid (up_alloc (up_trans HB.out b1) (.cells #[.int .i64 (spanOf X), .int .i64 (verOf X), .int .i64 (clsOf X), .int .i64 (staOf X)] 32))
          clear b1
          go_wp2
          go_roundw
          case rel => exact ⟨k + 1, by omega, by rw [HSU.out]; simp, by go_num, B1.out⟩
          case measure => simp [intOf]; omega
        · rw [hv] at HSU
          cases hs : (staOf X == s)
          · rw [hs] at HSU
            go_wp2_with fail
            refine HG.out.mono ?_
            rintro e w1 ⟨rfl, b1⟩
            have B1 := Lib.hid (up_alloc (up_trans HB.out b1) (.cells #[.int .i64 (spanOf X), .int .i64 (verOf X), .int .i64 (clsOf X), .int .i64 (staOf X)] 32))
            clear b1
            go_wp2
            go_roundw
            case rel => exact ⟨k + 1, by omega, by rw [HSU.out]; simp, by go_num, B1.out⟩
            case measure => simp [intOf]; omega
          · rw [hs] at HSU
            go_wp2_with fail
            refine HG.out.mono ?_
            rintro e w1 ⟨rfl, b1⟩
            have B1 := Lib.hid (up_alloc (up_trans HB.out b1) (.cells #[.int .i64 (spanOf X), .int .i64 (verOf X), .int .i64 (clsOf X), .int .i64 (staOf X)] 32))
            clear b1
            go_wp2
            go_roundw
            case rel => exact ⟨k + 1, by omega, by rw [HSU.out]; simp, by go_num, B1.out⟩
            case measure => simp [intOf]; omega
    · obtain rfl : k = N := by omega
      go_wp2
      go_ret
      exact ⟨rfl, HB.out⟩
end
end Go.Proofs.Ytadmhocpnbgegaa
