/-
  How often a state was held, in the statement's way. A contract that the claimed proof uses.
-/
import Derived.Test.YtjnknnakllbaaaaGreatGrRefAsk
import Derived.Test.YtjnknnakllbaaaaGreatGrAt
namespace Go.Proofs.YtjnknnakllbaaaaGreat.Gr
set_option maxRecDepth 100000
open Go.RowKit Go.Maps

def eqTo (f g : Le.Row) : Nat → Bool
  | 0 => true
  | k + 1 => eqTo f g k && (f k == g k)
theorem eqTo_succ (f g : Le.Row) (k : Nat) : eqTo f g (k + 1) = (eqTo f g k && (f k == g k)) := rfl
theorem eqTo_all (f g : Le.Row) : eqTo f g 8 = Le.eqB f g := by
  unfold Le.eqB eqTo eqTo eqTo eqTo eqTo eqTo eqTo eqTo eqTo
  simp only [Bool.true_and, Bool.and_assoc]
section
variable {B : Nat} {w w' : World} {p : Nat} {C : Int} {S : List Le.Row}
set_option maxHeartbeats 4000000 in
theorem seen_any (g : Le.Row) (h : Le.Rf B w p C S) (hS : S.length ≤ 1000) : Calls Tryz.prog 30 #[.pointer (some ⟨p, 0, none⟩), Le.rowV g] w fun e w' => e = .returned (.int .i64 (Le.cn S g)) ∧ Below w.heap.size w w' := by
  have hB := up_alloc (Below.refl _ w) (.cells #[.int .i64 (g 0), .int .i64 (g 1), .int .i64 (g 2), .int .i64 (g 3), .int .i64 (g 4), .int .i64 (g 5), .int .i64 (g 6), .int .i64 (g 7)] 24)
  have hk : Blk (w.alloc (.cells #[.int .i64 (g 0), .int .i64 (g 1), .int .i64 (g 2), .int .i64 (g 3), .int .i64 (g 4), .int .i64 (g 5), .int .i64 (g 6), .int .i64 (g 7)] 24)) w.heap.size (Le.rowL g) 24 := Blk.new w _ 24
  have HH := Lib.hid (h.below hB)
  have HB := Lib.hid hB
  have HK := Lib.hid hk
  obtain ⟨N, hN⟩ : ∃ N, S.length = N := ⟨_, rfl⟩
  have HN := Lib.hid hN
  have hN' : N ≤ 1000 := by omega
  unfold Le.rowV Le.rowA
  clear h hB hk hS hN
  go_enter Tryz.func30, Tryz.ntmps30
  go_wp2_with fail
  generalize w.alloc (.cells #[.int .i64 (g 0), .int .i64 (g 1), .int .i64 (g 2), .int .i64 (g 3), .int .i64 (g 4), .int .i64 (g 5), .int .i64 (g 6), .int .i64 (g 7)] 24) = w0 at HH HB HK ⊢
  obtain ⟨ga, hga⟩ : ∃ ga, w.heap.size = ga := ⟨_, rfl⟩
  have HGA := Lib.hid hga
  rw [hga] at HK ⊢
  clear hga
  go_loopw [5, 6] (fun n i wr => ∃ j : Nat, j ≤ N ∧ i = .int .i64 j ∧ n = .int .i64 (Le.cn (Le.fst' S j) g : Nat) ∧ Below w0.heap.size w0 wr) (fun _ i _ => N - (intOf i).toNat)
  case atStart => exact ⟨0, by omega, rfl, by rw [Le.fst_zero]; rfl, Below.refl _ _⟩
  case round =>
    obtain ⟨j, hj, rfl, rfl, hb⟩ := hrel
    have HBj := Lib.hid hb
    have HR := Lib.hid (HH.out.below hb)
    have HKj := Lib.hid (Blk.below HK.out hb)
    clear hb
    obtain ⟨gg, gcap, _, cp1, hrow⟩ := HR.out.cells
    rw [HN.out] at cp1 hrow
    by_cases hlt : j < N
    · obtain ⟨r, c', crow, hrw⟩ := hrow j hlt
      have hjl : j < S.length := by rw [HN.out]; exact hlt
      have hfs := Le.fst_succ hjl
      have HC1 : Hid (((Le.cn (Le.fst' S (j + 1)) g : Nat) : Int) = (Le.cn (Le.fst' S j) g : Nat) + (if Le.eqB (Le.ato S j) g = true then 1 else 0)) := by
        rw [hfs, Le.cn_cons]; split <;> rfl
      have hl1 := Le.cn_le (Le.fst' S j) g
      have hl3 : (Le.fst' S j).length ≤ S.length := by unfold Le.fst'; rw [List.length_drop]; omega
      rw [HN.out] at hl3
      have RW := Lib.hid hrw
      obtain ⟨fx, hfx⟩ : ∃ fx, Le.ato S j = fx := ⟨_, rfl⟩
      rw [hfx, ← eqTo_all] at HC1
      rw [hfx] at RW
      have y1 : (0 : Int) ≤ (j : Int) := by omega
      have y2 : (j : Int) < (N : Int) := by omega
      have w1' := i64_in (((Le.cn (Le.fst' S j) g : Nat) : Int) + 1) (by omega) (by omega)
      generalize ((Le.cn (Le.fst' S j) g : Nat) : Int) = X at HC1 w1' ⊢
      have HCP := Lib.hid cp1
      have HCR := Lib.hid crow
      clear hrow hrw hfs hl1 hl3 hfx hjl crow
      go_wp2_with fail
      clear cp1
      obtain ⟨wo, hwo⟩ : ∃ wo : World, wo = wr := ⟨wr, rfl⟩
      subst hwo
      go_loopw [7, 8] (fun s i wq => ∃ k : Nat, k ≤ 8 ∧ i = .int .i64 k ∧ s = .bool (eqTo fx g k) ∧ Below wo.heap.size wo wq) (fun _ i _ => 8 - (intOf i).toNat)
      case atStart => exact ⟨0, by omega, rfl, rfl, Below.refl _ _⟩
      case round =>
        obtain ⟨k, hk, rfl, rfl, hbq⟩ := hrel
        have HBq := Lib.hid hbq
        by_cases hk8 : k < 8
        · have x1 : wr.cell? ⟨p, 1, none⟩ = some (.slice (some ⟨gg, 0, none⟩) N gcap) := (hbq.cell (World.block_lt_of_cell? wo _ HCP.out)).trans HCP.out
          have x2 : wr.cell? ⟨gg, j, none⟩ = some (.slice (some ⟨r, 0, none⟩) 8 c') := (hbq.cell (World.block_lt_of_cell? wo _ HCR.out)).trans HCR.out
          have x3 : wr.cell? ⟨r, k, none⟩ = some (.int .i64 (fx k)) := (RW.out.below hbq).cell hk8
          have x4 : wr.cell? ⟨ga, k, none⟩ = some (.int .i64 (g k)) := by
            have := Sp.Blk.cell (i := k) (Blk.below HKj.out hbq)
            rw [this]; exact Le.rowL_at g hk8
          have z1 : (0 : Int) ≤ (k : Int) := by omega
          have z2 : (k : Int) < (8 : Int) := by omega
          have HS := Lib.hid (eqTo_succ fx g k)
          clear hbq
          cases hs : eqTo fx g k with
          | false =>
            have HE : Hid (eqTo fx g (k + 1) = false) := by show _ = _; rw [HS.out, hs]; rfl
            clear hs
            go_wp2_with fail
            go_quiet (fail)
            go_wp2_with fail
            go_roundw
            case rel => exact ⟨k + 1, by omega, by go_num, by rw [HE.out], up_trans HBq.out (Le.Drawn.below ⟨_, rfl⟩)⟩
            case measure => simp [intOf]; omega
          | true =>
            obtain ⟨D, hD⟩ : ∃ D, (fx k == g k) = D := ⟨_, rfl⟩
            have HE : Hid (eqTo fx g (k + 1) = D) := by show _ = _; rw [HS.out, hs, hD]; rfl
            clear hs
            go_wp2_with fail
            go_quiet (fail)
            go_wp2_with fail
            go_roundw
            case rel => exact ⟨k + 1, by omega, by go_num, by rw [HE.out], up_trans HBq.out (Le.Drawn.below ⟨_, rfl⟩)⟩
            case measure => simp [intOf]; omega
        · obtain rfl : k = 8 := by omega
          clear hbq
          have z2 : decide ((8 : Int) < (8 : Int)) = false := by decide
          have HBw := Lib.hid (up_trans HBj.out HBq.out)
          cases hs : eqTo fx g 8 with
          | false =>
            have HE : Hid (((Le.cn (Le.fst' S (j + 1)) g : Nat) : Int) = X) := by show _ = _; rw [HC1.out, hs]; simp
            clear hs
            go_wp2_with fail
            go_roundw
            case rel => exact ⟨j + 1, by omega, by go_num, by rw [HE.out], HBw.out⟩
            case measure => simp [intOf]; omega
          | true =>
            have HE : Hid (((Le.cn (Le.fst' S (j + 1)) g : Nat) : Int) = X + 1) := by show _ = _; rw [HC1.out, hs]; simp
            clear hs
            go_wp2_with fail
            go_roundw
            case rel => exact ⟨j + 1, by omega, by go_num, by rw [HE.out], HBw.out⟩
            case measure => simp [intOf]; omega
    · obtain rfl : j = N := by omega
      have hfst : Le.fst' S j = S := by have := Le.fst_all S; rwa [HN.out] at this
      rw [hfst]
      have HBw : Hid (Below w.heap.size w wr) := up_trans HB.out HBj.out
      have z2 : decide ((j : Int) < (j : Int)) = false := by simp
      clear hrow
      go_wp2_with fail
      go_ret
      exact ⟨rfl, HBw.out⟩
end
end Go.Proofs.YtjnknnakllbaaaaGreat.Gr
