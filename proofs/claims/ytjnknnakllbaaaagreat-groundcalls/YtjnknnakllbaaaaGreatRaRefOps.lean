/-
  What changes the document's map, and what it tells: contracts that the claimed proofs use.
-/
import Derived.Test.YtjnknnakllbaaaaGreatRaRef
namespace Go.Proofs.YtjnknnakllbaaaaGreat.Ra
set_option maxRecDepth 100000
open Go.RowKit

section
variable {w : World} {p r N : Nat} {t : Int} {f : Ws}
theorem u64_in (n : Int) (h0 : 0 ≤ n) (h1 : n < 18446744073709551616) : IntKind.u64.wrap n = n := by rw [IntKind.wrap_u64]; omega
theorem rclr_any (P k : Int) (h : Rf w p r N t f) (hN : N ≤ 4096) (t0 : 0 ≤ t) (t1 : t < 1099511627776) :
    Calls Tryz.prog 82 #[.pointer (some ⟨p, 0, none⟩), .int .i64 P, .int .i64 k] w fun e w' =>
      e = .returned (.int .i64 (clrE (N : Int) f P k)) ∧ Rf w' p r N (nt (clrE (N : Int) f P k) t) (nf (clrE (N : Int) f P k) (clrF f P k) f) ∧ F2 p r w w' := by
  have HR := Lib.hid h
  have HIN := Lib.hid (rin_any P k h hN)
  cases hin : inB (N : Int) P k with
  | false =>
    have e : clrE (N : Int) f P k = 11 := by unfold clrE; rw [hin]; rfl
    rw [e]
    rw [hin] at HIN
    clear e h hin
    go_enter Tryz.func82, Tryz.ntmps82
    go_wp2_with (go_at_call 109; refine HIN.out.mono ?_; rintro e w' ⟨rfl, rfl⟩)
    go_ret
    exact ⟨rfl, HR.out, F2.refl _ _ _⟩
  | true =>
    have e : clrE (N : Int) f P k = if allB f P.toNat k.toNat = true then 0 else 16 := by unfold clrE; rw [hin]; rfl
    rw [e]
    rw [hin] at HIN
    obtain ⟨k1, p0, k2⟩ := inB_iff.1 hin
    obtain ⟨A, rfl⟩ : ∃ A : Nat, P = (A : Int) := ⟨P.toNat, by omega⟩
    obtain ⟨K, rfl⟩ : ∃ K : Nat, k = (K : Int) := ⟨k.toNat, by omega⟩
    unfold clrF
    simp only [Int.toNat_natCast]
    have hAN : A + K ≤ N := by omega
    have hK1 : 1 ≤ K := by omega
    have c0 := h.c0
    have c1 := h.c1
    have fz := h.blk.frozen 1
    obtain ⟨E, hE⟩ : ∃ E : Int, (if allB f A K = true then 0 else 16) = E := ⟨_, rfl⟩
    rw [hE]
    have HE := Lib.hid hE
    clear e h hin k2 p0 k1 hE
    go_enter Tryz.func82, Tryz.ntmps82
    go_wp2_with (go_at_call 109; refine HIN.out.mono ?_; rintro e w' ⟨rfl, rfl⟩)
    go_loop [7] (fun a => ∃ j : Nat, j ≤ K ∧ a = .int .i64 ((A + j : Nat) : Int) ∧ allB f A j = true) (fun a => A + K - (intOf a).toNat)
    case atStart => exact ⟨0, by omega, rfl, rfl⟩
    case round =>
      obtain ⟨j, hj, rfl, hall⟩ := hrel
      have HA := Lib.hid hall
      clear hall
      obtain ⟨m, hm⟩ : ∃ m, A + j = m := ⟨_, rfl⟩
      have HMM := Lib.hid hm
      rw [hm]
      by_cases hlt : j < K
      · have d : decide ((m : Int) < (A : Int) + (K : Int)) = true := by simp; omega
        have mN : m < N := by omega
        have cw := HR.out.cw mN
        have hs : allB f A (j + 1) = (allB f A j && (f (A + j) != 0)) := rfl
        rw [HA.out, hm] at hs
        have HS := Lib.hid hs
        obtain ⟨x, hx⟩ : ∃ x, f m = x := ⟨_, rfl⟩
        rw [hx] at cw HS
        have HX := Lib.hid hx
        clear hm hs hx
        by_cases h0 : x = 0
        · have e : allB f A K = false := allB_no hlt (by rw [HMM.out, HX.out, h0])
          subst h0
          obtain rfl : E = 16 := by rw [← HE.out, e]; rfl
          clear e
          go_wp2
          go_ret
          exact ⟨rfl, HR.out, F2.refl _ _ _⟩
        · have d2 : (x == 0) = false := by simpa using h0
          have d3 : (x != 0) = true := by simpa using h0
          rw [d3] at HS
          clear d3 h0
          go_wp2
          go_round
          case rel => exact ⟨j + 1, by omega, by rw [← HMM.out]; go_num, by rw [HS.out]; rfl⟩
          case measure => have := HMM.out; simp [intOf]; omega
      · obtain rfl : j = K := by omega
        have d : decide ((m : Int) < (A : Int) + (j : Int)) = false := by simp; omega
        obtain rfl : E = 0 := by rw [← HE.out, HA.out]; rfl
        have hwr := u64_in (t + 1) (by omega) (by omega)
        have HR1 := Lib.hid (HR.out.stamp (nx t))
        have HF1 := Lib.hid (F2.ofp (r := r) (grown_set w p 1 (.int .u64 (nx t))))
        have hnx : (t + 1) % 1099511627776 = nx t := rfl
        clear hm
        go_wp2_with fail
        generalize w.setCell ⟨p, 1, none⟩ (.int .u64 (nx t)) = W1 at HR1 HF1 ⊢
        clear c0 c1 fz hnx hwr d
        go_loopw [8] (fun a wr => ∃ i : Nat, i ≤ j ∧ a = .int .i64 ((A + i : Nat) : Int) ∧ Rf wr p r N (nx t) (fill f A i 0) ∧ F2 p r w wr) (fun a _ => A + j - (intOf a).toNat)
        case atStart => exact ⟨0, by omega, rfl, by rw [fill_zero]; exact HR1.out, HF1.out⟩
        case round =>
          obtain ⟨i, hi, rfl, hr, hf⟩ := hrel
          have HRI := Lib.hid hr
          have HFI := Lib.hid hf
          clear hr hf HR1 HF1
          obtain ⟨m', hm'⟩ : ∃ m', A + i = m' := ⟨_, rfl⟩
          have HMI := Lib.hid hm'
          rw [hm']
          by_cases hlt2 : i < j
          · have d : decide ((m' : Int) < (A : Int) + (j : Int)) = true := by simp; omega
            have mN : m' < N := by omega
            have c0 := HRI.out.c0
            have cw := HRI.out.cw mN
            have fz := HRI.out.row.frozen m'
            clear hm'
            generalize fill f A i 0 m' = x at cw
            go_wp2
            go_roundw
            case rel =>
              refine ⟨i + 1, by omega, by rw [← HMI.out]; go_num, ?_, HFI.out.trans (F2.ofr (grown_set _ _ _ _))⟩
              have := HRI.out.put m' 0
              rwa [← HMI.out, ← fill_succ, HMI.out] at this
            case measure => have := HMI.out; simp [intOf]; omega
          · obtain rfl : i = j := by omega
            have d : decide ((m' : Int) < (A : Int) + (i : Int)) = false := by simp; omega
            clear hm'
            go_wp2
            go_ret
            exact ⟨rfl, HRI.out, HFI.out⟩
theorem rget_any (P : Int) (h : Rf w p r N t f) (hs : St (N : Int) t f) :
    Calls Tryz.prog 53 #[.pointer (some ⟨p, 0, none⟩), .int .i64 P] w fun e w' => e = .returned (.tuple #[entV (wAt (N : Int) f P), .bool (wAt (N : Int) f P != 0)]) ∧ Below w.heap.size w w' := by
  have B0 := Lib.hid (up_alloc (Below.refl _ w) (.cells #[.int .i64 0, .int .i64 0, .int .i64 0, .int .i64 0] 55))
  have HR := Lib.hid h
  have hlt := h.blk.lt
  have hlt2 := h.row.lt
  by_cases hX : wAt (N : Int) f P = 0
  · rw [hX]
    have hc : decide (P < 0) = true ∨ (decide (P < 0) = false ∧ decide ((N : Int) ≤ P) = true) ∨ (decide (P < 0) = false ∧ decide ((N : Int) ≤ P) = false ∧ 0 ≤ P ∧ P < (N : Int)) := by
      by_cases h0 : P < 0
      · left; simpa using h0
      · by_cases h1 : (N : Int) ≤ P
        · right; left; exact ⟨by simpa using h0, by simpa using h1⟩
        · right; right; exact ⟨by simpa using h0, by simpa using h1, by omega, by omega⟩
    have c0 := h.c0
    have B9 := Lib.hid (up_alloc (Below.refl _ w) (.cells #[.int .i64 0, .int .i64 0, .int .i64 0, .int .i64 0] 55))
    rcases hc with d0 | ⟨d0, d1⟩ | ⟨d0, d1, p0, p1⟩
    · clear h hX
      go_enter Tryz.func53, Tryz.ntmps53
      go_wp2
      exact bodyPost_ret (v := .tuple #[.agg #[.int .i64 0, .int .i64 0, .int .i64 0, .int .i64 0], .bool false]) (by simp [results, Tryz.results17, go_sem]) rfl ⟨rfl, B9.out⟩
    · clear h hX
      go_enter Tryz.func53, Tryz.ntmps53
      go_wp2
      exact bodyPost_ret (v := .tuple #[.agg #[.int .i64 0, .int .i64 0, .int .i64 0, .int .i64 0], .bool false]) (by simp [results, Tryz.results17, go_sem]) rfl ⟨rfl, B9.out⟩
    · obtain ⟨A, rfl⟩ : ∃ A : Nat, P = (A : Int) := ⟨P.toNat, by omega⟩
      rw [wAt_in (by omega)] at hX
      have cw := h.cw (j := A) (by omega)
      rw [hX] at cw
      clear h hX
      go_enter Tryz.func53, Tryz.ntmps53
      go_wp2
      exact bodyPost_ret (v := .tuple #[.agg #[.int .i64 0, .int .i64 0, .int .i64 0, .int .i64 0], .bool false]) (by simp [results, Tryz.results17, go_sem]) rfl ⟨rfl, B9.out⟩
  · have hin : inB (N : Int) P 1 = true := by
      cases hb : inB (N : Int) P 1
      · exact absurd (wAt_out hb) hX
      · rfl
    obtain ⟨_, p0, p1⟩ := inB_iff.1 hin
    obtain ⟨A, rfl⟩ : ∃ A : Nat, P = (A : Int) := ⟨P.toNat, by omega⟩
    have hAN : A < N := by omega
    have hu := hs.at (A : Int)
    rw [wAt_in (by omega)] at hX hu ⊢
    have c0 := h.c0
    have cw := h.cw hAN
    obtain ⟨X, hx⟩ : ∃ X, f A = X := ⟨_, rfl⟩
    rw [hx] at hX cw hu ⊢
    have d1 : decide ((N : Int) ≤ (A : Int)) = false := by simp; omega
    have d2 : (X == 0) = false := by simpa using hX
    have d3 : (X != 0) = true := by simpa using hX
    rw [d3]
    obtain ⟨u0, u1⟩ := hu
    obtain ⟨Y, hY⟩ : ∃ Y, X % 16777216 = Y := ⟨_, rfl⟩
    have y0 : 0 ≤ Y := by omega
    have y1 : Y < 16777216 := by omega
    have HE : Hid (entV X = .agg #[.int .i64 (Y / 4096), .int .i64 (Y / 1024 % 4), .int .i64 (Y / 16 % 64), .int .i64 (Y / 2 % 8)]) := by
      have s1 : spanOf X = Y / 4096 := by unfold spanOf; omega
      have s2 : verOf X = Y / 1024 % 4 := by unfold verOf; omega
      have s3 : clsOf X = Y / 16 % 64 := by unfold clsOf; omega
      have s4 : staOf X = Y / 2 % 8 := by unfold staOf; omega
      show entV X = _
      unfold entV
      rw [s1, s2, s3, s4]
    have HB9 := Lib.hid (up_alloc (Below.refl _ w) (.cells #[.int .i64 (Y / 4096), .int .i64 (Y / 1024 % 4), .int .i64 (Y / 16 % 64), .int .i64 (Y / 2 % 8)] 55))
    rw [HE.out]
    clear hin p0 p1 hX d3 h hs hx HE u1
    go_enter Tryz.func53, Tryz.ntmps53
    go_wp2
    exact bodyPost_ret (v := .tuple #[.agg #[.int .i64 (Y / 4096), .int .i64 (Y / 1024 % 4), .int .i64 (Y / 16 % 64), .int .i64 (Y / 2 % 8)], .bool true]) (by simp [results, Tryz.results17, go_sem]) rfl ⟨rfl, HB9.out⟩
end
end Go.Proofs.YtjnknnakllbaaaaGreat.Ra
