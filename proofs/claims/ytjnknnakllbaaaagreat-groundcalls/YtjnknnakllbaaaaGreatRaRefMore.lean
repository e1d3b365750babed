/-
  How many leaves the document's map keeps, and its Set: contracts that the claimed proofs use.
-/
import Derived.Test.YtjnknnakllbaaaaGreatRaRefOps
namespace Go.Proofs.YtjnknnakllbaaaaGreat.Ra
set_option maxRecDepth 100000
open Go.RowKit

def anyB (f : Ws) (s : Nat) : Nat → Bool
  | 0 => false
  | j + 1 => anyB f s j || (f (64 * s + j) != 0)
theorem anyB_iff {f : Ws} {s : Nat} : ∀ {j : Nat}, anyB f s j = true ↔ ∃ x, x < j ∧ f (64 * s + x) ≠ 0
  | 0 => by simp [anyB]
  | j + 1 => by
    rw [anyB, Bool.or_eq_true, anyB_iff, bne_iff_ne]
    constructor
    · rintro (⟨x, hx, h⟩ | h)
      · exact ⟨x, by omega, h⟩
      · exact ⟨j, by omega, h⟩
    · rintro ⟨x, hx, h⟩
      by_cases e : x = j
      · subst e; exact .inr h
      · exact .inl ⟨x, by omega, h⟩
theorem anyB_all {f : Ws} {s j : Nat} (h : j = 64 ∨ (j ≤ 64 ∧ ∀ x, j ≤ x → x < 64 → f (64 * s + x) = 0)) : anyB f s j = lfB f s := by
  rw [Bool.eq_iff_iff, anyB_iff, lfB_iff]
  rcases h with rfl | ⟨h1, h2⟩
  · exact Iff.rfl
  · constructor
    · rintro ⟨x, hx, h⟩; exact ⟨x, by omega, h⟩
    · rintro ⟨x, hx, h⟩
      by_cases e : x < j
      · exact ⟨x, e, h⟩
      · exact absurd (h2 x (by omega) hx) h
section
variable {w : World} {p r N : Nat} {t : Int} {f : Ws}
theorem Blk.f2 {w' : World} {b : Nat} {vs : List Value} {ty : TypeId} (h : Blk w b vs ty) (hm : Rf w p r N t f) (hf : F2 p r w w') (h1 : ty ≠ 43) (h2 : ty ≠ 39) : Blk w' b vs ty :=
  h.of (hf.block b h.lt (h.ne hm.blk h1) (h.ne hm.row h2))
set_option maxHeartbeats 2000000 in
theorem rset_any (P k a b c d : Int) (h : Rf w p r N t f) (hN : N ≤ 4096) (t0 : 0 ≤ t) (t1 : t < 1099511627776) :
    Calls Tryz.prog 79 #[.pointer (some ⟨p, 0, none⟩), .int .i64 P, .int .i64 k, .agg #[.int .i64 a, .int .i64 b, .int .i64 c, .int .i64 d]] w fun e w' =>
      e = .returned (.int .i64 (setE (N : Int) P k a b c d)) ∧ Rf w' p r N (nt (setE (N : Int) P k a b c d) t) (nf (setE (N : Int) P k a b c d) (setF t f P k a b c d) f) ∧ F2 p r w w' := by
  have B0 := Lib.hid (up_alloc (Below.refl _ w) (.cells #[.int .i64 a, .int .i64 b, .int .i64 c, .int .i64 d] 55))
  have K0 : Hid (Blk (w.alloc (.cells #[.int .i64 a, .int .i64 b, .int .i64 c, .int .i64 d] 55)) w.heap.size [.int .i64 a, .int .i64 b, .int .i64 c, .int .i64 d] 55) := heap_alloc_last w _
  have HR := Lib.hid (h.below B0.out)
  clear h
  cases hin : inB (N : Int) P k with
  | false =>
    have e : setE (N : Int) P k a b c d = 11 := by unfold setE; rw [hin]; simp
    rw [e]
    clear e
    go_enter Tryz.func79, Tryz.ntmps79
    go_wp2_with fail
    generalize w.alloc (.cells #[.int .i64 a, .int .i64 b, .int .i64 c, .int .i64 d] 55) = W0 at B0 K0 HR ⊢
    refine (rin_any P k HR.out hN).mono ?_
    rw [hin]
    rintro e w1 ⟨rfl, rfl⟩
    go_wp2
    go_ret
    exact ⟨rfl, HR.out, F2.of B0.out⟩
  | true =>
    cases hok : okB a b c d with
    | false =>
      have e : setE (N : Int) P k a b c d = 11 := by unfold setE; rw [hok]; simp
      rw [e]
      clear e
      go_enter Tryz.func79, Tryz.ntmps79
      go_wp2_with fail
      generalize w.alloc (.cells #[.int .i64 a, .int .i64 b, .int .i64 c, .int .i64 d] 55) = W0 at B0 K0 HR ⊢
      refine (rin_any P k HR.out hN).mono ?_
      rw [hin]
      rintro e w1 ⟨rfl, rfl⟩
      have x0 : W0.cell? ⟨w.heap.size, 0, none⟩ = some (.int .i64 a) := K0.out.cell
      have x1 : W0.cell? ⟨w.heap.size, 1, none⟩ = some (.int .i64 b) := K0.out.cell
      have x2 : W0.cell? ⟨w.heap.size, 2, none⟩ = some (.int .i64 c) := K0.out.cell
      have x3 : W0.cell? ⟨w.heap.size, 3, none⟩ = some (.int .i64 d) := K0.out.cell
      go_wp2_with fail
      refine (right_entry a b c d W0).mono ?_
      rw [hok]
      rintro e w1 ⟨rfl, b1⟩
      have B1 := Lib.hid (up_trans B0.out b1)
      have HR1 := Lib.hid (HR.out.below b1)
      clear b1
      go_wp2
      go_ret
      exact ⟨rfl, HR1.out, F2.of B1.out⟩
    | true =>
      have e : setE (N : Int) P k a b c d = 0 := by unfold setE; rw [hin, hok]; simp
      obtain ⟨a0, a1, b0, b1', c0', c1', d0, d1⟩ := okB_iff.1 hok
      obtain ⟨k1, p0, k2⟩ := inB_iff.1 hin
      obtain ⟨A, rfl⟩ : ∃ A : Nat, P = (A : Int) := ⟨P.toNat, by omega⟩
      obtain ⟨K, rfl⟩ : ∃ K : Nat, k = (K : Int) := ⟨k.toNat, by omega⟩
      have e3 : nt 0 t = nx t := rfl
      have e4 : nf 0 (setF t f (A : Int) (K : Int) a b c d) f = fill f A K (wd a b c d (nx t)) := by
        show fill f (A : Int).toNat (K : Int).toNat (wd a b c d (nx t)) = _
        rw [Int.toNat_natCast, Int.toNat_natCast]
      rw [e, e3, e4]
      have hAN : A + K ≤ N := by omega
      clear e e3 e4 k1 p0 k2
      go_enter Tryz.func79, Tryz.ntmps79
      go_wp2_with fail
      generalize w.alloc (.cells #[.int .i64 a, .int .i64 b, .int .i64 c, .int .i64 d] 55) = W0 at B0 K0 HR ⊢
      refine (rin_any (A : Int) (K : Int) HR.out hN).mono ?_
      rw [hin]
      rintro e w1 ⟨rfl, rfl⟩
      have x0 : W0.cell? ⟨w.heap.size, 0, none⟩ = some (.int .i64 a) := K0.out.cell
      have x1 : W0.cell? ⟨w.heap.size, 1, none⟩ = some (.int .i64 b) := K0.out.cell
      have x2 : W0.cell? ⟨w.heap.size, 2, none⟩ = some (.int .i64 c) := K0.out.cell
      have x3 : W0.cell? ⟨w.heap.size, 3, none⟩ = some (.int .i64 d) := K0.out.cell
      go_wp2_with fail
      refine (right_entry a b c d W0).mono ?_
      rw [hok]
      rintro e w1 ⟨rfl, b1⟩
      have B1 := Lib.hid (up_trans B0.out b1)
      have HR1 := Lib.hid (HR.out.below b1)
      have K1 := Lib.hid (K0.out.below b1 K0.out.lt)
      clear b1 x0 x1 x2 x3 B0 K0 HR
      have c1 := HR1.out.c1
      have fz := HR1.out.blk.frozen 1
      have hwr := u64_in (t + 1) (by omega) (by omega)
      have hnx : (t + 1) % 1099511627776 = nx t := rfl
      have HR2 := Lib.hid (HR1.out.stamp (nx t))
      have HF2 : Hid (F2 p r w (w1.setCell ⟨p, 1, none⟩ (.int .u64 (nx t)))) := (F2.of B1.out).trans (F2.ofp (r := r) (grown_set w1 p 1 (.int .u64 (nx t))))
      have K2 : Hid (Blk (w1.setCell ⟨p, 1, none⟩ (.int .u64 (nx t))) w.heap.size [.int .i64 a, .int .i64 b, .int .i64 c, .int .i64 d] 55) := K1.out.far _ (K1.out.ne HR1.out.blk (by decide)).symm
      obtain ⟨n0, n1⟩ := nx_bd t
      go_wp2_with fail
      generalize w1.setCell ⟨p, 1, none⟩ (.int .u64 (nx t)) = W2 at HR2 HF2 K2 ⊢
      generalize hT : nx t = T at HR2 n0 n1 ⊢
      have HT := Lib.hid hT
      clear c1 fz hwr hnx hT HR1 K1 B1 hok hin
      have hX : 1 + 2 * d + 16 * c + 1024 * b + 4096 * a + T * 16777216 = wd a b c d T := by unfold wd; omega
      have HXX := Lib.hid hX
      clear hX
      go_loopw [9] (fun a' wr => ∃ i : Nat, i ≤ K ∧ a' = .int .i64 ((A + i : Nat) : Int) ∧ Rf wr p r N T (fill f A i (wd a b c d T)) ∧ F2 p r w wr ∧ Blk wr w.heap.size [.int .i64 a, .int .i64 b, .int .i64 c, .int .i64 d] 55) (fun a' _ => A + K - (intOf a').toNat)
      case atStart => exact ⟨0, by omega, rfl, by rw [fill_zero]; exact HR2.out, HF2.out, K2.out⟩
      case round =>
        obtain ⟨i, hi, rfl, hr, hf, hk⟩ := hrel
        have HRI := Lib.hid hr
        have HFI := Lib.hid hf
        have HKI := Lib.hid hk
        clear hr hf hk HR2 HF2 K2
        obtain ⟨m, hm⟩ : ∃ m, A + i = m := ⟨_, rfl⟩
        have HMI := Lib.hid hm
        rw [hm]
        by_cases hlt : i < K
        · have dd : decide ((m : Int) < (A : Int) + (K : Int)) = true := by simp; omega
          have mN : m < N := by omega
          have c0 := HRI.out.c0
          have c1 := HRI.out.c1
          have cw := HRI.out.cw mN
          have fz := HRI.out.row.frozen m
          have x0 : wr.cell? ⟨w.heap.size, 0, none⟩ = some (.int .i64 a) := HKI.out.cell
          have x1 : wr.cell? ⟨w.heap.size, 1, none⟩ = some (.int .i64 b) := HKI.out.cell
          have x2 : wr.cell? ⟨w.heap.size, 2, none⟩ = some (.int .i64 c) := HKI.out.cell
          have x3 : wr.cell? ⟨w.heap.size, 3, none⟩ = some (.int .i64 d) := HKI.out.cell
          have q1 := u64_in d (by omega) (by omega)
          have q2 := u64_in (2 * d) (by omega) (by omega)
          have q3 := u64_in (1 + 2 * d) (by omega) (by omega)
          have q4 := u64_in c (by omega) (by omega)
          have q5 := u64_in (16 * c) (by omega) (by omega)
          have q6 := u64_in (1 + 2 * d + 16 * c) (by omega) (by omega)
          have q7 := u64_in b (by omega) (by omega)
          have q8 := u64_in (1024 * b) (by omega) (by omega)
          have q9 := u64_in (1 + 2 * d + 16 * c + 1024 * b) (by omega) (by omega)
          have r1 := u64_in a (by omega) (by omega)
          have r2 := u64_in (4096 * a) (by omega) (by omega)
          have r3 := u64_in (1 + 2 * d + 16 * c + 1024 * b + 4096 * a) (by omega) (by omega)
          have r4 := u64_in (T * 16777216) (by omega) (by omega)
          have r5 := u64_in (1 + 2 * d + 16 * c + 1024 * b + 4096 * a + T * 16777216) (by omega) (by omega)
          clear hm
          generalize fill f A i (wd a b c d T) m = y at cw
          go_wp2_with fail
          go_still_tail 32, (by kernel_rfl)
          change wpList _ _ _ _ _ wr.drew
          go_wp2
          go_roundw
          case rel =>
            rw [HXX.out]
            have hput := HRI.out.put m (wd a b c d T)
            rw [← HMI.out, ← fill_succ, HMI.out] at hput
            have hne : r ≠ w.heap.size := (HKI.out.ne HRI.out.row (by decide)).symm
            exact ⟨i + 1, by omega, by rw [← HMI.out]; go_num, hput.below (Below.refl _ _).drew, (HFI.out.trans (F2.ofr (grown_set _ _ _ _))).trans (F2.of (Below.refl _ _).drew), HKI.out.far _ hne⟩
          case measure => have := HMI.out; simp [intOf]; omega
        · obtain rfl : i = K := by omega
          have dd : decide ((m : Int) < (A : Int) + (i : Int)) = false := by simp; omega
          clear hm
          go_wp2
          go_ret
          rw [HT.out]
          exact ⟨rfl, HRI.out, HFI.out⟩
end
end Go.Proofs.YtjnknnakllbaaaaGreat.Ra
