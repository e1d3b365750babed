/-
  The law on stamps, walked: a contract that the claimed proof uses.
-/
import Derived.Test.YtadmhocpnbgegaaIns
namespace Go.Proofs.Ytadmhocpnbgegaa
open Go.RowKit

theorem opE_in {n : Int} {f : Ws} {z : Bool} {p k a b c d : Int} (h : opE n f z p k a b c d = 0) : inB n p k = true ∧ (z = false → okB a b c d = true) := by
  unfold opE at h
  cases z
  · rw [if_neg (by simp)] at h
    unfold setE at h
    split at h
    · rename_i hh; exact ⟨hh.1, fun _ => hh.2⟩
    · omega
  · rw [if_pos rfl] at h
    unfold clrE at h
    split at h
    · rename_i hh; exact ⟨hh, fun e => by cases e⟩
    · omega
/-- What a call that has an effect leaves of the words. -/
structure Turned (P K : Nat) (z : Bool) (t' : Int) (f f' : Ws) : Prop where
  out : ∀ j, ¬ (P ≤ j ∧ j < P + K) → f' j = f j
  set : z = false → ∀ j, P ≤ j → j < P + K → f' j / 16777216 = t'
  clr : z = true → ∀ j, P ≤ j → j < P + K → f' j = 0
theorem turned_of {n t : Int} {f : Ws} {z : Bool} {P K : Nat} {a b c d : Int} (h : opE n f z (P : Int) (K : Int) a b c d = 0) (t0 : 0 ≤ t) (t1 : t < 1000) : Turned P K z (t + 1) f (opF t f z (P : Int) (K : Int) a b c d) := by
  have hnx : nx t = t + 1 := by unfold nx; omega
  obtain ⟨_, hok⟩ := opE_in h
  cases z
  · have e : opF t f false (P : Int) (K : Int) a b c d = fill f P K (wd a b c d (t + 1)) := by
      show fill f (P : Int).toNat (K : Int).toNat (wd a b c d (nx t)) = _
      rw [Int.toNat_natCast, Int.toNat_natCast, hnx]
    rw [e]
    refine ⟨fun j hj => ?_, fun _ j h1 h2 => ?_, fun h => (by cases h)⟩
    · unfold fill; rw [if_neg hj]
    · unfold fill; rw [if_pos ⟨h1, h2⟩]; exact (wd_bd (hok rfl) (by omega) (by omega)).2.2
  · have e : opF t f true (P : Int) (K : Int) a b c d = fill f P K 0 := by
      show fill f (P : Int).toNat (K : Int).toNat 0 = _
      rw [Int.toNat_natCast, Int.toNat_natCast]
    rw [e]
    refine ⟨fun j hj => ?_, fun h => (by cases h), fun _ j h1 h2 => ?_⟩
    · unfold fill; rw [if_neg hj]
    · unfold fill; rw [if_pos ⟨h1, h2⟩]
theorem stamps_great (n : Int) (A : Option Addr) (m c : Nat) (w : World) (h : 300 < n ∨ (n ≤ 300 ∧ 60 < m)) :
    Calls Try.prog 4 #[.int .i64 n, .slice A m c] w fun e w' => e = .returned (.bool true) ∧ Below w.heap.size w w' := by
  have hd : decide (300 < n) = true ∨ (decide (300 < n) = false ∧ decide ((60 : Int) < (m : Int)) = true) := by
    rcases h with h | ⟨h, h'⟩
    · left; simpa using h
    · right; exact ⟨by simpa using h, by simp; omega⟩
  clear h
  rcases hd with d | ⟨d, d'⟩
  all_goals (
    go_enter Try.func4, Try.ntmps4
    go_wp2_with fail
    refine (alive_any w).mono ?_
    rintro e w1 ⟨rfl, b1⟩
    have B1 := Lib.hid b1
    clear b1
    go_wp2
    go_ret
    exact ⟨rfl, B1.out⟩)
theorem stamps_no (n : Int) (A : Option Addr) (m c : Nat) (w : World) (h : n < 0) (hm : ¬ 60 < m) :
    Calls Try.prog 4 #[.int .i64 n, .slice A m c] w fun e w' => e = .returned (.bool true) ∧ Below w.heap.size w w' := by
  have d : decide (300 < n) = false := by simp; omega
  have d' : decide ((60 : Int) < (m : Int)) = false := by simp; omega
  go_enter Try.func4, Try.ntmps4
  go_wp2_with fail
  refine (alive_any w).mono ?_
  rintro e w1 ⟨rfl, b1⟩
  have B1 := Lib.hid b1
  clear b1
  go_wp2_with fail
  refine (new_no n w1 (by omega)).mono ?_
  rintro e w2 ⟨rfl, rfl⟩
  go_wp2
  go_ret
  exact ⟨rfl, B1.out⟩
set_option maxRecDepth 100000 in
set_option maxHeartbeats 2000000 in
theorem stamps_main (N : Nat) (A : Option Addr) (l : List Cl) (cap : Nat) (w : World) (hcs : CA w.heap.size w A l) (hl : ¬ 60 < l.length) (hN : N ≤ 300) :
    Calls Try.prog 4 #[.int .i64 (N : Int), .slice A l.length cap] w fun e w' => e = .returned (.bool true) ∧ Below w.heap.size w w' := by
  have HCS := Lib.hid hcs
  obtain ⟨m, hm⟩ : ∃ m, l.length = m := ⟨_, rfl⟩
  have HMM := Lib.hid hm
  rw [hm] at hl ⊢
  clear hcs hm
  have dn : decide ((300 : Int) < (N : Int)) = false := by simp; omega
  have dm : decide ((60 : Int) < (m : Int)) = false := by simp; omega
  go_enter Try.func4, Try.ntmps4
  go_wp2_with fail
  refine (alive_any w).mono ?_
  rintro e w1 ⟨rfl, b1⟩
  have B1 := Lib.hid b1
  clear b1
  go_wp2_with fail
  refine (new_own (N : Int) w1 (by omega) (by omega)).mono ?_
  rintro e w2 ⟨q, rfl, m2, o2, b2⟩
  have E2 : Hid (Ev w [] w2 q (N : Int) 0 g0 f0) := ⟨m2, o2.le B1.out.size, up_trans B1.out b2, fun _ hx => (by cases hx)⟩
  clear m2 o2 b2 B1
  go_wp2_with fail
  go_loopw [7] (fun i wr => ∃ (k : Nat) (t : Int) (g : Gs) (f : Ws), k ≤ m ∧ t ≤ (k : Int) ∧ i = .int .i64 (k : Int) ∧ Ev w [] wr q (N : Int) t g f) (fun i _ => m - (intOf i).toNat)
  case atStart => exact ⟨0, 0, g0, f0, by omega, by omega, rfl, E2.out⟩
  case round =>
    obtain ⟨i, t, g, f, hi, ht, rfl, he⟩ := hrel
    have E := Lib.hid he
    clear he E2
    by_cases hlt : i < m
    · obtain ⟨cb, co, rfl, hcb, hcell⟩ := HCS.out (by rw [HMM.out]; omega)
      obtain ⟨x7, hx6⟩ := hcell i (by rw [HMM.out]; exact hlt)
      have HX6 := Lib.hid hx6
      obtain ⟨c0, c1, c2, c3, c4, c5, c6⟩ := x7.below E.out.bel hcb
      have t0 := E.out.mp.st.t0
      generalize cl l i = X at HX6 c0 c1 c2 c3 c4 c5 c6
      have E3 := Lib.hid (E.out.make (clL X) 34 (by decide) (by decide))
      have y1 : (0 : Int) ≤ (i : Int) := by omega
      have y2 : (i : Int) < (m : Int) := by omega
      clear hcell x7 hx6 E
      obtain ⟨z, p, k, a, b, c, d⟩ := X
      unfold clL at E3
      simp only at HX6 c0 c1 c2 c3 c4 c5 c6 E3
      go_wp2_with fail
      generalize wr.heap.size = bx at E3 ⊢
      generalize wr.alloc (.cells #[.bool z, .int .i64 p, .int .i64 k, .int .i64 a, .int .i64 b, .int .i64 c, .int .i64 d] 34) = W1 at E3 ⊢
      clear c0 c1 c2 c3 c4 c5 c6
      refine (clone_own E3.out.mp).mono ?_
      rintro e w3 ⟨qc, gc, rfl, mc3, oc3, b3⟩
      have MC := Lib.hid mc3
      have OC := Lib.hid oc3
      have E4 := Lib.hid (E3.out.up b3)
      obtain ⟨c0, c1, c2, c3, c4, c5, c6⟩ := blk_c7 (x := ⟨z, p, k, a, b, c, d⟩) E4.out.head
      simp only [Nat.zero_add] at c0 c1 c2 c3 c4 c5 c6
      clear mc3 oc3 b3
      go_wp2_with fail
      refine (do_any z p k a b c d E4.out.mp HX6.out).mono ?_
      rintro e w4 ⟨g4, rfl, m4, n4, f4⟩
      have MC4 := Lib.hid (clone_stays E3.out.mp.lay MC.out OC.out f4)
      have E5 := Lib.hid (E4.out.step m4 n4 f4)
      clear m4 n4 f4 MC OC E3 E4 c0 c1 c2 c3 c4 c5 c6
      obtain ⟨c0, c1, c2, _, _, _, _⟩ := blk_c7 (x := ⟨z, p, k, a, b, c, d⟩) E5.out.head
      simp only [Nat.zero_add] at c0 c1 c2
      by_cases hE : opE (N : Int) f z p k a b c d = 0
      · obtain ⟨hin, _⟩ := opE_in hE
        obtain ⟨k1, p0, k2⟩ := inB_iff.1 hin
        obtain ⟨P, rfl⟩ : ∃ P : Nat, p = (P : Int) := ⟨p.toNat, by omega⟩
        obtain ⟨K, rfl⟩ : ∃ K : Nat, k = (K : Int) := ⟨k.toNat, by omega⟩
        have hPN : P + K ≤ N := by omega
        have HT := Lib.hid (turned_of hE t0 (by omega))
        rw [hE] at E5 ⊢
        have e1 : nt 0 t = t + 1 := by show nx t = t + 1; unfold nx; omega
        have e2 : nf 0 (opF t f z (P : Int) (K : Int) a b c d) f = opF t f z (P : Int) (K : Int) a b c d := rfl
        rw [e1, e2] at E5
        generalize opF t f z (P : Int) (K : Int) a b c d = f' at HT E5
        have HSM := Lib.hid (stamp_any E5.out.mp.lay)
        have HSO := Lib.hid (stamp_any MC4.out.lay)
        have HWM : Hid (∀ j : Nat, j < N → Calls Try.prog 18 #[.pointer (some ⟨q, 0, none⟩), .int .i64 (j : Int)] w4 fun e w' => e = .returned (.int .u64 (f' j)) ∧ w4 = w') := fun j hj => by
          have := word_any (j : Int) E5.out.mp.lay E5.out.mp.st ⟨by omega, by omega⟩
          rwa [wAt_in (by omega)] at this
        have HWO : Hid (∀ j : Nat, j < N → Calls Try.prog 18 #[.pointer (some ⟨qc, 0, none⟩), .int .i64 (j : Int)] w4 fun e w' => e = .returned (.int .u64 (f j)) ∧ w4 = w') := fun j hj => by
          have := word_any (j : Int) MC4.out.lay MC4.out.st ⟨by omega, by omega⟩
          rwa [wAt_in (by omega)] at this
        have dt : (t + 1 != t + 1) = false := by simp
        have hwr : IntKind.u64.wrap (t + 1) = t + 1 := by rw [IntKind.wrap_u64]; omega
        clear hE hin k1 p0 k2 e1 e2
        go_wp2_with fail
        refine HSM.out.mono ?_
        rintro e w5 ⟨rfl, rfl⟩
        go_wp2_with fail
        refine HSO.out.mono ?_
        rintro e w5 ⟨rfl, rfl⟩
        go_wp2_with fail
        go_loop [11, 12] (fun k' o => ∃ j : Nat, j ≤ N ∧ k' = .int .i64 (j : Int)) (fun k' _ => N - (intOf k').toNat)
        case atStart => exact ⟨0, by omega, rfl⟩
        case round =>
          obtain ⟨j, hj, rfl⟩ := hrel
          by_cases hjN : j < N
          · have HM := Lib.hid (HWM.out j hjN)
            have HO := Lib.hid (HWO.out j hjN)
            have dj : decide ((j : Int) < (N : Int)) = true := by simp; omega
            by_cases h1 : P ≤ j
            · have d1 : decide ((P : Int) ≤ (j : Int)) = true := by simp; omega
              by_cases h2 : j < P + K
              · have d2 : decide ((j : Int) - (P : Int) < (K : Int)) = true := by simp; omega
                cases z with
                | false =>
                  have hs := HT.out.set rfl j h1 h2
                  generalize f' j = Y at HM hs
                  go_wp2_with fail
                  refine HM.out.mono ?_
                  rintro e w5 ⟨rfl, rfl⟩
                  go_wp2_with fail
                  refine HSM.out.mono ?_
                  rintro e w5 ⟨rfl, rfl⟩
                  go_wp2
                  go_round
                  case rel => exact ⟨j + 1, by omega, by go_num⟩
                  case measure => simp [intOf]; omega
                | true =>
                  have hs := HT.out.clr rfl j h1 h2
                  rw [hs] at HM
                  clear hs
                  go_wp2_with fail
                  refine HM.out.mono ?_
                  rintro e w5 ⟨rfl, rfl⟩
                  go_wp2
                  go_round
                  case rel => exact ⟨j + 1, by omega, by go_num⟩
                  case measure => simp [intOf]; omega
              · have d2 : decide ((j : Int) - (P : Int) < (K : Int)) = false := by simp; omega
                have hx := HT.out.out j (by omega)
                rw [hx] at HM
                generalize f j = Y at HM HO
                have dy : (Y != Y) = false := by simp
                clear hx
                go_wp2_with fail
                refine HM.out.mono ?_
                rintro e w5 ⟨rfl, rfl⟩
                go_wp2_with fail
                refine HO.out.mono ?_
                rintro e w5 ⟨rfl, rfl⟩
                go_wp2
                go_round
                case rel => exact ⟨j + 1, by omega, by go_num⟩
                case measure => simp [intOf]; omega
            · have d1 : decide ((P : Int) ≤ (j : Int)) = false := by simp; omega
              have hx := HT.out.out j (by omega)
              rw [hx] at HM
              generalize f j = Y at HM HO
              have dy : (Y != Y) = false := by simp
              clear hx
              go_wp2_with fail
              refine HM.out.mono ?_
              rintro e w5 ⟨rfl, rfl⟩
              go_wp2_with fail
              refine HO.out.mono ?_
              rintro e w5 ⟨rfl, rfl⟩
              go_wp2
              go_round
              case rel => exact ⟨j + 1, by omega, by go_num⟩
              case measure => simp [intOf]; omega
          · obtain rfl : j = N := by omega
            go_wp2
            go_roundw
            case rel => exact ⟨i + 1, t + 1, g4, f', by omega, by omega, by go_num, E5.out.tail⟩
            case measure => simp [intOf]; omega
      · have e1 : nt (opE (N : Int) f z p k a b c d) t = t := by unfold nt; rw [if_neg hE]
        have e2 : nf (opE (N : Int) f z p k a b c d) (opF t f z p k a b c d) f = f := by unfold nf; rw [if_neg hE]
        rw [e1, e2] at E5
        have de : (opE (N : Int) f z p k a b c d != 0) = true := by simpa using hE
        have de' : (opE (N : Int) f z p k a b c d == 0) = false := by simpa using hE
        generalize opE (N : Int) f z p k a b c d = er at de de' ⊢
        have HSM := Lib.hid (stamp_any E5.out.mp.lay)
        have HSO := Lib.hid (stamp_any MC4.out.lay)
        have HWM : Hid (∀ j : Nat, j < N → Calls Try.prog 18 #[.pointer (some ⟨q, 0, none⟩), .int .i64 (j : Int)] w4 fun e w' => e = .returned (.int .u64 (f j)) ∧ w4 = w') := fun j hj => by
          have := word_any (j : Int) E5.out.mp.lay E5.out.mp.st ⟨by omega, by omega⟩
          rwa [wAt_in (by omega)] at this
        have HWO : Hid (∀ j : Nat, j < N → Calls Try.prog 18 #[.pointer (some ⟨qc, 0, none⟩), .int .i64 (j : Int)] w4 fun e w' => e = .returned (.int .u64 (f j)) ∧ w4 = w') := fun j hj => by
          have := word_any (j : Int) MC4.out.lay MC4.out.st ⟨by omega, by omega⟩
          rwa [wAt_in (by omega)] at this
        have dt : (t != t) = false := by simp
        clear hE e1 e2
        go_wp2_with fail
        refine HSM.out.mono ?_
        rintro e w5 ⟨rfl, rfl⟩
        go_wp2_with fail
        refine HSO.out.mono ?_
        rintro e w5 ⟨rfl, rfl⟩
        go_wp2_with fail
        go_loop [11, 12] (fun k' o => ∃ j : Nat, j ≤ N ∧ k' = .int .i64 (j : Int)) (fun k' _ => N - (intOf k').toNat)
        case atStart => exact ⟨0, by omega, rfl⟩
        case round =>
          obtain ⟨j, hj, rfl⟩ := hrel
          by_cases hjN : j < N
          · have HM := Lib.hid (HWM.out j hjN)
            have HO := Lib.hid (HWO.out j hjN)
            have dj : decide ((j : Int) < (N : Int)) = true := by simp; omega
            generalize f j = Y at HM HO
            have dy : (Y != Y) = false := by simp
            go_wp2_with fail
            refine HM.out.mono ?_
            rintro e w5 ⟨rfl, rfl⟩
            go_wp2_with fail
            refine HO.out.mono ?_
            rintro e w5 ⟨rfl, rfl⟩
            go_wp2
            go_round
            case rel => exact ⟨j + 1, by omega, by go_num⟩
            case measure => simp [intOf]; omega
          · obtain rfl : j = N := by omega
            go_wp2
            go_roundw
            case rel => exact ⟨i + 1, t, g4, f, by omega, by omega, by go_num, E5.out.tail⟩
            case measure => simp [intOf]; omega
    · obtain rfl : i = m := by omega
      go_wp2
      go_ret
      exact ⟨rfl, E.out.bel⟩
theorem stamps_any (n : Int) (A : Option Addr) (l : List Cl) (cap : Nat) (w : World) (hcs : CA w.heap.size w A l) :
    Calls Try.prog 4 #[.int .i64 n, .slice A l.length cap] w fun e w' => e = .returned (.bool true) ∧ Below w.heap.size w w' := by
  by_cases h : 300 < n
  · exact stamps_great n A _ cap w (.inl h)
  · by_cases h2 : 60 < l.length
    · exact stamps_great n A _ cap w (.inr ⟨by omega, h2⟩)
    · by_cases h3 : n < 0
      · exact stamps_no n A _ cap w h3 h2
      · obtain ⟨N, rfl⟩ : ∃ N : Nat, n = (N : Int) := ⟨n.toNat, by omega⟩
        exact stamps_main N A l cap w hcs h2 (by omega)
end Go.Proofs.Ytadmhocpnbgegaa
