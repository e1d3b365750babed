/-
  The law on every row of calls, walked: a contract that the claimed proof uses.
-/
import Derived.Test.YtadmhocpnbgegaaBoth
namespace Go.Proofs.Ytadmhocpnbgegaa
open Go.RowKit

theorem cells_e {W : World} {b : Nat} {t : TypeId} {a0 a1 a2 a3 : Int} (h : Blk W b [.int .i64 a0, .int .i64 a1, .int .i64 a2, .int .i64 a3] t) :
    W.cell? ⟨b, 0, none⟩ = some (.int .i64 a0) ∧ W.cell? ⟨b, 1, none⟩ = some (.int .i64 a1) ∧ W.cell? ⟨b, 2, none⟩ = some (.int .i64 a2) ∧ W.cell? ⟨b, 3, none⟩ = some (.int .i64 a3) := ⟨h.cell, h.cell, h.cell, h.cell⟩
theorem cells_ee {W : World} {b b' : Nat} {t t' : TypeId} {a0 a1 a2 a3 : Int} (h : Blk W b [.int .i64 a0, .int .i64 a1, .int .i64 a2, .int .i64 a3] t) (h' : Blk W b' [.int .i64 a0, .int .i64 a1, .int .i64 a2, .int .i64 a3] t') :
    W.cell? ⟨b, 0, none⟩ = some (.int .i64 a0) ∧ W.cell? ⟨b, 1, none⟩ = some (.int .i64 a1) ∧ W.cell? ⟨b, 2, none⟩ = some (.int .i64 a2) ∧ W.cell? ⟨b, 3, none⟩ = some (.int .i64 a3) ∧
      W.cell? ⟨b', 0, none⟩ = some (.int .i64 a0) ∧ W.cell? ⟨b', 1, none⟩ = some (.int .i64 a1) ∧ W.cell? ⟨b', 2, none⟩ = some (.int .i64 a2) ∧ W.cell? ⟨b', 3, none⟩ = some (.int .i64 a3) := ⟨h.cell, h.cell, h.cell, h.cell, h'.cell, h'.cell, h'.cell, h'.cell⟩
set_option maxRecDepth 100000 in
theorem calls_great (n v s : Int) (A : Option Addr) (m c : Nat) (w : World) (h : 300 < n ∨ (n ≤ 300 ∧ 60 < m)) :
    Calls Try.prog 3 #[.int .i64 n, .slice A m c, .int .i64 v, .int .i64 s] w fun e w' => e = .returned (.bool true) ∧ Below w.heap.size w w' := by
  have hd : decide (300 < n) = true ∨ (decide (300 < n) = false ∧ decide ((60 : Int) < (m : Int)) = true) := by
    rcases h with h | ⟨h, h'⟩
    · left; simpa using h
    · right; exact ⟨by simpa using h, by simp; omega⟩
  clear h
  rcases hd with d | ⟨d, d'⟩
  all_goals (
    go_enter Try.func3, Try.ntmps3
    go_wp2_with fail
    refine (alive_any w).mono ?_
    rintro e w1 ⟨rfl, b1⟩
    have B1 := Lib.hid b1
    clear b1
    go_wp2
    go_ret
    exact ⟨rfl, B1.out⟩)
set_option maxRecDepth 100000 in
theorem calls_no (n v s : Int) (A : Option Addr) (m c : Nat) (w : World) (h : n < 0) (hm : ¬ 60 < m) :
    Calls Try.prog 3 #[.int .i64 n, .slice A m c, .int .i64 v, .int .i64 s] w fun e w' => e = .returned (.bool true) ∧ Below w.heap.size w w' := by
  have d : decide (300 < n) = false := by simp; omega
  have d' : decide ((60 : Int) < (m : Int)) = false := by simp; omega
  go_enter Try.func3, Try.ntmps3
  go_wp2_with fail
  refine (alive_any w).mono ?_
  rintro e w1 ⟨rfl, b1⟩
  have B1 := Lib.hid b1
  clear b1
  go_wp2_with fail
  refine (new_no n w1 (by omega)).mono ?_
  rintro e w2 ⟨rfl, rfl⟩
  go_wp2_with fail
  refine (rnew_no n w1 (by omega)).mono ?_
  rintro e w2 ⟨rfl, rfl⟩
  go_wp2
  go_ret
  exact ⟨rfl, B1.out⟩
set_option maxRecDepth 100000 in
set_option maxHeartbeats 4000000 in
theorem calls_main (N : Nat) (v s : Int) (A : Option Addr) (l : List Cl) (cap : Nat) (w : World) (hcs : CA w.heap.size w A l) (hl : ¬ 60 < l.length) (hN : N ≤ 300) :
    Calls Try.prog 3 #[.int .i64 (N : Int), .slice A l.length cap, .int .i64 v, .int .i64 s] w fun e w' => e = .returned (.bool true) ∧ Below w.heap.size w w' := by
  have HCS := Lib.hid hcs
  obtain ⟨m, hm⟩ : ∃ m, l.length = m := ⟨_, rfl⟩
  have HMM := Lib.hid hm
  rw [hm] at hl ⊢
  clear hcs hm
  have dn : decide ((300 : Int) < (N : Int)) = false := by simp; omega
  have dm : decide ((60 : Int) < (m : Int)) = false := by simp; omega
  go_enter Try.func3, Try.ntmps3
  go_wp2_with fail
  refine (alive_any w).mono ?_
  rintro e w1 ⟨rfl, b1⟩
  have B1 := Lib.hid b1
  clear b1
  go_wp2_with fail
  refine (new_own (N : Int) w1 (by omega) (by omega)).mono ?_
  rintro e w2 ⟨q, rfl, m2, o2, b2⟩
  have E2 : Hid (Ev w [] w2 q (N : Int) 0 g0 f0) := ⟨m2, o2.le B1.out.size, up_trans B1.out b2, fun _ hx => (by cases hx)⟩
  clear m2 o2 b2 B1
  go_wp2_with fail
  refine (rnew_yes N w2 (by omega)).mono ?_
  rintro e w3 ⟨p, r, rfl, r3, p3, q3, b3⟩
  have E3 : Hid (Ew w [] w3 q N 0 g0 f0 p r 0 f0) := ⟨E2.out.up b3, r3, Nat.le_trans E2.out.bel.size p3, Nat.le_trans E2.out.bel.size q3, fun _ hx => (by cases hx)⟩
  clear r3 p3 q3 b3 E2
  go_wp2_with fail
  go_loopw [13, 14, 15] (fun i _ _ wr => ∃ (k : Nat) (t : Int) (g : Gs) (f : Ws), k ≤ m ∧ i = .int .i64 (k : Int) ∧ Ew w [] wr q N t g f p r t f) (fun i _ _ _ => m - (intOf i).toNat)
  case atStart => exact ⟨0, 0, g0, f0, by omega, rfl, E3.out⟩
  case round =>
    obtain ⟨i, t, g, f, hi, rfl, he⟩ := hrel
    have E := Lib.hid he
    clear he E3
    by_cases hlt : i < m
    · obtain ⟨cb, co, rfl, hcb, hcell⟩ := HCS.out (by rw [HMM.out]; omega)
      obtain ⟨x7, hx6⟩ := hcell i (by rw [HMM.out]; exact hlt)
      have HX6 := Lib.hid hx6
      obtain ⟨c0, c1, c2, c3, c4, c5, c6⟩ := x7.below E.out.ev.bel hcb
      have t0 := E.out.ev.mp.st.t0
      have t1 := E.out.ev.mp.st.t1
      generalize cl l i = X at HX6 c0 c1 c2 c3 c4 c5 c6
      have E4 := Lib.hid (E.out.make (clL X) 34 (by decide) (by decide) (by decide) (by decide))
      have y1 : (0 : Int) ≤ (i : Int) := by omega
      have y2 : (i : Int) < (m : Int) := by omega
      clear hcell x7 hx6 E
      obtain ⟨z, P, k, a, b, c, d⟩ := X
      have HTB : Hid (0 ≤ t ∧ t < 1099511627776) := ⟨t0, t1⟩
      unfold clL at E4
      simp only at HX6 c0 c1 c2 c3 c4 c5 c6 E4
      clear t0 t1
      obtain ⟨Er, hEr⟩ : ∃ Er, opE (N : Int) f z P k a b c d = Er := ⟨_, rfl⟩
      obtain ⟨f', hf'⟩ : ∃ f', nf Er (opF t f z P k a b c d) f = f' := ⟨_, rfl⟩
      obtain ⟨t', ht'⟩ : ∃ t', nt Er t = t' := ⟨_, rfl⟩
      have HDO : Hid (∀ W gg, Mp W q (N : Int) t gg f → Calls Try.prog 12 #[.pointer (some ⟨q, 0, none⟩), .agg #[.bool z, .int .i64 P, .int .i64 k, .int .i64 a, .int .i64 b, .int .i64 c, .int .i64 d]] W fun e w' =>
          ∃ g', e = .returned (.int .i64 Er) ∧ Mp w' q (N : Int) t' g' f' ∧ Newer W.heap.size gg g' ∧ Fr q gg W w') := fun W gg hM => by
        have := do_any z P k a b c d hM HX6.out
        rwa [hEr, hf', ht'] at this
      cases z with
      | true =>
        have HRC : Hid (∀ W, Rf W p r N t f → Calls Try.prog 9 #[.pointer (some ⟨p, 0, none⟩), .int .i64 P, .int .i64 k] W fun e w' => e = .returned (.int .i64 Er) ∧ Rf w' p r N t' f' ∧ F2 p r W w') := fun W hR => by
          have := rclr_any P k hR (by omega) HTB.out.1 HTB.out.2
          have e1 : clrE (N : Int) f P k = Er := hEr
          have e2 : nf Er (clrF f P k) f = f' := hf'
          rwa [e1, e2, ht'] at this
        clear hEr hf' ht'
        go_wp2_with fail
        generalize wr.heap.size = bx at E4 ⊢
        generalize wr.alloc (.cells #[.bool true, .int .i64 P, .int .i64 k, .int .i64 a, .int .i64 b, .int .i64 c, .int .i64 d] 34) = w4 at E4 ⊢
        clear c0 c1 c2 c3 c4 c5 c6
        refine (HRC.out w4 E4.out.rf).mono ?_
        rintro e w5 ⟨rfl, r5, f5⟩
        have E5 := Lib.hid (E4.out.told r5 f5)
        clear r5 f5 E4
        go_wp2_with fail
        have E6d := Lib.hid (E5.out.up (Below.refl _ _).drew)
        have S6 := cells_cs (x := ⟨true, P, k, a, b, c, d⟩) E5.out.ev.head E5.out.rf
        simp only at S6
        have d1 : (Er != Er) = false := by simp
        have d2 : (t' != t') = false := by simp
        obtain ⟨Lv, hLv⟩ : ∃ Lv : Int, ((lvs f' 64 : Nat) : Int) = Lv := ⟨_, rfl⟩
        have HLV := Lib.hid hLv
        have d3 : (Lv != Lv) = false := by simp
        clear hLv
        go_region_held3 (fun W => W.cell? ⟨bx, 0, none⟩ = some (.bool true) ∧ W.cell? ⟨bx, 1, none⟩ = some (.int .i64 P) ∧ W.cell? ⟨bx, 2, none⟩ = some (.int .i64 k) ∧ W.cell? ⟨bx, 3, none⟩ = some (.int .i64 a) ∧ W.cell? ⟨bx, 4, none⟩ = some (.int .i64 b) ∧ W.cell? ⟨bx, 5, none⟩ = some (.int .i64 c) ∧ W.cell? ⟨bx, 6, none⟩ = some (.int .i64 d) ∧ W.cell? ⟨p, 1, none⟩ = some (.int .u64 t'))
          (first | exact S7 | exact S6)
          ((first
            | (go_at_call 12; refine (HDO.out _ _ E6d.out.ev.mp).mono ?_; rintro e w7 ⟨g7, rfl, m7, n7, f7⟩; have E7 := Lib.hid (E6d.out.step m7 n7 f7); have S7 := cells_cs (x := ⟨true, P, k, a, b, c, d⟩) E7.out.ev.head E7.out.rf; simp only at S7; clear m7 n7 f7)
            | (go_at_call 13; refine (stamp_any E7.out.ev.mp.lay).mono ?_; rintro e w8 ⟨rfl, rfl⟩)
            | (go_at_call 14; refine (leaves_any E7.out.ev.mp.lay E7.out.ev.mp.kept).mono ?_; rw [HLV.out]; rintro e w8 ⟨rfl, rfl⟩)
            | (go_at_call 15; refine (rleaves_any E7.out.rf (by omega) E7.out.ev.mp.st).mono ?_; rw [HLV.out]; rintro e w8 ⟨rfl, rfl⟩)))
        go_wp2
        go_roundw
        case rel => exact ⟨i + 1, t', g7, f', by omega, by go_num, E7.out.tail⟩
        case measure => simp [intOf]; omega
      | false =>
        have HRC : Hid (∀ W, Rf W p r N t f → Calls Try.prog 10 #[.pointer (some ⟨p, 0, none⟩), .int .i64 P, .int .i64 k, .agg #[.int .i64 a, .int .i64 b, .int .i64 c, .int .i64 d]] W fun e w' => e = .returned (.int .i64 Er) ∧ Rf w' p r N t' f' ∧ F2 p r W w') := fun W hR => by
          have := rset_any P k a b c d hR (by omega) HTB.out.1 HTB.out.2
          have e1 : setE (N : Int) P k a b c d = Er := hEr
          have e2 : nf Er (setF t f P k a b c d) f = f' := hf'
          rwa [e1, e2, ht'] at this
        clear hEr hf' ht'
        go_upto_region 18 with fail
        generalize wr.heap.size = bx at E4 ⊢
        generalize wr.alloc (.cells #[.bool false, .int .i64 P, .int .i64 k, .int .i64 a, .int .i64 b, .int .i64 c, .int .i64 d] 34) = w4 at E4 ⊢
        clear c0 c1 c2 c3 c4 c5 c6
        have E4d := Lib.hid (E4.out.up (Below.refl _ _).drew)
        have S4 := cells_c (x := ⟨false, P, k, a, b, c, d⟩) E4.out.ev.head
        simp only at S4
        go_region_held3 (fun W => W.cell? ⟨bx, 0, none⟩ = some (.bool false) ∧ W.cell? ⟨bx, 1, none⟩ = some (.int .i64 P) ∧ W.cell? ⟨bx, 2, none⟩ = some (.int .i64 k) ∧ W.cell? ⟨bx, 3, none⟩ = some (.int .i64 a) ∧ W.cell? ⟨bx, 4, none⟩ = some (.int .i64 b) ∧ W.cell? ⟨bx, 5, none⟩ = some (.int .i64 c) ∧ W.cell? ⟨bx, 6, none⟩ = some (.int .i64 d))
          (first | exact S6' | exact S5 | exact S4)
          ((first
            | (go_at_call 11; refine (of_any a b c d _).mono ?_; rintro e w5 ⟨rfl, b5⟩; have E5 := Lib.hid (E4d.out.up b5); have S5 := cells_c (x := ⟨false, P, k, a, b, c, d⟩) E5.out.ev.head; simp only at S5; clear b5)
            | (go_at_call 10; refine (HRC.out _ E5.out.rf).mono ?_; rintro e w6 ⟨rfl, r6, f6⟩; have E6 := Lib.hid (E5.out.told r6 f6); have S6' := cells_c (x := ⟨false, P, k, a, b, c, d⟩) E6.out.ev.head; simp only at S6'; clear r6 f6)))
        clear S4 S5 S6'
        go_wp2_with fail
        have E6d := Lib.hid (E6.out.up (Below.refl _ _).drew)
        have S6 := cells_cs (x := ⟨false, P, k, a, b, c, d⟩) E6.out.ev.head E6.out.rf
        simp only at S6
        have d1 : (Er != Er) = false := by simp
        have d2 : (t' != t') = false := by simp
        obtain ⟨Lv, hLv⟩ : ∃ Lv : Int, ((lvs f' 64 : Nat) : Int) = Lv := ⟨_, rfl⟩
        have HLV := Lib.hid hLv
        have d3 : (Lv != Lv) = false := by simp
        clear hLv
        go_region_held3 (fun W => W.cell? ⟨bx, 0, none⟩ = some (.bool false) ∧ W.cell? ⟨bx, 1, none⟩ = some (.int .i64 P) ∧ W.cell? ⟨bx, 2, none⟩ = some (.int .i64 k) ∧ W.cell? ⟨bx, 3, none⟩ = some (.int .i64 a) ∧ W.cell? ⟨bx, 4, none⟩ = some (.int .i64 b) ∧ W.cell? ⟨bx, 5, none⟩ = some (.int .i64 c) ∧ W.cell? ⟨bx, 6, none⟩ = some (.int .i64 d) ∧ W.cell? ⟨p, 1, none⟩ = some (.int .u64 t'))
          (first | exact S7 | exact S6)
          ((first
            | (go_at_call 12; refine (HDO.out _ _ E6d.out.ev.mp).mono ?_; rintro e w7 ⟨g7, rfl, m7, n7, f7⟩; have E7 := Lib.hid (E6d.out.step m7 n7 f7); have S7 := cells_cs (x := ⟨false, P, k, a, b, c, d⟩) E7.out.ev.head E7.out.rf; simp only at S7; clear m7 n7 f7)
            | (go_at_call 13; refine (stamp_any E7.out.ev.mp.lay).mono ?_; rintro e w8 ⟨rfl, rfl⟩)
            | (go_at_call 14; refine (leaves_any E7.out.ev.mp.lay E7.out.ev.mp.kept).mono ?_; rw [HLV.out]; rintro e w8 ⟨rfl, rfl⟩)
            | (go_at_call 15; refine (rleaves_any E7.out.rf (by omega) E7.out.ev.mp.st).mono ?_; rw [HLV.out]; rintro e w8 ⟨rfl, rfl⟩)))
        go_wp2
        go_roundw
        case rel => exact ⟨i + 1, t', g7, f', by omega, by go_num, E7.out.tail⟩
        case measure => simp [intOf]; omega
    · obtain rfl : i = m := by omega
      clear HCS HMM hlt hi
      go_wp2_with fail
      go_loopw [16, 17] (fun n i' wr => ∃ j : Nat, j ≤ N + 2 ∧ n = .int .i64 (cj f v s N j : Nat) ∧ i' = .int .i64 ((j : Int) - 1) ∧ Ew w [] wr q N t g f p r t f) (fun _ i' _ => (N + 1 - intOf i').toNat)
      case atStart => exact ⟨0, by omega, rfl, rfl, E.out⟩
      case round =>
        obtain ⟨j, hj, rfl, rfl, he⟩ := hrel
        have E5 := Lib.hid he
        clear he E
        obtain ⟨I, hI⟩ : ∃ I : Int, (j : Int) - 1 = I := ⟨_, rfl⟩
        have HI := Lib.hid hI
        have I0 : -1 ≤ I := by omega
        have I1 : I ≤ (N : Int) + 1 := by omega
        have hle : cj f v s N j ≤ N := by have := cnt_le f v s (min (j - 1) N); unfold cj; omega
        rw [hI]
        by_cases hlt : I ≤ (N : Int)
        · have dI : decide (I ≤ (N : Int)) = true := by simpa using hlt
          have hsu := cj_succ (f := f) (v := v) (s := s) (N := N) (j := j)
          rw [hI] at hsu
          have HG : Hid (∀ W L', Ew w L' W q N t g f p r t f → Calls Try.prog 16 #[.pointer (some ⟨q, 0, none⟩), .int .i64 I] W fun e w' => e = .returned (.tuple #[entV (wAt (N : Int) f I), .bool (wAt (N : Int) f I != 0)]) ∧ Below W.heap.size W w') := fun W L' h => get_any I h.ev.mp.lay h.ev.mp.st (i_small (by omega) (by omega))
          have HRG : Hid (∀ W L', Ew w L' W q N t g f p r t f → Calls Try.prog 17 #[.pointer (some ⟨p, 0, none⟩), .int .i64 I] W fun e w' => e = .returned (.tuple #[entV (wAt (N : Int) f I), .bool (wAt (N : Int) f I != 0)]) ∧ Below W.heap.size W w') := fun W L' h => rget_any I h.rf h.ev.mp.st
          have HW : Hid (∀ W L', Ew w L' W q N t g f p r t f → Calls Try.prog 18 #[.pointer (some ⟨q, 0, none⟩), .int .i64 I] W fun e w' => e = .returned (.int .u64 (wAt (N : Int) f I)) ∧ W = w') := fun W L' h => word_any I h.ev.mp.lay h.ev.mp.st (i_small (by omega) (by omega))
          have hc : (decide (0 ≤ I) = false ∧ wAt (N : Int) f I = 0) ∨ (decide (0 ≤ I) = true ∧ decide (I < (N : Int)) = false ∧ wAt (N : Int) f I = 0) ∨ (∃ K : Nat, I = (K : Int) ∧ K < N ∧ wAt (N : Int) f I = f K) := by
            by_cases h0 : 0 ≤ I
            · by_cases h1 : I < (N : Int)
              · right; right
                obtain ⟨K, hK⟩ : ∃ K : Nat, I = (K : Int) := ⟨I.toNat, by omega⟩
                exact ⟨K, hK, by omega, by rw [hK]; exact wAt_in (by omega)⟩
              · right; left; exact ⟨by simpa using h0, by simpa using h1, wAt_out (inB_no.2 (by omega))⟩
            · left; exact ⟨by simpa using h0, wAt_out (inB_no.2 (by omega))⟩
          obtain ⟨X, hX⟩ : ∃ X, wAt (N : Int) f I = X := ⟨_, rfl⟩
          rw [hX] at HG HRG HW hsu hc
          obtain ⟨L0, hL0⟩ : ∃ L0, cj f v s N j = L0 := ⟨_, rfl⟩
          rw [hL0] at hsu hle ⊢
          unfold entV at HG HRG
          obtain ⟨s0, hs0⟩ : ∃ s0, spanOf X = s0 := ⟨_, rfl⟩
          obtain ⟨s1, hs1⟩ : ∃ s1, verOf X = s1 := ⟨_, rfl⟩
          obtain ⟨s2, hs2⟩ : ∃ s2, clsOf X = s2 := ⟨_, rfl⟩
          obtain ⟨s3, hs3⟩ : ∃ s3, staOf X = s3 := ⟨_, rfl⟩
          rw [hs0, hs1, hs2, hs3] at HG HRG
          rw [hs1, hs3] at hsu
          obtain ⟨B, hB⟩ : ∃ B, (X != 0) = B := ⟨_, rfl⟩
          rw [hB] at HG HRG hsu
          have HSU := Lib.hid hsu
          have dX : (X != X) = false := by simp
          have dB : (B != B) = false := by simp
          clear hX hL0 hs0 hs1 hs2 hs3 hB hsu hI
          go_wp2_with fail
          refine (HG.out _ _ E5.out).mono ?_
          rintro e w6 ⟨rfl, b6⟩
          have E6 := Lib.hid ((E5.out.up b6).make [.int .i64 s0, .int .i64 s1, .int .i64 s2, .int .i64 s3] 32 (by decide) (by decide) (by decide) (by decide))
          clear b6 E5
          go_wp2_with fail
          generalize w6.heap.size = bx at E6 ⊢
          generalize w6.alloc (.cells #[.int .i64 s0, .int .i64 s1, .int .i64 s2, .int .i64 s3] 32) = w7 at E6 ⊢
          refine (HRG.out _ _ E6.out).mono ?_
          rintro e w8 ⟨rfl, b8⟩
          have E8 := Lib.hid ((E6.out.up b8).make [.int .i64 s0, .int .i64 s1, .int .i64 s2, .int .i64 s3] 37 (by decide) (by decide) (by decide) (by decide))
          clear b8 E6
          go_upto_region 27 with fail
          generalize w8.heap.size = by' at E8 ⊢
          generalize w8.alloc (.cells #[.int .i64 s0, .int .i64 s1, .int .i64 s2, .int .i64 s3] 37) = w9 at E8 ⊢
          have E9d := Lib.hid (E8.out.up (Below.refl _ _).drew)
          have S9 := cells_ee E8.out.ev.tail.head E8.out.ev.head
          simp only at S9
          rcases hc with ⟨i0, rfl⟩ | ⟨i0, i1, rfl⟩ | ⟨K, rfl, hKN, hxK⟩
          · go_upto_region 30 with fail
            go_region_held3 (fun W => W.cell? ⟨bx, 0, none⟩ = some (.int .i64 s0) ∧ W.cell? ⟨bx, 1, none⟩ = some (.int .i64 s1) ∧ W.cell? ⟨bx, 2, none⟩ = some (.int .i64 s2) ∧ W.cell? ⟨bx, 3, none⟩ = some (.int .i64 s3) ∧ W.cell? ⟨by', 0, none⟩ = some (.int .i64 s0) ∧ W.cell? ⟨by', 1, none⟩ = some (.int .i64 s1) ∧ W.cell? ⟨by', 2, none⟩ = some (.int .i64 s2) ∧ W.cell? ⟨by', 3, none⟩ = some (.int .i64 s3))
              (first | exact S10 | exact S9)
              ((first
                | (go_at_call 11; refine (of_any s0 s1 s2 s3 _).mono ?_; rintro e w10 ⟨rfl, b10⟩; have E10 := Lib.hid (E9d.out.up b10); have S10 := cells_ee E10.out.ev.tail.head E10.out.ev.head; simp only at S10; clear b10)
                | (go_at_call 18; refine (HW.out _ _ E10.out).mono ?_; rintro e w11 ⟨rfl, rfl⟩)))
            obtain ⟨_, _, _, _, _, z1, _, z3⟩ := S10
            have EN := Lib.hid E10.out.tail.tail
            clear S9 E9d E8 E10
            cases B with
            | false =>
              go_wp2
              go_roundw
              case rel => exact ⟨j + 1, by have := HI.out; omega, by rw [HSU.out]; simp, by have := HI.out; congr 1; omega, EN.out⟩
              case measure => simp [intOf]; omega
            | true =>
              cases hv : (s1 == v) with
              | false =>
                rw [hv] at HSU
                go_wp2
                go_roundw
                case rel => exact ⟨j + 1, by have := HI.out; omega, by rw [HSU.out]; simp, by have := HI.out; congr 1; omega, EN.out⟩
                case measure => simp [intOf]; omega
              | true =>
                rw [hv] at HSU
                cases hs : (s3 == s) with
                | false =>
                  rw [hs] at HSU
                  go_wp2
                  go_roundw
                  case rel => exact ⟨j + 1, by have := HI.out; omega, by rw [HSU.out]; simp, by have := HI.out; congr 1; omega, EN.out⟩
                  case measure => simp [intOf]; omega
                | true =>
                  rw [hs] at HSU
                  go_wp2
                  go_roundw
                  case rel => exact ⟨j + 1, by have := HI.out; omega, by rw [HSU.out]; simp, by have := HI.out; congr 1; omega, EN.out⟩
                  case measure => simp [intOf]; omega
          · go_upto_region 30 with fail
            go_region_held3 (fun W => W.cell? ⟨bx, 0, none⟩ = some (.int .i64 s0) ∧ W.cell? ⟨bx, 1, none⟩ = some (.int .i64 s1) ∧ W.cell? ⟨bx, 2, none⟩ = some (.int .i64 s2) ∧ W.cell? ⟨bx, 3, none⟩ = some (.int .i64 s3) ∧ W.cell? ⟨by', 0, none⟩ = some (.int .i64 s0) ∧ W.cell? ⟨by', 1, none⟩ = some (.int .i64 s1) ∧ W.cell? ⟨by', 2, none⟩ = some (.int .i64 s2) ∧ W.cell? ⟨by', 3, none⟩ = some (.int .i64 s3))
              (first | exact S10 | exact S9)
              ((first
                | (go_at_call 11; refine (of_any s0 s1 s2 s3 _).mono ?_; rintro e w10 ⟨rfl, b10⟩; have E10 := Lib.hid (E9d.out.up b10); have S10 := cells_ee E10.out.ev.tail.head E10.out.ev.head; simp only at S10; clear b10)
                | (go_at_call 18; refine (HW.out _ _ E10.out).mono ?_; rintro e w11 ⟨rfl, rfl⟩)))
            obtain ⟨_, _, _, _, _, z1, _, z3⟩ := S10
            have EN := Lib.hid E10.out.tail.tail
            clear S9 E9d E8 E10
            cases B with
            | false =>
              go_wp2
              go_roundw
              case rel => exact ⟨j + 1, by have := HI.out; omega, by rw [HSU.out]; simp, by have := HI.out; congr 1; omega, EN.out⟩
              case measure => simp [intOf]; omega
            | true =>
              cases hv : (s1 == v) with
              | false =>
                rw [hv] at HSU
                go_wp2
                go_roundw
                case rel => exact ⟨j + 1, by have := HI.out; omega, by rw [HSU.out]; simp, by have := HI.out; congr 1; omega, EN.out⟩
                case measure => simp [intOf]; omega
              | true =>
                rw [hv] at HSU
                cases hs : (s3 == s) with
                | false =>
                  rw [hs] at HSU
                  go_wp2
                  go_roundw
                  case rel => exact ⟨j + 1, by have := HI.out; omega, by rw [HSU.out]; simp, by have := HI.out; congr 1; omega, EN.out⟩
                  case measure => simp [intOf]; omega
                | true =>
                  rw [hs] at HSU
                  go_wp2
                  go_roundw
                  case rel => exact ⟨j + 1, by have := HI.out; omega, by rw [HSU.out]; simp, by have := HI.out; congr 1; omega, EN.out⟩
                  case measure => simp [intOf]; omega
          · have c0 := E8.out.rf.c0
            have cw := E8.out.rf.cw hKN
            rw [← hxK] at cw
            have i1 : decide ((K : Int) < (N : Int)) = true := by simp; omega
            clear hxK
            go_upto_region 30 with fail
            go_region_held3 (fun W => W.cell? ⟨bx, 0, none⟩ = some (.int .i64 s0) ∧ W.cell? ⟨bx, 1, none⟩ = some (.int .i64 s1) ∧ W.cell? ⟨bx, 2, none⟩ = some (.int .i64 s2) ∧ W.cell? ⟨bx, 3, none⟩ = some (.int .i64 s3) ∧ W.cell? ⟨by', 0, none⟩ = some (.int .i64 s0) ∧ W.cell? ⟨by', 1, none⟩ = some (.int .i64 s1) ∧ W.cell? ⟨by', 2, none⟩ = some (.int .i64 s2) ∧ W.cell? ⟨by', 3, none⟩ = some (.int .i64 s3))
              (first | exact S10 | exact S9)
              ((first
                | (go_at_call 11; refine (of_any s0 s1 s2 s3 _).mono ?_; rintro e w10 ⟨rfl, b10⟩; have E10 := Lib.hid (E9d.out.up b10); have S10 := cells_ee E10.out.ev.tail.head E10.out.ev.head; simp only at S10; clear b10)
                | (go_at_call 18; refine (HW.out _ _ E10.out).mono ?_; rintro e w11 ⟨rfl, rfl⟩)))
            obtain ⟨_, _, _, _, _, z1, _, z3⟩ := S10
            have EN := Lib.hid E10.out.tail.tail
            clear S9 E9d E8 E10
            cases B with
            | false =>
              go_wp2
              go_roundw
              case rel => exact ⟨j + 1, by have := HI.out; omega, by rw [HSU.out]; simp, by have := HI.out; congr 1; omega, EN.out⟩
              case measure => simp [intOf]; omega
            | true =>
              cases hv : (s1 == v) with
              | false =>
                rw [hv] at HSU
                go_wp2
                go_roundw
                case rel => exact ⟨j + 1, by have := HI.out; omega, by rw [HSU.out]; simp, by have := HI.out; congr 1; omega, EN.out⟩
                case measure => simp [intOf]; omega
              | true =>
                rw [hv] at HSU
                cases hs : (s3 == s) with
                | false =>
                  rw [hs] at HSU
                  go_wp2
                  go_roundw
                  case rel => exact ⟨j + 1, by have := HI.out; omega, by rw [HSU.out]; simp, by have := HI.out; congr 1; omega, EN.out⟩
                  case measure => simp [intOf]; omega
                | true =>
                  rw [hs] at HSU
                  go_wp2
                  go_roundw
                  case rel => exact ⟨j + 1, by have := HI.out; omega, by rw [HSU.out]; simp, by have := HI.out; congr 1; omega, EN.out⟩
                  case measure => simp [intOf]; omega
        · obtain rfl : j = N + 2 := by omega
          have dI : decide (I ≤ (N : Int)) = false := by simpa using hlt
          have hC := count_any v s E5.out.ev.mp.lay E5.out.ev.mp.st
          rw [Int.toNat_natCast] at hC
          rw [cj_end]
          have HC := Lib.hid hC
          clear hC hI
          generalize ((cnt f v s N : Nat) : Int) = C at HC ⊢
          have dC : (C == C) = true := by simp
          go_wp2_with fail
          refine HC.out.mono ?_
          rintro e w6 ⟨rfl, b6⟩
          have E6 := Lib.hid (E5.out.up b6)
          clear b6
          go_wp2
          go_ret
          exact ⟨rfl, E6.out.ev.bel⟩
theorem calls_any (n v s : Int) (A : Option Addr) (l : List Cl) (cap : Nat) (w : World) (hcs : CA w.heap.size w A l) :
    Calls Try.prog 3 #[.int .i64 n, .slice A l.length cap, .int .i64 v, .int .i64 s] w fun e w' => e = .returned (.bool true) ∧ Below w.heap.size w w' := by
  by_cases h : 300 < n
  · exact calls_great n v s A _ cap w (.inl h)
  · by_cases h2 : 60 < l.length
    · exact calls_great n v s A _ cap w (.inr ⟨by omega, h2⟩)
    · by_cases h3 : n < 0
      · exact calls_no n v s A _ cap w h3 h2
      · obtain ⟨N, rfl⟩ : ∃ N : Nat, n = (N : Int) := ⟨n.toNat, by omega⟩
        exact calls_main N v s A l cap w hcs h2 (by omega)
end Go.Proofs.Ytadmhocpnbgegaa
