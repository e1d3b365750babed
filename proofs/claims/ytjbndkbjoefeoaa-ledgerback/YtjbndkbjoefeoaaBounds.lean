/-
  Calls that came in, and the law on bounds, walked: a contract that the claimed proof uses.
-/
import Derived.Test.YtjbndkbjoefeoaaAlive
namespace Go.Proofs.Ytjbndkbjoefeoaa
open Go.RowKit Go.Maps

/-! ### Calls that came in -/
abbrev Cl := Int × Int × Int × Int
def cl (l : List Cl) (i : Nat) : Cl := l.getD i (0, 0, 0, 0)
/-- Of their address something is said only where there is one. -/
def CA (B : Nat) (w : World) (A : Option Addr) (l : List Cl) : Prop :=
  0 < l.length → ∃ b o, A = some ⟨b, o, none⟩ ∧ b < B ∧ ∀ i, i < l.length → w.cell? ⟨b, o + i * 4, none⟩ = some (.int .i64 (cl l i).1) ∧ w.cell? ⟨b, o + i * 4 + 1, none⟩ = some (.int .i64 (cl l i).2.1) ∧
    w.cell? ⟨b, o + i * 4 + 2, none⟩ = some (.int .i64 (cl l i).2.2.1) ∧ w.cell? ⟨b, o + i * 4 + 3, none⟩ = some (.int .i64 (cl l i).2.2.2)
theorem CA.below {B : Nat} {w w' : World} {A : Option Addr} {l : List Cl} (h : CA B w A l) (hb : Below B w w') : CA B w' A l := fun hp => by
  obtain ⟨b, o, e, hg, hc⟩ := h hp
  exact ⟨b, o, e, hg, fun i hi => ⟨(hb.cell (p := ⟨b, o + i * 4, none⟩) hg).trans (hc i hi).1, (hb.cell (p := ⟨b, o + i * 4 + 1, none⟩) hg).trans (hc i hi).2.1, (hb.cell (p := ⟨b, o + i * 4 + 2, none⟩) hg).trans (hc i hi).2.2.1, (hb.cell (p := ⟨b, o + i * 4 + 3, none⟩) hg).trans (hc i hi).2.2.2⟩⟩
/-- The states behind so many of the calls. -/
def rn (C : Int) (l : List Cl) : Nat → List Row
  | 0 => [z8]
  | i + 1 => opS C (rn C l i) (cl l i).1 (cl l i).2.1 (cl l i).2.2.1 (cl l i).2.2.2
theorem rn_wf {C : Int} (h0 : 0 ≤ C) (h1 : C ≤ 1099511627776) (l : List Cl) : ∀ i, Wf C (rn C l i)
  | 0 => new_wf h0 h1
  | i + 1 => op_wf (rn_wf h0 h1 l i) ..
theorem rn_len (C : Int) (l : List Cl) : ∀ i, (rn C l i).length ≤ i + 1
  | 0 => Nat.le_refl _
  | i + 1 => by have h1 := rn_len C l i; have h2 := op_len C (rn C l i) (cl l i).1 (cl l i).2.1 (cl l i).2.2.1 (cl l i).2.2.2; rw [rn]; omega

/-! ### The law on bounds -/
theorem held_in {f : Row} {k : Nat} (h : k < 8) : heldOf f (k : Int) = f k := by
  unfold heldOf; rw [if_pos (kindB_iff.2 (by omega)), Int.toNat_natCast]
theorem bounds_great (C : Int) (A : Option Addr) (m c : Nat) (w : World) (h : 200 < m) :
    Calls Try.prog 5 #[.int .i64 C, .slice A m c] w fun e w' => e = .returned (.bool true) ∧ Below w.heap.size w w' := by
  have d : decide ((200 : Int) < (m : Int)) = true := by simp; omega
  go_enter Try.func5, Try.ntmps5
  go_wp2_with fail
  refine (alive_any w).mono ?_
  rintro e w1 ⟨rfl, b1⟩
  have B1 := Lib.hid b1
  clear b1
  go_wp2
  go_ret
  exact ⟨rfl, B1.out⟩
theorem bounds_no (C : Int) (A : Option Addr) (m c : Nat) (w : World) (h : ¬ 200 < m) (hC : ¬ (0 ≤ C ∧ C ≤ 1099511627776)) :
    Calls Try.prog 5 #[.int .i64 C, .slice A m c] w fun e w' => e = .returned (.bool true) ∧ Below w.heap.size w w' := by
  have d : decide ((200 : Int) < (m : Int)) = false := by simp; omega
  have hd : decide (C < 0) = true ∨ (decide (C < 0) = false ∧ decide (1099511627776 < C) = true) := by
    by_cases h0 : C < 0
    · left; simpa using h0
    · right; exact ⟨by simpa using h0, by simp; omega⟩
  rcases hd with d0 | ⟨d0, d1⟩
  all_goals (
    go_enter Try.func5, Try.ntmps5
    go_wp2_with fail
    refine (alive_any w).mono ?_
    rintro e w1 ⟨rfl, b1⟩
    have B1 := Lib.hid b1
    clear b1
    go_wp2_with fail
    refine (new_no C w1 hC).mono ?_
    rintro e w2 ⟨rfl, rfl⟩
    go_wp2
    go_ret
    exact ⟨rfl, B1.out⟩)
set_option maxRecDepth 100000 in
theorem bounds_main (C : Int) (A : Option Addr) (l : List Cl) (c : Nat) (w : World) (hcs : CA w.heap.size w A l) (hl : ¬ 200 < l.length) (h0 : 0 ≤ C) (h1 : C ≤ 1099511627776) :
    Calls Try.prog 5 #[.int .i64 C, .slice A l.length c] w fun e w' => e = .returned (.bool true) ∧ Below w.heap.size w w' := by
  have HCS := Lib.hid hcs
  obtain ⟨m, hm⟩ : ∃ m, l.length = m := ⟨_, rfl⟩
  have HMM := Lib.hid hm
  rw [hm] at hl ⊢
  clear hcs hm
  have d : decide ((200 : Int) < (m : Int)) = false := by simp; omega
  go_enter Try.func5, Try.ntmps5
  go_wp2_with fail
  refine (alive_any w).mono ?_
  rintro e w1 ⟨rfl, b1⟩
  have B1 := Lib.hid b1
  clear b1
  go_wp2_with fail
  refine (new_yes C w1 h0 h1).mono ?_
  rintro e w2 ⟨q, b, rfl, l2, hq, hb, b2⟩
  have hsz := B1.out.size
  have hq' : w.heap.size ≤ q := by omega
  have hb' : w.heap.size ≤ b := by omega
  have L2 := Lib.hid l2
  have B2 := Lib.hid (up_trans B1.out b2)
  clear l2 b2 B1 hq hb hsz
  go_wp2_with fail
  go_loopw [7] (fun i wr => ∃ k : Nat, k ≤ m ∧ i = .int .i64 k ∧ Led wr q b C (rn C l k) ∧ Below w.heap.size w wr) (fun i _ => m - (intOf i).toNat)
  case atStart => exact ⟨0, by omega, rfl, L2.out, B2.out⟩
  case round =>
    obtain ⟨i, hi, rfl, hled, hbel⟩ := hrel
    have HL := Lib.hid hled
    have HB := Lib.hid hbel
    clear hled hbel L2 B2
    by_cases hlt : i < m
    · obtain ⟨cb, co, rfl, hcb, hcell⟩ := HCS.out (by rw [HMM.out]; omega)
      obtain ⟨x0, x1, x2, x3⟩ := hcell i (by rw [HMM.out]; exact hlt)
      have c0 := (HB.out.cell (p := ⟨cb, co + i * 4, none⟩) hcb).trans x0
      have c1 := (HB.out.cell (p := ⟨cb, co + i * 4 + 1, none⟩) hcb).trans x1
      have c2 := (HB.out.cell (p := ⟨cb, co + i * 4 + 2, none⟩) hcb).trans x2
      have c3 := (HB.out.cell (p := ⟨cb, co + i * 4 + 3, none⟩) hcb).trans x3
      have hwf := rn_wf h0 h1 l i
      have hln := rn_len C l i
      have HDO := Lib.hid (do_any (cl l i).1 (cl l i).2.1 (cl l i).2.2.1 (cl l i).2.2.2 HL.out hwf (by omega))
      have hs : opS C (rn C l i) (cl l i).1 (cl l i).2.1 (cl l i).2.2.1 (cl l i).2.2.2 = rn C l (i + 1) := rfl
      rw [hs] at HDO
      have HW2 := Lib.hid (rn_wf h0 h1 l (i + 1))
      have y1 : (0 : Int) ≤ (i : Int) := by omega
      have y2 : (i : Int) < (m : Int) := by omega
      generalize opE C (hd (rn C l i)) (cl l i).1 (cl l i).2.1 (cl l i).2.2.1 (cl l i).2.2.2 = er at HDO
      generalize (cl l i).1 = a0 at *
      generalize (cl l i).2.1 = a1 at *
      generalize (cl l i).2.2.1 = a2 at *
      generalize (cl l i).2.2.2 = a3 at *
      clear hcell x0 x1 x2 x3 hs hwf hln
      go_wp2_with fail
      refine HDO.out.mono ?_
      rintro e w5 ⟨rfl, l5, f5⟩
      have L5 := Lib.hid l5
      have B5 := Lib.hid (HB.out.trans (f5.below hq' hb' HB.out.size))
      obtain ⟨S, hS⟩ : ∃ S, rn C l (i + 1) = S := ⟨_, rfl⟩
      rw [hS] at L5 HW2
      have HSS := Lib.hid hS
      clear l5 f5 HDO HL HB c0 c1 c2 c3 hS
      go_wp2_with fail
      go_loop [8, 9] (fun n k => ∃ j : Nat, j ≤ 8 ∧ n = .int .i64 (sumTo (hd S) j) ∧ k = .int .i64 j) (fun _ k => 8 - (intOf k).toNat)
      case atStart => exact ⟨0, by omega, rfl, rfl⟩
      case round =>
        obtain ⟨j, hj, rfl, rfl⟩ := hrel
        by_cases hj8 : j < 8
        · have hH := held_any (j : Int) L5.out.blk
          rw [held_in hj8] at hH
          have HH := Lib.hid hH
          have hat := HW2.out.hd.at hj8
          have s0 := HW2.out.hd.sum (k := j) (by omega)
          have s1 := HW2.out.hd.sum (k := j + 1) (by omega)
          have e1 : sumTo (hd S) (j + 1) = sumTo (hd S) j + hd S j := rfl
          rw [e1] at s1
          have E1 := Lib.hid e1
          have hw := i64_in (sumTo (hd S) j + hd S j) (by omega) (by omega)
          have d2 : decide (hd S j < 0) = false := by simp; omega
          clear e1 hH
          generalize sumTo (hd S) j = s at *
          generalize hd S j = x at *
          go_wp2_with fail
          refine HH.out.mono ?_
          rintro e w6 ⟨rfl, rfl⟩
          go_wp2_with fail
          refine HH.out.mono ?_
          rintro e w6 ⟨rfl, rfl⟩
          go_wp2
          go_round
          case rel => exact ⟨j + 1, by omega, by rw [E1.out], by go_num⟩
          case measure => simp [intOf]; omega
        · obtain rfl : j = 8 := by omega
          have htt := HW2.out.hd.tot
          have hpk := pk_bd HW2.out.c0 HW2.out.all
          have hph := pk_hd HW2.out
          have HTO : Hid (∀ W, Led W q b C S → Calls Try.prog 17 #[.pointer (some ⟨q, 0, none⟩)] W fun e w' => e = .returned (.int .i64 (tot (hd S))) ∧ W = w') := fun W hL => total_any hL.blk HW2.out.hd h1
          have HLE : Hid (∀ W, Led W q b C S → Calls Try.prog 18 #[.pointer (some ⟨q, 0, none⟩)] W fun e w' => e = .returned (.int .i64 (C - tot (hd S))) ∧ Drawn W w') := fun W hL => left_any hL.blk HW2.out.hd h1
          have HPK : Hid (∀ W, Led W q b C S → Calls Try.prog 19 #[.pointer (some ⟨q, 0, none⟩)] W fun e w' => e = .returned (.int .i64 (pk S)) ∧ W = w') := fun W hL => peak_any hL.blk
          have et : sumTo (hd S) 8 = tot (hd S) := rfl
          rw [et]
          obtain ⟨T, hT⟩ : ∃ T, tot (hd S) = T := ⟨_, rfl⟩
          obtain ⟨P, hP⟩ : ∃ P, pk S = P := ⟨_, rfl⟩
          rw [hT] at htt hph HTO HLE ⊢
          rw [hP] at hpk hph HPK
          have d1 : (T != T) = false := by simp
          have d2 : decide (C - T < 0) = false := by simp; omega
          have hw : IntKind.i64.wrap (T + (C - T)) = C := by rw [show T + (C - T) = C by omega]; exact i64_in C (by omega) (by omega)
          have d3 : (C != C) = false := by simp
          have d4 : decide (P < T) = false := by simp; omega
          have d5 : decide (C < P) = false := by simp; omega
          obtain ⟨F, hF⟩ : ∃ F, C - T = F := ⟨_, rfl⟩
          rw [hF] at HLE d2 hw
          clear et hT hP hF
          go_wp2_with fail
          refine (HTO.out _ L5.out).mono ?_
          rintro e w6 ⟨rfl, rfl⟩
          go_wp2_with fail
          refine (HLE.out _ L5.out).mono ?_
          rintro e w6 ⟨rfl, d6⟩
          have L6 := Lib.hid (L5.out.drawn d6)
          have B6 := Lib.hid (up_trans B5.out d6.below)
          clear d6
          go_wp2_with fail
          refine (HTO.out _ L6.out).mono ?_
          rintro e w7 ⟨rfl, rfl⟩
          go_wp2_with fail
          refine (HLE.out _ L6.out).mono ?_
          rintro e w7 ⟨rfl, d7⟩
          have L7 := Lib.hid (L6.out.drawn d7)
          have B7 := Lib.hid (up_trans B6.out d7.below)
          clear d7
          go_wp2_with fail
          refine (HPK.out _ L7.out).mono ?_
          rintro e w8 ⟨rfl, rfl⟩
          go_wp2_with fail
          refine (HPK.out _ L7.out).mono ?_
          rintro e w8 ⟨rfl, rfl⟩
          go_wp2
          go_roundw
          case rel => exact ⟨i + 1, by omega, by go_num, by rw [HSS.out]; exact L7.out, B7.out⟩
          case measure => simp [intOf]; omega
    · obtain rfl : i = m := by omega
      go_wp2
      go_ret
      exact ⟨rfl, HB.out⟩
theorem bounds_any (C : Int) (A : Option Addr) (l : List Cl) (c : Nat) (w : World) (hcs : CA w.heap.size w A l) :
    Calls Try.prog 5 #[.int .i64 C, .slice A l.length c] w fun e w' => e = .returned (.bool true) ∧ Below w.heap.size w w' := by
  by_cases h : 200 < l.length
  · exact bounds_great C A _ c w h
  · by_cases h2 : 0 ≤ C ∧ C ≤ 1099511627776
    · exact bounds_main C A l c w hcs h h2.1 h2.2
    · exact bounds_no C A _ c w h h2
end Go.Proofs.Ytjbndkbjoefeoaa
