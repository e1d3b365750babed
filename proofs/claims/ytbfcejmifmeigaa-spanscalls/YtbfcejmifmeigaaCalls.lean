/-
  The walk of the statement that every row of calls is answered as the document says.
-/
import Derived.Test.YtbfcejmifmeigaaBoth
import Derived.StillTailTactics
import Derived.Laws.StructEq
import Derived.Deep.DeepCutAuto
namespace Go.Proofs.Ytbfcejmifmeigaa
open Go.RowKit

set_option maxRecDepth 100000 in
set_option maxHeartbeats 2000000 in
theorem calls_great (N x a : Int) (A : Option Addr) (M c : Nat) (w : World) (h : 200 < N ∨ 100 < M) :
    Calls Try.prog 3 #[.int .i64 N, .slice A M c, .int .i64 x, .int .i64 a] w fun e w' => e = .returned (.bool true) ∧ Below w.heap.size w w' := by
  have hd : decide (200 < N ∨ 100 < M) = true := by simpa using h
  have HG : Hid (∀ W, Calls Try.prog 7 #[.int .i64 N, .slice A M c] W fun e w' => e = .returned (.bool true) ∧ W = w') := fun W => by
    have := great_any N A M c W; rwa [hd] at this
  clear hd h
  go_enter Try.func3, Try.ntmps3
  go_wp2_with fail
  refine (alive_any _).mono ?_
  rintro e w1 ⟨rfl, B1⟩
  have HB := Lib.hid B1
  clear B1
  go_wp2_with (go_at_call 7; refine (HG.out _).mono ?_; rintro e w' ⟨rfl, rfl⟩)
  go_ret
  exact ⟨rfl, HB.out⟩
set_option maxRecDepth 100000 in
set_option maxHeartbeats 2000000 in
theorem calls_no (N x a : Int) (A : Option Addr) (M c : Nat) (w : World) (h : ¬ (200 < N ∨ 100 < M)) (h2 : N < 0) :
    Calls Try.prog 3 #[.int .i64 N, .slice A M c, .int .i64 x, .int .i64 a] w fun e w' => e = .returned (.bool true) ∧ Below w.heap.size w w' := by
  have hd : decide (200 < N ∨ 100 < M) = false := by simpa using h
  have HG : Hid (∀ W, Calls Try.prog 7 #[.int .i64 N, .slice A M c] W fun e w' => e = .returned (.bool false) ∧ W = w') := fun W => by
    have := great_any N A M c W; rwa [hd] at this
  have HNew := Lib.hid (fun W => new_no N W (by omega))
  have HRNew := Lib.hid (fun W => rnew_no N W h2)
  clear hd h h2
  go_enter Try.func3, Try.ntmps3
  go_wp2_with fail
  refine (alive_any _).mono ?_
  rintro e w1 ⟨rfl, B1⟩
  have HB := Lib.hid B1
  clear B1
  go_wp2_with (first | (go_at_call 7; refine (HG.out _).mono ?_; rintro e w' ⟨rfl, rfl⟩) | (go_at_call 8; refine (HNew.out _).mono ?_; rintro e w' ⟨rfl, rfl⟩) | (go_at_call 9; refine (HRNew.out _).mono ?_; rintro e w' ⟨rfl, rfl⟩))
  go_ret
  exact ⟨rfl, HB.out⟩
/-- What Find has found. -/
def Fnd (N : Nat) (L : List Rn) (x : Int) (r : Rn) (ok : Bool) : Prop := ok = decide (0 ≤ x ∧ x < (N : Int)) ∧ (ok = true → ∃ k, k < L.length ∧ (el L k).p ≤ x ∧ x < (el L k).p + (el L k).n ∧ r = el L k)
theorem found_any {w : World} {w0 : World} {q N : Nat} {K : Nat → Obj → Prop} {L : List Rn} (x : Int) (h : Live w0 q K L w) (hw : WF (N : Int) L) (hN : N ≤ 4096) :
    Calls Try.prog 13 #[.pointer (some ⟨q, 0, none⟩), .int .i64 x] w fun e w' => ∃ r ok, e = .returned (.tuple #[.agg #[.int .i64 r.p, .int .i64 r.n, .bool r.t], .bool ok]) ∧ Fnd N L x r ok ∧ Live w0 q K L w' := by
  by_cases hx : 0 ≤ x ∧ x < (N : Int)
  · obtain ⟨k, hk, h1, h2⟩ := chain_find hw.chain hx.1 hx.2
    refine (live_find x h hw (by omega) hk h1 h2).mono ?_
    rintro e w' ⟨he, hl⟩
    exact ⟨el L k, true, he, ⟨by symm; simpa using hx, fun _ => ⟨k, hk, h1, h2, rfl⟩⟩, hl⟩
  · have H := h
    obtain ⟨g, s, h'⟩ := h
    refine (find_no s hw (by omega) (by omega)).mono ?_
    rintro e w' ⟨he, hb⟩
    exact ⟨⟨0, 0, false⟩, false, he, ⟨by symm; simpa using hx, fun h => by cases h⟩, H.below hb⟩
theorem run_ne (p n : Int) (t : Bool) (W : World) : (binOp BinOp.neq 40 (.agg #[.int .i64 p, .int .i64 n, .bool t]) (.agg #[.int .i64 p, .int .i64 n, .bool t])).run Try.prog W = .ok (.bool false) W := by
  have u3 := Try.underlying3
  have u4 := Try.underlying4
  have a3 := Try.isAgg3
  have z3 := Try.sizeOf3
  have a4 := Try.isAgg4
  have z4 := Try.sizeOf4
  have hS : Try.prog.underlying 40 = some (.struct (Try.prog.fieldsOf 40)) := by kernel_rfl
  have hp : Try.prog.stoodInHeld 40 = false := by kernel_rfl
  rw [run_neq_struct, show (10000 : Nat) = 9999 + 1 from rfl, run_equalIn_agg W 9999 40 _ _ hS hp]
  simp only [Program.fieldsOf, Try.underlying40]
  go_simp
set_option maxRecDepth 100000 in
set_option maxHeartbeats 8000000 in
theorem calls_main (N : Nat) (x a : Int) (A : Option Addr) (l : List (Bool × Int × Int)) (c : Nat) (w : World) (hcs : CA w.heap.size w A l) (hN : N ≤ 200) (hl : l.length ≤ 100) :
    Calls Try.prog 3 #[.int .i64 (N : Int), .slice A l.length c, .int .i64 x, .int .i64 a] w fun e w' => e = .returned (.bool true) ∧ Below w.heap.size w w' := by
  obtain ⟨M, hM⟩ : ∃ M, l.length = M := ⟨_, rfl⟩
  have HG : Hid (∀ W, Calls Try.prog 7 #[.int .i64 (N : Int), .slice A M c] W fun e w' => e = .returned (.bool false) ∧ W = w') := fun W => by
    have := great_any (N : Int) A M c W
    rwa [show decide (200 < (N : Int) ∨ 100 < M) = false by rw [decide_eq_false_iff_not]; omega] at this
  have HC := Lib.hid hcs
  have HM := Lib.hid hM
  rw [hM] at hl ⊢
  clear hcs hM
  go_enter Try.func3, Try.ntmps3
  go_wp2_with fail
  refine (alive_any _).mono ?_
  rintro e w1 ⟨rfl, b1⟩
  have B1 := Lib.hid b1
  clear b1
  go_wp2_with fail
  refine (HG.out _).mono ?_; rintro e w' ⟨rfl, rfl⟩
  go_wp2_with fail
  refine (live_new (w0 := w) (N : Int) (by omega) (by omega) B1.out).mono ?_
  rintro e w2 ⟨q, rfl, l2, _, _⟩
  have L2 := Lib.hid l2
  clear l2 B1
  go_wp2_with fail
  refine (rnew_yes N w2 (by omega)).mono ?_
  rintro e w3 ⟨rfl, r3, b3⟩
  have T3 : Hid (Both w q (w2.heap.size + 1) w2.heap.size N (newL (N : Int)) (newL (N : Int)) w3) := both_new L2.out.bel L2.out r3 (by omega) (by omega) b3
  generalize w2.heap.size + 1 = qr at T3 r3 ⊢
  generalize w2.heap.size = gr at T3 r3
  clear r3 b3 L2
  go_wp2_with fail
  go_loopw [13] (fun i wr => ∃ (k : Nat) (L : List Rn), k ≤ M ∧ i = .int .i64 k ∧ WF (N : Int) L ∧ Both w q qr gr N L L wr) (fun i _ => M - (intOf i).toNat)
  case atStart => exact ⟨0, _, by omega, rfl, new_wf (by omega), T3.out⟩
  case round =>
    obtain ⟨k, L, hk, rfl, hwf, hboth⟩ := hrel
    have HW := Lib.hid hwf
    have HB := Lib.hid hboth
    clear hwf hboth T3
    by_cases hlt : k < M
    · obtain ⟨cb, co, rfl, hcb, hcl⟩ := (HC.out.below HB.out.bel) (by rw [HM.out]; omega)
      obtain ⟨c0, c1, c2⟩ := hcl k (by rw [HM.out]; exact hlt)
      obtain ⟨z, hz⟩ : ∃ z, l.getD k (false, 0, 0) = z := ⟨_, rfl⟩
      rw [hz] at c0 c1 c2
      obtain ⟨z0, z1, z2⟩ := z
      dsimp only at c0 c1 c2
      have i1 : (0 : Int) ≤ (k : Int) := by omega
      have i2 : (k : Int) < (M : Int) := by omega
      have HD := Lib.hid (do_any z0 z1 z2 HB.out HW.out (by omega))
      clear hz hcl
      go_wp2_with fail
      refine HD.out.mono ?_
      rintro e w4 ⟨rfl, L', wf4, b4⟩
      have W4 := Lib.hid wf4
      have B4 := Lib.hid b4
      clear wf4 b4 HD c0 c1 c2
      go_wp2
      go_roundw
      case rel => exact ⟨k + 1, L', by omega, by go_num, W4.out, B4.out⟩
      case measure => simp [intOf]; omega
    · obtain rfl : k = M := by omega
      obtain ⟨wo, rfl⟩ : ∃ wo : World, wo = wr := ⟨wr, rfl⟩
      go_wp2_with fail
      refine (live_runs HB.out.2.2 HW.out (by omega)).mono ?_
      rintro e w5 ⟨⟨ga, ca, rfl, r5, h5, b5⟩, l5⟩
      have R5 := Lib.hid r5
      have B5 := Lib.hid (HB.out.prog l5)
      clear r5 h5 b5 l5 HC HG HB
      go_wp2_with fail
      refine (rruns_any B5.out.1 HW.out (by omega)).mono ?_
      rintro e w6 ⟨gb, cb, rfl, r6, h6, b6⟩
      have R6 := Lib.hid (R5.out.below b6)
      have T6 := Lib.hid r6
      have B6 := Lib.hid (B5.out.below b6)
      clear r6 h6 b6 R5 B5
      have hlen : L.length ≤ 200 := by have := HW.out.len; omega
      obtain ⟨m, hm⟩ : ∃ m, L.length = m := ⟨_, rfl⟩
      have HMM := Lib.hid hm
      rw [hm] at hlen ⊢
      clear hm
      go_wp2_with fail
      have HF : Hid (Calls Try.prog 13 #[.pointer (some ⟨q, 0, none⟩), .int .i64 x] w6 fun e w' => ∃ r ok, e = .returned (.tuple #[.agg #[.int .i64 r.p, .int .i64 r.n, .bool r.t], .bool ok]) ∧ Fnd N L x r ok ∧ Below w6.heap.size w6 w') := by
        by_cases hx : 0 ≤ x ∧ x < (N : Int)
        · obtain ⟨kk, hkk, h1, h2⟩ := chain_find HW.out.chain hx.1 hx.2
          obtain ⟨g, s, _⟩ := B6.out.2.2
          refine (find_yes s HW.out (by omega) hkk h1 h2).mono ?_
          rintro e w' ⟨he, hb⟩
          exact ⟨el L kk, true, he, ⟨by symm; simpa using hx, fun _ => ⟨kk, hkk, h1, h2, rfl⟩⟩, hb⟩
        · obtain ⟨g, s, _⟩ := B6.out.2.2
          refine (find_no s HW.out (by omega) (by omega)).mono ?_
          rintro e w' ⟨he, hb⟩
          exact ⟨⟨0, 0, false⟩, false, he, ⟨by symm; simpa using hx, fun h => by cases h⟩, hb⟩
      refine HF.out.mono ?_
      rintro e w7 ⟨fr, ok, rfl, hfnd, b7⟩
      have R7 := Lib.hid (R6.out.below b7)
      have T7 := Lib.hid (T6.out.below b7)
      have B7 := Lib.hid (B6.out.below b7)
      have HFN := Lib.hid hfnd
      obtain ⟨xp, xn, xt⟩ := fr
      clear b7 hfnd R6 T6 B6 HF
      have hA : Below w7.heap.size w7 (w7.alloc (.cells #[.int .i64 xp, .int .i64 xn, .bool xt] 40)) := up_alloc (Below.refl _ _) _
      have hX : Blk (w7.alloc (.cells #[.int .i64 xp, .int .i64 xn, .bool xt] 40)) w7.heap.size [.int .i64 xp, .int .i64 xn, .bool xt] 40 := heap_alloc_new w7 _
      have R8 := Lib.hid (R7.out.below hA)
      have T8 := Lib.hid (T7.out.below hA)
      have B8 := Lib.hid (B7.out.below hA)
      have X8 := Lib.hid hX
      have hmm : ((m : Int) != (m : Int)) = false := by simp
      clear hA hX R7 T7 B7
      dsimp only
      go_upto_region 19 with fail
      go_cut [95] (fun s wx => s = .bool false ∧ wx = (w7.alloc (.cells #[.int .i64 xp, .int .i64 xn, .bool xt] 40)))
      case first =>
        by_cases q1 : 0 ≤ x
        · have d1 : decide (0 ≤ x) = true := by simpa using q1
          by_cases q2 : x < (N : Int)
          · have d2 : decide (x < (N : Int)) = true := by simpa using q2
            have hok : ok = true := by rw [HFN.out.1]; simp; omega
            subst hok
            go_wp2_with fail
            go_meet
            case rel => exact ⟨rfl, rfl⟩
          · have d2 : decide (x < (N : Int)) = false := by simpa using q2
            have hok : ok = false := by rw [HFN.out.1]; simp; omega
            subst hok
            go_wp2_with fail
            go_meet
            case rel => exact ⟨rfl, rfl⟩
        · have d1 : decide (0 ≤ x) = false := by simpa using q1
          have hok : ok = false := by rw [HFN.out.1]; simp; omega
          subst hok
          go_wp2_with fail
          go_meet
          case rel => exact ⟨rfl, rfl⟩
      case rest =>
      obtain ⟨rfl, rfl⟩ := hcut
      generalize w7.heap.size = bx at X8
      generalize w7.alloc (.cells #[.int .i64 xp, .int .i64 xn, .bool xt] 40) = w8 at R8 T8 B8 X8
      go_wp2_with fail
      go_loopw [18, 19, 20] (fun f g i wx => ∃ j : Nat, j ≤ m ∧ i = .int .i64 j ∧ f = .int .i64 (fo (fun a b => a + b) (L.take j)) ∧ g = .int .i64 (fo (fun a b => max a b) (L.take j)) ∧ Below w8.heap.size w8 wx) (fun _ _ i _ => m - (intOf i).toNat)
      case atStart => exact ⟨0, by omega, rfl, rfl, rfl, Below.refl _ _⟩
      case round =>
        obtain ⟨j, hj, rfl, rfl, rfl, hbe⟩ := hrel
        have HBE := Lib.hid hbe
        clear hbe
        by_cases hjl : j < m
        · have hjL : j < L.length := by rw [HMM.out]; exact hjl
          obtain ⟨r0, r1, r2⟩ := (R8.out.below HBE.out).cells hjL
          obtain ⟨t0, t1, t2⟩ := (T8.out.below HBE.out).cells hjL
          have hX := X8.out.of (HBE.out.block _ X8.out.lt)
          have x0 : wr.cell? ⟨bx, 0, none⟩ = some (.int .i64 xp) := hX.cell
          have x1 : wr.cell? ⟨bx, 1, none⟩ = some (.int .i64 xn) := hX.cell
          have x2 : wr.cell? ⟨bx, 2, none⟩ = some (.bool xt) := hX.cell
          have n1 : ga ≠ wr.heap.size := by have := (R8.out.below HBE.out).lt; omega
          have n2 : gb ≠ wr.heap.size := by have := (T8.out.below HBE.out).lt; omega
          have n3 : bx ≠ wr.heap.size := by have := hX.lt; omega
          have s1 := Lib.hid (fo_step (fun a b => a + b) hjL)
          have s2 := Lib.hid (fo_step (fun a b => max a b) hjL)
          have hbd := HW.out.bds (by omega) hjL
          have hs1 := sum_in HW.out (by omega) j
          have hs2 := max_in HW.out (by omega) j
          have HIN : Hid (ok = true → (el L j).p ≤ x → x < (el L j).p + (el L j).n → (⟨xp, xn, xt⟩ : Rn) = el L j) := fun hok h1 h2 => by
            obtain ⟨kk, hkk, a1, a2, a3⟩ := HFN.out.2 hok
            rw [a3, chain_one HW.out.chain hkk hjL a1 a2 h1 h2]
          have HOK : Hid (ok = true → 0 ≤ x ∧ x < (N : Int)) := fun h => by have := HFN.out.1; rw [h] at this; simpa using this.symm
          obtain ⟨z, hz⟩ : ∃ z, el L j = z := ⟨_, rfl⟩
          rw [hz] at r0 r1 r2 t0 t1 t2 s1 s2 hbd HIN
          obtain ⟨p, pn, pt⟩ := z
          dsimp only at r0 r1 r2 t0 t1 t2 s1 s2 hbd HIN
          obtain ⟨f1, hf1⟩ : ∃ f1, fo (fun a b => a + b) (L.take j) = f1 := ⟨_, rfl⟩
          obtain ⟨f2, hf2⟩ : ∃ f2, fo (fun a b => max a b) (L.take j) = f2 := ⟨_, rfl⟩
          rw [hf1] at s1 hs1
          rw [hf2] at s2 hs2
          rw [hf1, hf2]
          have j1 : (0 : Int) ≤ (j : Int) := by omega
          have j2 : (j : Int) < (m : Int) := by omega
          have e1 : (p != p) = false := by simp
          have e2 : (pn != pn) = false := by simp
          have hgd : Try.prog.eqGuardType Try.prog.depth 40 = false := by kernel_rfl
          have hre := run_ne p pn pt
          clear hz hf1 hf2 hX
          go_upto_region 27 with fail
          have hA9 : Below wr.heap.size wr (wr.alloc (.cells #[.int .i64 p, .int .i64 pn, .bool pt] 43)) := up_alloc (Below.refl _ _) _
          have hY : Blk (wr.alloc (.cells #[.int .i64 p, .int .i64 pn, .bool pt] 43)) wr.heap.size [.int .i64 p, .int .i64 pn, .bool pt] 43 := heap_alloc_new wr _
          have B9 := Lib.hid (up_trans HBE.out hA9)
          have q0 := (hA9.cell (World.block_lt_of_cell? wr _ r0)).trans r0
          have q1' := (hA9.cell (World.block_lt_of_cell? wr _ r1)).trans r1
          have q2' := (hA9.cell (World.block_lt_of_cell? wr _ r2)).trans r2
          have v0 := (hA9.cell (World.block_lt_of_cell? wr _ x0)).trans x0
          have v1 := (hA9.cell (World.block_lt_of_cell? wr _ x1)).trans x1
          have v2 := (hA9.cell (World.block_lt_of_cell? wr _ x2)).trans x2
          have y0 : (wr.alloc (.cells #[.int .i64 p, .int .i64 pn, .bool pt] 43)).cell? ⟨wr.heap.size, 0, none⟩ = some (.int .i64 p) := hY.cell
          have y1 : (wr.alloc (.cells #[.int .i64 p, .int .i64 pn, .bool pt] 43)).cell? ⟨wr.heap.size, 1, none⟩ = some (.int .i64 pn) := hY.cell
          have y2 : (wr.alloc (.cells #[.int .i64 p, .int .i64 pn, .bool pt] 43)).cell? ⟨wr.heap.size, 2, none⟩ = some (.bool pt) := hY.cell
          generalize wr.heap.size = by' at y0 y1 y2
          generalize wr.alloc (.cells #[.int .i64 p, .int .i64 pn, .bool pt] 43) = w9 at q0 q1' q2' v0 v1 v2 y0 y1 y2 B9
          clear hA9 hY r0 r1 r2 t0 t1 t2 x0 x1 x2 n1 n2 n3
          go_cut [159] (fun s wx => s = .bool false ∧ Drawn w9 wx)
          case first =>
            cases ok with
            | false =>
              go_quiet (fail)
              go_wp2_with fail
              go_meet
              case rel => exact ⟨rfl, (Drawn.refl _).on nq⟩
            | true =>
              have hxb := HOK.out rfl
              have hwr : IntKind.i64.wrap (x - p) = x - p := by rw [IntKind.wrap_i64]; omega
              by_cases q1 : p ≤ x
              · have d1 : decide (p ≤ x) = true := by simpa using q1
                by_cases q2 : x - p < pn
                · have d2 : decide (x - p < pn) = true := by simpa using q2
                  have heq := HIN.out rfl q1 (by omega)
                  simp only [Rn.mk.injEq] at heq
                  obtain ⟨rfl, rfl, rfl⟩ := heq
                  go_quiet (fail)
                  go_wp2_with fail
                  go_meet
                  case rel => exact ⟨rfl, (Drawn.refl _).on nq⟩
                · have d2 : decide (x - p < pn) = false := by simpa using q2
                  go_quiet (fail)
                  go_wp2_with fail
                  go_meet
                  case rel => exact ⟨rfl, (Drawn.refl _).on nq⟩
              · have d1 : decide (p ≤ x) = false := by simpa using q1
                go_quiet (fail)
                go_wp2_with fail
                go_meet
                case rel => exact ⟨rfl, (Drawn.refl _).on nq⟩
          case rest =>
          obtain ⟨rfl, hdr⟩ := hcut
          have z1 := hdr.cell y1
          have z2 := hdr.cell y2
          have BC := Lib.hid (up_trans B9.out hdr.below)
          clear hdr q0 q1' q2' v0 v1 v2 y0 y1 y2 hre hgd HIN HOK
          cases pt with
          | true =>
            go_wp2
            go_roundw
            case rel => exact ⟨j + 1, by omega, by go_num, by rw [s1.out, if_pos rfl], by rw [s2.out, if_pos rfl], BC.out⟩
            case measure => simp [intOf]; omega
          | false =>
            go_wp2
            refine ⟨⟨j + 1, by omega, by go_num, by rw [s1.out, if_neg (by simp)], ?_, BC.out⟩, by simp [intOf]; omega⟩
            have es2 := s2.out
            rw [if_neg (by simp)] at es2
            rw [es2]
            congr 1
            by_cases hmx : f2 < pn
            · rw [if_pos hmx]; omega
            · rw [if_neg hmx]; omega
        · obtain rfl : j = m := by omega
          have e1 : L.take j = L := List.take_of_length_le (by rw [HMM.out]; omega)
          rw [e1]
          have HBX := Lib.hid (B8.out.below HBE.out)
          clear e1 R8 T8 B8 X8 HBE HFN
          go_wp2_with fail
          refine (rruns_any HBX.out.1 HW.out (by omega)).mono ?_
          rintro e w10 ⟨g10, c10, rfl, _, _, b10⟩
          have B10 := Lib.hid (HBX.out.below b10)
          rw [HMM.out]
          clear b10 HBX
          have HRT := Lib.hid (rtake_any x a B10.out.1 HW.out (by omega))
          have hct := can_tke L x a
          have HCAN : Hid (∀ W K, Live w q K L W → Calls Try.prog 17 #[.pointer (some ⟨q, 0, none⟩), .int .i64 x, .int .i64 a] W fun e w' => e = .returned (.bool (tke L x a == 0)) ∧ Live w q K L w') := fun W K hL => by
            have := live_can x a hL HW.out (by omega)
            rwa [hct] at this
          clear hct
          generalize tkv L x a = v1 at HRT
          generalize tke L x a = v2 at HRT HCAN
          go_wp2_with fail
          refine HRT.out.mono ?_
          rintro e w11 ⟨rfl, r11, g11⟩
          have B11 := Lib.hid (B10.out.doc r11 g11)
          clear r11 g11 HRT B10
          have HL0 := Lib.hid B11.out.2.2
          go_wp2_with fail
          refine (live_free HL0.out HW.out (by omega)).mono ?_
          rintro e w12 ⟨rfl, l12⟩
          have L12 := Lib.hid l12
          have f1 : (fsum L == fo (fun a b => a + b) L) = true := by simp [fsum]
          clear l12
          go_wp2_with fail
          refine (live_largest L12.out HW.out (by omega)).mono ?_
          rintro e w13 ⟨rfl, l13⟩
          have L13 := Lib.hid l13
          have f2 : (fmax L == fo (fun a b => max a b) L) = true := by simp [fmax]
          clear l13 L12
          go_wp2_with fail
          refine (HCAN.out _ _ L13.out).mono ?_
          rintro e w14 ⟨rfl, l14⟩
          have L14 := Lib.hid l14
          have f3 : ((v2 == 0) == (v2 == 0)) = true := by simp
          clear l14 L13
          go_wp2_with fail
          refine (live_runs L14.out HW.out (by omega)).mono ?_
          rintro e w15 ⟨⟨g15, c15, rfl, _, _, _⟩, l15⟩
          have L15 := Lib.hid l15
          have f4 : ((j : Int) == (j : Int)) = true := by simp
          rw [HMM.out]
          clear l15 L14
          go_wp2
          go_ret
          exact ⟨rfl, L15.out.bel⟩
theorem calls_any (N x a : Int) (A : Option Addr) (l : List (Bool × Int × Int)) (c : Nat) (w : World) (hcs : CA w.heap.size w A l) :
    Calls Try.prog 3 #[.int .i64 N, .slice A l.length c, .int .i64 x, .int .i64 a] w fun e w' => e = .returned (.bool true) ∧ Below w.heap.size w w' := by
  by_cases h : 200 < N ∨ 100 < l.length
  · exact calls_great N x a A _ c w h
  · by_cases h2 : N < 0
    · exact calls_no N x a A _ c w h h2
    · obtain ⟨M, rfl⟩ := Int.eq_ofNat_of_zero_le (by omega : 0 ≤ N)
      exact calls_main M x a A l c w hcs (by omega) (by omega)
end Go.Proofs.Ytbfcejmifmeigaa
