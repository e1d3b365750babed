/-
  The law on every row of calls, walked: a contract that the claimed proof uses.
-/
import Derived.Test.YtjbndkbjoefeoaaBoth
namespace Go.Proofs.Ytjbndkbjoefeoaa
open Go.RowKit Go.Maps

/-- A region that draws its order, whose operations read what is the same in every world of a class, and whose calls leave worlds of it. -/
theorem region_of {id : Nat} {Q : Exit → Act → World → Prop} {a : Act} {w : World} {l : List Oper} (S : World → Prop) (hm : Try.prog.follows .mixedOrders = true) (hB : Region.lexB .any l.toArray = true) (hS : S w.drew)
    (h : ∀ (ι : Type) (_ : Nonempty ι) (f : ι → World), (∀ n, S (f n)) → (∀ W, S W → ∃ n, W = f n) → wpQuiet Try.prog l.toArray (fun w' => ∃ n, w' = f n) (fun a' => ∀ w', (∃ n, w' = f n) → Q .normal a' w') l a) :
    (Code.region id l.toArray true).wp Try.prog Q a w :=
  wp_region_quiet (C := fun w' => ∃ n : {W // S W}, w' = n.1) hm hB ⟨⟨w.drew, hS⟩, rfl⟩ (by simpa using h {W // S W} ⟨⟨w.drew, hS⟩⟩ Subtype.val (fun n => n.2) (fun W hW => ⟨⟨W, hW⟩, rfl⟩))
set_option maxRecDepth 100000 in
theorem calls_great (C kind : Int) (ask : Row) (A : Option Addr) (m c : Nat) (w : World) (h : 200 < m) :
    Calls Try.prog 3 #[.int .i64 C, .slice A m c, .int .i64 kind, .agg #[.int .i64 (ask 0), .int .i64 (ask 1), .int .i64 (ask 2), .int .i64 (ask 3), .int .i64 (ask 4), .int .i64 (ask 5), .int .i64 (ask 6), .int .i64 (ask 7)]] w fun e w' => e = .returned (.bool true) ∧ Below w.heap.size w w' := by
  have d : decide ((200 : Int) < (m : Int)) = true := by simp; omega
  have HB := Lib.hid (up_alloc (Below.refl _ w) (.cells #[.int .i64 (ask 0), .int .i64 (ask 1), .int .i64 (ask 2), .int .i64 (ask 3), .int .i64 (ask 4), .int .i64 (ask 5), .int .i64 (ask 6), .int .i64 (ask 7)] 24))
  go_enter Try.func3, Try.ntmps3
  go_wp2_with fail
  refine (alive_any _).mono ?_
  rintro e w1 ⟨rfl, b1⟩
  have B1 := Lib.hid (up_trans HB.out b1)
  clear b1
  go_wp2
  go_ret
  exact ⟨rfl, B1.out⟩
set_option maxRecDepth 100000 in
theorem calls_no (C kind : Int) (ask : Row) (A : Option Addr) (m c : Nat) (w : World) (h : ¬ 200 < m) (hC : ¬ (0 ≤ C ∧ C ≤ 1099511627776)) :
    Calls Try.prog 3 #[.int .i64 C, .slice A m c, .int .i64 kind, .agg #[.int .i64 (ask 0), .int .i64 (ask 1), .int .i64 (ask 2), .int .i64 (ask 3), .int .i64 (ask 4), .int .i64 (ask 5), .int .i64 (ask 6), .int .i64 (ask 7)]] w fun e w' => e = .returned (.bool true) ∧ Below w.heap.size w w' := by
  have d : decide ((200 : Int) < (m : Int)) = false := by simp; omega
  have HB := Lib.hid (up_alloc (Below.refl _ w) (.cells #[.int .i64 (ask 0), .int .i64 (ask 1), .int .i64 (ask 2), .int .i64 (ask 3), .int .i64 (ask 4), .int .i64 (ask 5), .int .i64 (ask 6), .int .i64 (ask 7)] 24))
  go_enter Try.func3, Try.ntmps3
  go_wp2_with fail
  refine (alive_any _).mono ?_
  rintro e w1 ⟨rfl, b1⟩
  have B1 := Lib.hid (up_trans HB.out b1)
  clear b1
  go_wp2_with fail
  refine (new_no C w1 hC).mono ?_
  rintro e w2 ⟨rfl, rfl⟩
  go_wp2_with fail
  refine (rnew_no C w1 hC).mono ?_
  rintro e w2 ⟨rfl, rfl⟩
  go_wp2
  go_ret
  exact ⟨rfl, B1.out⟩
set_option maxRecDepth 100000 in
set_option maxHeartbeats 4000000 in
theorem calls_main (C kind : Int) (ask : Row) (A : Option Addr) (l : List Cl) (c : Nat) (w : World) (hcs : CA w.heap.size w A l) (hl : ¬ 200 < l.length) (h0 : 0 ≤ C) (h1 : C ≤ 1099511627776) (hok : okR ask) :
    Calls Try.prog 3 #[.int .i64 C, .slice A l.length c, .int .i64 kind, .agg #[.int .i64 (ask 0), .int .i64 (ask 1), .int .i64 (ask 2), .int .i64 (ask 3), .int .i64 (ask 4), .int .i64 (ask 5), .int .i64 (ask 6), .int .i64 (ask 7)]] w fun e w' => e = .returned (.bool true) ∧ Below w.heap.size w w' := by
  have HCS := Lib.hid hcs
  have HOK := Lib.hid hok
  obtain ⟨m, hm⟩ : ∃ m, l.length = m := ⟨_, rfl⟩
  have HMM := Lib.hid hm
  rw [hm] at hl ⊢
  clear hcs hm hok
  have d : decide ((200 : Int) < (m : Int)) = false := by simp; omega
  have hB0 := up_alloc (Below.refl _ w) (.cells #[.int .i64 (ask 0), .int .i64 (ask 1), .int .i64 (ask 2), .int .i64 (ask 3), .int .i64 (ask 4), .int .i64 (ask 5), .int .i64 (ask 6), .int .i64 (ask 7)] 24)
  have K0 : Hid (Blk (w.alloc (.cells #[.int .i64 (ask 0), .int .i64 (ask 1), .int .i64 (ask 2), .int .i64 (ask 3), .int .i64 (ask 4), .int .i64 (ask 5), .int .i64 (ask 6), .int .i64 (ask 7)] 24)) w.heap.size (rowL ask) 24) := heap_alloc_last w _
  have B0 := Lib.hid hB0
  clear hB0
  go_enter Try.func3, Try.ntmps3
  go_wp2_with fail
  generalize w.alloc (.cells #[.int .i64 (ask 0), .int .i64 (ask 1), .int .i64 (ask 2), .int .i64 (ask 3), .int .i64 (ask 4), .int .i64 (ask 5), .int .i64 (ask 6), .int .i64 (ask 7)] 24) = w0' at B0 K0 ⊢
  refine (alive_any w0').mono ?_
  rintro e w1 ⟨rfl, b1⟩
  have B1 := Lib.hid (up_trans B0.out b1)
  have K1 := Lib.hid (K0.out.of (b1.block _ K0.out.lt))
  clear b1 B0 K0
  go_wp2_with fail
  refine (new_yes C w1 h0 h1).mono ?_
  rintro e w2 ⟨q, b, rfl, l2, hq, hb, b2⟩
  have hsz := B1.out.size
  have hq' : w.heap.size ≤ q := by omega
  have hb' : w.heap.size ≤ b := by omega
  have L2 := Lib.hid l2
  have K2 := Lib.hid (K1.out.of (b2.block _ K1.out.lt))
  have B2 := Lib.hid (up_trans B1.out b2)
  clear l2 b2 B1 K1 hq hb hsz
  go_wp2_with fail
  refine (rnew_yes (B := w.heap.size) C w2 h0 h1 B2.out.size).mono ?_
  rintro e w3 ⟨p, rfl, r3, b3⟩
  obtain ⟨ga, hga⟩ : ∃ ga, w.heap.size = ga := ⟨_, rfl⟩
  have E3 : Hid (Ev w q b p ga C (rn C l 0) (rn C l 0) ask w3) := ⟨L2.out.below b3, r3, by rw [← hga]; exact K2.out.of (b3.block _ K2.out.lt), up_trans B2.out b3⟩
  rw [hga] at hq' hb' ⊢
  have HGA := Lib.hid hga
  clear hga r3 b3 L2 K2 B2
  go_wp2_with fail
  go_loopw [13] (fun i wr => ∃ k : Nat, k ≤ m ∧ i = .int .i64 k ∧ Ev w q b p ga C (rn C l k) (rn C l k) ask wr) (fun i _ => m - (intOf i).toNat)
  case atStart => exact ⟨0, by omega, rfl, E3.out⟩
  case round =>
    obtain ⟨i, hi, rfl, hev⟩ := hrel
    have EV := Lib.hid hev
    clear hev E3
    by_cases hlt : i < m
    · obtain ⟨cb, co, rfl, hcb, hcell⟩ := HCS.out (by rw [HMM.out]; omega)
      obtain ⟨x0, x1, x2, x3⟩ := hcell i (by rw [HMM.out]; exact hlt)
      have c0 := (EV.out.bel.cell (p := ⟨cb, co + i * 4, none⟩) hcb).trans x0
      have c1 := (EV.out.bel.cell (p := ⟨cb, co + i * 4 + 1, none⟩) hcb).trans x1
      have c2 := (EV.out.bel.cell (p := ⟨cb, co + i * 4 + 2, none⟩) hcb).trans x2
      have c3 := (EV.out.bel.cell (p := ⟨cb, co + i * 4 + 3, none⟩) hcb).trans x3
      have hwf := rn_wf h0 h1 l i
      have hln := rn_len C l i
      have HW2 := Lib.hid (rn_wf h0 h1 l (i + 1))
      have hs : opS C (rn C l i) (cl l i).1 (cl l i).2.1 (cl l i).2.2.1 (cl l i).2.2.2 = rn C l (i + 1) := rfl
      have HDO : Hid (∀ W, Led W q b C (rn C l i) → Calls Try.prog 9 #[.pointer (some ⟨q, 0, none⟩), .agg #[.int .i64 (cl l i).1, .int .i64 (cl l i).2.1, .int .i64 (cl l i).2.2.1, .int .i64 (cl l i).2.2.2]] W fun e w' => e = .returned (.int .i64 (opE C (hd (rn C l i)) (cl l i).1 (cl l i).2.1 (cl l i).2.2.1 (cl l i).2.2.2)) ∧ Led w' q b C (rn C l (i + 1)) ∧ Fr q b W w') := fun W hL => do_any _ _ _ _ hL hwf (by omega)
      have HRD : Hid (∀ W, Rf w.heap.size W p C (rn C l i) → w.heap.size ≤ W.heap.size → Calls Try.prog 10 #[.pointer (some ⟨p, 0, none⟩), .int .i64 (wh (cl l i).1), .int .i64 (cl l i).2.1, .int .i64 (cl l i).2.2.1, .int .i64 (cl l i).2.2.2] W fun e w' => e = .returned (.int .i64 (opE C (hd (rn C l i)) (cl l i).1 (cl l i).2.1 (cl l i).2.2.1 (cl l i).2.2.2)) ∧ Rf w.heap.size w' p C (rn C l (i + 1)) ∧ Ft w.heap.size W w') := fun W hR hz => rdo_any _ _ _ _ hR hwf (by omega) hz
      have hln2 := rn_len C l (i + 1)
      have y1 : (0 : Int) ≤ (i : Int) := by omega
      have y2 : (i : Int) < (m : Int) := by omega
      generalize opE C (hd (rn C l i)) (cl l i).1 (cl l i).2.1 (cl l i).2.2.1 (cl l i).2.2.2 = er at HDO HRD
      generalize (cl l i).1 = a0 at *
      generalize (cl l i).2.1 = a1 at *
      generalize (cl l i).2.2.1 = a2 at *
      generalize (cl l i).2.2.2 = a3 at *
      obtain ⟨S', hS'⟩ : ∃ S', rn C l (i + 1) = S' := ⟨_, rfl⟩
      rw [hS'] at HDO HRD HW2 hln2
      have HSS := Lib.hid hS'
      obtain ⟨S, hS⟩ : ∃ S, rn C l i = S := ⟨_, rfl⟩
      rw [hS] at HDO HRD EV
      have hB5 := up_alloc (Below.refl _ wr) (.cells #[.int .i64 a0, .int .i64 a1, .int .i64 a2, .int .i64 a3] 34)
      have K5 : Hid (Blk (wr.alloc (.cells #[.int .i64 a0, .int .i64 a1, .int .i64 a2, .int .i64 a3] 34)) wr.heap.size (cL a0 a1 a2 a3) 34) := heap_alloc_last wr _
      have E5 := Lib.hid (EV.out.below hB5)
      obtain ⟨f', hf'⟩ : ∃ f', hd S' = f' := ⟨_, rfl⟩
      have HFF := Lib.hid hf'
      clear hcell x0 x1 x2 x3 hs hwf hln hS' hB5 hS EV hf'
      go_wp2_with fail
      generalize wr.alloc (.cells #[.int .i64 a0, .int .i64 a1, .int .i64 a2, .int .i64 a3] 34) = w5 at K5 E5 ⊢
      obtain ⟨gc, hgc⟩ : ∃ gc, wr.heap.size = gc := ⟨_, rfl⟩
      rw [hgc] at K5 ⊢
      clear hgc c0 c1 c2 c3
      have E5d : Hid (Ev w q b p ga C S S ask w5.drew) := E5.out.below (Below.refl _ _).drew
      have K5d : Hid (Blk w5.drew gc (cL a0 a1 a2 a3) 34) := K5.out
      have S5 := cL_4 K5.out
      have der : (er != er) = false := by simp
      have hrn : ∀ W : World, (Op.equalIn 10000 24 (rowV f') (rowV f')).run Try.prog W = .ok true W := fun W => by
        have := row_eq W f' f'; rwa [eqB_refl] at this
      have hrn2 : ∀ W : World, (binOp .neq 24 (rowV f') (rowV f')).run Try.prog W = .ok (.bool false) W := fun W => by
        have := row_neq W f' f'; rwa [eqB_refl] at this
      have hrg := fun W x y => row_guard .neq W x y f' f'
      go_region_held3 (fun W => W.cell? ⟨gc, 0, none⟩ = some (.int .i64 a0) ∧ W.cell? ⟨gc, 1, none⟩ = some (.int .i64 a1) ∧ W.cell? ⟨gc, 2, none⟩ = some (.int .i64 a2) ∧ W.cell? ⟨gc, 3, none⟩ = some (.int .i64 a3))
        (first | exact S11 | exact S10 | exact S9 | exact S8 | exact S7 | exact S6 | exact S5)
        ((first
          | (go_at_call 9; refine (HDO.out _ E5d.out.one).mono ?_; rintro e w6 ⟨rfl, l6, f6⟩; have E6 := Lib.hid (E5d.out.turned l6 f6 (by rw [HGA.out]; exact hq') (by rw [HGA.out]; exact hb')); have K6 := Lib.hid (E5d.out.blk f6 K5d.out (by decide)); have S6 := cL_4 K6.out; clear l6 f6)
          | (go_at_call 11; refine (what_any a0 a1 a2 a3 w6).mono ?_; rintro e w7 ⟨rfl, b7⟩; have E7 := Lib.hid (E6.out.below b7); have K7 := Lib.hid (K6.out.of (b7.block _ K6.out.lt)); have S7 := cL_4 K7.out; clear b7)
          | (go_at_call 10; refine (HRD.out _ E7.out.two E7.out.bel.size).mono ?_; rintro e w8 ⟨rfl, r8, f8⟩; have E8 := Lib.hid (E7.out.told r8 f8); have K8 := Lib.hid (f8.keep _ _ _ K7.out (by decide) (by decide)); have S8 := cL_4 K8.out; clear r8 f8)
          | (go_at_call 12; refine (all_any E8.out.one.blk).mono ?_; rw [HFF.out]; rintro e w9 ⟨rfl, b9⟩; have E9 := Lib.hid (E8.out.below b9); have K9 := Lib.hid (K8.out.of (b9.block _ K8.out.lt)); have S9 := cL_4 K9.out; clear b9)
          | (go_at_call 14; refine (now_any E9.out.two HW2.out.ne (by omega)).mono ?_; rw [HFF.out]; rintro e w10 ⟨r0, c0, rfl, hr0, hd0⟩; have E10 := Lib.hid (E9.out.below hd0.below); have K10 := Lib.hid (K9.out.of (hd0.below.block _ K9.out.lt)); have S10 := cL_4 K10.out; have R10 := Lib.hid (hr0.below hd0.below); clear hr0 hd0)
          | (go_at_call 13; refine (row_any R10.out).mono ?_; rintro e w11 ⟨rfl, b11⟩; have E11 := Lib.hid (E10.out.below b11); have K11 := Lib.hid (K10.out.of (b11.block _ K10.out.lt)); have S11 := cL_4 K11.out; clear b11)))
      go_wp2
      go_roundw
      case rel => exact ⟨i + 1, by omega, by go_num, by rw [HSS.out]; exact E11.out⟩
      case measure => simp [intOf]; omega
    · obtain rfl : i = m := by omega
      have hwf := rn_wf h0 h1 l i
      have hln := rn_len C l i
      obtain ⟨S, hS⟩ : ∃ S, rn C l i = S := ⟨_, rfl⟩
      rw [hS] at EV hwf hln
      obtain ⟨f, hf⟩ : ∃ f, hd S = f := ⟨_, rfl⟩
      have HFF := Lib.hid hf
      have HWF := Lib.hid hwf
      have hlen : S.length ≤ 201 := by omega
      have hgd : Gd C f := by rw [← hf]; exact hwf.hd
      have HGD := Lib.hid hgd
      have HOF := Lib.hid (hgd.ok h1)
      clear hS hf hwf hln HCS HMM hlt hi hgd
      go_wp2_with fail
      refine (now_any EV.out.two HWF.out.ne (by omega)).mono ?_
      rw [HFF.out]
      rintro e w4 ⟨rx, cx, rfl, hr0, hd0⟩
      have E4 := Lib.hid (EV.out.below hd0.below)
      have R4 := Lib.hid (hr0.below hd0.below)
      clear hr0 hd0 EV
      go_upto_region 19 with fail
      go_cut [91] (fun s wx => s = .bool (kindB kind) ∧ wx = w4)
      case first =>
        by_cases k0 : 0 ≤ kind
        · have dk : decide (0 ≤ kind) = true := by simpa using k0
          have ek : kindB kind = decide (kind < 8) := by simp [kindB, k0]
          have HK := Lib.hid ek
          clear ek
          go_wp2_with fail
          go_meet
          case rel => exact ⟨by rw [HK.out], rfl⟩
        · have dk : decide (0 ≤ kind) = false := by simpa using k0
          have ek : kindB kind = false := by simp [kindB, k0]
          have HK := Lib.hid ek
          clear ek
          go_wp2_with fail
          go_meet
          case rel => exact ⟨by rw [HK.out], rfl⟩
      case rest =>
      obtain ⟨rfl, rfl⟩ := hcut
      go_upto_if 91 with fail
      go_cut [16] (fun s wx => s = .int .i64 (heldOf f kind) ∧ wx = wc)
      case first =>
        cases hk : kindB kind with
        | true =>
          obtain ⟨k0, k1⟩ := kindB_iff.1 hk
          have cK := R4.out.cell (j := kind.toNat) (by omega)
          have hkk : (kind.toNat : Int) = kind := by omega
          have eh : heldOf f kind = f kind.toNat := by unfold heldOf; rw [if_pos hk]
          have HE := Lib.hid eh
          clear eh
          go_wp2_with fail
          go_meet
          case rel => exact ⟨by rw [HE.out], rfl⟩
        | false =>
          have eh : heldOf f kind = 0 := by unfold heldOf; rw [if_neg (by rw [hk]; decide)]
          have HE := Lib.hid eh
          clear eh
          go_wp2_with fail
          go_meet
          case rel => exact ⟨by rw [HE.out], rfl⟩
      case rest =>
      obtain ⟨rfl, rfl⟩ := hcut
      obtain ⟨w5, hw5⟩ : ∃ w5 : World, w5 = wc := ⟨wc, rfl⟩
      subst hw5
      go_wp2_with fail
      obtain ⟨N, hN⟩ : ∃ N, S.length = N := ⟨_, rfl⟩
      have HN := Lib.hid hN
      rw [hN] at hlen
      clear hN
      go_loopw [17, 18, 19, 20] (fun pe se sa i wr => ∃ j : Nat, j ≤ N ∧ i = .int .i64 j ∧ pe = .int .i64 (pk (fst' S j)) ∧ se = .int .i64 (cn (fst' S j) ask : Nat) ∧ sa = .int .i64 (cn (fst' S j) f : Nat) ∧ Ev w q b p ga C S S ask wr ∧ RowS wr (.slice (some ⟨rx, 0, none⟩) 8 cx) f) (fun _ _ _ i _ => N - (intOf i).toNat)
      case atStart => exact ⟨0, by omega, rfl, by rw [fst_zero]; rfl, by rw [fst_zero]; rfl, by rw [fst_zero]; rfl, E4.out, R4.out⟩
      case round =>
        obtain ⟨j, hj, rfl, rfl, rfl, rfl, hev, hrs⟩ := hrel
        have E6 := Lib.hid hev
        have R6 := Lib.hid hrs
        clear hev hrs E4 R4
        obtain ⟨gg, gcap, _, cp1, hrow⟩ := E6.out.two.cells
        rw [HN.out] at cp1 hrow
        by_cases hlt : j < N
        · obtain ⟨r, c', crow, hrw⟩ := hrow j hlt
          have hjl : j < S.length := by rw [HN.out]; exact hlt
          have hgj : Gd C (ato S j) := HWF.out.all _ (ato_mem hjl)
          have hfs := fst_succ hjl
          have HPK : Hid (pk (fst' S (j + 1)) = max (pk (fst' S j)) (tot (ato S j))) := by rw [hfs]; rfl
          have HC1 : Hid (((cn (fst' S (j + 1)) ask : Nat) : Int) = (cn (fst' S j) ask : Nat) + (if eqB (ato S j) ask = true then 1 else 0)) := by
            rw [hfs, cn_cons]; split <;> rfl
          have HC2 : Hid (((cn (fst' S (j + 1)) f : Nat) : Int) = (cn (fst' S j) f : Nat) + (if eqB (ato S j) f = true then 1 else 0)) := by
            rw [hfs, cn_cons]; split <;> rfl
          have hl1 := cn_le (fst' S j) ask
          have hl2 := cn_le (fst' S j) f
          have hl3 : (fst' S j).length ≤ S.length := by unfold fst'; rw [List.length_drop]; omega
          rw [HN.out] at hl3
          have RW := Lib.hid hrw
          have HSM := Lib.hid (sum_any hrw hgj h1)
          obtain ⟨fx, hfx⟩ : ∃ fx, ato S j = fx := ⟨_, rfl⟩
          rw [hfx] at HPK HC1 HC2 RW HSM
          have y1 : (0 : Int) ≤ (j : Int) := by omega
          have y2 : (j : Int) < (N : Int) := by omega
          have w1' := i64_in (((cn (fst' S j) ask : Nat) : Int) + 1) (by omega) (by omega)
          have w2' := i64_in (((cn (fst' S j) f : Nat) : Int) + 1) (by omega) (by omega)
          generalize tot fx = T at HPK HSM
          generalize pk (fst' S j) = P at HPK ⊢
          generalize ((cn (fst' S j) ask : Nat) : Int) = X at HC1 w1' ⊢
          generalize ((cn (fst' S j) f : Nat) : Int) = Y at HC2 w2' ⊢
          have emx : (if P < T then T else P) = max P T := by omega
          clear hrow hrw hgj hfs hl1 hl2 hl3 hfx hjl
          go_wp2_with fail
          refine HSM.out.mono ?_
          rintro e w' ⟨rfl, rfl⟩
          go_wp2_with fail
          obtain ⟨D1, hD1⟩ : ∃ D1, eqB fx ask = D1 := ⟨_, rfl⟩
          obtain ⟨D2, hD2⟩ : ∃ D2, eqB fx f = D2 := ⟨_, rfl⟩
          have hre : ∀ W : World, (binOp .eql 24 (rowV fx) (.agg #[.int .i64 (ask 0), .int .i64 (ask 1), .int .i64 (ask 2), .int .i64 (ask 3), .int .i64 (ask 4), .int .i64 (ask 5), .int .i64 (ask 6), .int .i64 (ask 7)])).run Try.prog W = .ok (.bool D1) W := fun W => by
            have := row_eql W fx ask; rwa [hD1] at this
          have hrg : ∀ (W : World) (x y : Operand), (eqGuard .eql 24 x y (rowV fx) (.agg #[.int .i64 (ask 0), .int .i64 (ask 1), .int .i64 (ask 2), .int .i64 (ask 3), .int .i64 (ask 4), .int .i64 (ask 5), .int .i64 (ask 6), .int .i64 (ask 7)])).run Try.prog W = .ok () W := fun W x y => row_guard .eql W x y fx ask
          have hre2 : ∀ W : World, (binOp .eql 24 (rowV fx) (rowV f)).run Try.prog W = .ok (.bool D2) W := fun W => by
            have := row_eql W fx f; rwa [hD2] at this
          have hrg2 := fun W x y => row_guard .eql W x y fx f
          rw [hD1] at HC1
          rw [hD2] at HC2
          clear hD1 hD2 emx HSM
          refine region_of (fun W => Below wr.heap.size wr W) (by kernel_rfl) (by kernel_rfl) (Below.refl _ _).drew ?_
          intro ι ine fw hS hT
          have HS := Lib.hid hS
          have s0 : ∀ n, (fw n).cell? ⟨p, 1, none⟩ = some (.slice (some ⟨gg, 0, none⟩) N gcap) := fun n => ((HS.out n).cell (World.block_lt_of_cell? wr _ cp1)).trans cp1
          have s1 : ∀ n, (fw n).cell? ⟨gg, j, none⟩ = some (.slice (some ⟨r, 0, none⟩) 8 c') := fun n => ((HS.out n).cell (World.block_lt_of_cell? wr _ crow)).trans crow
          have A : Hid (∀ n, Blk (fw n) ga (rowL ask) 24) := fun n => E6.out.row.of ((HS.out n).block _ E6.out.row.lt)
          have t0 : ∀ n, (fw n).cell? ⟨ga, 0, none⟩ = some (.int .i64 (ask 0)) := fun n => (A.out n).cell
          have t1 : ∀ n, (fw n).cell? ⟨ga, 1, none⟩ = some (.int .i64 (ask 1)) := fun n => (A.out n).cell
          have t2 : ∀ n, (fw n).cell? ⟨ga, 2, none⟩ = some (.int .i64 (ask 2)) := fun n => (A.out n).cell
          have t3 : ∀ n, (fw n).cell? ⟨ga, 3, none⟩ = some (.int .i64 (ask 3)) := fun n => (A.out n).cell
          have t4 : ∀ n, (fw n).cell? ⟨ga, 4, none⟩ = some (.int .i64 (ask 4)) := fun n => (A.out n).cell
          have t5 : ∀ n, (fw n).cell? ⟨ga, 5, none⟩ = some (.int .i64 (ask 5)) := fun n => (A.out n).cell
          have t6 : ∀ n, (fw n).cell? ⟨ga, 6, none⟩ = some (.int .i64 (ask 6)) := fun n => (A.out n).cell
          have t7 : ∀ n, (fw n).cell? ⟨ga, 7, none⟩ = some (.int .i64 (ask 7)) := fun n => (A.out n).cell
          have HRW := Lib.hid (fun n => (row_any (RW.out.below (hS n))).mono fun e w' ⟨he, hb⟩ => show _ ∧ ∃ j, w' = fw j from ⟨he, hT w' (up_trans (hS n) hb)⟩)
          clear hS hT
          repeat (go_big_quiet_step ((go_at_call 13; exact HRW.out _)))
          refine wpQuiet_nil ?_
          rintro _ ⟨n1, rfl⟩
          have b7 := HS.out n1
          have E7 := Lib.hid (E6.out.below b7)
          have R7 := Lib.hid (R6.out.below b7)
          have RW7 := Lib.hid (RW.out.below b7)
          have cp1' := s0 n1
          have crow' := s1 n1
          clear s0 s1 t0 t1 t2 t3 t4 t5 t6 t7 A HRW HS b7 E6 R6 RW cp1 crow
          generalize fw n1 = w7 at *
          cases D1
          all_goals (
            go_wp2_with fail
            refine (row_any RW7.out).mono ?_
            rintro e w8 ⟨rfl, b8⟩
            have E8 := Lib.hid (E7.out.below b8)
            have R8 := Lib.hid (R7.out.below b8)
            clear b8
            go_wp2_with fail
            refine (row_any R8.out).mono ?_
            rintro e w9 ⟨rfl, b9⟩
            have E9 := Lib.hid (E8.out.below b9)
            have R9 := Lib.hid (R8.out.below b9)
            clear b9
            cases D2)
          all_goals (
            go_wp2
            go_roundw
            case rel => exact ⟨j + 1, by omega, by go_num, by rw [HPK.out], by rw [HC1.out]; simp, by rw [HC2.out]; simp, E9.out, R9.out⟩
            case measure => simp [intOf]; omega)
        · obtain rfl : j = N := by omega
          have hfst : fst' S j = S := by have := fst_all S; rwa [HN.out] at this
          rw [hfst]
          have HHD : Hid (∀ W, Ev w q b p ga C S S ask W → Calls Try.prog 16 #[.pointer (some ⟨q, 0, none⟩), .int .i64 kind] W fun e w' => e = .returned (.int .i64 (heldOf f kind)) ∧ W = w') := fun W h => by
            have := held_any kind h.one.blk; rwa [HFF.out] at this
          have HTO : Hid (∀ W, Ev w q b p ga C S S ask W → Calls Try.prog 17 #[.pointer (some ⟨q, 0, none⟩)] W fun e w' => e = .returned (.int .i64 (tot f)) ∧ W = w') := fun W h => by
            have := total_any h.one.blk HWF.out.hd h1; rwa [HFF.out] at this
          have HLE : Hid (∀ W, Ev w q b p ga C S S ask W → Calls Try.prog 18 #[.pointer (some ⟨q, 0, none⟩)] W fun e w' => e = .returned (.int .i64 (C - tot f)) ∧ Drawn W w') := fun W h => by
            have := left_any h.one.blk HWF.out.hd h1; rwa [HFF.out] at this
          have HPK : Hid (∀ W, Ev w q b p ga C S S ask W → Calls Try.prog 19 #[.pointer (some ⟨q, 0, none⟩)] W fun e w' => e = .returned (.int .i64 (pk S)) ∧ W = w') := fun W h => peak_any h.one.blk
          have HSM : Hid (∀ W, RowS W (.slice (some ⟨rx, 0, none⟩) 8 cx) f → Calls Try.prog 15 #[.slice (some ⟨rx, 0, none⟩) 8 cx] W fun e w' => e = .returned (.int .i64 (tot f)) ∧ W = w') := fun W h => sum_any h HGD.out h1
          have HSA : Hid (∀ W, Ev w q b p ga C S S ask W → Calls Try.prog 20 #[.pointer (some ⟨q, 0, none⟩), .agg #[.int .i64 (ask 0), .int .i64 (ask 1), .int .i64 (ask 2), .int .i64 (ask 3), .int .i64 (ask 4), .int .i64 (ask 5), .int .i64 (ask 6), .int .i64 (ask 7)]] W fun e w' => e = .returned (.int .i64 (cn S ask : Nat)) ∧ Below W.heap.size W w') := fun W h => seen_any h.one HOK.out
          have HSF : Hid (∀ W, Ev w q b p ga C S S ask W → Calls Try.prog 20 #[.pointer (some ⟨q, 0, none⟩), rowV f] W fun e w' => e = .returned (.int .i64 (cn S f : Nat)) ∧ Below W.heap.size W w') := fun W h => seen_any h.one HOF.out
          have htt := HGD.out.tot
          have hwr := i64_in (C - tot f) (by omega) (by omega)
          clear hrow hfst
          generalize heldOf f kind = h at HHD ⊢
          generalize tot f = T at HTO HLE HSM htt hwr
          generalize pk S = P at HPK ⊢
          generalize ((cn S ask : Nat) : Int) = X at HSA ⊢
          generalize ((cn S f : Nat) : Int) = Y at HSF ⊢
          have d1 : (h == h) = true := by simp
          have d2 : (T == T) = true := by simp
          have d3 : (C - T == C - T) = true := by simp
          have d4 : (P == P) = true := by simp
          have d5 : (X == X) = true := by simp
          have d6 : (Y == Y) = true := by simp
          go_wp2_with fail
          refine (HHD.out _ E6.out).mono ?_
          rintro e w7 ⟨rfl, rfl⟩
          go_wp2_with fail
          refine (HTO.out _ E6.out).mono ?_
          rintro e w7 ⟨rfl, rfl⟩
          go_wp2_with fail
          refine (HSM.out _ R6.out).mono ?_
          rintro e w7 ⟨rfl, rfl⟩
          go_wp2_with fail
          refine (HLE.out _ E6.out).mono ?_
          rintro e w7 ⟨rfl, d7⟩
          have E7 := Lib.hid (E6.out.below d7.below)
          have R7 := Lib.hid (R6.out.below d7.below)
          clear d7 E6 R6 cp1
          go_wp2_with fail
          refine (HSM.out _ R7.out).mono ?_
          rintro e w8 ⟨rfl, rfl⟩
          go_wp2_with fail
          refine (HPK.out _ E7.out).mono ?_
          rintro e w8 ⟨rfl, rfl⟩
          have t0 : w7.cell? ⟨ga, 0, none⟩ = some (.int .i64 (ask 0)) := E7.out.row.cell
          have t1 : w7.cell? ⟨ga, 1, none⟩ = some (.int .i64 (ask 1)) := E7.out.row.cell
          have t2 : w7.cell? ⟨ga, 2, none⟩ = some (.int .i64 (ask 2)) := E7.out.row.cell
          have t3 : w7.cell? ⟨ga, 3, none⟩ = some (.int .i64 (ask 3)) := E7.out.row.cell
          have t4 : w7.cell? ⟨ga, 4, none⟩ = some (.int .i64 (ask 4)) := E7.out.row.cell
          have t5 : w7.cell? ⟨ga, 5, none⟩ = some (.int .i64 (ask 5)) := E7.out.row.cell
          have t6 : w7.cell? ⟨ga, 6, none⟩ = some (.int .i64 (ask 6)) := E7.out.row.cell
          have t7 : w7.cell? ⟨ga, 7, none⟩ = some (.int .i64 (ask 7)) := E7.out.row.cell
          go_wp2_with fail
          refine (HSA.out _ E7.out).mono ?_
          rintro e w8 ⟨rfl, b8⟩
          have E8 := Lib.hid (E7.out.below b8)
          have R8 := Lib.hid (R7.out.below b8)
          clear b8 E7 R7 t0 t1 t2 t3 t4 t5 t6 t7
          go_wp2_with fail
          refine (row_any R8.out).mono ?_
          rintro e w9 ⟨rfl, b9⟩
          have E9 := Lib.hid (E8.out.below b9)
          clear b9 E8 R8
          go_wp2_with fail
          refine (HSF.out _ E9.out).mono ?_
          rintro e w10 ⟨rfl, b10⟩
          have E10 := Lib.hid (E9.out.below b10)
          clear b10 E9
          go_wp2
          go_ret
          exact ⟨rfl, E10.out.bel⟩
theorem calls_any (C kind : Int) (ask : Row) (A : Option Addr) (l : List Cl) (c : Nat) (w : World) (hcs : CA w.heap.size w A l) (hok : okR ask) :
    Calls Try.prog 3 #[.int .i64 C, .slice A l.length c, .int .i64 kind, rowV ask] w fun e w' => e = .returned (.bool true) ∧ Below w.heap.size w w' := by
  by_cases h : 200 < l.length
  · exact calls_great C kind ask A _ c w h
  · by_cases h2 : 0 ≤ C ∧ C ≤ 1099511627776
    · exact calls_main C kind ask A l c w hcs h h2.1 h2.2 hok
    · exact calls_no C kind ask A _ c w h h2
end Go.Proofs.Ytjbndkbjoefeoaa
