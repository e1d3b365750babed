/-
  The law on what is reserved and released again, walked: a contract that the claimed proof uses.
-/
import Derived.Test.YtjbndkbjoefeoaaBounds
import Derived.Deep.DeepCutAuto
namespace Go.Proofs.Ytjbndkbjoefeoaa
open Go.RowKit Go.Maps

/-! ### No program in sight -/
theorem back_row (f : Row) (k n : Int) : relF (resF f k n) k n = f := by
  funext j
  unfold relF resF
  by_cases h : j = k.toNat
  · subst h; rw [up_same, up_same]; omega
  · rw [up_other _ _ h, up_other _ _ h]
theorem res_ok {C k n : Int} {f : Row} (h : resE C f k n = 0) : kindB k = true ∧ 0 ≤ n ∧ n ≤ C - tot f := by
  unfold resE at h
  by_cases h1 : kindB k = true ∧ 0 ≤ n
  · rw [if_pos h1] at h
    by_cases h2 : C - tot f < n
    · rw [if_pos h2] at h; cases h
    · exact ⟨h1.1, h1.2, by omega⟩
  · rw [if_neg h1] at h; cases h
theorem back_e {C k n : Int} {f : Row} (hf : Gd C f) (h : resE C f k n = 0) : relE (resF f k n) k n = 0 ∧ heldOf (resF f k n) k = f k.toNat + n := by
  obtain ⟨hk, hn, _⟩ := res_ok h
  obtain ⟨k0, k1⟩ := kindB_iff.1 hk
  have := hf.1 k.toNat (by omega)
  unfold relE heldOf
  rw [if_pos ⟨hk, hn⟩, if_pos hk, resF, up_same, if_neg (by omega)]
  exact ⟨rfl, rfl⟩
theorem back_pk {C : Int} {S : List Row} (h : Wf C S) (g : Row) : pk (hd S :: g :: S) = max (tot g) (pk S) := by
  have := pk_hd h
  rw [pk, pk]; omega
theorem back_cn {k n : Int} {f : Row} (S : List Row) (hk : kindB k = true) : cn (f :: resF f k n :: S) f = cn S f + (if n = 0 then 2 else 1) := by
  obtain ⟨k0, k1⟩ := kindB_iff.1 hk
  rw [cn_cons, cn_cons, if_pos (eqB_refl f)]
  have e : eqB (resF f k n) f = true ↔ n = 0 := by
    rw [eqB_iff]
    constructor
    · intro h
      have := h k.toNat (by omega)
      rw [resF, up_same] at this
      omega
    · rintro rfl i _
      unfold resF
      by_cases e : i = k.toNat
      · subst e; rw [up_same]; omega
      · rw [up_other _ _ e]
  by_cases hn : n = 0
  · rw [if_pos (e.2 hn), if_pos hn]
  · rw [if_neg (fun h => hn (e.1 h)), if_neg hn]

/-! ### What lies in memory meanwhile -/
theorem C8.below {w w' : World} {g : Nat} {f : Row} (h : C8 w g 0 f) (hg : w'.heap[g]? = w.heap[g]?) : C8 w' g 0 f := by
  have hc : ∀ i, w'.cell? ⟨g, i, none⟩ = w.cell? ⟨g, i, none⟩ := fun i => World.cell?_of_block (w := w) hg
  exact ⟨(hc _).trans h.c0, (hc _).trans h.c1, (hc _).trans h.c2, (hc _).trans h.c3, (hc _).trans h.c4, (hc _).trans h.c5, (hc _).trans h.c6, (hc _).trans h.c7⟩
theorem C8.at {w : World} {g : Nat} {f : Row} (h : C8 w g 0 f) {k : Nat} (hk : k < 8) : w.cell? ⟨g, k, none⟩ = some (.int .i64 (f k)) := by
  rcases (by omega : k = 0 ∨ k = 1 ∨ k = 2 ∨ k = 3 ∨ k = 4 ∨ k = 5 ∨ k = 6 ∨ k = 7) with rfl | rfl | rfl | rfl | rfl | rfl | rfl | rfl
  · exact h.c0
  · exact h.c1
  · exact h.c2
  · exact h.c3
  · exact h.c4
  · exact h.c5
  · exact h.c6
  · exact h.c7
/-- Two books, and a row of its own. -/
structure Env (w0 : World) (q b q2 b2 g : Nat) (C : Int) (S T : List Row) (f : Row) (W : World) : Prop where
  one : Led W q b C S
  two : Led W q2 b2 C T
  row : C8 W g 0 f
  lt : g < W.heap.size
  bel : Below w0.heap.size w0 W
section
variable {w0 W W' : World} {q b q2 b2 g : Nat} {C : Int} {S T S' : List Row} {f : Row}
theorem Env.below (h : Env w0 q b q2 b2 g C S T f W) (hb : Below W.heap.size W W') : Env w0 q b q2 b2 g C S T f W' :=
  ⟨h.one.below hb, h.two.below hb, h.row.below (hb.block _ h.lt), Nat.lt_of_lt_of_le h.lt hb.size, up_trans h.bel hb⟩
/-- The first book changes. -/
theorem Env.turned (h : Env w0 q b q2 b2 g C S T f W) (hl : Led W' q b C S') (hf : Fr q b W W') (h1 : w0.heap.size ≤ q) (h2 : w0.heap.size ≤ b) (hn : q2 ≠ q ∧ q2 ≠ b ∧ b2 ≠ q ∧ b2 ≠ b ∧ g ≠ q ∧ g ≠ b) : Env w0 q b q2 b2 g C S' T f W' :=
  ⟨hl, h.two.far hf hn.1 hn.2.1 hn.2.2.1 hn.2.2.2.1, h.row.below (hf.block _ h.lt hn.2.2.2.2.1 hn.2.2.2.2.2), Nat.lt_of_lt_of_le h.lt hf.size, h.bel.trans (hf.below h1 h2 h.bel.size)⟩
end
/-- A region that draws its order, whose operations read what is the same in every world of a class, and whose calls leave worlds of it. -/
theorem region_in {id : Nat} {Q : Exit → Act → World → Prop} {a : Act} {w : World} {l : List Oper} (S : World → Prop) (hm : Try.prog.follows .mixedOrders = true) (hB : Region.lexB .any l.toArray = true) (hS : S w.drew)
    (h : ∀ (ι : Type) (_ : Nonempty ι) (f : ι → World), (∀ n, S (f n)) → (∀ W, S W → ∃ n, W = f n) → wpQuiet Try.prog l.toArray (fun w' => ∃ n, w' = f n) (fun a' => ∀ w', (∃ n, w' = f n) → Q .normal a' w') l a) :
    (Code.region id l.toArray true).wp Try.prog Q a w :=
  wp_region_quiet (C := fun w' => ∃ n : {W // S W}, w' = n.1) hm hB ⟨⟨w.drew, hS⟩, rfl⟩ (by simpa using h {W // S W} ⟨⟨w.drew, hS⟩⟩ Subtype.val (fun n => n.2) (fun W hW => ⟨⟨W, hW⟩, rfl⟩))
theorem all_x {w : World} {q b : Nat} {C : Int} {S : List Row} {f : Row} (h : Led w q b C S) (hf : hd S = f) :
    Calls Try.prog 12 #[.pointer (some ⟨q, 0, none⟩)] w fun e w' => e = .returned (.agg #[.int .i64 (f 0), .int .i64 (f 1), .int .i64 (f 2), .int .i64 (f 3), .int .i64 (f 4), .int .i64 (f 5), .int .i64 (f 6), .int .i64 (f 7)]) ∧ Below w.heap.size w w' := by
  have := all_any h.blk
  rw [hf] at this
  exact this
theorem seen_x {w : World} {q b : Nat} {C : Int} {S : List Row} {f : Row} (h : Led w q b C S) (hf : okR f) :
    Calls Try.prog 20 #[.pointer (some ⟨q, 0, none⟩), .agg #[.int .i64 (f 0), .int .i64 (f 1), .int .i64 (f 2), .int .i64 (f 3), .int .i64 (f 4), .int .i64 (f 5), .int .i64 (f 6), .int .i64 (f 7)]] w fun e w' => e = .returned (.int .i64 (cn S f)) ∧ Below w.heap.size w w' := seen_any h hf
theorem eql_x (f : Row) (W : World) : (binOp .eql 24 (.agg #[.int .i64 (f 0), .int .i64 (f 1), .int .i64 (f 2), .int .i64 (f 3), .int .i64 (f 4), .int .i64 (f 5), .int .i64 (f 6), .int .i64 (f 7)]) (.agg #[.int .i64 (f 0), .int .i64 (f 1), .int .i64 (f 2), .int .i64 (f 3), .int .i64 (f 4), .int .i64 (f 5), .int .i64 (f 6), .int .i64 (f 7)])).run Try.prog W = .ok (.bool true) W := by
  have := row_eql W f f
  rw [eqB_refl] at this
  exact this
theorem same_x (f : Row) (W : World) : (Op.equalIn 10000 24 (.agg #[.int .i64 (f 0), .int .i64 (f 1), .int .i64 (f 2), .int .i64 (f 3), .int .i64 (f 4), .int .i64 (f 5), .int .i64 (f 6), .int .i64 (f 7)]) (.agg #[.int .i64 (f 0), .int .i64 (f 1), .int .i64 (f 2), .int .i64 (f 3), .int .i64 (f 4), .int .i64 (f 5), .int .i64 (f 6), .int .i64 (f 7)])).run Try.prog W = .ok true W := by
  have := row_eq W f f
  rw [eqB_refl] at this
  exact this
theorem guard_x (o : BinOp) (f : Row) (W : World) (x y : Operand) : (eqGuard o 24 x y (.agg #[.int .i64 (f 0), .int .i64 (f 1), .int .i64 (f 2), .int .i64 (f 3), .int .i64 (f 4), .int .i64 (f 5), .int .i64 (f 6), .int .i64 (f 7)]) (.agg #[.int .i64 (f 0), .int .i64 (f 1), .int .i64 (f 2), .int .i64 (f 3), .int .i64 (f 4), .int .i64 (f 5), .int .i64 (f 6), .int .i64 (f 7)])).run Try.prog W = .ok () W := row_guard o W x y f f
theorem back_great (C kind n : Int) (A : Option Addr) (m c : Nat) (w : World) (h : 200 < m) :
    Calls Try.prog 4 #[.int .i64 C, .slice A m c, .int .i64 kind, .int .i64 n] w fun e w' => e = .returned (.bool true) ∧ Below w.heap.size w w' := by
  have d : decide ((200 : Int) < (m : Int)) = true := by simp; omega
  go_enter Try.func4, Try.ntmps4
  go_wp2_with fail
  refine (alive_any w).mono ?_
  rintro e w1 ⟨rfl, b1⟩
  have B1 := Lib.hid b1
  clear b1
  go_wp2
  go_ret
  exact ⟨rfl, B1.out⟩
theorem back_no (C kind n : Int) (A : Option Addr) (m c : Nat) (w : World) (h : ¬ 200 < m) (hC : ¬ (0 ≤ C ∧ C ≤ 1099511627776)) :
    Calls Try.prog 4 #[.int .i64 C, .slice A m c, .int .i64 kind, .int .i64 n] w fun e w' => e = .returned (.bool true) ∧ Below w.heap.size w w' := by
  have d : decide ((200 : Int) < (m : Int)) = false := by simp; omega
  go_enter Try.func4, Try.ntmps4
  go_wp2_with fail
  refine (alive_any w).mono ?_
  rintro e w1 ⟨rfl, b1⟩
  have B1 := Lib.hid b1
  clear b1
  go_wp2_with fail
  refine (new_no C w1 hC).mono ?_
  rintro e w2 ⟨rfl, rfl⟩
  go_wp2
  go_ret
  exact ⟨rfl, B1.out⟩
set_option maxRecDepth 100000 in
set_option maxHeartbeats 4000000 in
theorem back_main (C kind n : Int) (A : Option Addr) (l : List Cl) (c : Nat) (w : World) (hcs : CA w.heap.size w A l) (hl : ¬ 200 < l.length) (h0 : 0 ≤ C) (h1 : C ≤ 1099511627776) :
    Calls Try.prog 4 #[.int .i64 C, .slice A l.length c, .int .i64 kind, .int .i64 n] w fun e w' => e = .returned (.bool true) ∧ Below w.heap.size w w' := by
  have HCS := Lib.hid hcs
  obtain ⟨m, hm⟩ : ∃ m, l.length = m := ⟨_, rfl⟩
  have HMM := Lib.hid hm
  rw [hm] at hl ⊢
  clear hcs hm
  have d : decide ((200 : Int) < (m : Int)) = false := by simp; omega
  go_enter Try.func4, Try.ntmps4
  go_wp2_with fail
  refine (alive_any w).mono ?_
  rintro e w1 ⟨rfl, b1⟩
  have B1 := Lib.hid b1
  clear b1
  go_wp2_with fail
  refine (new_yes C w1 h0 h1).mono ?_
  rintro e w2 ⟨q, b, rfl, l2, hq, hb, b2⟩
  have hsz := B1.out.size
  have hq' : w.heap.size ≤ q := by omega
  have hb' : w.heap.size ≤ b := by omega
  have L2 := Lib.hid l2
  have B2 := Lib.hid (up_trans B1.out b2)
  clear l2 b2 B1 hq hb hsz
  go_wp2_with fail
  go_loopw [11] (fun i wr => ∃ k : Nat, k ≤ m ∧ i = .int .i64 k ∧ Led wr q b C (rn C l k) ∧ Below w.heap.size w wr) (fun i _ => m - (intOf i).toNat)
  case atStart => exact ⟨0, by omega, rfl, L2.out, B2.out⟩
  case round =>
    obtain ⟨i, hi, rfl, hled, hbel⟩ := hrel
    have HL := Lib.hid hled
    have HB := Lib.hid hbel
    clear hled hbel L2 B2
    by_cases hlt : i < m
    · obtain ⟨cb, co, rfl, hcb, hcell⟩ := HCS.out (by rw [HMM.out]; omega)
      obtain ⟨x0, x1, x2, x3⟩ := hcell i (by rw [HMM.out]; exact hlt)
      have c0 := (HB.out.cell (p := ⟨cb, co + i * 4, none⟩) hcb).trans x0
      have c1 := (HB.out.cell (p := ⟨cb, co + i * 4 + 1, none⟩) hcb).trans x1
      have c2 := (HB.out.cell (p := ⟨cb, co + i * 4 + 2, none⟩) hcb).trans x2
      have c3 := (HB.out.cell (p := ⟨cb, co + i * 4 + 3, none⟩) hcb).trans x3
      have hwf := rn_wf h0 h1 l i
      have hln := rn_len C l i
      have HDO := Lib.hid (do_any (cl l i).1 (cl l i).2.1 (cl l i).2.2.1 (cl l i).2.2.2 HL.out hwf (by omega))
      have hs : opS C (rn C l i) (cl l i).1 (cl l i).2.1 (cl l i).2.2.1 (cl l i).2.2.2 = rn C l (i + 1) := rfl
      rw [hs] at HDO
      have y1 : (0 : Int) ≤ (i : Int) := by omega
      have y2 : (i : Int) < (m : Int) := by omega
      generalize opE C (hd (rn C l i)) (cl l i).1 (cl l i).2.1 (cl l i).2.2.1 (cl l i).2.2.2 = er at HDO
      generalize (cl l i).1 = a0 at *
      generalize (cl l i).2.1 = a1 at *
      generalize (cl l i).2.2.1 = a2 at *
      generalize (cl l i).2.2.2 = a3 at *
      clear hcell x0 x1 x2 x3 hs hwf hln
      go_wp2_with fail
      refine HDO.out.mono ?_
      rintro e w5 ⟨rfl, l5, f5⟩
      have L5 := Lib.hid l5
      have B5 := Lib.hid (HB.out.trans (f5.below hq' hb' HB.out.size))
      clear l5 f5 HDO HL HB c0 c1 c2 c3
      go_wp2
      go_roundw
      case rel => exact ⟨i + 1, by omega, by go_num, L5.out, B5.out⟩
      case measure => simp [intOf]; omega
    · obtain rfl : i = m := by omega
      have hwf := rn_wf h0 h1 l i
      have hln := rn_len C l i
      obtain ⟨S, hS⟩ : ∃ S, rn C l i = S := ⟨_, rfl⟩
      rw [hS] at HL hwf hln
      obtain ⟨f, hf⟩ : ∃ f, hd S = f := ⟨_, rfl⟩
      have HFF := Lib.hid hf
      have HWF := Lib.hid hwf
      have hlen : S.length ≤ 201 := by omega
      have HOK : Hid (okR f) := by rw [← hf]; exact hwf.hd.ok h1
      clear hS hf hwf hln HCS HMM hlt hi
      go_wp2_with fail
      refine (all_x HL.out HFF.out).mono ?_
      rintro e w3 ⟨rfl, b3⟩
      have L3 := Lib.hid (HL.out.below b3)
      have B3 := Lib.hid (up_trans HB.out b3)
      have q1 := L3.out.blk.lt
      have q2 := L3.out.mp.lt
      clear b3 HL HB
      have hB4 := up_alloc (Below.refl _ w3) (.cells #[.int .i64 (f 0), .int .i64 (f 1), .int .i64 (f 2), .int .i64 (f 3), .int .i64 (f 4), .int .i64 (f 5), .int .i64 (f 6), .int .i64 (f 7)] 24)
      have hK : Blk (w3.alloc (.cells #[.int .i64 (f 0), .int .i64 (f 1), .int .i64 (f 2), .int .i64 (f 3), .int .i64 (f 4), .int .i64 (f 5), .int .i64 (f 6), .int .i64 (f 7)] 24)) w3.heap.size [.int .i64 (f 0), .int .i64 (f 1), .int .i64 (f 2), .int .i64 (f 3), .int .i64 (f 4), .int .i64 (f 5), .int .i64 (f 6), .int .i64 (f 7)] 24 := heap_alloc_last w3 _
      have L4 := Lib.hid (L3.out.below hB4)
      have B4 := Lib.hid (up_trans B3.out hB4)
      have R4 : Hid (C8 (w3.alloc (.cells #[.int .i64 (f 0), .int .i64 (f 1), .int .i64 (f 2), .int .i64 (f 3), .int .i64 (f 4), .int .i64 (f 5), .int .i64 (f 6), .int .i64 (f 7)] 24)) w3.heap.size 0 f) := ⟨hK.cell, hK.cell, hK.cell, hK.cell, hK.cell, hK.cell, hK.cell, hK.cell⟩
      have z4 := hK.lt
      obtain ⟨g, hg⟩ : ∃ g, w3.heap.size = g := ⟨_, rfl⟩
      rw [hg] at R4 z4 q1 q2
      clear hB4 hK L3 B3
      go_wp2_with fail
      generalize w3.alloc (.cells #[.int .i64 (f 0), .int .i64 (f 1), .int .i64 (f 2), .int .i64 (f 3), .int .i64 (f 4), .int .i64 (f 5), .int .i64 (f 6), .int .i64 (f 7)] 24) = w4 at L4 B4 R4 z4 ⊢
      refine (seen_x L4.out HOK.out).mono ?_
      rintro e w5 ⟨rfl, b5⟩
      have L5 := Lib.hid (L4.out.below b5)
      have B5 := Lib.hid (up_trans B4.out b5)
      have R5 := Lib.hid (R4.out.below (b5.block _ z4))
      have z5 := b5.size
      clear b5 L4 B4 R4 hg
      go_wp2_with fail
      refine (clone_any L5.out).mono ?_
      rintro e w6 ⟨q2', b2', rfl, l6, hq2, hb2, b6⟩
      have E6 : Hid (Env w q b q2' b2' g C S S f w6) := ⟨L5.out.below b6, l6, R5.out.below (b6.block _ (by omega)), by have := b6.size; omega, up_trans B5.out b6⟩
      have hne : q2' ≠ q ∧ q2' ≠ b ∧ b2' ≠ q ∧ b2' ≠ b ∧ g ≠ q ∧ g ≠ b := by omega
      clear l6 b6 L5 B5 R5 hq2 hb2 z4 z5 q1 q2
      have HRS := Lib.hid (res_any kind n E6.out.one HWF.out (by omega))
      rw [HFF.out] at HRS
      have hcn := cn_le S f
      by_cases he : resE C f kind n = 0
      · obtain ⟨hk, hn, hle⟩ := res_ok he
        obtain ⟨k0, k1⟩ := kindB_iff.1 hk
        have hgd : Gd C f := by have := HWF.out.hd; rwa [HFF.out] at this
        obtain ⟨hre0, hheld⟩ := back_e hgd he
        have hg1 := res_gd hgd he
        have hW1 := HWF.out.cons hg1
        have HW1 := Lib.hid hW1
        have hpk := back_pk HWF.out (resF f kind n)
        rw [HFF.out] at hpk
        have hcn2 := back_cn (f := f) (k := kind) (n := n) S hk
        have hrow := back_row f kind n
        have hat := hgd.at (k := kind.toNat) (by omega)
        have htt := hgd.tot
        have hwr := i64_in (f kind.toNat + n) (by omega) (by omega)
        have e2 : nxt 0 (resF f kind n) S = resF f kind n :: S := rfl
        rw [he, e2] at HRS
        obtain ⟨r, hr⟩ : ∃ r, resF f kind n = r := ⟨_, rfl⟩
        rw [hr] at hre0 hheld hg1 hW1 HW1 hpk hcn2 hrow HRS
        have HHD : Hid (∀ W, Led W q b C (r :: S) → Calls Try.prog 16 #[.pointer (some ⟨q, 0, none⟩), .int .i64 kind] W fun e w' => e = .returned (.int .i64 (f kind.toNat + n)) ∧ W = w') := fun W hL => by
          have := held_any kind hL.blk; rw [hd_cons, hheld] at this; exact this
        have HRL : Hid (∀ W, Led W q b C (r :: S) → Calls Try.prog 23 #[.pointer (some ⟨q, 0, none⟩), .int .i64 kind, .int .i64 n] W fun e w' => e = .returned (.int .i64 0) ∧ Led w' q b C (f :: r :: S) ∧ Fr q b W w') := fun W hL => by
          have := rel_any kind n hL HW1.out (by simp; omega)
          rw [hd_cons, hre0, hrow] at this
          exact this
        have HTO : Hid (∀ W, Led W q b C (r :: S) → Calls Try.prog 17 #[.pointer (some ⟨q, 0, none⟩)] W fun e w' => e = .returned (.int .i64 (tot r)) ∧ W = w') := fun W hL => total_any hL.blk hg1 h1
        have HP2 : Hid (∀ W, Led W q b C (f :: r :: S) → Calls Try.prog 19 #[.pointer (some ⟨q, 0, none⟩)] W fun e w' => e = .returned (.int .i64 (max (tot r) (pk S))) ∧ W = w') := fun W hL => by
          have := peak_any hL.blk; rw [hpk] at this; exact this
        have HPC : Hid (∀ W, Led W q2' b2' C S → Calls Try.prog 19 #[.pointer (some ⟨q2', 0, none⟩)] W fun e w' => e = .returned (.int .i64 (pk S)) ∧ W = w') := fun W hL => peak_any hL.blk
        have HCN := Lib.hid hcn2
        clear hre0 hheld hg1 hW1 hpk hcn2 hrow hr e2 he hgd htt
        generalize tot r = T at HTO HP2
        generalize pk S = P at HP2 HPC
        go_wp2_with fail
        refine HRS.out.mono ?_
        rintro e w7 ⟨rfl, l7, f7⟩
        have E7 := Lib.hid (E6.out.turned l7 f7 hq' hb' hne)
        clear l7 f7 E6 HRS
        go_wp2_with fail
        refine (HTO.out _ E7.out.one).mono ?_
        rintro e w8 ⟨rfl, rfl⟩
        go_wp2_with fail
        refine (HPC.out _ E7.out.two).mono ?_
        rintro e w8 ⟨rfl, rfl⟩
        have emx : (if T < P then P else T) = max T P := by omega
        go_upto_region 18 with fail
        have E7d : Hid (Env w q b q2' b2' g C (r :: S) S f w7.drew) := E7.out.below (Below.refl _ _).drew
        have cK := E7.out.row.at (k := kind.toNat) (by omega)
        have d1 : (f kind.toNat + n != f kind.toNat + n) = false := by simp
        have d2 : (max T P != max T P) = false := by simp
        have hrn := same_x f
        have hrg := guard_x .neq f
        obtain ⟨M, hM⟩ : ∃ M, max T P = M := ⟨_, rfl⟩
        rw [hM] at HP2 d2 ⊢
        obtain ⟨v, hv⟩ : ∃ v, f kind.toNat + n = v := ⟨_, rfl⟩
        rw [hv] at HHD d1 hwr
        clear emx hM hat
        go_cut [110] (fun s wx => s = .bool false ∧ Env w q b q2' b2' g C (f :: r :: S) S f wx)
        case first =>
          go_region_law (first
            | (go_simp; go_at_call 16; refine (HHD.out _ E7d.out.one).mono ?_; rintro e w' ⟨rfl, rfl⟩)
            | (go_simp; go_at_call 23; refine (HRL.out _ E7d.out.one).mono ?_; rintro e w9 ⟨rfl, l9, f9⟩; have E9 := Lib.hid (E7d.out.turned l9 f9 hq' hb' hne); obtain ⟨c0, c1, c2, c3, c4, c5, c6, c7⟩ := E9.out.row; clear l9 f9)
            | (go_simp; go_at_call 12; refine (all_x (f := f) E9.out.one (hd_cons _ _)).mono ?_; rintro e w10 ⟨rfl, b10⟩; have E10 := Lib.hid (E9.out.below b10); obtain ⟨g0, g1, g2, g3, g4, g5, g6, g7⟩ := E10.out.row; clear b10)
            | (go_simp; go_at_call 19; refine (HP2.out _ E10.out.one).mono ?_; rintro e w' ⟨rfl, rfl⟩))
          all_goals (go_wp2_with fail; go_meet)
          all_goals exact ⟨rfl, E10.out⟩
        case rest =>
        obtain ⟨rfl, hE⟩ := hcut
        have E9 := Lib.hid hE
        clear hE E7 E7d cK d1 d2 hrn hrg hv hwr HHD HRL HTO HP2 HPC
        obtain ⟨N, hN⟩ : ∃ N : Int, (cn S f : Int) = N := ⟨_, rfl⟩
        have hN2 : ((cn (f :: r :: S) f : Nat) : Int) = N + (if n = 0 then 2 else 1) := by
          rw [HCN.out, ← hN]; split <;> rfl
        have HN := Lib.hid hN
        have HN2 := Lib.hid hN2
        have hNb : 0 ≤ N ∧ N ≤ 1000 := by omega
        rw [hN]
        clear hN hN2 hcn
        have hcase : (n == 0) = true ∧ (if n = 0 then (2 : Int) else 1) = 2 ∨ (n == 0) = false ∧ (if n = 0 then (2 : Int) else 1) = 1 := by
          by_cases h : n = 0
          · left; rw [if_pos h]; exact ⟨by simpa using h, rfl⟩
          · right; rw [if_neg h]; exact ⟨by simpa using h, rfl⟩
        rcases hcase with ⟨dn, hif⟩ | ⟨dn, hif⟩
        all_goals (
          rw [hif] at HN2
          clear hif
          go_wp2_with fail
          refine region_in (fun W => Env w q b q2' b2' g C (f :: r :: S) S f W) (by kernel_rfl) (by kernel_rfl) (E9.out.below (Below.refl _ _).drew) ?_
          intro ι ine fw hS hT
          have s0 : ∀ j, (fw j).cell? ⟨g, 0, none⟩ = some (.int .i64 (f 0)) := fun j => (hS j).row.c0
          have s1 : ∀ j, (fw j).cell? ⟨g, 1, none⟩ = some (.int .i64 (f 1)) := fun j => (hS j).row.c1
          have s2 : ∀ j, (fw j).cell? ⟨g, 2, none⟩ = some (.int .i64 (f 2)) := fun j => (hS j).row.c2
          have s3 : ∀ j, (fw j).cell? ⟨g, 3, none⟩ = some (.int .i64 (f 3)) := fun j => (hS j).row.c3
          have s4 : ∀ j, (fw j).cell? ⟨g, 4, none⟩ = some (.int .i64 (f 4)) := fun j => (hS j).row.c4
          have s5 : ∀ j, (fw j).cell? ⟨g, 5, none⟩ = some (.int .i64 (f 5)) := fun j => (hS j).row.c5
          have s6 : ∀ j, (fw j).cell? ⟨g, 6, none⟩ = some (.int .i64 (f 6)) := fun j => (hS j).row.c6
          have s7 : ∀ j, (fw j).cell? ⟨g, 7, none⟩ = some (.int .i64 (f 7)) := fun j => (hS j).row.c7
          have HA := Lib.hid (fun j => (all_x (hS j).two HFF.out).mono fun e w' ⟨he, hb⟩ => show _ ∧ ∃ j, w' = fw j from ⟨he, hT w' ((hS j).below hb)⟩)
          have HS1 := Lib.hid (fun j => (seen_x (hS j).one HOK.out).mono fun e w' ⟨he, hb⟩ => show _ ∧ ∃ j, w' = fw j from ⟨he, hT w' ((hS j).below hb)⟩)
          have HS2 := Lib.hid (fun j => (seen_x (hS j).two HOK.out).mono fun e w' ⟨he, hb⟩ => show _ ∧ ∃ j, w' = fw j from ⟨he, hT w' ((hS j).below hb)⟩)
          rw [HN2.out] at HS1
          rw [HN.out] at HS2
          have HSS := Lib.hid hS
          have hre := eql_x f
          have hrg := guard_x .eql f
          have dN : (N == N) = true := by simp
          have dM : (N + 1 == N + 1) = true := by simp
          have dL : (N + 2 == N + 2) = true := by simp
          have w1' := i64_in (N + 1) (by omega) (by omega)
          have w2' := i64_in (N + 2) (by omega) (by omega)
          clear hS hT
          repeat (go_big_quiet_step ((first | (go_at_call 12; exact HA.out _) | (go_at_call_of 20 (Value.pointer (some ⟨q, 0, none⟩)); exact HS1.out _) | (go_at_call_of 20 (Value.pointer (some ⟨q2', 0, none⟩)); exact HS2.out _))))
          refine wpQuiet_nil ?_
          rintro _ ⟨n1, rfl⟩
          have B8 := Lib.hid (HSS.out n1).bel
          go_wp2
          go_ret
          exact ⟨rfl, B8.out⟩)
      · have e2 : nxt (resE C f kind n) (resF f kind n) S = S := by unfold nxt; rw [if_neg he]
        rw [e2] at HRS
        have dd : (resE C f kind n != 0) = true := by simpa using he
        clear e2 he
        generalize resE C f kind n = er at HRS dd
        go_wp2_with fail
        refine HRS.out.mono ?_
        rintro e w7 ⟨rfl, l7, f7⟩
        have E7 := Lib.hid (E6.out.turned l7 f7 hq' hb' hne)
        clear l7 f7 E6 HRS
        go_wp2_with fail
        obtain ⟨N, hN⟩ : ∃ N : Int, (cn S f : Int) = N := ⟨_, rfl⟩
        rw [hN]
        refine region_in (fun W => Env w q b q2' b2' g C S S f W) (by kernel_rfl) (by kernel_rfl) (E7.out.below (Below.refl _ _).drew) ?_
        intro ι ine fw hS hT
        have s0 : ∀ j, (fw j).cell? ⟨g, 0, none⟩ = some (.int .i64 (f 0)) := fun j => (hS j).row.c0
        have s1 : ∀ j, (fw j).cell? ⟨g, 1, none⟩ = some (.int .i64 (f 1)) := fun j => (hS j).row.c1
        have s2 : ∀ j, (fw j).cell? ⟨g, 2, none⟩ = some (.int .i64 (f 2)) := fun j => (hS j).row.c2
        have s3 : ∀ j, (fw j).cell? ⟨g, 3, none⟩ = some (.int .i64 (f 3)) := fun j => (hS j).row.c3
        have s4 : ∀ j, (fw j).cell? ⟨g, 4, none⟩ = some (.int .i64 (f 4)) := fun j => (hS j).row.c4
        have s5 : ∀ j, (fw j).cell? ⟨g, 5, none⟩ = some (.int .i64 (f 5)) := fun j => (hS j).row.c5
        have s6 : ∀ j, (fw j).cell? ⟨g, 6, none⟩ = some (.int .i64 (f 6)) := fun j => (hS j).row.c6
        have s7 : ∀ j, (fw j).cell? ⟨g, 7, none⟩ = some (.int .i64 (f 7)) := fun j => (hS j).row.c7
        have HA := Lib.hid (fun j => (all_x (hS j).one HFF.out).mono fun e w' ⟨he, hb⟩ => show _ ∧ ∃ j, w' = fw j from ⟨he, hT w' ((hS j).below hb)⟩)
        have HS := Lib.hid (fun j => (seen_x (hS j).one HOK.out).mono fun e w' ⟨he, hb⟩ => show _ ∧ ∃ j, w' = fw j from ⟨he, hT w' ((hS j).below hb)⟩)
        rw [hN] at HS
        have HSS := Lib.hid hS
        have hre := eql_x f
        have hrg := guard_x .eql f
        have dN : (N == N) = true := by simp
        clear hS hT hN
        repeat (go_big_quiet_step ((first | (go_at_call 12; exact HA.out _) | (go_at_call 20; exact HS.out _))))
        refine wpQuiet_nil ?_
        rintro _ ⟨n1, rfl⟩
        have B8 := Lib.hid (HSS.out n1).bel
        go_wp2
        go_ret
        exact ⟨rfl, B8.out⟩
theorem back_any (C kind n : Int) (A : Option Addr) (l : List Cl) (c : Nat) (w : World) (hcs : CA w.heap.size w A l) :
    Calls Try.prog 4 #[.int .i64 C, .slice A l.length c, .int .i64 kind, .int .i64 n] w fun e w' => e = .returned (.bool true) ∧ Below w.heap.size w w' := by
  by_cases h : 200 < l.length
  · exact back_great C kind n A _ c w h
  · by_cases h2 : 0 ≤ C ∧ C ≤ 1099511627776
    · exact back_main C kind n A l c w hcs h h2.1 h2.2
    · exact back_no C kind n A _ c w h h2
end Go.Proofs.Ytjbndkbjoefeoaa
