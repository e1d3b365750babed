/-
  What the reference's calls do: contracts that the claimed proof uses.
-/
import Derived.Test.YtjnknnakllbaaaaGreatLePush
namespace Go.Proofs.YtjnknnakllbaaaaGreat.Le
set_option maxRecDepth 100000
open Go.RowKit Go.Maps

theorem rdo_bad (p : Nat) (x k t n : Int) (w : World) (h : (k < 0 ∨ 7 < k) ∨ n < 0 ∨ (x = 2 ∧ (t < 0 ∨ 7 < t))) :
    Calls Tryz.prog 80 #[.pointer (some ⟨p, 0, none⟩), .int .i64 x, .int .i64 k, .int .i64 t, .int .i64 n] w fun e w' => e = .returned (.int .i64 11) ∧ w = w' := by
  by_cases h1 : k < 0
  · have d1 : decide (k < 0) = true := by simpa using h1
    clear h
    go_enter Tryz.func80, Tryz.ntmps80
    go_wp2
    go_ret
    exact ⟨rfl, rfl⟩
  · have d1 : decide (k < 0) = false := by simpa using h1
    by_cases h2 : 7 < k
    · have d2 : decide (7 < k) = true := by simpa using h2
      clear h
      go_enter Tryz.func80, Tryz.ntmps80
      go_wp2
      go_ret
      exact ⟨rfl, rfl⟩
    · have d2 : decide (7 < k) = false := by simpa using h2
      by_cases h3 : n < 0
      · have d3 : decide (n < 0) = true := by simpa using h3
        clear h
        go_enter Tryz.func80, Tryz.ntmps80
        go_wp2
        go_ret
        exact ⟨rfl, rfl⟩
      · have d3 : decide (n < 0) = false := by simpa using h3
        obtain ⟨rfl, h4⟩ : x = 2 ∧ (t < 0 ∨ 7 < t) := by omega
        by_cases h5 : t < 0
        · have d5 : decide (t < 0) = true := by simpa using h5
          clear h h4
          go_enter Tryz.func80, Tryz.ntmps80
          go_wp2
          go_ret
          exact ⟨rfl, rfl⟩
        · have d5 : decide (t < 0) = false := by simpa using h5
          have d6 : decide (7 < t) = true := by simp; omega
          clear h h4
          go_enter Tryz.func80, Tryz.ntmps80
          go_wp2
          go_ret
          exact ⟨rfl, rfl⟩
section
variable {B : Nat} {w w' w'' : World} {q b p : Nat} {C : Int} {S : List Row} {f : Row}
/-- What lies so in the world in which the new state has been made, a list of its own. -/
structure Mk (B : Nat) (w0 : World) (p r c : Nat) (C : Int) (S : List Row) (g : Row) (W : World) : Prop where
  rf : Rf B W p C S
  row : RowS B W (.slice (some ⟨r, 0, none⟩) 8 c) g
  bel : Below w0.heap.size w0 W
theorem Mk.drawn {W W' : World} {r c : Nat} {g : Row} {w0 : World} (h : Mk B w0 p r c C S g W) (hd : Drawn W W') : Mk B w0 p r c C S g W' :=
  ⟨h.rf.drawn hd, h.row.below hd.below, up_trans h.bel hd.below⟩
/-- A number of it is stored. -/
theorem Mk.set {W : World} {r c : Nat} {g : Row} {w0 : World} (h : Mk B w0 p r c C S g W) (hr : w0.heap.size ≤ r) (h0 : Rf B w0 p C S) {k : Nat} (hk : k < 8) (v : Int) : Mk B w0 p r c C S (up g k v) (W.setCell ⟨r, k, none⟩ (.int .i64 v)) := by
  have hb := h.bel.setCell (p := ⟨r, k, none⟩) hr (.int .i64 v)
  exact ⟨h0.below hb, h.row.set hk v, hb⟩
set_option maxHeartbeats 1000000 in
/-- Reserve. -/
theorem rdo_res (k t n : Int) (h : Rf B w p C S) (hw : Wf C S) (hS : S.length ≤ 1000) (hB : B ≤ w.heap.size) (hk : kindB k = true) (hn : 0 ≤ n) :
    Calls Tryz.prog 80 #[.pointer (some ⟨p, 0, none⟩), .int .i64 0, .int .i64 k, .int .i64 t, .int .i64 n] w fun e w' => e = .returned (.int .i64 (resE C (hd S) k n)) ∧ Rf B w' p C (nxt (resE C (hd S) k n) (resF (hd S) k n) S) ∧ Ft B w w' := by
  obtain ⟨k0, k1⟩ := kindB_iff.1 hk
  have d1 : decide (k < 0) = false := by simpa using k0
  have d2 : decide (7 < k) = false := by simp; omega
  have d3 : decide (n < 0) = false := by simpa using hn
  have HW := Lib.hid hw
  have H := Lib.hid h
  have hC := hw.c1
  have hB1 := up_alloc (Below.refl _ w) (.cells #[] 3)
  have HB1 := Lib.hid hB1
  have H1 := Lib.hid (h.below hB1)
  have O1 := Lib.hid (rown_empty w)
  clear h hw hB1
  go_enter Tryz.func80, Tryz.ntmps80
  go_wp2_with fail
  generalize w.alloc (.cells #[] 3) = w1 at HB1 H1 O1 ⊢
  refine (now_any H1.out HW.out.ne hS).mono ?_
  rintro e w2 ⟨r0, c0, rfl, hr0, hd0⟩
  have R2 := Lib.hid (hr0.below hd0.below)
  have B2 := Lib.hid (up_trans HB1.out hd0.below)
  have O2 : Hid (w2.ownsRow w.heap.size 3 1 (.slice (some ⟨w.heap.size, 0, none⟩) 0 0) 0 []) := O1.out.kept (grown_below (r := none) hd0.below) (.inr (by simp [Value.ownBlock]))
  clear hr0 hd0 H1 O1 HB1
  go_upto_region 4 with (first | (at_builtin; refine list_copy (by rfl) _ _ (by rfl) w.heap.size w.heap.size r0 c0 B (hd S) (by rfl) O2.out (by rfl) R2.out B2.out.size ?_; intro r c w4 HR4 hrb HB4) | fail)
  have hb4 := B2.out.trans HB4.out
  have M4 : Hid (Mk B w p r c C S (hd S) w4) := ⟨H.out.below hb4, HR4.out.less hB, hb4⟩
  clear hb4 HB4 HR4 R2 B2 O2
  obtain ⟨gg, gcap, cp0, _, _⟩ := M4.out.rf.cells
  have HSM := Lib.hid (fun j => sum_any (w := w4.drewN j) (M4.out.drawn ⟨j, rfl⟩).row HW.out.hd hC)
  have htt := HW.out.hd.tot
  have hwr := i64_in (C - tot (hd S)) (by omega) (by omega)
  by_cases hf : C - tot (hd S) < n
  · have d4 : decide (C - tot (hd S) < n) = true := by simpa using hf
    have e : resE C (hd S) k n = 18 := by unfold resE; rw [if_pos ⟨hk, hn⟩, if_pos hf]
    have HE := Lib.hid e
    clear e hf
    have HT : Hid (resE C (hd S) k n = 18) := HE.out
    clear HE
    generalize tot (hd S) = T at HSM htt hwr d4
    go_wp2_with fail
    go_quiet ((go_at_call 111; exact Calls.quiet_of_same ((HSM.out _).mono fun e w' he => ⟨he.1, he.2.symm⟩)))
    go_wp2
    go_ret
    exact ⟨by rw [HT.out]; rfl, by rw [HT.out]; exact (M4.out.drawn ⟨_, rfl⟩).rf, Ft.of (M4.out.drawn ⟨_, rfl⟩).bel hB⟩
  · have d4 : decide (C - tot (hd S) < n) = false := by simpa using hf
    have e : resE C (hd S) k n = 0 := by unfold resE; rw [if_pos ⟨hk, hn⟩, if_neg hf]
    have e2 : nxt 0 (resF (hd S) k n) S = resF (hd S) k n :: S := rfl
    have HT := Lib.hid e
    have HT2 := Lib.hid e2
    have hat := HW.out.hd.at (k := k.toNat) (by omega)
    have hwr2 := i64_in (hd S k.toNat + n) (by omega) (by omega)
    have y2 : k < 8 := k1
    have hkk : (k.toNat : Int) = k := by omega
    clear e e2 hf
    generalize tot (hd S) = T at HSM htt hwr d4
    go_wp2_with fail
    go_quiet ((go_at_call 111; exact Calls.quiet_of_same ((HSM.out _).mono fun e w' he => ⟨he.1, he.2.symm⟩)))
    have M5 := Lib.hid (M4.out.drawn ⟨nq, rfl⟩)
    have cK := M5.out.row.cell (j := k.toNat) (by omega)
    have fz := M5.out.row.frozen k.toNat
    generalize w4.drewN nq = w5 at M5 cK fz ⊢
    clear M4 HSM cp0 htt hwr d4
    have M6 := Lib.hid (M5.out.set hrb H.out (k := k.toNat) (by omega) (hd S k.toNat + n))
    go_upto_region 13 with fail
    generalize w5.setCell ⟨r, k.toNat, none⟩ (.int .i64 (hd S k.toNat + n)) = w6 at M6 ⊢
    obtain ⟨gg, gcap, us, q1, q2, q3, q4⟩ := M6.out.rf
    have c1 : w6.cell? ⟨p, 1, none⟩ = some (.slice (some ⟨gg, 0, none⟩) S.length gcap) := q1.cell
    have hbl := M6.out.bel
    have hal := up_alloc (Below.refl _ w6) (.cells #[.slice (some ⟨r, 0, none⟩) 8 c] 58)
    have Q1 := Lib.hid (q1.of (hal.block _ q1.lt))
    have Q2 := Lib.hid q2
    have Q3 : Hid ((w6.alloc (.cells #[.slice (some ⟨r, 0, none⟩) 8 c] 58)).ownsRow B 58 1 (.slice (some ⟨gg, 0, none⟩) S.length gcap) S.length us) := q3.kept (grown_below (r := none) hal) (.inr (by simp [Value.ownBlock]))
    have Q4 : Hid (∀ i, i < S.length → ∃ v, us[i]? = some v ∧ RowS B (w6.alloc (.cells #[.slice (some ⟨r, 0, none⟩) 8 c] 58)) v (ato S i)) := fun i hi => by
      obtain ⟨v, hv, hr⟩ := q4 i hi
      exact ⟨v, hv, hr.below hal⟩
    have Q5 := Lib.hid (M6.out.row.below hal)
    have Q6 := Lib.hid (up_trans hbl hal)
    have hsz := Q6.out.size
    have hnew : Hid ((w6.alloc (.cells #[.slice (some ⟨r, 0, none⟩) 8 c] 58)).heap[w6.heap.size]? = some (.cells #[.slice (some ⟨r, 0, none⟩) 8 c] 58 (0, 0))) := heap_alloc_last w6 _
    obtain ⟨N, hN⟩ : ∃ N, S.length = N := ⟨_, rfl⟩
    have HN := Lib.hid hN
    have hplt := q1.lt
    rw [hN] at c1
    clear q1 q2 q3 q4 hbl hal M6 M5 cK fz hN
    go_upto_region 14 with (first | (at_builtin; refine list_push (by rfl) _ _ (by rfl) B gg gcap N w6.heap.size us (.slice (some ⟨r, 0, none⟩) 8 c) (by rfl) (by have := Q3.out; rw [HN.out] at this; exact this) (by rfl) hnew.out rfl (by have := HN.out; omega) (by omega) ?_; intro g' cap' w7 HO7 HG7; obtain ⟨z1, z2, z3⟩ := pushed (C := C) (p := p) (S := S) (g' := g') (cap' := cap') (w6 := w7) (by omega) Q1.out Q2.out Q3.out Q4.out Q5.out (by rw [HN.out]; exact HO7.out) HG7.out; have c1' : w7.cell? ⟨p, 1, none⟩ = some (.slice (some ⟨gg, 0, none⟩) S.length gcap) := z1.cell; have fz' := z1.frozen 1; rw [HN.out] at z2 z3 c1'; have Z2 := Lib.hid z2; have Z3 := Lib.hid z3; have hplt7 := z1.lt; clear z1 z2 z3 HO7 HG7 c1 Q1 Q2 Q3 Q4 Q5) | fail)
    go_wp2
    go_ret
    exact ⟨by rw [HT.out]; rfl, by rw [HT.out, HT2.out]; exact Z2.out, (Ft.of Q6.out hB).trans Z3.out⟩
set_option maxHeartbeats 1000000 in
/-- Release. -/
theorem rdo_rel (k t n : Int) (h : Rf B w p C S) (hw : Wf C S) (hS : S.length ≤ 1000) (hB : B ≤ w.heap.size) (hk : kindB k = true) (hn : 0 ≤ n) :
    Calls Tryz.prog 80 #[.pointer (some ⟨p, 0, none⟩), .int .i64 1, .int .i64 k, .int .i64 t, .int .i64 n] w fun e w' => e = .returned (.int .i64 (relE (hd S) k n)) ∧ Rf B w' p C (nxt (relE (hd S) k n) (relF (hd S) k n) S) ∧ Ft B w w' := by
  obtain ⟨k0, k1⟩ := kindB_iff.1 hk
  have d1 : decide (k < 0) = false := by simpa using k0
  have d2 : decide (7 < k) = false := by simp; omega
  have d3 : decide (n < 0) = false := by simpa using hn
  have HW := Lib.hid hw
  have H := Lib.hid h
  have hC := hw.c1
  have hB1 := up_alloc (Below.refl _ w) (.cells #[] 3)
  have HB1 := Lib.hid hB1
  have H1 := Lib.hid (h.below hB1)
  have O1 := Lib.hid (rown_empty w)
  clear h hw hB1
  go_enter Tryz.func80, Tryz.ntmps80
  go_wp2_with fail
  generalize w.alloc (.cells #[] 3) = w1 at HB1 H1 O1 ⊢
  refine (now_any H1.out HW.out.ne hS).mono ?_
  rintro e w2 ⟨r0, c0, rfl, hr0, hd0⟩
  have R2 := Lib.hid (hr0.below hd0.below)
  have B2 := Lib.hid (up_trans HB1.out hd0.below)
  have O2 : Hid (w2.ownsRow w.heap.size 3 1 (.slice (some ⟨w.heap.size, 0, none⟩) 0 0) 0 []) := O1.out.kept (grown_below (r := none) hd0.below) (.inr (by simp [Value.ownBlock]))
  clear hr0 hd0 H1 O1 HB1
  go_upto_region 4 with (first | (at_builtin; refine list_copy (by rfl) _ _ (by rfl) w.heap.size w.heap.size r0 c0 B (hd S) (by rfl) O2.out (by rfl) R2.out B2.out.size ?_; intro r c w5 HR4 hrb HB4) | fail)
  have hb4 := B2.out.trans HB4.out
  have M5 : Hid (Mk B w p r c C S (hd S) w5) := ⟨H.out.below hb4, HR4.out.less hB, hb4⟩
  clear hb4 HB4 HR4 R2 B2 O2
  have cK := M5.out.row.cell (j := k.toNat) (by omega)
  have fz := M5.out.row.frozen k.toNat
  have y2 : k < 8 := k1
  have hkk : (k.toNat : Int) = k := by omega
  by_cases hf : hd S k.toNat < n
  · have d4 : decide (hd S k.toNat < n) = true := by simpa using hf
    have e : relE (hd S) k n = 16 := by unfold relE; rw [if_pos ⟨hk, hn⟩, if_pos hf]
    have HT := Lib.hid e
    clear e hf
    go_wp2
    go_ret
    exact ⟨by rw [HT.out]; rfl, by rw [HT.out]; exact M5.out.rf, Ft.of M5.out.bel hB⟩
  · have d4 : decide (hd S k.toNat < n) = false := by simpa using hf
    have er : relE (hd S) k n = 0 := by unfold relE; rw [if_pos ⟨hk, hn⟩, if_neg hf]
    have e : relE (hd S) k n = 0 := by exact er
    have e2 : nxt 0 (relF (hd S) k n) S = relF (hd S) k n :: S := rfl
    have HT := Lib.hid e
    have HT2 := Lib.hid e2
    have hat := HW.out.hd.at (k := k.toNat) (by omega)
    have hwr2 := i64_in (hd S k.toNat - n) (by omega) (by omega)
    have M6 := Lib.hid (M5.out.set hrb H.out (k := k.toNat) (by omega) (hd S k.toNat - n))
    clear e e2 hf er
    go_upto_region 13 with fail
    generalize w5.setCell ⟨r, k.toNat, none⟩ (.int .i64 (hd S k.toNat - n)) = w6 at M6 ⊢
    obtain ⟨gg, gcap, us, q1, q2, q3, q4⟩ := M6.out.rf
    have c1 : w6.cell? ⟨p, 1, none⟩ = some (.slice (some ⟨gg, 0, none⟩) S.length gcap) := q1.cell
    have hbl := M6.out.bel
    have hal := up_alloc (Below.refl _ w6) (.cells #[.slice (some ⟨r, 0, none⟩) 8 c] 58)
    have Q1 := Lib.hid (q1.of (hal.block _ q1.lt))
    have Q2 := Lib.hid q2
    have Q3 : Hid ((w6.alloc (.cells #[.slice (some ⟨r, 0, none⟩) 8 c] 58)).ownsRow B 58 1 (.slice (some ⟨gg, 0, none⟩) S.length gcap) S.length us) := q3.kept (grown_below (r := none) hal) (.inr (by simp [Value.ownBlock]))
    have Q4 : Hid (∀ i, i < S.length → ∃ v, us[i]? = some v ∧ RowS B (w6.alloc (.cells #[.slice (some ⟨r, 0, none⟩) 8 c] 58)) v (ato S i)) := fun i hi => by
      obtain ⟨v, hv, hr⟩ := q4 i hi
      exact ⟨v, hv, hr.below hal⟩
    have Q5 := Lib.hid (M6.out.row.below hal)
    have Q6 := Lib.hid (up_trans hbl hal)
    have hsz := Q6.out.size
    have hnew : Hid ((w6.alloc (.cells #[.slice (some ⟨r, 0, none⟩) 8 c] 58)).heap[w6.heap.size]? = some (.cells #[.slice (some ⟨r, 0, none⟩) 8 c] 58 (0, 0))) := heap_alloc_last w6 _
    obtain ⟨N, hN⟩ : ∃ N, S.length = N := ⟨_, rfl⟩
    have HN := Lib.hid hN
    have hplt := q1.lt
    rw [hN] at c1
    clear q1 q2 q3 q4 hbl hal M6 M5 cK fz hN
    go_upto_region 14 with (first | (at_builtin; refine list_push (by rfl) _ _ (by rfl) B gg gcap N w6.heap.size us (.slice (some ⟨r, 0, none⟩) 8 c) (by rfl) (by have := Q3.out; rw [HN.out] at this; exact this) (by rfl) hnew.out rfl (by have := HN.out; omega) (by omega) ?_; intro g' cap' w7 HO7 HG7; obtain ⟨z1, z2, z3⟩ := pushed (C := C) (p := p) (S := S) (g' := g') (cap' := cap') (w6 := w7) (by omega) Q1.out Q2.out Q3.out Q4.out Q5.out (by rw [HN.out]; exact HO7.out) HG7.out; have c1' : w7.cell? ⟨p, 1, none⟩ = some (.slice (some ⟨gg, 0, none⟩) S.length gcap) := z1.cell; have fz' := z1.frozen 1; rw [HN.out] at z2 z3 c1'; have Z2 := Lib.hid z2; have Z3 := Lib.hid z3; have hplt7 := z1.lt; clear z1 z2 z3 HO7 HG7 c1 Q1 Q2 Q3 Q4 Q5) | fail)
    go_wp2
    go_ret
    exact ⟨by rw [HT.out]; rfl, by rw [HT.out, HT2.out]; exact Z2.out, (Ft.of Q6.out hB).trans Z3.out⟩
set_option maxHeartbeats 1000000 in
/-- Shift. -/
theorem rdo_sh (k t n : Int) (h : Rf B w p C S) (hw : Wf C S) (hS : S.length ≤ 1000) (hB : B ≤ w.heap.size) (hk : kindB k = true) (hn : 0 ≤ n) (ht : kindB t = true) :
    Calls Tryz.prog 80 #[.pointer (some ⟨p, 0, none⟩), .int .i64 2, .int .i64 k, .int .i64 t, .int .i64 n] w fun e w' => e = .returned (.int .i64 (shE (hd S) k t n)) ∧ Rf B w' p C (nxt (shE (hd S) k t n) (shF (hd S) k t n) S) ∧ Ft B w w' := by
  obtain ⟨k0, k1⟩ := kindB_iff.1 hk
  have d1 : decide (k < 0) = false := by simpa using k0
  have d2 : decide (7 < k) = false := by simp; omega
  have d3 : decide (n < 0) = false := by simpa using hn
  obtain ⟨t0, t1⟩ := kindB_iff.1 ht
  have d5 : decide (t < 0) = false := by simpa using t0
  have d6 : decide (7 < t) = false := by simp; omega
  have HW := Lib.hid hw
  have H := Lib.hid h
  have hC := hw.c1
  have hB1 := up_alloc (Below.refl _ w) (.cells #[] 3)
  have HB1 := Lib.hid hB1
  have H1 := Lib.hid (h.below hB1)
  have O1 := Lib.hid (rown_empty w)
  clear h hw hB1
  go_enter Tryz.func80, Tryz.ntmps80
  go_wp2_with fail
  generalize w.alloc (.cells #[] 3) = w1 at HB1 H1 O1 ⊢
  refine (now_any H1.out HW.out.ne hS).mono ?_
  rintro e w2 ⟨r0, c0, rfl, hr0, hd0⟩
  have R2 := Lib.hid (hr0.below hd0.below)
  have B2 := Lib.hid (up_trans HB1.out hd0.below)
  have O2 : Hid (w2.ownsRow w.heap.size 3 1 (.slice (some ⟨w.heap.size, 0, none⟩) 0 0) 0 []) := O1.out.kept (grown_below (r := none) hd0.below) (.inr (by simp [Value.ownBlock]))
  clear hr0 hd0 H1 O1 HB1
  go_upto_region 4 with (first | (at_builtin; refine list_copy (by rfl) _ _ (by rfl) w.heap.size w.heap.size r0 c0 B (hd S) (by rfl) O2.out (by rfl) R2.out B2.out.size ?_; intro r c w5 HR4 hrb HB4) | fail)
  have hb4 := B2.out.trans HB4.out
  have M5 : Hid (Mk B w p r c C S (hd S) w5) := ⟨H.out.below hb4, HR4.out.less hB, hb4⟩
  clear hb4 HB4 HR4 R2 B2 O2
  have cK := M5.out.row.cell (j := k.toNat) (by omega)
  have fz := M5.out.row.frozen k.toNat
  have y2 : k < 8 := k1
  have hkk : (k.toNat : Int) = k := by omega
  by_cases hf : hd S k.toNat < n
  · have d4 : decide (hd S k.toNat < n) = true := by simpa using hf
    have e : shE (hd S) k t n = 16 := by unfold shE relE; rw [if_pos ht, if_pos ⟨hk, hn⟩, if_pos hf]
    have HT := Lib.hid e
    clear e hf
    go_wp2
    go_ret
    exact ⟨by rw [HT.out]; rfl, by rw [HT.out]; exact M5.out.rf, Ft.of M5.out.bel hB⟩
  · have d4 : decide (hd S k.toNat < n) = false := by simpa using hf
    have er : relE (hd S) k n = 0 := by unfold relE; rw [if_pos ⟨hk, hn⟩, if_neg hf]
    have e : shE (hd S) k t n = 0 := by unfold shE; rw [if_pos ht]; exact er
    have e2 : nxt 0 (shF (hd S) k t n) S = shF (hd S) k t n :: S := rfl
    have HT := Lib.hid e
    have HT2 := Lib.hid e2
    have hat := HW.out.hd.at (k := k.toNat) (by omega)
    have hwr2 := i64_in (hd S k.toNat - n) (by omega) (by omega)
    have hat2 := (rel_gd HW.out.hd er).1.at (k := t.toNat) (by omega)
    have hwr3 := i64_in (relF (hd S) k n t.toNat + n) (by omega) (by omega)
    have htt' : (t.toNat : Int) = t := by omega
    have M6x : Hid (Mk B w p r c C S (relF (hd S) k n) (w5.setCell ⟨r, k.toNat, none⟩ (.int .i64 (hd S k.toNat - n)))) := M5.out.set hrb H.out (k := k.toNat) (by omega) (hd S k.toNat - n)
    have cT := M6x.out.row.cell (j := t.toNat) (by omega)
    have fzT := M6x.out.row.frozen t.toNat
    have M6 : Hid (Mk B w p r c C S (shF (hd S) k t n) ((w5.setCell ⟨r, k.toNat, none⟩ (.int .i64 (hd S k.toNat - n))).setCell ⟨r, t.toNat, none⟩ (.int .i64 (relF (hd S) k n t.toNat + n)))) := M6x.out.set hrb H.out (k := t.toNat) (by omega) (relF (hd S) k n t.toNat + n)
    clear e e2 hf er
    go_upto_region 11 with fail
    generalize w5.setCell ⟨r, k.toNat, none⟩ (.int .i64 (hd S k.toNat - n)) = w5x at M6 M6x cT fzT ⊢
    clear cK fz
    go_upto_region 13 with fail
    generalize w5x.setCell ⟨r, t.toNat, none⟩ (.int .i64 (relF (hd S) k n t.toNat + n)) = w6 at M6 ⊢
    have cK := trivial
    have fz := trivial
    obtain ⟨gg, gcap, us, q1, q2, q3, q4⟩ := M6.out.rf
    have c1 : w6.cell? ⟨p, 1, none⟩ = some (.slice (some ⟨gg, 0, none⟩) S.length gcap) := q1.cell
    have hbl := M6.out.bel
    have hal := up_alloc (Below.refl _ w6) (.cells #[.slice (some ⟨r, 0, none⟩) 8 c] 58)
    have Q1 := Lib.hid (q1.of (hal.block _ q1.lt))
    have Q2 := Lib.hid q2
    have Q3 : Hid ((w6.alloc (.cells #[.slice (some ⟨r, 0, none⟩) 8 c] 58)).ownsRow B 58 1 (.slice (some ⟨gg, 0, none⟩) S.length gcap) S.length us) := q3.kept (grown_below (r := none) hal) (.inr (by simp [Value.ownBlock]))
    have Q4 : Hid (∀ i, i < S.length → ∃ v, us[i]? = some v ∧ RowS B (w6.alloc (.cells #[.slice (some ⟨r, 0, none⟩) 8 c] 58)) v (ato S i)) := fun i hi => by
      obtain ⟨v, hv, hr⟩ := q4 i hi
      exact ⟨v, hv, hr.below hal⟩
    have Q5 := Lib.hid (M6.out.row.below hal)
    have Q6 := Lib.hid (up_trans hbl hal)
    have hsz := Q6.out.size
    have hnew : Hid ((w6.alloc (.cells #[.slice (some ⟨r, 0, none⟩) 8 c] 58)).heap[w6.heap.size]? = some (.cells #[.slice (some ⟨r, 0, none⟩) 8 c] 58 (0, 0))) := heap_alloc_last w6 _
    obtain ⟨N, hN⟩ : ∃ N, S.length = N := ⟨_, rfl⟩
    have HN := Lib.hid hN
    have hplt := q1.lt
    rw [hN] at c1
    clear q1 q2 q3 q4 hbl hal M6 M5 cK fz hN
    go_upto_region 14 with (first | (at_builtin; refine list_push (by rfl) _ _ (by rfl) B gg gcap N w6.heap.size us (.slice (some ⟨r, 0, none⟩) 8 c) (by rfl) (by have := Q3.out; rw [HN.out] at this; exact this) (by rfl) hnew.out rfl (by have := HN.out; omega) (by omega) ?_; intro g' cap' w7 HO7 HG7; obtain ⟨z1, z2, z3⟩ := pushed (C := C) (p := p) (S := S) (g' := g') (cap' := cap') (w6 := w7) (by omega) Q1.out Q2.out Q3.out Q4.out Q5.out (by rw [HN.out]; exact HO7.out) HG7.out; have c1' : w7.cell? ⟨p, 1, none⟩ = some (.slice (some ⟨gg, 0, none⟩) S.length gcap) := z1.cell; have fz' := z1.frozen 1; rw [HN.out] at z2 z3 c1'; have Z2 := Lib.hid z2; have Z3 := Lib.hid z3; have hplt7 := z1.lt; clear z1 z2 z3 HO7 HG7 c1 Q1 Q2 Q3 Q4 Q5) | fail)
    go_wp2
    go_ret
    exact ⟨by rw [HT.out]; rfl, by rw [HT.out, HT2.out]; exact Z2.out, (Ft.of Q6.out hB).trans Z3.out⟩
end
end Go.Proofs.YtjnknnakllbaaaaGreat.Le
