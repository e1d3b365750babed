/-
  A call on the program's tags and on the document's, whose rows lie where they lay or in a block of their own. A contract that the claimed proofs use.
-/
import Derived.Test.YtbgacchbldgaeaaBoth
import Derived.Test.YtbgacchbldgaeaaCMove
namespace Go.Proofs.Ytbgacchbldgaeaa.Cl
open Go.RowKit Go.Maps

set_option maxRecDepth 100000 in
set_option maxHeartbeats 4000000 in
theorem do_any {W : World} {q b P : Nat} {v : Value} {L : List Tr} (htg : Tg W q b L) (hrf : Rf W P v L) (c : Int) (r : Tr) (p2 s2 : Int) (hp : I64 r.p) (hs : I64 r.s) :
    Calls Try.prog 9 #[.pointer (some ⟨q, 0, none⟩), .pointer (some ⟨P, 0, none⟩), .agg #[.int .i64 c, .int .i64 r.p, .int .i64 r.s, .int .i64 p2, .int .i64 s2, .int .i64 r.k, .int .i64 r.z]] W fun e w' => e = .returned (.bool true) ∧ Tg w' q b (doL L c r p2 s2) ∧ (∃ v', Rf w' P v' (doL L c r p2 s2) ∧ (v' = v ∨ ∀ j, v'.ownBlock = some j → W.heap.size ≤ j)) ∧ Fr b P W w' := by
  obtain ⟨w1, hw1⟩ : ∃ w1, W.alloc (.cells #[.int .i64 c, .int .i64 r.p, .int .i64 r.s, .int .i64 p2, .int .i64 s2, .int .i64 r.k, .int .i64 r.z] 36) = w1 := ⟨_, rfl⟩
  have b1 : Below W.heap.size W w1 := by rw [← hw1]; exact up_alloc (Below.refl _ _) _
  have hbx : Blk w1 W.heap.size [.int .i64 c, .int .i64 r.p, .int .i64 r.s, .int .i64 p2, .int .i64 s2, .int .i64 r.k, .int .i64 r.z] 36 := by rw [← hw1]; exact Blk.new W _ 36
  obtain ⟨rp, rs, rk, rz⟩ := r
  simp only [] at hp hs hw1 hbx
  have T1 := Lib.hid (htg.below b1)
  have R1 := Lib.hid (hrf.below b1)
  have B1 := Lib.hid b1
  have X1 := Lib.hid hbx
  have HI : Hid (I64 rp ∧ I64 rs) := ⟨hp, hs⟩
  obtain ⟨L', hL'⟩ : ∃ L', doL L c ⟨rp, rs, rk, rz⟩ p2 s2 = L' := ⟨_, rfl⟩
  have HL := Lib.hid hL'
  rw [hL']
  obtain ⟨c0, c1, c2, c3, c4, c5, c6⟩ := c7_cells hbx
  clear hrf htg b1 hbx hp hs hL'
  by_cases e0 : c = 0
  · subst e0
    have HLp : Hid (L' = putL L ⟨rp, rs, rk, rz⟩) := by show _ = _; rw [← HL.out]; unfold doL; rw [if_pos rfl]
    have HP1 := Lib.hid (put_any (T1.out.below (Below.refl _ _).drew) ⟨rp, rs, rk, rz⟩)
    have HPR : Hid (∀ V u, Rf V P u L → Calls Try.prog 29 #[.pointer (some ⟨P, 0, none⟩), .agg #[.int .i64 rp, .int .i64 rs, .int .i64 rk, .int .i64 rz]] V fun e w' => e = .returned (.int .i64 (putE L ⟨rp, rs, rk, rz⟩)) ∧ RWrote P u (putL L ⟨rp, rs, rk, rz⟩) V w') := fun V u hR => rput_any hR T1.out.wf ⟨rp, rs, rk, rz⟩
    obtain ⟨Er, hEr⟩ : ∃ Er, putE L ⟨rp, rs, rk, rz⟩ = Er := ⟨_, rfl⟩
    simp only [hEr] at HP1 HPR
    rw [← HLp.out] at HP1 HPR
    have S1 := c7_cells X1.out
    clear hEr c1 c2 c3 c4 c5 c6
    go_enter Try.func9, Try.ntmps9
    go_wp2_with fail
    clear hw1 c0
    go_region_held3 (fun V => V.cell? ⟨W.heap.size, 0, none⟩ = some (.int .i64 0) ∧ V.cell? ⟨W.heap.size, 1, none⟩ = some (.int .i64 rp) ∧ V.cell? ⟨W.heap.size, 2, none⟩ = some (.int .i64 rs) ∧ V.cell? ⟨W.heap.size, 3, none⟩ = some (.int .i64 p2) ∧ V.cell? ⟨W.heap.size, 4, none⟩ = some (.int .i64 s2) ∧ V.cell? ⟨W.heap.size, 5, none⟩ = some (.int .i64 rk) ∧ V.cell? ⟨W.heap.size, 6, none⟩ = some (.int .i64 rz))
      (first | exact S4 | exact S3 | exact S2 | exact S1)
      ((first
        | (go_at_call 22; refine HP1.out.mono ?_; rintro e w2 ⟨rfl, t2, g2⟩; have T2 := Lib.hid t2; have G2 := Lib.hid g2; have R2 := Lib.hid ((R1.out.below (Below.refl _ _).drew).turned (T1.out.mp.below (Below.refl _ _).drew) g2); have X2 := Lib.hid (blk_b (X1.out.below (Below.refl _ _).drew) (T1.out.mp.below (Below.refl _ _).drew) g2); have S2 := c7_cells X2.out; clear t2 g2)
        | (go_at_call 13; refine (of_eq rp rs rk rz _).mono ?_; rintro e w3 ⟨rfl, h3⟩; have b3 : Below w2.heap.size w2 w3 := (by rw [h3]; exact up_alloc (up_alloc (up_alloc (Below.refl _ _) _) _) _); have B3 := Lib.hid b3; have R3 := Lib.hid (R2.out.below b3); have X3 := Lib.hid (X2.out.below b3); have S3 := c7_cells X3.out; clear h3 b3)
        | (go_at_call 29; refine (HPR.out _ _ R3.out).mono ?_; rintro e w4 ⟨rfl, ⟨v4, r4, n4⟩, g4⟩; have R4 := Lib.hid r4; have N4 := Lib.hid n4; clear n4; have G4 := Lib.hid g4; have X4 := Lib.hid (blk_P X3.out (by decide) R3.out g4); have S4 := c7_cells X4.out; clear r4 g4)))
    go_wp2_with fail
    go_ret
    refine ⟨by simp, (T2.out.below B3.out).apart R3.out G4.out, ⟨_, R4.out, N4.out.imp_right fun h j hj => Nat.le_trans (Nat.le_trans (Nat.le_trans (up_trans B1.out (Below.refl _ _).drew).size G2.out.size) B3.out.size) (h j hj)⟩, ?_⟩
    exact (Fr.of (up_trans B1.out (Below.refl _ _).drew)).trans ((Fr.ofq G2.out).trans ((Fr.of B3.out).trans (Fr.ofg G4.out)))
  · have n0 : (c == 0) = false := by simpa using e0
    by_cases e1 : c = 1
    · subst e1
      have HLp : Hid (L' = del L rp rs) := by show _ = _; rw [← HL.out]; unfold doL; rw [if_neg (by decide), if_pos rfl]
      have HP1 := Lib.hid (drop_any T1.out HI.out.1 HI.out.2)
      have HPR : Hid (∀ V u, Rf V P u L → Calls Try.prog 30 #[.pointer (some ⟨P, 0, none⟩), .int .i64 rp, .int .i64 rs] V fun e w' => (∃ a b, e = .returned (.tuple #[.agg #[.int .i64 a, .int .i64 b, .int .i64 (rowOf L rp rs).k, .int .i64 (rowOf L rp rs).z], .int .i64 (dropE L rp rs)])) ∧ RWrote P u (del L rp rs) V w') := fun V u hR => rdrop_any hR T1.out.wf rp rs
      rw [← HLp.out] at HP1 HPR
      generalize (rowOf L rp rs).k = K at HP1 HPR
      generalize (rowOf L rp rs).z = Z at HP1 HPR
      generalize dropE L rp rs = Er at HP1 HPR
      clear c3 c4 c5 c6
      go_enter Try.func9, Try.ntmps9
      go_wp2_with fail
      clear hw1 c0
      refine HP1.out.mono ?_
      rintro e w2 ⟨rfl, t2, g2⟩
      have T2 := Lib.hid t2
      have G2 := Lib.hid g2
      have R2 := Lib.hid (R1.out.turned T1.out.mp g2)
      have X2 := Lib.hid (blk_b X1.out T1.out.mp g2)
      obtain ⟨w3, hw3⟩ : ∃ w3, w2.alloc (.cells #[.int .i64 K, .int .i64 Z] 26) = w3 := ⟨_, rfl⟩
      have b3 : Below w2.heap.size w2 w3 := by rw [← hw3]; exact up_alloc (Below.refl _ _) _
      have y3 : Blk w3 w2.heap.size [.int .i64 K, .int .i64 Z] 26 := by rw [← hw3]; exact Blk.new w2 _ 26
      have x3 := X2.out.below b3
      have d1 : w3.cell? ⟨W.heap.size, 1, none⟩ = some (.int .i64 rp) := x3.cell
      have d2 : w3.cell? ⟨W.heap.size, 2, none⟩ = some (.int .i64 rs) := x3.cell
      have B3 := Lib.hid b3
      have Y3 := Lib.hid y3
      have R3 := Lib.hid (R2.out.below b3)
      clear t2 g2 b3 y3 x3 c1 c2
      go_wp2_with fail
      clear hw3
      refine (HPR.out _ _ R3.out).mono ?_
      rintro e w4 ⟨⟨xa, xb, rfl⟩, ⟨v4, r4, n4⟩, g4⟩
      have R4 := Lib.hid r4
      have N4 := Lib.hid n4
      clear n4
      have G4 := Lib.hid g4
      have y4 := blk_P Y3.out (by decide) R3.out g4
      obtain ⟨w5, hw5⟩ : ∃ w5, w4.alloc (.cells #[.int .i64 xa, .int .i64 xb, .int .i64 K, .int .i64 Z] 44) = w5 := ⟨_, rfl⟩
      have b5 : Below w4.heap.size w4 w5 := by rw [← hw5]; exact up_alloc (Below.refl _ _) _
      have z5 : Blk w5 w4.heap.size [.int .i64 xa, .int .i64 xb, .int .i64 K, .int .i64 Z] 44 := by rw [← hw5]; exact Blk.new w4 _ 44
      have y5 := y4.below b5
      have f0 : w5.cell? ⟨w2.heap.size, 0, none⟩ = some (.int .i64 K) := y5.cell
      have f1 : w5.cell? ⟨w2.heap.size, 1, none⟩ = some (.int .i64 Z) := y5.cell
      have f2 : w5.cell? ⟨w4.heap.size, 2, none⟩ = some (.int .i64 K) := z5.cell
      have f3 : w5.cell? ⟨w4.heap.size, 3, none⟩ = some (.int .i64 Z) := z5.cell
      have B5 := Lib.hid b5
      clear r4 g4 y4 b5 z5 y5 d1 d2
      go_wp2_with fail
      go_ret
      have t4 := (T2.out.below B3.out).apart R3.out G4.out
      refine ⟨by simp, t4.below B5.out, ⟨_, R4.out.below B5.out, N4.out.imp_right fun h j hj => Nat.le_trans (Nat.le_trans (Nat.le_trans B1.out.size G2.out.size) B3.out.size) (h j hj)⟩, ?_⟩
      exact (Fr.of B1.out).trans ((Fr.ofq G2.out).trans ((Fr.of B3.out).trans ((Fr.ofg G4.out).trans (Fr.of B5.out))))
    · have n1 : (c == 1) = false := by simpa using e1
      by_cases e2 : c = 2
      · subst e2
        have HLp : Hid (L' = movL L rp rs ⟨p2, s2, rk, rz⟩) := by show _ = _; rw [← HL.out]; unfold doL; rw [if_neg (by decide), if_neg (by decide), if_pos rfl]
        have HP1 := Lib.hid (move_any (T1.out.below (Below.refl _ _).drew) HI.out.1 HI.out.2 ⟨p2, s2, rk, rz⟩)
        have HPR : Hid (∀ V u, Rf V P u L → Calls Try.prog 31 #[.pointer (some ⟨P, 0, none⟩), .int .i64 rp, .int .i64 rs, .agg #[.int .i64 p2, .int .i64 s2, .int .i64 rk, .int .i64 rz]] V fun e w' => e = .returned (.int .i64 (movE L rp rs ⟨p2, s2, rk, rz⟩)) ∧ RWrote P u (movL L rp rs ⟨p2, s2, rk, rz⟩) V w') := fun V u hR => rmove_any hR T1.out.wf rp rs ⟨p2, s2, rk, rz⟩
        obtain ⟨Er, hEr⟩ : ∃ Er, movE L rp rs ⟨p2, s2, rk, rz⟩ = Er := ⟨_, rfl⟩
        simp only [hEr] at HP1 HPR
        rw [← HLp.out] at HP1 HPR
        have S1 := c7_cells X1.out
        clear hEr c1 c2 c3 c4 c5 c6
        go_enter Try.func9, Try.ntmps9
        go_wp2_with fail
        clear hw1 c0
        go_region_held3 (fun V => V.cell? ⟨W.heap.size, 0, none⟩ = some (.int .i64 2) ∧ V.cell? ⟨W.heap.size, 1, none⟩ = some (.int .i64 rp) ∧ V.cell? ⟨W.heap.size, 2, none⟩ = some (.int .i64 rs) ∧ V.cell? ⟨W.heap.size, 3, none⟩ = some (.int .i64 p2) ∧ V.cell? ⟨W.heap.size, 4, none⟩ = some (.int .i64 s2) ∧ V.cell? ⟨W.heap.size, 5, none⟩ = some (.int .i64 rk) ∧ V.cell? ⟨W.heap.size, 6, none⟩ = some (.int .i64 rz))
          (first | exact S4 | exact S3 | exact S2 | exact S1)
          ((first
            | (go_at_call 23; refine HP1.out.mono ?_; rintro e w2 ⟨rfl, t2, g2⟩; have T2 := Lib.hid t2; have G2 := Lib.hid g2; have R2 := Lib.hid ((R1.out.below (Below.refl _ _).drew).turned (T1.out.mp.below (Below.refl _ _).drew) g2); have X2 := Lib.hid (blk_b (X1.out.below (Below.refl _ _).drew) (T1.out.mp.below (Below.refl _ _).drew) g2); have S2 := c7_cells X2.out; clear t2 g2)
            | (go_at_call 13; refine (of_eq p2 s2 rk rz _).mono ?_; rintro e w3 ⟨rfl, h3⟩; have b3 : Below w2.heap.size w2 w3 := (by rw [h3]; exact up_alloc (up_alloc (up_alloc (Below.refl _ _) _) _) _); have B3 := Lib.hid b3; have R3 := Lib.hid (R2.out.below b3); have X3 := Lib.hid (X2.out.below b3); have S3 := c7_cells X3.out; clear h3 b3)
            | (go_at_call 31; refine (HPR.out _ _ R3.out).mono ?_; rintro e w4 ⟨rfl, ⟨v4, r4, n4⟩, g4⟩; have R4 := Lib.hid r4; have N4 := Lib.hid n4; clear n4; have G4 := Lib.hid g4; have X4 := Lib.hid (blk_P X3.out (by decide) R3.out g4); have S4 := c7_cells X4.out; clear r4 g4)))
        go_wp2_with fail
        go_ret
        refine ⟨by simp, (T2.out.below B3.out).apart R3.out G4.out, ⟨_, R4.out, N4.out.imp_right fun h j hj => Nat.le_trans (Nat.le_trans (Nat.le_trans (up_trans B1.out (Below.refl _ _).drew).size G2.out.size) B3.out.size) (h j hj)⟩, ?_⟩
        exact (Fr.of (up_trans B1.out (Below.refl _ _).drew)).trans ((Fr.ofq G2.out).trans ((Fr.of B3.out).trans (Fr.ofg G4.out)))
      · have n2 : (c == 2) = false := by simpa using e2
        have HLp : Hid (L' = L) := by show _ = _; rw [← HL.out]; unfold doL; rw [if_neg e0, if_neg e1, if_neg e2]
        clear e0 e1 e2
        go_enter Try.func9, Try.ntmps9
        go_wp2_with fail
        go_ret
        rw [HLp.out]
        exact ⟨rfl, T1.out, ⟨_, R1.out, .inl rfl⟩, Fr.of B1.out⟩
end Go.Proofs.Ytbgacchbldgaeaa.Cl
