/-
  What the document's ground does when it is told something, by its number; what makes it: contracts that the claimed proof uses.
-/
import Derived.Test.YtjnknnakllbaaaaGreatGrRefCl
namespace Go.Proofs.YtjnknnakllbaaaaGreat.Gr
set_option maxRecDepth 100000
open Go.RowKit

section
variable {B P N : Nat} {w w' w2 : World} {x' : Rp} {bv : Value} {L L' : List Sp.Rn} {f f' : Ra.Ws} {t t' : Int} {S S' : List Le.Row}
/-- The document's ground became another one. -/
def Bex (B P N : Nat) (x : Rp) (bv : Value) (o : Out) (w w' : World) : Prop := Rg B w' P x bv N o.L o.f o.t o.S ∧ Fx x B w w'
theorem Bex.after {w1 : World} {o : Out} (hb : Below w.heap.size w w1) (hB : B ≤ w.heap.size) (h : Rg B w' P x' bv N o.L o.f o.t o.S ∧ Fx x' B w1 w') : Bex B P N x' bv o w w' := ⟨h.1, (Fx.of hb hB).trans h.2⟩
theorem rdoes_any (o : Cl) (hg : Ra.I64 o.g) (h : Rg B w P x' bv N L f t S) (hi : Inv N L f S) (hs : Ra.St (N : Int) t f) (hS : S.length ≤ 1000) (ht : 0 ≤ t ∧ t < 1099511627776) : Calls Tryz.prog 11 #[.pointer (some ⟨P, 0, none⟩), clV o] w fun e w' =>
    e = .returned (.tuple #[.int .i64 (doO L f t S o).v, .int .i64 (doO L f t S o).e]) ∧ Bex B P N x' bv (doO L f t S o) w w' := by
  obtain ⟨x, g, n, a, v, c, s⟩ := o
  have hB := h.hB
  obtain ⟨w1, hw1⟩ : ∃ w1, w.alloc (.cells #[.int .i64 x, .int .i64 g, .int .i64 n, .int .i64 a, .int .i64 v, .int .i64 c, .int .i64 s] 37) = w1 := ⟨_, rfl⟩
  have b1 : Below w.heap.size w w1 := by rw [← hw1]; exact up_alloc (Below.refl _ _) _
  have k1 : Blk w1 w.heap.size [.int .i64 x, .int .i64 g, .int .i64 n, .int .i64 a, .int .i64 v, .int .i64 c, .int .i64 s] 37 := by rw [← hw1]; exact Blk.new w _ 37
  have s0 : w1.cell? ⟨w.heap.size, 0, none⟩ = some (.int .i64 x) := Sp.Blk.cell k1
  have s1 : w1.cell? ⟨w.heap.size, 1, none⟩ = some (.int .i64 g) := Sp.Blk.cell k1
  have s2 : w1.cell? ⟨w.heap.size, 2, none⟩ = some (.int .i64 n) := Sp.Blk.cell k1
  have s3 : w1.cell? ⟨w.heap.size, 3, none⟩ = some (.int .i64 a) := Sp.Blk.cell k1
  have s4 : w1.cell? ⟨w.heap.size, 4, none⟩ = some (.int .i64 v) := Sp.Blk.cell k1
  have s5 : w1.cell? ⟨w.heap.size, 5, none⟩ = some (.int .i64 c) := Sp.Blk.cell k1
  have s6 : w1.cell? ⟨w.heap.size, 6, none⟩ = some (.int .i64 s) := Sp.Blk.cell k1
  have HO := Lib.hid (ropen_any n a v c (h.below b1) hi hS ht)
  have HC := Lib.hid (rclose_any g hg (h.below b1) hi hs hS ht)
  have HK := Lib.hid (rmark_any g v c s hg (h.below b1) hi hs hS ht)
  have HB := Lib.hid b1
  have hmv := mark_v L f t S g v c s
  unfold doO clV
  dsimp only
  clear h hS b1 k1 hi hs ht hg
  by_cases h0 : x = 0
  · subst h0
    rw [if_pos rfl]
    generalize openO L f t S n a v c = O at *
    obtain ⟨ov, oe, oL, of, ot, oS⟩ := O
    dsimp only at HO ⊢
    clear HC HK hmv
    go_enter Tryz.func11, Tryz.ntmps11
    go_wp2_with fail
    clear hw1
    refine HO.out.mono ?_
    rintro e w2 ⟨rfl, h2⟩
    have H2 := Lib.hid (Bex.after (o := ⟨ov, oe, oL, of, ot, oS⟩) HB.out hB h2)
    clear h2
    go_wp2_with fail
    go_ret2
    exact ⟨rfl, H2.out⟩
  · have d0 : (x == 0) = false := by simpa using h0
    rw [if_neg h0]
    by_cases h1 : x = 1
    · subst h1
      rw [if_pos rfl]
      generalize closeO L f t S g = O at *
      obtain ⟨ov, oe, oL, of, ot, oS⟩ := O
      dsimp only at HC ⊢
      clear HO HK hmv d0 h0
      go_enter Tryz.func11, Tryz.ntmps11
      go_wp2_with fail
      clear hw1
      refine HC.out.mono ?_
      rintro e w2 ⟨rfl, h2⟩
      have H2 := Lib.hid (Bex.after (o := ⟨ov, oe, oL, of, ot, oS⟩) HB.out hB h2)
      clear h2
      go_wp2_with fail
      go_ret2
      exact ⟨rfl, H2.out⟩
    · have d1 : (x == 1) = false := by simpa using h1
      rw [if_neg h1]
      generalize markO L f t S g v c s = O at *
      obtain ⟨ov, oe, oL, of, ot, oS⟩ := O
      dsimp only at HK hmv ⊢
      subst hmv
      clear HO HC h0 h1
      go_enter Tryz.func11, Tryz.ntmps11
      go_wp2_with fail
      clear hw1
      refine HK.out.mono ?_
      rintro e w2 ⟨rfl, h2⟩
      have H2 := Lib.hid (Bex.after (o := ⟨0, oe, oL, of, ot, oS⟩) HB.out hB h2)
      clear h2
      go_wp2_with fail
      go_ret2
      exact ⟨rfl, H2.out⟩
theorem r12new_no (M : Int) (w : World) (h : M < 0 ∨ 4096 < M) : Calls Tryz.prog 9 #[.int .i64 M] w fun e w' => e = .returned (.tuple #[.pointer none, .int .i64 11]) ∧ w = w' := by
  by_cases h0 : M < 0
  · have d0 : decide (M < 0) = true := by simpa using h0
    go_enter Tryz.func9, Tryz.ntmps9
    go_wp2_with fail
    go_ret2
    exact ⟨rfl, rfl⟩
  · have d0 : decide (M < 0) = false := by simpa using h0
    have d1 : decide (4096 < M) = true := by simp; omega
    go_enter Tryz.func9, Tryz.ntmps9
    go_wp2_with fail
    go_ret2
    exact ⟨rfl, rfl⟩
theorem r12new_yes (w : World) (hN : N ≤ 4096) : Calls Tryz.prog 9 #[.int .i64 (N : Int)] w fun e w' =>
    ∃ B P x bv, e = .returned (.tuple #[.pointer (some ⟨P, 0, none⟩), .int .i64 0]) ∧ Rg B w' P x bv N (Sp.newL N) Ra.f0 0 [Le.z8] ∧ Below w.heap.size w w' ∧ w.heap.size ≤ B ∧ w.heap.size ≤ x.g ∧ w.heap.size ≤ x.m ∧ w.heap.size ≤ x.r := by
  have d0 : decide ((N : Int) < 0) = false := by simp
  have d1 : decide (4096 < (N : Int)) = false := by simp; omega
  have HS := Lib.hid (Sp.rnew_yes N w hN)
  have HM := Lib.hid (fun W => Ra.rnew_yes N W hN)
  have HB := Lib.hid (fun W => Le.rnew_yes (B := W.heap.size) N W (by omega) (by omega) (Nat.le_refl _))
  have hmk := Ce.make_bytes (N * 256) (by omega)
  have hcast : ((N * 256 : Nat) : Int) = (N : Int) * 256 := by push_cast; rfl
  rw [hcast] at hmk
  have hw := i64_in ((N : Int) * 256) (by omega) (by omega)
  have hc2 : (256 : Int) * N = (N : Int) * 256 := by omega
  go_enter Tryz.func9, Tryz.ntmps9
  go_wp2_with fail
  refine HS.out.mono ?_
  rintro e w1 ⟨rfl, s1, b1⟩
  have S1 := Lib.hid s1
  have B1 := Lib.hid b1
  clear s1 b1 HS
  go_wp2_with fail
  refine (HM.out w1).mono ?_
  rintro e w2 ⟨m, r, rfl, m2, lm, lr, b2⟩
  have S2 := Lib.hid (S1.out.below b2)
  have M2 := Lib.hid m2
  have B2 := Lib.hid (up_trans B1.out b2)
  have HL2 : Hid (w1.heap.size ≤ m ∧ w1.heap.size ≤ r) := ⟨lm, lr⟩
  clear m2 lm lr b2 HM
  go_wp2_with fail
  refine (HB.out w2).mono ?_
  rintro e w3 ⟨k, rfl, k3, b3⟩
  have S3 := Lib.hid (S2.out.below b3)
  have M3 := Lib.hid (M2.out.below b3)
  have K3 := Lib.hid k3
  have B3 := Lib.hid (up_trans B2.out b3)
  have hz3 := b3.size
  clear k3 b3 HB
  go_wp2_with fail
  go_ret2
  have up : ∀ (V : World) (o : Obj), Below V.heap.size V (V.alloc o) := fun V o => up_alloc (Below.refl _ _) o
  obtain ⟨w4, hw4⟩ : ∃ w4, w3.alloc (.cells (madeCells #[.int .u8 0] (N * 256)) 5) = w4 := ⟨_, rfl⟩
  have hz4 : w4.heap.size = w3.heap.size + 1 := by rw [← hw4, World.size_alloc]
  have b4 : Below w3.heap.size w3 w4 := by rw [← hw4]; exact up _ _
  rw [hw4]
  have b5 : Below w4.heap.size w4 _ := up w4 (.cells #[.slice (some ⟨w3.heap.size, 0, none⟩) (N * 256) (N * 256), .pointer (some ⟨w.heap.size + 1, 0, none⟩), .pointer (some ⟨m, 0, none⟩), .pointer (some ⟨k, 0, none⟩)] 49)
  have b6 := up_trans b4 b5
  have hb := Blk.new w4 [.slice (some ⟨w3.heap.size, 0, none⟩) (N * 256) (N * 256), .pointer (some ⟨w.heap.size + 1, 0, none⟩), .pointer (some ⟨m, 0, none⟩), .pointer (some ⟨k, 0, none⟩)] 49
  rw [hz4] at hb
  have q1 := Sp.Blk.lt S2.out.1
  have q2 := S2.out.2.1.lt
  have q3 := Sp.Blk.lt (show Blk w2 m _ 43 from M2.out.blk)
  have q4 := Sp.Blk.lt (show Blk w2 r _ 39 from M2.out.row)
  have hz1 := B1.out.size
  have hz2 := B2.out.size
  obtain ⟨l1, l2⟩ := HL2.out
  exact ⟨w2.heap.size, _, ⟨w.heap.size + 1, w.heap.size, m, r, k⟩, _, rfl, ⟨hb, S3.out.below b6, M3.out.below b6, K3.out.below b6, Nat.le_trans hz3 b6.size, q1, q2, q3, q4⟩, up_trans B3.out b6, hz2, Nat.le_refl _, by show w.heap.size ≤ m; omega, by show w.heap.size ≤ r; omega⟩
end
end Go.Proofs.YtjnknnakllbaaaaGreat.Gr
