/-
  What join, enter and leave do: contracts that the claimed proofs use.
-/
import Derived.Test.YtjjilnklcjgndaaSmall
import Derived.StillTailTactics
namespace Go.Proofs.Ytjjilnklcjgndaa
open Go.RowKit

theorem join_w (q c d N cc cd B A : Nat) (v1 v2 : Int) (w : World) (h2 : w.cell? ⟨q, 2, none⟩ = some (.slice (some ⟨c, 0, none⟩) N cc)) (h3 : w.cell? ⟨q, 3, none⟩ = some (.slice (some ⟨d, 0, none⟩) N cd))
    (hB : B < N) (hA : A < N) (f1 : w.frozen? ⟨c, B, none⟩ = false) (f2 : w.frozen? ⟨d, A, none⟩ = false) (k1 : w.cell? ⟨c, B, none⟩ = some (.int .i64 v1)) (k2 : w.cell? ⟨d, A, none⟩ = some (.int .i64 v2)) (hcd : ¬ c = d) :
    Calls Try.prog 36 #[.pointer (some ⟨q, 0, none⟩), .int .i64 (B : Int), .int .i64 (A : Int)] w fun e w' => (∃ v, e = .returned v) ∧ w' = ((w.setCell ⟨c, B, none⟩ (.int .i64 (A : Int))).setCell ⟨d, A, none⟩ (.int .i64 (B : Int))).drew := by
  have b1 : (0 : Int) ≤ (B : Int) := by omega
  have b2 : (B : Int) < (N : Int) := by omega
  have b3 : (0 : Int) ≤ (A : Int) := by omega
  have b4 : (A : Int) < (N : Int) := by omega
  go_enter Try.func36, Try.ntmps36
  go_wp2_with fail
  go_region
  go_end0
  exact ⟨⟨_, rfl⟩, rfl⟩
theorem join_any (p : Pl) (inn : Nat → Int) (cs nx pv : Nat → Nat) (B A : Nat) (w : World) (h : RM w p inn cs nx pv) (hB : B < p.n + p.m) (hA : A < p.n + p.m) :
    Calls Try.prog 36 #[.pointer (some ⟨p.q, 0, none⟩), .int .i64 (B : Int), .int .i64 (A : Int)] w fun e w' => (∃ v, e = .returned v) ∧ RM w' p inn cs (up nx B A) (up pv A B) ∧ Chg p.lo p.hi w w' := by
  refine (join_w p.q p.c p.d _ _ _ B A _ _ w h.s2 h.s3 hB hA (h.r2.frozen _) (h.r3.frozen _) (h.r2.cell hB) (h.r3.cell hA) h.ok.cd').mono ?_
  rintro e w' ⟨he, rfl⟩
  exact ⟨he, ((h.set2 hB A).set3 hA B).drew, ((Chg.set w _ h.ok.c1.1 h.ok.c1.2).trans (Chg.set _ _ h.ok.d1.1 h.ok.d1.2)).drew⟩
set_option maxHeartbeats 1000000 in
theorem enter_any (p : Pl) (inn : Nat → Int) (cs nx pv : Nat → Nat) (i x B A z : Nat) (w : World) (h : RM w p inn cs nx pv) (hi : i < p.m) (hx : x < p.n) (hB : B < p.n + p.m) (hA : A < p.n + p.m) (hn : nx B = A) (hc : cs i = z) (hz : z ≤ 4096) :
    Calls Try.prog 34 #[.pointer (some ⟨p.q, 0, none⟩), .int .i64 (i : Int), .int .i64 (x : Int), .int .i64 (B : Int)] w fun e w' => (∃ v, e = .returned v) ∧ RM w' p (up inn x (i : Int)) (up cs i (z + 1)) (up (up nx B x) x A) (up (up pv x B) A x) ∧ Chg p.lo p.hi w w' := by
  have hxN : x < p.n + p.m := by omega
  have H := Lib.hid h
  have g2 := h.s2
  have gB := h.r2.cell hB
  rw [hn] at gB
  have b1 : (0 : Int) ≤ (B : Int) := by omega
  have b2 : (B : Int) < (p.n : Int) + (p.m : Int) := by omega
  clear h hn
  go_enter Try.func34, Try.ntmps34
  go_wp2_with fail
  refine (join_any p inn cs nx pv B x _ H.out hB hxN).mono ?_
  rintro e w1 ⟨⟨v1, rfl⟩, h1, c1⟩
  have H1 := Lib.hid h1
  have C1 := Lib.hid c1
  clear h1 c1 g2 gB b1 b2
  go_wp2_with fail
  refine (join_any p inn cs _ _ x A _ H1.out hxN hA).mono ?_
  rintro e w2 ⟨⟨v2, rfl⟩, h2, c2⟩
  have H2 := Lib.hid h2
  have C2 := Lib.hid (C1.out.trans c2)
  have g0 := h2.s0
  have g1 := h2.s1
  have f0 := h2.r0.frozen x
  have f1 := h2.r1.frozen i
  have k0 := h2.r0.cell hx
  have k1 := h2.r1.cell hi
  have oqa := h2.ok.qa
  have oqb := h2.ok.qb
  have oab := h2.ok.ab
  have b1 : (0 : Int) ≤ (x : Int) := by omega
  have b2 : (x : Int) < (p.n : Int) := by omega
  have b3 : (0 : Int) ≤ (i : Int) := by omega
  have b4 : (i : Int) < (p.m : Int) := by omega
  rw [hc] at k1
  clear h2 c2 hc
  go_wp2_with fail
  go_end0
  have e : ((z : Int) + 1) = ((z + 1 : Nat) : Int) := by omega
  have st := (H2.out.set0 hx (i : Int)).set1 hi (z + 1)
  refine ⟨⟨_, rfl⟩, ?_, ?_⟩
  · first | exact st | (rw [e]; exact st)
  · exact C2.out.trans ((Chg.set w2 _ H2.out.ok.a1.1 H2.out.ok.a1.2).trans (Chg.set _ _ H2.out.ok.b1.1 H2.out.ok.b1.2))
set_option maxHeartbeats 1000000 in
theorem leave_any (p : Pl) (inn : Nat → Int) (cs nx pv : Nat → Nat) (i x B A z : Nat) (w : World) (h : RM w p inn cs nx pv) (hi : i < p.m) (hx : x < p.n) (hB : B < p.n + p.m) (hA : A < p.n + p.m) (hn : nx x = A) (hp : pv x = B) (hin : inn x = (i : Int)) (hc : cs i = z + 1) (hz : z ≤ 4096) :
    Calls Try.prog 35 #[.pointer (some ⟨p.q, 0, none⟩), .int .i64 (x : Int)] w fun e w' => (∃ v, e = .returned v) ∧ RM w' p (up inn x (-1)) (up cs i z) (up nx B A) (up pv A B) ∧ Chg p.lo p.hi w w' := by
  have hxN : x < p.n + p.m := by omega
  have H := Lib.hid h.drew
  have C0 : Hid (Chg p.lo p.hi w w.drew) := (Chg.refl _ _ w).drew
  have g2 := h.s2
  have g3 := h.s3
  have gA := h.r2.cell hxN
  have gB := h.r3.cell hxN
  rw [hn] at gA
  rw [hp] at gB
  have b1 : (0 : Int) ≤ (x : Int) := by omega
  have b2 : (x : Int) < (p.n : Int) + (p.m : Int) := by omega
  clear h hn hp
  go_enter Try.func35, Try.ntmps35
  go_wp2_with fail
  go_still_tail 15, (by kernel_rfl)
  change wpList _ _ _ _ _ w.drew
  go_wp2_with fail
  refine (join_any p inn cs nx pv B A _ H.out hB hA).mono ?_
  rintro e w1 ⟨⟨v1, rfl⟩, h1, c1⟩
  have H1 := Lib.hid h1
  have C1 := Lib.hid (C0.out.trans c1)
  have g0 := h1.s0
  have g1 := h1.s1
  have f0 := h1.r0.frozen x
  have f1 := h1.r1.frozen i
  have k0 := h1.r0.cell hx
  have k1 := h1.r1.cell hi
  rw [hin] at k0
  rw [hc] at k1
  have oqa := h1.ok.qa
  have oqb := h1.ok.qb
  have oab := h1.ok.ab
  have b2' : (x : Int) < (p.n : Int) := by omega
  have b3 : (0 : Int) ≤ (i : Int) := by omega
  have b4 : (i : Int) < (p.m : Int) := by omega
  clear h1 c1 g2 g3 gA gB b2 hin hc
  go_wp2_with fail
  go_region
  have oba : ¬ p.b = p.a := fun e => oab e.symm
  go_wp2_with fail
  go_end0
  exact ⟨⟨_, rfl⟩, (H1.out.set1 hi z).drew.set0 hx (-1), (C1.out.trans (Chg.set w1 _ H1.out.ok.b1.1 H1.out.ok.b1.2)).drew.trans (Chg.set _ _ H1.out.ok.a1.1 H1.out.ok.a1.2)⟩
end Go.Proofs.Ytjjilnklcjgndaa
