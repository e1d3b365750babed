/-
  What makes a ground: contracts that the claimed proofs use.
-/
import Derived.Test.YtckcgaliphpgeaaGreatDoorGrB
namespace Go.Proofs.YtckcgaliphpgeaaGreatDoor.Gr
set_option maxRecDepth 100000
open Go.RowKit
theorem new_no (N : Int) (w : World) (h : N < 0 ∨ 4096 < N) : Calls Tryz.prog 34 #[.int .i64 N] w fun e w' => e = .returned (.tuple #[.pointer none, .int .i64 11]) ∧ w = w' := by
  have HN := Lib.hid (Sp.new_no N w h)
  clear h
  go_enter Tryz.func34, Tryz.ntmps34
  go_wp2_with fail
  refine HN.out.mono ?_
  rintro e w1 ⟨rfl, rfl⟩
  go_wp2_with fail
  go_ret2
  exact ⟨rfl, rfl⟩
def zeros (N : Int) : List (BitVec 8) := List.replicate (256 * N).toNat 0#8
theorem zeros_len {N : Int} (h : 0 ≤ N) : ((zeros N).length : Int) = 256 * N := by unfold zeros; rw [List.length_replicate]; omega
/-- All that a ground is made of is new. -/
def Fresh (B : Nat) (p : Pl) : Prop := (∀ k, Own p k → B ≤ k) ∧ B ≤ p.qc ∧ B ≤ p.gc
set_option maxHeartbeats 1000000 in
theorem new_yes (N : Int) (w : World) (h0 : 0 ≤ N) (h1 : N ≤ 4096) : Calls Tryz.prog 34 #[.int .i64 N] w fun e w' =>
    ∃ q p, e = .returned (.tuple #[.pointer (some ⟨q, 0, none⟩), .int .i64 0]) ∧ Gm w' q p N (Sp.newL N) (fun _ => 0) 0 [Le.z8] (zeros N) ∧ w.heap.size ≤ q ∧ Fresh w.heap.size p ∧ Below w.heap.size w w' := by
  have HS := Lib.hid (Sp.new_yes N w h0 h1)
  have HR := Lib.hid (fun W => Ra.new_yes N W h0 h1)
  have HL := Lib.hid (fun W => Le.new_yes N W h0 (by omega))
  have HC := Lib.hid (fun W => Ce.new_yes (256 * N).toNat (by omega) W)
  have e1 : (((256 * N).toNat : Nat) : Int) = N * 256 := by omega
  rw [e1] at HC
  have e2 := i64_in (N * 256) (by omega) (by omega)
  have HM := Lib.hid (fun W => Ce.Mem.made W (256 * N).toNat (by omega))
  have HN : Hid (0 ≤ N ∧ N ≤ 4096) := ⟨h0, h1⟩
  clear h0 h1 e1
  go_enter Tryz.func34, Tryz.ntmps34
  go_wp2_with fail
  refine HS.out.mono ?_
  rintro e w1 ⟨qs, gs, rfl, s1, a1, a2, b1⟩
  go_wp2_with fail
  refine (HR.out w1).mono ?_
  rintro e w2 ⟨rfl, m2, b2⟩
  go_wp2_with fail
  refine (HL.out w2).mono ?_
  rintro e w3 ⟨ql, bl, rfl, l3, a3, a4, b3⟩
  have S3 := Lib.hid ((s1.below b2).below b3)
  have M3 := Lib.hid (m2.below b3)
  have L3 := Lib.hid l3
  have B3 := Lib.hid (up_trans (up_trans b1 b2) b3)
  have hz1 := b1.size
  have hz2 := b2.size
  have hz3 := b3.size
  obtain ⟨qm, hqm⟩ : ∃ qm, w1.heap.size = qm := ⟨_, rfl⟩
  rw [hqm] at M3 ⊢
  have HP : Hid (w.heap.size ≤ qs ∧ w.heap.size ≤ gs ∧ w.heap.size ≤ qm ∧ w.heap.size ≤ ql ∧ w.heap.size ≤ bl ∧ w.heap.size ≤ w3.heap.size) := by show _ ∧ _; omega
  clear s1 m2 l3 a1 a2 a3 a4 b1 b2 b3 hz1 hz2 hz3 HS HR HL hqm
  go_wp2_with fail
  refine (HC.out w3).mono ?_
  rintro e w4 ⟨rfl, hw4⟩
  have b4 : Below w3.heap.size w3 w4 := by rw [hw4]; exact up_alloc (up_alloc (Below.refl _ _) _) _
  have m4 : Ce.Mem w4 (w3.heap.size + 1) w3.heap.size (zeros N) := by rw [hw4]; exact HM.out w3
  obtain ⟨gc, hgc⟩ : ∃ gc, w3.heap.size = gc := ⟨_, rfl⟩
  have B4 := Lib.hid (up_trans B3.out b4)
  have S4 := Lib.hid (S3.out.below b4)
  have M4' := Lib.hid (M3.out.below b4)
  have L4 := Lib.hid (L3.out.below b4)
  rw [hgc] at m4 HP ⊢
  have M4 := Lib.hid m4
  clear hw4 b4 m4 HC HM S3 M3 L3 hgc
  go_wp2_with fail
  go_ret2
  have bb := up_alloc (Below.refl w4.heap.size w4) (.cells #[.pointer (some ⟨qs, 0, none⟩), .pointer (some ⟨qm, 0, none⟩), .pointer (some ⟨ql, 0, none⟩), .pointer (some ⟨gc + 1, 0, none⟩)] 92)
  obtain ⟨p1, p2, p3, p4, p5, p6⟩ := HP.out
  have hsz := B4.out.size
  refine ⟨w4.heap.size, ⟨qs, gs, qm, Ra.g0, ql, bl, gc + 1, gc⟩, rfl, ⟨⟨Blk.new w4 _ 92, S4.out.below bb, M4'.out.below bb, L4.out.below bb, M4.out.below bb⟩, Inv.new HN.out.1 HN.out.2, zeros_len HN.out.1⟩, hsz, ⟨fun k hk => ?_, ?_, ?_⟩, up_trans B4.out bb⟩
  · rcases hk with e | e | e | ⟨i, _, e⟩ | e | e
    · have : k = qs := e; omega
    · have : k = gs := e; omega
    · have : k = qm := e; omega
    · cases e
    · have : k = ql := e; omega
    · have : k = bl := e; omega
  · show w.heap.size ≤ gc + 1; omega
  · show w.heap.size ≤ gc; omega
end Go.Proofs.YtckcgaliphpgeaaGreatDoor.Gr
