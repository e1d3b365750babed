/-
  A heap without slabs: the contract that the claimed proofs use.
-/
import Derived.Test.YtckcgaliphpgeaaGreatDoorHeSome
namespace Go.Proofs.YtckcgaliphpgeaaGreatDoor.He
set_option maxRecDepth 100000
open Go.RowKit
open Ta (sizeOf' classB)
open Bi (Drawn ret_i ret_b up_alloc up_drew up_trans tst sets)
open Ri (of of_nat up up_at up_far lenOf)
open Gr (kind kind_of kne)

/-- A heap's numbers at the beginning. -/
def σ0 (N : Nat) : St := ⟨N, Sp.newL N, fun _ => 0, 0, [Le.z8], fun _ => [], fun _ => none, []⟩
theorem hi0 {N : Nat} (h : N ≤ 4096) : HI (σ0 N) := by
  have hg : Gr.Inv N (Sp.newL N) (fun _ => 0) [Le.z8] := Gr.Inv.new (by omega) (by omega)
  refine ⟨⟨hg, fun p s h => (by cases h), fun p s h => (by cases h), fun p s h => (by cases h), fun y _ h0 _ => absurd rfl h0⟩, ⟨Ri.Good.none N 64, fun p s h => ?_, fun p i h => (by cases h), List.nodup_nil, fun p h => (by cases h)⟩, fun p s h => ?_⟩
  · have := (M_some h).2; cases this
  · have := (M_some h).2; cases this
theorem store_old (w : World) : (storeCells ⟨w.heap.size, 0, none⟩ Ta.row.toList).run Tryz.prog (w.alloc (.cells #[.int .i64 0, .int .i64 0, .int .i64 0, .int .i64 0, .int .i64 0, .int .i64 0, .int .i64 0, .int .i64 0, .int .i64 0, .int .i64 0, .int .i64 0, .int .i64 0, .int .i64 0, .int .i64 0, .int .i64 0, .int .i64 0] 158)) = .ok () (w.alloc (.cells Ta.row 158)) :=
  run_storeCells_new (P := Tryz.prog) w 158 _ Ta.row (by kernel_rfl) rfl (by decide +kernel)
theorem sizes_any (w : World) (hT : Ta.Tab w) : Calls Tryz.prog 80 #[] w fun e w' => (∃ A c, e = .returned (.slice A 16 c)) ∧ Below w.heap.size w w' := by
  obtain ⟨t, fr, hT⟩ := hT
  have HT := Lib.hid hT
  clear hT
  go_enter Tryz.func80, Tryz.ntmps80
  go_wp2_with (refine wpList_load_row rfl 158 (.global 0) rfl 0 rfl t Ta.row fr _ HT.out Tryz.underlying158 rfl (by kernel_rfl) ?_)
  rw [store_old w]
  go_wp2
  go_ret
  exact ⟨⟨_, _, rfl⟩, up_alloc (Below.refl _ _) _⟩
set_option maxHeartbeats 2000000 in
theorem new_any (N : Nat) (q : Nat) (p : Gr.Pl) (bs : List (BitVec 8)) (w : World) (hN : N ≤ 4096) (hg : Gr.Gm w q p N (Sp.newL N) (fun _ => 0) 0 [Le.z8] bs) (hT : Os.Tb w) (ho : ∀ k, Gr.Own p k → 1 < k) : Calls Tryz.prog 36 #[.pointer (some ⟨q, 0, none⟩)] w fun e w' =>
    ∃ P, e = .returned (.pointer (some ⟨P.h, 0, none⟩)) ∧ P.q = q ∧ Hm w' P (σ0 N) bs ∧ Below w.heap.size w w' ∧ (∀ k, Own P (σ0 N).U k → Gr.Own p k ∨ w.heap.size ≤ k) ∧ w.heap.size ≤ P.h := by
  have hmm := @run_makeMap Tryz.prog
  have HPg := Lib.hid (Gr.pages_any hg)
  have HSz := Lib.hid (sizes_any w hT.cls)
  have HG := Lib.hid hg
  have HT := Lib.hid hT
  have HOb := Lib.hid ho
  clear hg hT ho
  go_enter Tryz.func36, Tryz.ntmps36
  go_wp2_with fail
  refine HPg.out.mono ?_
  rintro e w' ⟨rfl, rfl⟩
  go_wp2_with fail
  refine HSz.out.mono ?_
  rintro e w1 ⟨⟨A, c, rfl⟩, b1⟩
  have B1 := Lib.hid b1
  have HNw := Lib.hid (Ri.new_yes N 64 hN (by omega) (by omega) w1)
  rw [show ((64 : Nat) : Int) = 64 from rfl] at HNw
  clear b1 HSz HPg
  go_wp2_with fail
  refine HNw.out.mono ?_
  rintro e w2 ⟨r, rfl, r1, r2, r3, r4, b2⟩
  have R4 := Lib.hid r4
  have R123 := Lib.hid (And.intro r1 (And.intro r2 r3))
  have B2 := Lib.hid (B1.out.trans (b2.mono B1.out.size))
  clear r1 r2 r3 r4 b2 HNw
  go_wp2_with fail
  go_ret
  have b3 := up_alloc (Below.refl w2.heap.size w2) (.map #[] 0)
  have b4 := up_alloc b3 (.cells #[.pointer (some ⟨q, 0, none⟩), .map (some w2.heap.size), .pointer (some ⟨r.q, 0, none⟩)] 82)
  have bb := B2.out.trans (b4.mono B2.out.size)
  have h1 := HT.out.lt
  have hs := B2.out.size
  have hs1 := B1.out.size
  have kb := Gr.Blk.new (w2.alloc (.map #[] 0)) [.pointer (some ⟨q, 0, none⟩), .map (some w2.heap.size), .pointer (some ⟨r.q, 0, none⟩)] 82
  rw [World.size_alloc] at kb
  have hlt := HG.out.gx.lt
  refine ⟨⟨w2.heap.size + 1, q, p, w2.heap.size, r, fun _ => ⟨0, 0, 0⟩⟩, by simp, rfl, ⟨kb, HG.out.below bb, R4.out.below b4, R123.out.1, R123.out.2.1, ?_, fun p s h => (by cases h), fun p p' s s' h _ _ => (by cases h), ?_, HT.out.below bb, fun k hk => ?_, HOb.out, (by show 1 < w2.heap.size; omega)⟩, bb, fun k hk => ?_, (by show w.heap.size ≤ w2.heap.size + 1; omega)⟩
  · exact ((Mp.made w2 N).below (up_alloc (Below.refl _ _) _)).same (fun p => by unfold mapOf; rw [show M (σ0 N).U (σ0 N).O p = none from by unfold M; split <;> rfl]; rfl)
  · have := hlt.2.2.2.2.2.2.1
    show w2.heap.size ≠ p.bl
    omega
  · have : r.lo ≤ k := hk
    have := R123.out.2.2
    omega
  · rcases hk with e | e | e | ⟨p, s, h, _⟩
    · exact .inl e
    · right; have e : k = w2.heap.size := e; omega
    · right
      have e1 : r.lo ≤ k := e.1
      have := R123.out.2.2
      omega
    · cases h
end Go.Proofs.YtckcgaliphpgeaaGreatDoor.He
