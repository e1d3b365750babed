/-
  How a slot comes into the list: a contract that the claimed proofs use.
-/
import Derived.Test.YtaelfgdiboekpaaDoorNsTaken
namespace Go.Proofs.YtaelfgdiboekpaaDoor.Ns
set_option maxRecDepth 100000
open Go.RowKit
open Ce (u ldW Mem)
open Bi (Blk Drawn hasB hasB_iff hasB_not up_alloc up_drew up_trans i64_in ret_i ret_b grown_refl grown_trans grown_below)

section
variable {w w' W : World} {s q g b c h f : Nat} {bs : List (BitVec 8)} {L : List Nat}
theorem store8 (t : Nat) (v : BitVec 64) (hm : Mem w q g bs) (hh : t + 8 ≤ bs.length) :
    Calls Tryd.prog 44 #[.pointer (some ⟨q, 0, none⟩), .int .i64 (t : Int), .int .i64 8, .int .u64 (u v)] w fun e w' => e = .returned (.int .i64 0) ∧ Mem w' q g (splice bs t (Ce.bytesOf v 8)) ∧ w.grownBy w' (some g) :=
  Ce.store_yes q g bs t 8 v w hm (by decide) hh
theorem Sb.laid (m : Sb w s q g bs b c h f) {k : Nat} (hk : k < nS c) (hm : Mem w' q g (lay bs b c k h)) (hg : w.grownBy w' (some g)) : Sb w' s q g (lay bs b c k h) b c h f := by
  obtain ⟨k1, k2, k3⟩ := m.kinds
  exact ⟨m.blk.far hg (kne k1 k3 (by decide)), hm, m.hc, m.hb, by rw [lay_len m.hc hk m.fit]; exact m.fit, m.hh, m.hf, m.pos⟩
theorem Sb.turned (m : Sb w s q g bs b c h f) {h' f' : Nat} (hh : h' ≤ nS c) (hf : f' ≤ nS c) : Sb ((w.setCell ⟨s, 3, none⟩ (.int .i64 ((h' : Int) - 1))).setCell ⟨s, 4, none⟩ (.int .i64 (f' : Int))) s q g bs b c h' f' := by
  obtain ⟨k1, k2, k3⟩ := m.kinds
  have e : ∀ j, j ≠ s → ((w.setCell ⟨s, 3, none⟩ (.int .i64 ((h' : Int) - 1))).setCell ⟨s, 4, none⟩ (.int .i64 (f' : Int))).heap[j]? = w.heap[j]? := fun j hj =>
    (Below.heap_setCell _ _ _ _ hj).trans (Below.heap_setCell _ _ _ _ hj)
  exact ⟨(m.blk.set (i := 3) _).set (i := 4) _, m.mem.of_blocks (e q (kne k2 k1 (by decide))) (e g (kne k3 k1 (by decide))), m.hc, m.hb, m.fit, hh, hf, m.pos⟩
set_option maxHeartbeats 2000000 in
theorem push_yes (k : Nat) (m : Sb w s q g bs b c h f) (hT : Tb.Tab w) (hk : k < nS c) (hf : f < nS c) : Calls Tryd.prog 57 #[.pointer (some ⟨s, 0, none⟩), .int .i64 (k : Int)] w fun e w' =>
    e = .returned (.tuple #[]) ∧ Sb w' s q g (lay bs b c k h) b c (k + 1) (f + 1) ∧ Fr s g w w' := by
  have HA := Lib.hid (address_yes k m hT hk)
  have h1 := slot_in m.hc hk
  have h2 := cls c m.hc
  have h3 := m.bd
  have h4 := m.hh
  have HW : Hid (∀ V : World, Below w.heap.size w V → Calls Tryd.prog 10 #[.int .i64 (k : Int), .int .i64 ((h : Int) - 1), .int .i64 (c : Int)] V fun e w' => e = .returned (.tuple #[.int .u64 (u (wd k h c)), .bool true]) ∧ Below V.heap.size V w') := fun V hV => word_yes k h c V (hT.below hV) (by omega) (by omega) m.hc
  have HS : Hid (∀ V : World, Below w.heap.size w V → Calls Tryd.prog 44 #[.pointer (some ⟨q, 0, none⟩), .int .i64 ((b + k * zN c : Nat) : Int), .int .i64 8, .int .u64 (u (wd k h c))] V fun e w' => e = .returned (.int .i64 0) ∧ Mem w' q g (lay bs b c k h) ∧ V.grownBy w' (some g)) := fun V hV => store8 _ _ (m.below hV).mem (by omega)
  have HM := Lib.hid m
  have HK := Lib.hid hk
  have HLaid : Hid (∀ V V' : World, Sb V s q g bs b c h f → Mem V' q g (lay bs b c k h) → V.grownBy V' (some g) → Sb V' s q g (lay bs b c k h) b c h f) := fun V V' m1 m2 m3 => m1.laid hk m2 m3
  have HF := Lib.hid hf
  have w1 : IntKind.i64.wrap ((f : Int) + 1) = ((f + 1 : Nat) : Int) := by rw [IntKind.wrap_i64]; omega
  have HE : Hid ((k : Int) = ((k + 1 : Nat) : Int) - 1) := by show _ = _; omega
  generalize b + k * zN c = y at *
  generalize wd k h c = x at *
  generalize lay bs b c k h = bs' at *
  clear hT h1 h2 h3 h4
  go_enter Tryd.func57, Tryd.ntmps57
  go_wp2_with fail
  refine HA.out.mono ?_
  rintro e w1 ⟨rfl, d1⟩
  have D1 := Lib.hid d1.below
  have M1 := Lib.hid (m.below d1.below)
  have r2 := M1.out.c2
  have r3 := M1.out.c3
  have hlt := M1.out.lt.1
  have HC : Hid (Calls Tryd.prog 10 #[.int .i64 (k : Int), .int .i64 ((h : Int) - 1), .int .i64 (c : Int)] w1.drew fun e w' => e = .returned (.tuple #[.int .u64 (u x), .bool true]) ∧ Below w1.drew.heap.size w1.drew w') := HW.out _ (up_drew d1.below 1)
  clear d1 HA m hk hf HW
  obtain ⟨hh, ehh⟩ : ∃ hh, (h : Int) - 1 = hh := ⟨_, rfl⟩
  rw [ehh] at r3 HC
  clear ehh
  go_wp2_with fail
  go_region_held3 (fun w' => w'.cell? ⟨s, 2, none⟩ = some (.int .i64 (c : Int)) ∧ w'.cell? ⟨s, 3, none⟩ = some (.int .i64 hh))
    (first | exact ⟨(hb2.cell (p := ⟨s, 2, none⟩) hlt).trans r2, (hb2.cell (p := ⟨s, 3, none⟩) hlt).trans r3⟩ | exact ⟨r2, r3⟩)
    ((go_at_call 10; refine HC.out.mono ?_; rintro e w2 ⟨rfl, hb2⟩))
  have D2 := Lib.hid (up_trans (up_drew D1.out 1) hb2)
  have M2 := Lib.hid (HM.out.below D2.out)
  have HS2 := Lib.hid (HS.out _ D2.out)
  have r0 := M2.out.c0
  clear r2 r3 hlt hb2 HC HS D1 M1
  go_wp2_with fail
  refine HS2.out.mono ?_
  rintro e w3 ⟨rfl, m3, g3⟩
  have M3 := Lib.hid (HLaid.out _ _ M2.out m3 g3)
  have F3 : Hid (Fr s g w w3) := (Fr.of D2.out).trans (Fr.grown g3)
  have r3 := M3.out.c3
  have r4 := M3.out.c4
  have f3 := M3.out.blk.frozen 3
  have f4 := M3.out.blk.frozen 4
  clear m3 g3 HS2 r0 HLaid M2 D2
  generalize (h : Int) - 1 = hh at *
  go_wp2_with fail
  refine bodyPost_end (results_none rfl _ _ _) rfl ⟨rfl, ?_, ?_⟩
  · rw [HE.out]
    exact M3.out.turned (h' := k + 1) (f' := f + 1) (Nat.succ_le_of_lt HK.out) (Nat.succ_le_of_lt HF.out)
  · exact (F3.out.trans (Fr.grown1 (Bi.grown_set (grown_refl _ _)))).trans (Fr.grown1 (Bi.grown_set (grown_refl _ _)))
end
end Go.Proofs.YtaelfgdiboekpaaDoor.Ns
