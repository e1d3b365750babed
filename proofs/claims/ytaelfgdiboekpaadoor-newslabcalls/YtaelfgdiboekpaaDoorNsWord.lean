/-
  A free slot's word: contracts that the claimed proofs use.
-/
import Derived.Test.YtaelfgdiboekpaaDoorNsSmall
namespace Go.Proofs.YtaelfgdiboekpaaDoor.Ns
set_option maxRecDepth 100000
open Go.RowKit
open Ce (u ldW)
open Ra (packGo FAt WAt)
open Bi (Blk up_alloc up_drew up_trans i64_in ret_i ret_b grown_refl grown_trans grown_below)

theorem Blk.lift {w : World} {g : Nat} {vs : List Value} {t : TypeId} (h : Blk w g vs t) (o : Obj) : Blk (w.alloc o) g vs t := h.below (up_alloc (Below.refl _ w) o)
theorem fl_at {w : World} {b : Nat} (h : Blk w b [.int .i64 0, .int .i64 8, .int .i64 8, .int .i64 8, .int .i64 16, .int .i64 8, .int .i64 24, .int .i64 40] 90) : FAt w b 0 fl := fun i hi => by
  have hi' : i < 4 := hi
  rcases (by omega : i = 0 ∨ i = 1 ∨ i = 2 ∨ i = 3) with rfl | rfl | rfl | rfl <;> exact ⟨h.cell, h.cell⟩
theorem vl_at {w : World} {v s n c : Nat} (h : Blk w v [.int .u64 (u (BitVec.ofNat 64 n)), .int .u64 (u (BitVec.ofNat 64 s)), .int .u64 (u (BitVec.ofNat 64 c)), .int .u64 440005911841] 92) : WAt w v 0 (vl s n c) := fun i hi => by
  have hi' : i < 4 := hi
  rcases (by omega : i = 0 ∨ i = 1 ∨ i = 2 ∨ i = 3) with rfl | rfl | rfl | rfl
  · exact h.cell
  · exact h.cell
  · exact h.cell
  · have e : w.cell? ⟨v, 0 + 3, none⟩ = some (.int .u64 440005911841) := h.cell
    rw [e]
    show _ = some (Value.int .u64 (Ra.u (BitVec.ofNat 64 MK)))
    congr 2
theorem pack_word {w : World} {b v s n c : Nat} (hs : s < 256) (hn : n < 256) (hc : c < 256)
    (h : Blk w b [.int .i64 0, .int .i64 8, .int .i64 8, .int .i64 8, .int .i64 16, .int .i64 8, .int .i64 24, .int .i64 40] 90)
    (hv : Blk w v [.int .u64 (u (BitVec.ofNat 64 n)), .int .u64 (u (BitVec.ofNat 64 s)), .int .u64 (u (BitVec.ofNat 64 c)), .int .u64 440005911841] 92) :
    Calls Tryd.prog 50 #[.slice (some ⟨b, 0, none⟩) 4 4, .slice (some ⟨v, 0, none⟩) 4 4] w fun e w' => e = .returned (.tuple #[.int .u64 (u (wd s n c)), .bool true]) ∧ Below w.heap.size w w' := by
  refine (Ra.pack_some b 0 v 0 fl (vl s n c) 4 4 w rfl h.lt hv.lt (fl_at h) (vl_at hv) (by decide) fl_apart).mono ?_
  rintro e w' ⟨rfl, hb⟩
  refine ⟨?_, hb⟩
  rw [pack_ok hs hn hc]
  rfl
theorem word_no (s n c : Int) (w : World) (hT : Tb.Tab w) (h : okW s n c = false) :
    Calls Tryd.prog 10 #[.int .i64 s, .int .i64 n, .int .i64 c] w fun e w' => e = .returned (.tuple #[.int .u64 0, .bool false]) ∧ w = w' := by
  have HW := Lib.hid (isWord_any s n c w hT)
  rw [h] at HW
  clear hT h
  go_enter Tryd.func10, Tryd.ntmps10
  go_wp2_with (go_at_call 48; refine HW.out.mono ?_; rintro e w' ⟨rfl, rfl⟩)
  go_ret2
  exact ⟨rfl, rfl⟩
set_option maxHeartbeats 1000000 in
theorem word_yes (s n c : Nat) (w : World) (hT : Tb.Tab w) (hs : s < 128) (hn : n ≤ 128) (hc : c < 12) :
    Calls Tryd.prog 10 #[.int .i64 (s : Int), .int .i64 ((n : Int) - 1), .int .i64 (c : Int)] w fun e w' => e = .returned (.tuple #[.int .u64 (u (wd s n c)), .bool true]) ∧ Below w.heap.size w w' := by
  have HW := Lib.hid (isWord_any (s : Int) ((n : Int) - 1) (c : Int) w hT)
  rw [okW_iff.2 (by omega)] at HW
  have HP : Hid (∀ (W : World) (b v : Nat), _ → _ → _) := fun (W : World) (b v : Nat) h1 h2 => pack_word (w := W) (b := b) (v := v) (s := s) (n := n) (c := c) (by omega) (by omega) (by omega) h1 h2
  have w1 : IntKind.i64.wrap ((n : Int) - 1 + 1) = (n : Int) := by rw [IntKind.wrap_i64]; omega
  have en := u64_raw (n := n) (by omega)
  have es := u64_raw (n := s) (by omega)
  have ec := u64_raw (n := c) (by omega)
  generalize wd s n c = x at *
  generalize (n : Int) - 1 = N at *
  clear hT hs hn hc
  go_enter Tryd.func10, Tryd.ntmps10
  go_wp2_with (go_at_call 48; refine HW.out.mono ?_; rintro e w' ⟨rfl, rfl⟩)
  refine (layout_any w).mono ?_
  rintro e w1 ⟨rfl, b1⟩
  have B1 := Lib.hid b1
  clear b1 HW
  unfold flV
  go_wp2_with fail
  have H74 : Hid (Blk ((w1.alloc (.cells #[.int .i64 0, .int .i64 8, .int .i64 8, .int .i64 8, .int .i64 16, .int .i64 8, .int .i64 24, .int .i64 40] 90)).alloc (.cells #[.int .u64 (u (BitVec.ofNat 64 n)), .int .u64 (u (BitVec.ofNat 64 s)), .int .u64 (u (BitVec.ofNat 64 c)), .int .u64 440005911841] 92)) w1.heap.size [.int .i64 0, .int .i64 8, .int .i64 8, .int .i64 8, .int .i64 16, .int .i64 8, .int .i64 24, .int .i64 40] 90) := Blk.lift (heap_alloc_new w1 _) _
  have H76 : Hid (Blk ((w1.alloc (.cells #[.int .i64 0, .int .i64 8, .int .i64 8, .int .i64 8, .int .i64 16, .int .i64 8, .int .i64 24, .int .i64 40] 90)).alloc (.cells #[.int .u64 (u (BitVec.ofNat 64 n)), .int .u64 (u (BitVec.ofNat 64 s)), .int .u64 (u (BitVec.ofNat 64 c)), .int .u64 440005911841] 92)) (w1.heap.size + 1) [.int .u64 (u (BitVec.ofNat 64 n)), .int .u64 (u (BitVec.ofNat 64 s)), .int .u64 (u (BitVec.ofNat 64 c)), .int .u64 440005911841] 92) := by
    have := heap_alloc_new (w1.alloc (.cells #[.int .i64 0, .int .i64 8, .int .i64 8, .int .i64 8, .int .i64 16, .int .i64 8, .int .i64 24, .int .i64 40] 90)) (.cells #[.int .u64 (u (BitVec.ofNat 64 n)), .int .u64 (u (BitVec.ofNat 64 s)), .int .u64 (u (BitVec.ofNat 64 c)), .int .u64 440005911841] 92)
    rw [World.size_alloc] at this
    exact this
  have B2 : Hid (Below w.heap.size w ((w1.alloc (.cells #[.int .i64 0, .int .i64 8, .int .i64 8, .int .i64 8, .int .i64 16, .int .i64 8, .int .i64 24, .int .i64 40] 90)).alloc (.cells #[.int .u64 (u (BitVec.ofNat 64 n)), .int .u64 (u (BitVec.ofNat 64 s)), .int .u64 (u (BitVec.ofNat 64 c)), .int .u64 440005911841] 92))) := up_alloc (up_alloc B1.out _) _
  generalize ((w1.alloc (.cells #[.int .i64 0, .int .i64 8, .int .i64 8, .int .i64 8, .int .i64 16, .int .i64 8, .int .i64 24, .int .i64 40] 90)).alloc (.cells #[.int .u64 (u (BitVec.ofNat 64 n)), .int .u64 (u (BitVec.ofNat 64 s)), .int .u64 (u (BitVec.ofNat 64 c)), .int .u64 440005911841] 92)) = W2 at H74 H76 B2 ⊢
  clear B1
  go_region_with (go_at_call 50; refine (HP.out W2.drew _ _ H74.out H76.out).mono ?_; rintro e w3 ⟨rfl, b3⟩)
  all_goals (
    have B3 := Lib.hid (up_trans (up_drew B2.out 1) b3)
    clear b3
    go_wp2
    go_ret2
    exact ⟨rfl, B3.out⟩)
end Go.Proofs.YtaelfgdiboekpaaDoor.Ns
