/-
  What the statements' told does, where a number is stored: contracts that the claimed proofs use.
-/
import Derived.Test.YtdkjbidnelbdeaaTold
namespace Go.Proofs.Ytdkjbidnelbdeaa
open Go.RowKit

set_option maxRecDepth 100000 in
set_option maxHeartbeats 2000000 in
theorem told0_no (q g b c N : Nat) (bs : List (BitVec 8)) (s n f k : Int) (v : BitVec 64) (X : Option Addr) (m d : Nat) (w : World) (hm : Mem w q g bs) (hb : BA w.heap.size w (some ⟨b, 0, none⟩) bs) (hc : bs.length ≤ c) (hg : b ≠ g) (hN : N ≤ w.heap.size) (hs : s ≤ 9223372036854775807)
    (hno : (widthB k && hasB bs.length s k) = false) :
    Calls Try.prog 9 #[.pointer (some ⟨q, 0, none⟩), .slice (some ⟨b, 0, none⟩) bs.length c, .agg #[.int .i64 0, .int .i64 s, .int .i64 n, .int .i64 f, .int .i64 k, .int .u64 (u v), .slice X m d]] w (ToldPost N q g bs.length w) := by
  have HB := Lib.hid hb
  have HG := Lib.hid hg
  have m1 := hm.below (up_alloc (Below.refl _ _) (.cells #[.int .i64 0, .int .i64 s, .int .i64 n, .int .i64 f, .int .i64 k, .int .u64 (u v), .slice X m d] 34))
  have hL := hm.2.2
  have HM := Lib.hid m1
  clear hm hb hg m1
  go_enter Try.func9, Try.ntmps9
  go_wp2_with fail
  refine (rload_no _ _ c s k _ hL hs hno).mono ?_
  rintro e w2 ⟨rfl, rfl⟩
  go_wp2_with fail
  refine (store_no _ _ _ s k v _ HM.out.cell hL hs hno).mono ?_
  rintro e w2 ⟨rfl, rfl⟩
  go_wp2
  go_ret2
  exact ⟨bs, b, c, rfl, rfl, hc, HG.out, HM.out, (HB.out.below (up_alloc (Below.refl _ _) _)).more (by simp), (Below.refl _ w).alloc hN _⟩

theorem Box.three {w : World} {H : Nat} {what s n f k : Int} {v : BitVec 64} {X : Option Addr} {m d : Nat} (h : Box w H what s n f k v X m d) :
    w.cell? ⟨H, 1, none⟩ = some (.int .i64 s) ∧ w.cell? ⟨H, 5, none⟩ = some (.int .u64 (u v)) ∧ w.cell? ⟨H, 4, none⟩ = some (.int .i64 k) := ⟨h.cells.2.1, h.cells.2.2.2.2.2.1, h.cells.2.2.2.2.1⟩
theorem Box.drew {w : World} {H : Nat} {what s n f k : Int} {v : BitVec 64} {X : Option Addr} {m d : Nat} (h : Box w H what s n f k v X m d) : Box w.drew H what s n f k v X m d := h

set_option maxRecDepth 100000 in
set_option maxHeartbeats 8000000 in
theorem told0_yes (q g b c N s k : Nat) (bs : List (BitVec 8)) (n f : Int) (v : BitVec 64) (X : Option Addr) (m d : Nat) (w : World) (hm : Mem w q g bs) (hb : BA w.heap.size w (some ⟨b, 0, none⟩) bs) (hc : bs.length ≤ c) (hN : N ≤ w.heap.size) (hNg : N ≤ g)
    (hw : widthB k = true) (hh : s + k ≤ bs.length) :
    Calls Try.prog 9 #[.pointer (some ⟨q, 0, none⟩), .slice (some ⟨b, 0, none⟩) bs.length c, .agg #[.int .i64 0, .int .i64 (s : Int), .int .i64 n, .int .i64 f, .int .i64 (k : Int), .int .u64 (u v), .slice X m d]] w (ToldPost N q g bs.length w) := by
  have hL := hm.2.2
  have hk8 : 1 ≤ k ∧ k ≤ 8 := by have := widthB_iff.1 hw; omega
  obtain ⟨k1, k8⟩ := hk8
  have hbox := Box.made w 0 s n f k v X m d
  have hal : Below w.heap.size w (w.alloc (.cells #[.int .i64 0, .int .i64 (s : Int), .int .i64 n, .int .i64 f, .int .i64 (k : Int), .int .u64 (u v), .slice X m d] 34)) := up_alloc (Below.refl _ _) _
  have m1 := hm.below hal
  have b1 := (hb.below hal).more hal.size
  have hgl := hm.2.1.lt
  have HM := Lib.hid m1
  have HB := Lib.hid b1
  have HAL := Lib.hid hal
  have HBX := Lib.hid hbox
  clear hm hb m1 b1 hbox hal
  obtain ⟨W0, hW0⟩ : ∃ W0, w.alloc (.cells #[.int .i64 0, .int .i64 (s : Int), .int .i64 n, .int .i64 f, .int .i64 (k : Int), .int .u64 (u v), .slice X m d] 34) = W0 := ⟨_, rfl⟩
  rw [hW0] at HM HB HAL HBX
  have HW0 := Lib.hid hW0
  clear hW0
  have hH : w.heap.size < W0.heap.size := HBX.out.lt
  go_enter Try.func9, Try.ntmps9
  go_wp2_with fail
  rw [HW0.out]
  clear HW0
  have hp : 0 < bs.length := by omega
  obtain ⟨b', o', e, _, hcl⟩ := HB.out hp
  cases e
  refine (rload_yes b 0 bs c s k _ hcl hL hw hh).mono ?_
  rintro e w2 ⟨rfl, rfl⟩
  obtain ⟨_, c1, _, _, c4, c5, _⟩ := HBX.out.cells
  clear hcl
  go_wp2_with fail
  go_region_held3 (fun w' => w'.cell? ⟨w.heap.size, 1, none⟩ = some (.int .i64 s) ∧ w'.cell? ⟨w.heap.size, 5, none⟩ = some (.int .u64 (u v)) ∧ w'.cell? ⟨w.heap.size, 4, none⟩ = some (.int .i64 k))
    (first | exact ((HBX.out.drew.below be2).below be3).three | exact (HBX.out.drew.below be2).three | exact HBX.out.drew.three)
    ((first
      | (go_at_call 24; refine (bytes_any v k _ k8).mono ?_; rintro e w2 ⟨g2, cap2, rfl, hc2, hg2, ba2, be2⟩)
      | (go_at_call 23; refine (rput_yes b 0 (some ⟨g2, 0, none⟩) bs (bytesOf v k) c s cap2 _ (((show BA W0.drew.heap.size W0.drew (some ⟨b, 0, none⟩) bs from HB.out).below be2).more be2.size) ba2 (by simp) hL hc (by rw [bytesOf_length]; exact hh)).mono ?_; rintro e w3 ⟨g3, cap3, rfl, hc3, hg3, ba3, be3⟩)))
  have B3 : Below W0.heap.size W0 w3 := up_trans (up_trans ((Below.refl _ W0).drew) be2) be3
  have m3 := HM.out.below B3
  have z2 : W0.heap.size ≤ w2.heap.size := be2.size
  have hne : g3 ≠ g := by omega
  obtain ⟨_, c1', _, _, c4', c5', _⟩ := (HBX.out.below B3).cells
  have hsl : (splice bs s (bytesOf v k)).length = bs.length := splice_length (by rw [bytesOf_length]; exact hh)
  rw [hsl] at hc3 ⊢
  have HSL := Lib.hid hsl
  have BE := Lib.hid (HAL.out.trans (B3.mono HAL.out.size))
  have BA3 := Lib.hid ba3
  have HNE := Lib.hid hne
  clear be2 be3 ba2 ba3 B3 hne hsl c1 c4 c5
  go_wp2_with fail
  refine (store_yes q g bs s k v _ m3 hw hh).mono ?_
  rintro e w4 ⟨rfl, m4, g4⟩
  go_wp2
  go_ret2
  exact ⟨splice bs s (bytesOf v k), g3, cap3, HSL.out, rfl, hc3, HNE.out, m4, BA3.out.far g4 HNE.out, below_grown (BE.out.mono hN) g4 (by have := BE.out.size; omega) hNg⟩

end Go.Proofs.Ytdkjbidnelbdeaa
