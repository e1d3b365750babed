/-
  What the statements' told does, where no bytes are moved: a contract that the claimed proofs use.
-/
import Derived.Test.YtdkjbidnelbdeaaTold3
namespace Go.Proofs.Ytdkjbidnelbdeaa
open Go.RowKit

set_option maxRecDepth 100000 in
set_option maxHeartbeats 8000000 in
theorem told3_none (q g b c N s f : Nat) (bs : List (BitVec 8)) (k : Int) (v : BitVec 64) (X : Option Addr) (m d : Nat) (w : World) (hm : Mem w q g bs) (hb : BA w.heap.size w (some ⟨b, 0, none⟩) bs) (hc : bs.length ≤ c) (hg : b ≠ g) (hN : N ≤ w.heap.size) (hNg : N ≤ g)
    (hh : s ≤ bs.length) (hf : f ≤ bs.length) :
    Calls Try.prog 9 #[.pointer (some ⟨q, 0, none⟩), .slice (some ⟨b, 0, none⟩) bs.length c, .agg #[.int .i64 3, .int .i64 (s : Int), .int .i64 0, .int .i64 (f : Int), .int .i64 k, .int .u64 (u v), .slice X m d]] w (ToldPost N q g bs.length w) := by
  have hL := hm.2.2
  have hyes : hasB bs.length s 0 = true := hasB_iff.2 ⟨by omega, by omega, by omega⟩
  have hyes2 : hasB bs.length f 0 = true := hasB_iff.2 ⟨by omega, by omega, by omega⟩
  have hbox := Box.made w 3 s 0 f k v X m d
  have hal : Below w.heap.size w (w.alloc (.cells #[.int .i64 3, .int .i64 (s : Int), .int .i64 0, .int .i64 (f : Int), .int .i64 k, .int .u64 (u v), .slice X m d] 34)) := up_alloc (Below.refl _ _) _
  have m1 := hm.below hal
  have b1 := (hb.below hal).more hal.size
  have hgl := hm.2.1.lt
  have HM := Lib.hid m1
  have HB := Lib.hid b1
  have HAL := Lib.hid hal
  have HBX := Lib.hid hbox
  have HG := Lib.hid hg
  clear hm hb hg m1 b1 hbox hal
  go_enter Try.func9, Try.ntmps9
  go_wp2_with fail
  refine (move_none q g bs s f _ HM.out hh hf).mono ?_
  rintro e w2 ⟨rfl, m2, g2⟩
  have b2 := HB.out.far g2 HG.out
  have x2 := HBX.out.far g2 (by omega)
  have B2 := below_grown (HAL.out.mono hN) g2 (by have := HAL.out.size; omega) hNg
  obtain ⟨_, c1, c2, c3, _, _, _⟩ := x2.cells
  have z2 : w.heap.size < w2.heap.size := x2.lt
  have M2 := Lib.hid m2
  have B2' := Lib.hid b2
  have BE2 := Lib.hid B2
  have X2 := Lib.hid x2
  clear m2 b2 x2 B2 g2 HM HB HAL HBX
  go_wp2_with fail
  refine (in_any _ s 0 _ hL (by omega)).mono ?_
  rw [hyes]
  rintro e w3 ⟨rfl, rfl⟩
  go_wp2_with fail
  refine (in_any _ f 0 _ hL (by omega)).mono ?_
  rw [hyes2]
  rintro e w3 ⟨rfl, rfl⟩
  have hwr := i64_in (f : Int) (by omega) (by omega)
  have k1 : f ≤ c := by omega
  by_cases hcf : c = f
  · obtain rfl : c = f := hcf
    have rp := rput_yes b 0 (some ⟨b, 0, none⟩) bs [] c s 0 w2.drew B2'.out (BA.empty rfl) (by simp) hL hc (by simpa using hh)
    rw [splice_nil, List.length_nil] at rp
    have RP := Lib.hid rp
    clear rp
    go_wp2_with fail
    go_region_held3 (fun w' => w'.cell? ⟨w.heap.size, 1, none⟩ = some (.int .i64 s) ∧ w'.cell? ⟨w.heap.size, 3, none⟩ = some (.int .i64 c) ∧ w'.cell? ⟨w.heap.size, 2, none⟩ = some (.int .i64 0))
      (first | exact (X2.out.drew.below be5).three' | exact X2.out.drew.three')
      ((go_at_call 23; refine RP.out.mono ?_; rintro e w5 ⟨g5, cap5, rfl, hc5, hg5, ba5, be5⟩))
    have BE5 : Hid (Below w2.heap.size w2 w5) := up_trans ((Below.refl _ w2).drew) be5
    have hg5' : w2.heap.size ≤ g5 := hg5
    have BA5 := Lib.hid ba5
    clear be5 ba5 hg5
    go_wp2
    go_ret2
    exact ⟨bs, g5, cap5, rfl, rfl, hc5, by omega, M2.out.below BE5.out, BA5.out, BE2.out.trans (BE5.out.mono (by omega))⟩
  · have k2 : f < c := by omega
    have rp := rput_yes b 0 (some ⟨b, f, none⟩) bs [] c s (c - f) w2.drew B2'.out (BA.empty rfl) (by simp) hL hc (by simpa using hh)
    rw [splice_nil, List.length_nil] at rp
    have RP := Lib.hid rp
    clear rp
    go_wp2_with fail
    go_region_held3 (fun w' => w'.cell? ⟨w.heap.size, 1, none⟩ = some (.int .i64 s) ∧ w'.cell? ⟨w.heap.size, 3, none⟩ = some (.int .i64 f) ∧ w'.cell? ⟨w.heap.size, 2, none⟩ = some (.int .i64 0))
      (first | exact (X2.out.drew.below be5).three' | exact X2.out.drew.three')
      ((go_at_call 23; refine RP.out.mono ?_; rintro e w5 ⟨g5, cap5, rfl, hc5, hg5, ba5, be5⟩))
    have BE5 : Hid (Below w2.heap.size w2 w5) := up_trans ((Below.refl _ w2).drew) be5
    have hg5' : w2.heap.size ≤ g5 := hg5
    have BA5 := Lib.hid ba5
    clear be5 ba5 hg5
    go_wp2
    go_ret2
    exact ⟨bs, g5, cap5, rfl, rfl, hc5, by omega, M2.out.below BE5.out, BA5.out, BE2.out.trans (BE5.out.mono (by omega))⟩

end Go.Proofs.Ytdkjbidnelbdeaa
