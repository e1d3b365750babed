/-
  What the statements' told does, where bytes are moved: contracts that the claimed proofs use.
-/
import Derived.Test.YtdkjbidnelbdeaaTold2
namespace Go.Proofs.Ytdkjbidnelbdeaa
open Go.RowKit

set_option maxRecDepth 100000 in
set_option maxHeartbeats 2000000 in
theorem told3_no (q g b c N : Nat) (bs : List (BitVec 8)) (s n f k : Int) (v : BitVec 64) (X : Option Addr) (m d : Nat) (w : World) (hm : Mem w q g bs) (hb : BA w.heap.size w (some ⟨b, 0, none⟩) bs) (hc : bs.length ≤ c) (hg : b ≠ g) (hN : N ≤ w.heap.size) (hs : s ≤ 9223372036854775807) (hf : f ≤ 9223372036854775807)
    (hno : (hasB bs.length s n && hasB bs.length f n) = false) :
    Calls Try.prog 9 #[.pointer (some ⟨q, 0, none⟩), .slice (some ⟨b, 0, none⟩) bs.length c, .agg #[.int .i64 3, .int .i64 s, .int .i64 n, .int .i64 f, .int .i64 k, .int .u64 (u v), .slice X m d]] w (ToldPost N q g bs.length w) := by
  have HB := Lib.hid hb
  have HG := Lib.hid hg
  have m1 := hm.below (up_alloc (Below.refl _ _) (.cells #[.int .i64 3, .int .i64 s, .int .i64 n, .int .i64 f, .int .i64 k, .int .u64 (u v), .slice X m d] 34))
  have hL := hm.2.2
  have HM := Lib.hid m1
  clear hm hb hg m1
  cases h1 : hasB bs.length s n
  · go_enter Try.func9, Try.ntmps9
    go_wp2_with fail
    refine (move_no _ _ _ s f n _ HM.out.cell hL hf hs hno).mono ?_
    rintro e w2 ⟨rfl, rfl⟩
    go_wp2_with fail
    refine (in_any _ s n _ hL hs).mono ?_
    rw [h1]
    rintro e w2 ⟨rfl, rfl⟩
    go_wp2
    go_ret2
    exact ⟨bs, b, c, rfl, rfl, hc, HG.out, HM.out, (HB.out.below (up_alloc (Below.refl _ _) _)).more (by simp), (Below.refl _ w).alloc hN _⟩
  · have h2 : hasB bs.length f n = false := by rw [h1, Bool.true_and] at hno; exact hno
    go_enter Try.func9, Try.ntmps9
    go_wp2_with fail
    refine (move_no _ _ _ s f n _ HM.out.cell hL hf hs hno).mono ?_
    rintro e w2 ⟨rfl, rfl⟩
    go_wp2_with fail
    refine (in_any _ s n _ hL hs).mono ?_
    rw [h1]
    rintro e w2 ⟨rfl, rfl⟩
    go_wp2_with fail
    refine (in_any _ f n _ hL hf).mono ?_
    rw [h2]
    rintro e w2 ⟨rfl, rfl⟩
    go_wp2
    go_ret2
    exact ⟨bs, b, c, rfl, rfl, hc, HG.out, HM.out, (HB.out.below (up_alloc (Below.refl _ _) _)).more (by simp), (Below.refl _ w).alloc hN _⟩

theorem Box.three' {w : World} {H : Nat} {what s n f k : Int} {v : BitVec 64} {X : Option Addr} {m d : Nat} (h : Box w H what s n f k v X m d) :
    w.cell? ⟨H, 1, none⟩ = some (.int .i64 s) ∧ w.cell? ⟨H, 3, none⟩ = some (.int .i64 f) ∧ w.cell? ⟨H, 2, none⟩ = some (.int .i64 n) := ⟨h.cells.2.1, h.cells.2.2.2.1, h.cells.2.2.1⟩
theorem BA.sub {N : Nat} {w : World} {b o : Nat} {bs : List (BitVec 8)} (h : BA N w (some ⟨b, o, none⟩) bs) (s n : Nat) (hh : s + n ≤ bs.length) : BA N w (some ⟨b, o + s, none⟩) (sub bs s n) :=
  (h.drop s).take n (by rw [List.length_drop]; omega)

set_option maxRecDepth 100000 in
set_option maxHeartbeats 8000000 in
theorem told3_yes (q g b c N s f n : Nat) (bs : List (BitVec 8)) (k : Int) (v : BitVec 64) (X : Option Addr) (m d : Nat) (w : World) (hm : Mem w q g bs) (hb : BA w.heap.size w (some ⟨b, 0, none⟩) bs) (hc : bs.length ≤ c) (hg : b ≠ g) (hN : N ≤ w.heap.size) (hNg : N ≤ g)
    (hh : s + n ≤ bs.length) (hf : f + n ≤ bs.length) (hp : 0 < n) :
    Calls Try.prog 9 #[.pointer (some ⟨q, 0, none⟩), .slice (some ⟨b, 0, none⟩) bs.length c, .agg #[.int .i64 3, .int .i64 (s : Int), .int .i64 (n : Int), .int .i64 (f : Int), .int .i64 k, .int .u64 (u v), .slice X m d]] w (ToldPost N q g bs.length w) := by
  have hL := hm.2.2
  have hyes : hasB bs.length s n = true := hasB_iff.2 ⟨by omega, by omega, by omega⟩
  have hyes2 : hasB bs.length f n = true := hasB_iff.2 ⟨by omega, by omega, by omega⟩
  have hbox := Box.made w 3 s n f k v X m d
  have hal : Below w.heap.size w (w.alloc (.cells #[.int .i64 3, .int .i64 (s : Int), .int .i64 (n : Int), .int .i64 (f : Int), .int .i64 k, .int .u64 (u v), .slice X m d] 34)) := up_alloc (Below.refl _ _) _
  have m1 := hm.below hal
  have b1 := (hb.below hal).more hal.size
  have hgl := hm.2.1.lt
  have HM := Lib.hid m1
  have HB := Lib.hid b1
  have HAL := Lib.hid hal
  have HBX := Lib.hid hbox
  have HG := Lib.hid hg
  clear hm hb hg m1 b1 hbox hal
  go_enter Try.func9, Try.ntmps9
  go_wp2_with fail
  refine (move_yes q g bs s f n _ HM.out hh hf hp).mono ?_
  rintro e w2 ⟨rfl, m2, g2⟩
  have b2 := HB.out.far g2 HG.out
  have x2 := HBX.out.far g2 (by omega)
  have B2 := below_grown (HAL.out.mono hN) g2 (by have := HAL.out.size; omega) hNg
  obtain ⟨_, c1, c2, c3, _, _, _⟩ := x2.cells
  have z2 : w.heap.size < w2.heap.size := x2.lt
  have M2 := Lib.hid m2
  have B2' := Lib.hid b2
  have BE2 := Lib.hid B2
  have X2 := Lib.hid x2
  clear m2 b2 x2 B2 g2 HM HB HAL HBX
  go_wp2_with fail
  refine (in_any _ s n _ hL (by omega)).mono ?_
  rw [hyes]
  rintro e w3 ⟨rfl, rfl⟩
  go_wp2_with fail
  refine (in_any _ f n _ hL (by omega)).mono ?_
  rw [hyes2]
  rintro e w3 ⟨rfl, rfl⟩
  have hwr := i64_in ((f : Int) + (n : Int)) (by omega) (by omega)
  have k1 : f ≤ c := by omega
  have k2 : ¬ c = f := by omega
  have k5 : 0 ≤ (f : Int) + (n : Int) := by omega
  have k6 : (f : Int) + (n : Int) ≤ (c : Int) := by omega
  have k7 : ((f : Int) + (n : Int)).toNat = f + n := by omega
  have rp := rput_yes b 0 (some ⟨b, 0 + f, none⟩) bs (sub bs f n) c s (c - f) w2.drew B2'.out ((show BA w2.drew.heap.size w2.drew (some ⟨b, 0, none⟩) bs from B2'.out).sub f n hf) (by simp) hL hc (by rw [sub_length hf]; exact hh)
  rw [sub_length hf, Nat.zero_add] at rp
  have RP := Lib.hid rp
  clear rp
  go_wp2_with fail
  go_region_held3 (fun w' => w'.cell? ⟨w.heap.size, 1, none⟩ = some (.int .i64 s) ∧ w'.cell? ⟨w.heap.size, 3, none⟩ = some (.int .i64 f) ∧ w'.cell? ⟨w.heap.size, 2, none⟩ = some (.int .i64 n))
    (first | exact (X2.out.drew.below be5).three' | exact X2.out.drew.three')
    ((go_at_call 23; refine RP.out.mono ?_; rintro e w5 ⟨g5, cap5, rfl, hc5, hg5, ba5, be5⟩))
  have hsl : (splice bs s (sub bs f n)).length = bs.length := splice_length (by rw [sub_length hf]; exact hh)
  rw [hsl] at hc5 ⊢
  have HSL := Lib.hid hsl
  have BE5 : Hid (Below w2.heap.size w2 w5) := up_trans ((Below.refl _ w2).drew) be5
  have hg5' : w2.heap.size ≤ g5 := hg5
  have BA5 := Lib.hid ba5
  clear hsl be5 ba5 hg5
  go_wp2
  go_ret2
  exact ⟨splice bs s (sub bs f n), g5, cap5, HSL.out, rfl, hc5, by omega, M2.out.below BE5.out, BA5.out, BE2.out.trans (BE5.out.mono (by omega))⟩

end Go.Proofs.Ytdkjbidnelbdeaa
