/-
  What the statements' told does, where bytes are filled: contracts that the claimed proofs use.
-/
import Derived.Test.YtdkjbidnelbdeaaTold0
namespace Go.Proofs.Ytdkjbidnelbdeaa
open Go.RowKit

set_option maxRecDepth 100000 in
set_option maxHeartbeats 2000000 in
theorem told2_no (q g b c N : Nat) (bs : List (BitVec 8)) (s n f k : Int) (v : BitVec 64) (X : Option Addr) (m d : Nat) (w : World) (hm : Mem w q g bs) (hb : BA w.heap.size w (some ⟨b, 0, none⟩) bs) (hc : bs.length ≤ c) (hg : b ≠ g) (hN : N ≤ w.heap.size) (hs : s ≤ 9223372036854775807)
    (hno : hasB bs.length s n = false) :
    Calls Try.prog 9 #[.pointer (some ⟨q, 0, none⟩), .slice (some ⟨b, 0, none⟩) bs.length c, .agg #[.int .i64 2, .int .i64 s, .int .i64 n, .int .i64 f, .int .i64 k, .int .u64 (u v), .slice X m d]] w (ToldPost N q g bs.length w) := by
  have HB := Lib.hid hb
  have HG := Lib.hid hg
  have m1 := hm.below (up_alloc (Below.refl _ _) (.cells #[.int .i64 2, .int .i64 s, .int .i64 n, .int .i64 f, .int .i64 k, .int .u64 (u v), .slice X m d] 34))
  have hL := hm.2.2
  have HM := Lib.hid m1
  have hv := y_u v
  clear hm hb hg m1
  go_enter Try.func9, Try.ntmps9
  go_wp2_with fail
  refine (fill_no _ _ _ s n _ _ HM.out.cell hL hs hno).mono ?_
  rintro e w2 ⟨rfl, rfl⟩
  go_wp2_with fail
  refine (in_any _ s n _ hL hs).mono ?_
  rw [hno]
  rintro e w2 ⟨rfl, rfl⟩
  go_wp2
  go_ret2
  exact ⟨bs, b, c, rfl, rfl, hc, HG.out, HM.out, (HB.out.below (up_alloc (Below.refl _ _) _)).more (by simp), (Below.refl _ w).alloc hN _⟩

set_option maxRecDepth 100000 in
set_option maxHeartbeats 8000000 in
theorem told2_yes (q g b c N s n : Nat) (bs : List (BitVec 8)) (f k : Int) (v : BitVec 64) (X : Option Addr) (m d : Nat) (w : World) (hm : Mem w q g bs) (hb : BA w.heap.size w (some ⟨b, 0, none⟩) bs) (hc : bs.length ≤ c) (hg : b ≠ g) (hN : N ≤ w.heap.size) (hNg : N ≤ g)
    (hh : s + n ≤ bs.length) :
    Calls Try.prog 9 #[.pointer (some ⟨q, 0, none⟩), .slice (some ⟨b, 0, none⟩) bs.length c, .agg #[.int .i64 2, .int .i64 (s : Int), .int .i64 (n : Int), .int .i64 f, .int .i64 k, .int .u64 (u v), .slice X m d]] w (ToldPost N q g bs.length w) := by
  have hL := hm.2.2
  have hyes : hasB bs.length s n = true := hasB_iff.2 ⟨by omega, by omega, by omega⟩
  have hbox := Box.made w 2 s n f k v X m d
  have hal : Below w.heap.size w (w.alloc (.cells #[.int .i64 2, .int .i64 (s : Int), .int .i64 (n : Int), .int .i64 f, .int .i64 k, .int .u64 (u v), .slice X m d] 34)) := up_alloc (Below.refl _ _) _
  have m1 := hm.below hal
  have b1 := (hb.below hal).more hal.size
  have hgl := hm.2.1.lt
  have HM := Lib.hid m1
  have HB := Lib.hid b1
  have HAL := Lib.hid hal
  have HBX := Lib.hid hbox
  have HG := Lib.hid hg
  have hv := y_u v
  clear hm hb hg m1 b1 hbox hal
  go_enter Try.func9, Try.ntmps9
  go_wp2_with fail
  refine (fill_yes q g bs s n _ _ HM.out hh).mono ?_
  rintro e w2 ⟨rfl, m2, g2⟩
  obtain ⟨x, hx⟩ : ∃ x, v.setWidth 8 = x := ⟨_, rfl⟩
  rw [hx] at m2 hv
  clear hx
  have b2 := HB.out.far g2 HG.out
  have x2 := HBX.out.far g2 (by omega)
  have B2 := below_grown (HAL.out.mono hN) g2 (by have := HAL.out.size; omega) hNg
  obtain ⟨_, c1, c2, _, _, c5, _⟩ := x2.cells
  have z2 : w.heap.size < w2.heap.size := x2.lt
  have M2 := Lib.hid m2
  have B2' := Lib.hid b2
  have BE2 := Lib.hid B2
  have X2 := Lib.hid x2
  clear m2 b2 x2 B2 g2 HM HB HAL HBX
  go_wp2_with fail
  refine (in_any _ s n _ hL (by omega)).mono ?_
  rw [hyes]
  rintro e w3 ⟨rfl, rfl⟩
  have hst := own_empty w2
  have HS := Lib.hid hst
  clear hst
  go_wp2_with fail
  go_loopw [13, 14] (fun o i wr => ∃ j g' cap' : Nat, j ≤ n ∧ i = .int .i64 j ∧ o = .slice (some ⟨g', 0, none⟩) j cap' ∧ wr.ownsRow w2.heap.size 5 1 (.slice (some ⟨g', 0, none⟩) j cap') j (row (List.replicate j x)) ∧ Below w2.heap.size w2 wr) (fun _ i _ => n - (intOf i).toNat)
  case atStart => exact ⟨0, w2.heap.size, 0, by omega, rfl, rfl, HS.out, up_alloc (Below.refl _ _) _⟩
  case round =>
    obtain ⟨j, g', cap', hj, rfl, rfl, hown, hbel⟩ := hrel
    have HO := Lib.hid hown
    have HBL := Lib.hid hbel
    have hsz := hbel.size
    clear hown hbel HS c1 c2 c5
    have xr := X2.out.below HBL.out
    obtain ⟨_, c1, c2, _, _, c5, _⟩ := xr.cells
    have hHr := xr.lt
    clear xr
    by_cases hlt : j < n
    · go_wp2_with (at_builtin; refine append_bytes (by rfl) _ _ (by rfl) w2.heap.size g' cap' j 1 1 (wr.heap.size + 1) (List.replicate j x) [x] (some ⟨wr.heap.size, 0, none⟩) (by rfl) (HO.out.alloc _) (by rfl) rfl (by simp) (row_single wr _ _ rfl) (by omega) (by simp; omega) ?_; intro g4 cap4 w4 HO2 HB2)
      go_roundw
      case rel => exact ⟨j + 1, g4, cap4, by omega, by go_num, rfl, by rw [List.replicate_succ']; exact HO2.out, (up_alloc HBL.out _).trans HB2.out⟩
      case measure => simp [intOf]; omega
    · obtain rfl : j = n := by omega
      have hgb : w2.heap.size ≤ g' := own_base HO.out g' rfl
      have ba := own_bytes HO.out (List.length_replicate ..)
      have hcp := own_cap HO.out
      have bb := (B2'.out.below HBL.out).more HBL.out.size
      have mr := M2.out.below HBL.out
      have rp := rput_yes b 0 (some ⟨g', 0, none⟩) bs (List.replicate j x) c s cap' wr bb ba (by simp) hL hc (by rw [List.length_replicate]; exact hh)
      rw [List.length_replicate] at rp
      have RP := Lib.hid rp
      have MR := Lib.hid mr
      clear rp mr bb ba HO
      go_wp2_with fail
      refine RP.out.mono ?_
      rintro e w5 ⟨g5, cap5, rfl, hc5, hg5, ba5, be5⟩
      have hsl : (splice bs s (List.replicate j x)).length = bs.length := splice_length (by rw [List.length_replicate]; exact hh)
      rw [hsl] at hc5 ⊢
      have HSL := Lib.hid hsl
      clear hsl
      go_wp2
      go_ret2
      exact ⟨splice bs s (List.replicate j x), g5, cap5, HSL.out, rfl, hc5, by omega, MR.out.below be5, ba5, (BE2.out.trans (HBL.out.mono (by omega))).trans (be5.mono (by omega))⟩

end Go.Proofs.Ytdkjbidnelbdeaa
