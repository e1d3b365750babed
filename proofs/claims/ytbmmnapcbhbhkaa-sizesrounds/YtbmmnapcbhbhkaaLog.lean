/-
  What Log does: a contract that the claimed proofs use.
-/
import Derived.Test.YtbmmnapcbhbhkaaMore
import Derived.Lib.Strings
import Derived.Lib.Slices
import Derived.Lib.Small
import Derived.Lib.Walk
namespace Go.Proofs.Ytbmmnapcbhbhkaa
open Go.RowKit

set_option maxRecDepth 100000 in
theorem tab_size : (Lib.len8tab.size : Int) = 256 := by
  have : Lib.len8tab.size = 256 := by decide
  omega
/-- The table's byte behind two conversions, and the shifts that came ahead of it. -/
theorem tab_end (k : Int) (x y : Int) (h : y.toNat < Lib.len8tab.size) (h0 : 0 ≤ y) (h1 : y ≤ 255) (k0 : 0 ≤ k) (hk : k ≤ 56) (hx : (Lib.bitLen x.toNat : Int) = k + (Lib.bitLen y.toNat : Int)) :
    wrap64 (k + wrap64 ((Lib.len8tab[y.toNat]'h).toNat : Int)) = (Lib.bitLen x.toNat : Int) ∧ wrap64 ((Lib.len8tab[y.toNat]'h).toNat : Int) = (Lib.bitLen y.toNat : Int) := by
  have e : ((Lib.len8tab[y.toNat]'h).toNat : Int) = Lib.len8 y := by
    unfold Lib.len8
    rw [getElem?_pos Lib.len8tab y.toNat h]
    rfl
  have l := Lib.bitLen_le8' y h0 h1
  rw [e, Lib.len8_of y h0 h1, hx]
  unfold wrap64
  omega
/-- The eight ways, by how great the number is. -/
theorem ways (x : Int) (h0 : 0 ≤ x) (h1 : x ≤ 18446744073709551615) :
    (4294967296 ≤ x → 65536 ≤ x / 4294967296 → 256 ≤ x / 4294967296 / 65536 → x / 4294967296 / 65536 / 256 ≤ 255 ∧ (Lib.bitLen x.toNat : Int) = 56 + (Lib.bitLen (x / 4294967296 / 65536 / 256).toNat : Int)) ∧
    (4294967296 ≤ x → 65536 ≤ x / 4294967296 → x / 4294967296 / 65536 < 256 → (Lib.bitLen x.toNat : Int) = 48 + (Lib.bitLen (x / 4294967296 / 65536).toNat : Int)) ∧
    (4294967296 ≤ x → x / 4294967296 < 65536 → 256 ≤ x / 4294967296 → x / 4294967296 / 256 ≤ 255 ∧ (Lib.bitLen x.toNat : Int) = 40 + (Lib.bitLen (x / 4294967296 / 256).toNat : Int)) ∧
    (4294967296 ≤ x → x / 4294967296 < 256 → (Lib.bitLen x.toNat : Int) = 32 + (Lib.bitLen (x / 4294967296).toNat : Int)) ∧
    (x < 4294967296 → 65536 ≤ x → 256 ≤ x / 65536 → x / 65536 / 256 ≤ 255 ∧ (Lib.bitLen x.toNat : Int) = 24 + (Lib.bitLen (x / 65536 / 256).toNat : Int)) ∧
    (65536 ≤ x → x / 65536 < 256 → (Lib.bitLen x.toNat : Int) = 16 + (Lib.bitLen (x / 65536).toNat : Int)) ∧
    (x < 65536 → 256 ≤ x → x / 256 ≤ 255 ∧ (Lib.bitLen x.toNat : Int) = 8 + (Lib.bitLen (x / 256).toNat : Int)) := by
  refine ⟨fun a b c => ⟨by omega, ?_⟩, fun a b c => ?_, fun a b c => ⟨by omega, ?_⟩, fun a b => ?_, fun a b c => ⟨by omega, ?_⟩, fun a b => ?_, fun a b => ⟨by omega, ?_⟩⟩
  · rw [show (x / 4294967296 / 65536 / 256).toNat = x.toNat / 72057594037927936 by omega, Lib.bitLen_shift56 x.toNat (by omega) (by omega)]; rfl
  · rw [show (x / 4294967296 / 65536).toNat = x.toNat / 281474976710656 by omega, Lib.bitLen_shift48 x.toNat (by omega) (by omega)]; rfl
  · rw [show (x / 4294967296 / 256).toNat = x.toNat / 1099511627776 by omega, Lib.bitLen_shift40 x.toNat (by omega) (by omega)]; rfl
  · rw [show (x / 4294967296).toNat = x.toNat / 4294967296 by omega, Lib.bitLen_shift32 x.toNat (by omega) (by omega)]; rfl
  · rw [show (x / 65536 / 256).toNat = x.toNat / 16777216 by omega, Lib.bitLen_shift24 x.toNat (by omega) (by omega)]; rfl
  · rw [show (x / 65536).toNat = x.toNat / 65536 by omega, Lib.bitLen_shift16 x.toNat (by omega) (by omega)]; rfl
  · rw [show (x / 256).toNat = x.toNat / 256 by omega, Lib.bitLen_shift8 x.toNat (by omega) (by omega)]; rfl

set_option maxHeartbeats 4000000 in
set_option maxRecDepth 100000 in
theorem len64_any (x : Int) (w : World) (h0 : 0 ≤ x) (h1 : x ≤ 18446744073709551615) :
    Calls Try.prog 26 #[.int .u64 x] w fun e w' => e = .returned (.int .i64 (Lib.bitLen x.toNat)) ∧ w = w' := by
  have hs := tab_size
  have W := Lib.hid (ways x h0 h1)
  go_enter Try.func26, Try.ntmps26
  go_wp2
  all_goals (go_ret; refine ⟨ret_i ?_, rfl⟩)
  all_goals obtain ⟨w1, w2, w3, w4, w5, w6, w7⟩ := W.out
  · exact (tab_end 56 x _ _ (by omega) (by omega) (by omega) (by omega) (w1 (by omega) (by omega) (by omega)).2).1
  · exact (tab_end 48 x _ _ (by omega) (by omega) (by omega) (by omega) (w2 (by omega) (by omega) (by omega))).1
  · exact (tab_end 40 x _ _ (by omega) (by omega) (by omega) (by omega) (w3 (by omega) (by omega) (by omega)).2).1
  · exact (tab_end 32 x _ _ (by omega) (by omega) (by omega) (by omega) (w4 (by omega) (by omega))).1
  · exact (tab_end 24 x _ _ (by omega) (by omega) (by omega) (by omega) (w5 (by omega) (by omega) (by omega)).2).1
  · exact (tab_end 16 x _ _ (by omega) (by omega) (by omega) (by omega) (w6 (by omega) (by omega))).1
  · exact (tab_end 8 x _ _ (by omega) (by omega) (by omega) (by omega) (w7 (by omega) (by omega)).2).1
  · have l := Lib.bitLen_le8' x h0 (by omega)
    rw [(tab_end 0 x x _ (by omega) (by omega) (by omega) (by omega) (by omega)).2]
    unfold wrap64
    omega

/-- sizes.Log. -/
theorem log_any (n : Int) (w : World) (hn : n ≤ 9223372036854775807) : Calls Try.prog 19 #[.int .i64 n] w fun e w' => e = .returned (.int .i64 (log n)) ∧ w = w' := by
  by_cases h0 : n < 1
  · go_enter Try.func19, Try.ntmps19
    go_wp2
    go_ret
    exact ⟨ret_i (log_no h0).symm, rfl⟩
  · have L := Lib.hid (fun w => len64_any n w (by omega) (by omega))
    have E := Lib.hid (show log n = (Lib.bitLen n.toNat : Int) - 1 from if_neg h0)
    have l := Lib.bitLen_le n.toNat 64 (by decide) (by omega)
    generalize Lib.bitLen n.toNat = b at *
    go_enter Try.func19, Try.ntmps19
    go_wp2_with (first | (go_at_call 26; refine (L.out _).mono ?_; rintro e w' ⟨rfl, rfl⟩))
    go_ret
    exact ⟨ret_i E.out.symm, rfl⟩

end Go.Proofs.Ytbmmnapcbhbhkaa
