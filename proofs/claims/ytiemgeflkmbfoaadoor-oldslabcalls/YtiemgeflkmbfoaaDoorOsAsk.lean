/-
  What a slab is asked about its places and its slots: contracts that the claimed proofs use.
-/
import Derived.Test.YtiemgeflkmbfoaaDoorOsMem
namespace Go.Proofs.YtiemgeflkmbfoaaDoor.Os
set_option maxRecDepth 100000
open Go.RowKit
open Ta (sz szs classB classB_iff classB_not sizeOf' slotsOf)
open Bi (sets bt on first setL setB tst hasB u Blk Drawn grown_refl grown_trans grown_below up_alloc up_drew up_trans i64_in ret_i ret_b)

def I64 (n : Int) : Prop := -9223372036854775808 ≤ n ∧ n ≤ 9223372036854775807
section
variable {w w' : World} {s q g : Nat} {b c : Int} {l : List Bool}
def sle (k : Int) : Int := if k < 0 then 12 else 0
set_option maxHeartbeats 1000000 in
theorem slot_any (x : Int) (hx : I64 x) (h : Sl w s q g b c l) (hT : Tb w) : Calls Tryd.prog 18 #[.pointer (some ⟨s, 0, none⟩), .int .i64 x] w fun e w' => e = .returned (.tuple #[.int .i64 (slotI l.length b (sizeOf' c) x), .int .i64 (sle (slotI l.length b (sizeOf' c) x))]) ∧ w = w' := by
  have c0 := h.c0
  have HS := Lib.hid (size_any h hT)
  have HH := Lib.hid (fun k => has_any k h)
  obtain ⟨z0, z1, _⟩ := cls h.hc
  obtain ⟨b0, b1, _⟩ := baseB_iff.1 h.hb
  obtain ⟨_, hl⟩ := h.len_le
  obtain ⟨z, hz⟩ : ∃ z, sizeOf' c = z := ⟨_, rfl⟩
  obtain ⟨n, hn⟩ : ∃ n, l.length = n := ⟨_, rfl⟩
  rw [hz] at HS z0 z1 ⊢
  rw [hn] at HH hl ⊢
  clear h hT hz hn
  unfold I64 at hx
  obtain ⟨d, hd⟩ : ∃ d, IntKind.i64.wrap (x - b) = d := ⟨_, rfl⟩
  have hdb : I64 d := by rw [← hd, IntKind.wrap_i64]; unfold I64; omega
  unfold I64 at hdb
  have hzn : (z == 0) = false := by simp; omega
  have hq : (z == -1) = false := by simp; omega
  have w1 : IntKind.i64.wrap (d.tdiv z) = d.tdiv z := by
    have h1 : (d.tdiv z).natAbs ≤ d.natAbs / 16 := by rw [Int.natAbs_tdiv]; exact Nat.div_le_div_left (by omega) (by omega)
    rw [IntKind.wrap_i64]; omega
  by_cases hm : d.tmod z = 0
  · have e0 : (d.tmod z != 0) = false := by simpa using hm
    have hk : d.tdiv z * z = d := by have := Int.mul_tdiv_add_tmod d z; rw [hm, Int.mul_comm] at this; omega
    have HQ : Hid (slotI n b z x = if hasB n (d.tdiv z) = true then d.tdiv z else -1) := by
      show _ = _
      generalize d.tdiv z = k at hk
      subst hk
      rcases slot_is (n := n) (b := b) x (show 0 < z by omega) with ⟨e1, e2⟩ | ⟨j, j1, e1, e2⟩
      · rw [e1, if_neg]
        intro hh
        obtain ⟨k0, k1⟩ := Bi.hasB_iff.1 hh
        obtain ⟨K, rfl⟩ := Int.eq_ofNat_of_zero_le k0
        refine e2 K (by omega) ?_
        rw [IntKind.wrap_i64] at hd
        have h3 : (K : Int) * z ≤ 64 * 512 := Int.mul_le_mul (by omega) z1 (by omega) (by omega)
        have h4 : 0 ≤ (K : Int) * z := Int.mul_nonneg (by omega) (by omega)
        omega
      · rw [e1]
        have h3 : (j : Int) * z ≤ 64 * 512 := Int.mul_le_mul (by omega) z1 (by omega) (by omega)
        have h4 : 0 ≤ (j : Int) * z := Int.mul_nonneg (by omega) (by omega)
        have h5 : k * z = j * z := by rw [IntKind.wrap_i64] at hd; omega
        have h6 : k = j := Int.eq_of_mul_eq_mul_right (by omega) h5
        rw [h6, if_pos (Bi.hasB_iff.2 (by omega))]
    generalize hkk : d.tdiv z = k at *
    cases hh : hasB n k with
    | true =>
      rw [hh, if_pos rfl] at HQ
      have hs : Hid (sle k = 0) := if_neg (by have := Bi.hasB_iff.1 hh; omega)
      have HH2 := Lib.hid (HH.out k)
      rw [hh] at HH2
      clear hh hm hk hdb HH
      go_enter Tryd.func18, Tryd.ntmps18
      go_wp2_with (first
        | (go_at_call 21; refine HS.out.mono ?_; rintro e w' ⟨rfl, rfl⟩)
        | (go_at_call 47; refine HH2.out.mono ?_; rintro e w' ⟨rfl, rfl⟩))
      go_ret2
      exact ⟨ret_ii HQ.out.symm (by rw [HQ.out]; exact hs.out.symm), rfl⟩
    | false =>
      rw [hh, if_neg (by simp)] at HQ
      have HH2 := Lib.hid (HH.out k)
      rw [hh] at HH2
      clear hh hm hk hdb HH
      go_enter Tryd.func18, Tryd.ntmps18
      go_wp2_with (first
        | (go_at_call 21; refine HS.out.mono ?_; rintro e w' ⟨rfl, rfl⟩)
        | (go_at_call 47; refine HH2.out.mono ?_; rintro e w' ⟨rfl, rfl⟩))
      go_ret2
      exact ⟨ret_ii HQ.out.symm (by rw [HQ.out]; rfl), rfl⟩
  · have e0 : (d.tmod z != 0) = true := by simpa using hm
    have HQ : Hid (slotI n b z x = -1) := by
      rcases slot_is (n := n) (b := b) x (show 0 < z by omega) with ⟨e1, _⟩ | ⟨j, j1, e1, e2⟩
      · exact e1
      · exfalso
        have h3 : (j : Int) * z ≤ 64 * 512 := Int.mul_le_mul (by omega) z1 (by omega) (by omega)
        have h4 : 0 ≤ (j : Int) * z := Int.mul_nonneg (by omega) (by omega)
        have h5 : d = j * z := by rw [IntKind.wrap_i64] at hd; omega
        exact hm (by rw [h5, Int.mul_tmod_left])
    generalize hkk : d.tdiv z = k at *
    clear hm hdb HH
    go_enter Tryd.func18, Tryd.ntmps18
    go_wp2_with (first
      | (go_at_call 21; refine HS.out.mono ?_; rintro e w' ⟨rfl, rfl⟩))
    go_ret2
    exact ⟨ret_ii HQ.out.symm (by rw [HQ.out]; rfl), rfl⟩
end
end Go.Proofs.YtiemgeflkmbfoaaDoor.Os
