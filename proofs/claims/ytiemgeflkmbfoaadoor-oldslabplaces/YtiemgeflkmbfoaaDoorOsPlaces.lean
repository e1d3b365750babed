/-
  The walk of the statement on places.
-/
import Derived.Test.YtiemgeflkmbfoaaDoorOsRef
namespace Go.Proofs.YtiemgeflkmbfoaaDoor.Os
set_option maxRecDepth 100000
open Go.RowKit
open Ta (sz szs classB classB_iff classB_not sizeOf' slotsOf)
open Bi (sets bt on first setL setB tst hasB u Blk Drawn grown_refl grown_trans grown_below up_alloc up_drew up_trans i64_in ret_i ret_b)

theorem places_no (b c x k : Int) (w : World) (hT : Tb w) (h : (baseB b && classB c) = false) : Calls Tryd.prog 4 #[.int .i64 b, .int .i64 c, .int .i64 x, .int .i64 k] w fun e w' => e = .returned (.bool true) ∧ Below w.heap.size w w' := by
  have HA := Lib.hid (alive_any w hT)
  have HN := Lib.hid (fun (V : World) (hV : Below w.heap.size w V) => new_no (hT.below hV) h)
  have HR := Lib.hid (fun (V : World) => rnew_no (w := V) h)
  clear hT h
  go_enter Tryd.func4, Tryd.ntmps4
  go_wp2_with (first
    | (go_at_call 7; refine HA.out.mono ?_; rintro e w1 ⟨rfl, b1⟩; have B1 := Lib.hid b1; have HN1 := Lib.hid (HN.out _ b1); have HR1 := Lib.hid (HR.out w1); clear b1)
    | (go_at_call 12; refine HN1.out.mono ?_; rintro e w' ⟨rfl, rfl⟩)
    | (go_at_call 13; refine HR1.out.mono ?_; rintro e w2 ⟨rfl, b2⟩; have B2 := Lib.hid (up_trans B1.out b2); clear b2))
  go_ret
  exact ⟨rfl, B2.out⟩
theorem slot_mid {n K : Nat} {b z : Int} (hz : 16 ≤ z) (hK : K < n) : slotI n b z (b + K * z + z / 2) = -1 := by
  rcases slot_is (n := n) (b := b) (b + K * z + z / 2) (show 0 < z by omega) with ⟨e, _⟩ | ⟨j, hj, _, e2⟩
  · exact e
  · exfalso
    have e3 : (K : Int) * z + z / 2 = j * z := by omega
    have h1 := congrArg (fun t => t % z) e3
    simp only [Int.mul_emod_left] at h1
    rw [Int.add_comm, Int.add_mul_emod_self_right] at h1
    have : z / 2 % z = z / 2 := Int.emod_eq_of_lt (by omega) (by omega)
    omega
set_option maxHeartbeats 8000000 in
theorem places_yes (b c x k : Int) (w : World) (hT : Tb w) (hx : I64 x) (hb : baseB b = true) (hc : classB c = true) : Calls Tryd.prog 4 #[.int .i64 b, .int .i64 c, .int .i64 x, .int .i64 k] w fun e w' => e = .returned (.bool true) ∧ Below w.heap.size w w' := by
  have HA := Lib.hid (alive_any w hT)
  have HN := Lib.hid (fun (V : World) (hV : Below w.heap.size w V) => new_yes (hT.below hV) hb hc)
  have HR := Lib.hid (fun (V : World) => rnew_yes (w := V) hb hc)
  unfold GaveN at HN
  unfold GaveR at HR
  have HT := Lib.hid hT
  have HX := Lib.hid hx
  obtain ⟨z0, z1, n0, n1, nz, _, _⟩ := cls hc
  obtain ⟨b0, b1, _⟩ := baseB_iff.1 hb
  obtain ⟨n, hn⟩ : ∃ n, nS c = n := ⟨_, rfl⟩
  obtain ⟨z, hz⟩ : ∃ z, sizeOf' c = z := ⟨_, rfl⟩
  have HL : Hid ((l0 c).length = n) := by show _ = _; rw [l0_len, hn]
  rw [hn] at n0 n1 nz
  rw [hz] at nz z0 z1
  have HZ := Lib.hid hz
  have HNz := Lib.hid nz
  have hE : (∃ E, slotI n b z x = E ∧ E = -1) ∨ ∃ j : Nat, slotI n b z x = j := by
    rcases slot_is (n := n) (b := b) x (show 0 < z by omega) with ⟨e, _⟩ | ⟨j, _, e, _⟩
    · exact .inl ⟨_, rfl, e⟩
    · exact .inr ⟨j, e⟩
  have hs1 : sle (-1) = 12 := rfl
  have hs0 : ∀ j : Nat, sle (j : Int) = 0 := fun j => if_neg (by omega)
  have HS0 := Lib.hid hs0
  clear hT hb hc hn hz nz hx hs0
  by_cases hk : hasB n k = true
  · obtain ⟨k0, k1⟩ := Bi.hasB_iff.1 hk
    obtain ⟨K, rfl⟩ := Int.eq_ofNat_of_zero_le k0
    have hKn : K < n := by omega
    have h3 : (K : Int) * z + z ≤ n * z := by
      have := Int.mul_le_mul_of_nonneg_right (show (K : Int) + 1 ≤ n by omega) (show 0 ≤ z by omega)
      rw [Int.add_mul, Int.one_mul] at this; exact this
    have h4 : 0 ≤ (K : Int) * z := Int.mul_nonneg (by omega) (by omega)
    have h5 := HNz.out
    have hsa : slotI n b z (b + K * z) = K := slot_at (by omega) hKn
    have hsm : slotI n b z (b + K * z + z / 2) = -1 := slot_mid z0 hKn
    have had : adV b z n (K : Int) = b + K * z := by unfold adV; rw [hk, if_pos rfl]
    have HAD := Lib.hid had
    obtain ⟨m, hm⟩ : ∃ m, (K : Int) * z = m := ⟨_, rfl⟩
    rw [hm] at h3 h4 hsa hsm HAD
    obtain ⟨a, ha⟩ : ∃ a, b + m = a := ⟨_, rfl⟩
    rw [ha] at hsa hsm HAD
    obtain ⟨y, hy⟩ : ∃ y, a + z / 2 = y := ⟨_, rfl⟩
    rw [hy] at hsm
    have w1 := i64_in m (by omega) (by omega)
    have w2 := i64_in a (by omega) (by omega)
    have w3 := i64_in y (by omega) (by omega)
    have w4 := i64_in (a + z) (by omega) (by omega)
    have w5 := i64_in (b + 1024) (by omega) (by omega)
    have w6 := i64_in (z / 2) (by omega) (by omega)
    have e1 : z.tdiv 2 = z / 2 := by rw [Int.tdiv_eq_ediv_of_nonneg (by omega)]
    have hi1 : Hid (I64 a) := by show _ ∧ _; omega
    have hi2 : Hid (I64 y) := by show _ ∧ _; omega
    have d0 : decide ((K : Int) < 0) = false := by simp
    have d1 : decide ((n : Int) ≤ (K : Int)) = false := by simp; omega
    have d2 : (a == a) = true := by simp
    have d3 : ((K : Int) == (K : Int)) = true := by simp
    have d4 : decide (a + z ≤ b + 1024) = true := by simp; omega
    have HK := Lib.hid hk
    have HSA := Lib.hid hsa
    have HSM := Lib.hid hsm
    clear hk k0 k1 h3 h4 h5 hsa hsm had
    rcases hE with ⟨E, hE, hE2⟩ | ⟨E, hE⟩
    · have HE := Lib.hid (hE.trans hE2)
      clear hE hE2
      go_enter Tryd.func4, Tryd.ntmps4
      go_wp2_with (first
        | (go_at_call 7; refine HA.out.mono ?_; rintro e w1 ⟨rfl, b1⟩; have B1 := Lib.hid b1; have HN1 := Lib.hid (HN.out _ b1); clear b1)
        | (go_at_call 12; refine HN1.out.mono ?_; rintro e w2 ⟨b2, s, q2, g2, rfl, s2, -, -⟩; have B2 := Lib.hid (up_trans B1.out b2); have S2 := Lib.hid s2; have HR2 := Lib.hid (HR.out w2); clear b2 s2)
        | (go_at_call 13; refine HR2.out.mono ?_; rintro e w3 ⟨b3, R, gl, rfl, r3, -, -⟩; have B3 := Lib.hid (up_trans B2.out b3); have S3 := Lib.hid (S2.out.below b3); have R3 := Lib.hid r3; have T3 := Lib.hid (HT.out.below B3.out); have c3 := r3.c3; rw [HL.out] at c3; have HSl := Lib.hid (slot_any x HX.out S3.out T3.out); rw [HL.out, HZ.out, HE.out, hs1] at HSl; have HRs := Lib.hid (rslot_any x R3.out); rw [HL.out, HZ.out, HE.out] at HRs; clear b3 r3)
        | (go_at_call_of 18 (Value.int IntKind.i64 x); refine HSl.out.mono ?_; rintro e w' ⟨rfl, rfl⟩)
        | (go_at_call 19; refine HRs.out.mono ?_; rintro e w4 ⟨rfl, b4⟩; have B4 := Lib.hid (up_trans B3.out b4); have S4 := Lib.hid (S3.out.below b4); have R4 := Lib.hid (R3.out.below b4); have T4 := Lib.hid (T3.out.below b4); clear b4 c3; have HAd := Lib.hid (address_any (K : Int) S4.out T4.out); rw [HL.out, HZ.out, HAD.out, HK.out] at HAd)
        | (go_at_call 20; refine HAd.out.mono ?_; rintro e w5 ⟨rfl, d5⟩; have B5 := Lib.hid (up_trans B4.out d5.below); have S5 := Lib.hid (S4.out.below d5.below); have R5 := Lib.hid (R4.out.below d5.below); have T5 := Lib.hid (T4.out.below d5.below); clear d5; have c35 := R5.out.c3; rw [HL.out] at c35; have HSa := Lib.hid (slot_any a hi1.out S5.out T5.out); rw [HL.out, HZ.out, HSA.out, HS0.out] at HSa; have HSm := Lib.hid (slot_any y hi2.out S5.out T5.out); rw [HL.out, HZ.out, HSM.out, hs1] at HSm; have HSz := Lib.hid (size_any S5.out T5.out); rw [HZ.out] at HSz; have HRz := Lib.hid (rsize_any R5.out); rw [HZ.out] at HRz)
        | (go_at_call_of 18 (Value.int IntKind.i64 a); refine HSa.out.mono ?_; rintro e w' ⟨rfl, rfl⟩)
        | (go_at_call_of 18 (Value.int IntKind.i64 y); refine HSm.out.mono ?_; rintro e w' ⟨rfl, rfl⟩)
        | (go_at_call 21; refine HSz.out.mono ?_; rintro e w' ⟨rfl, rfl⟩)
        | (go_at_call 22; refine HRz.out.mono ?_; rintro e w6 ⟨rfl, b6⟩; have B6 := Lib.hid (up_trans B5.out b6); have HSz := Lib.hid (size_any (S5.out.below b6) (T5.out.below b6)); rw [HZ.out] at HSz; clear b6))
      go_ret
      exact ⟨rfl, B6.out⟩
    · have HE := Lib.hid hE
      have g0 : ((E : Int) != (E : Int)) = false := by simp
      have g1 : decide ((0 : Int) ≤ (E : Int)) = true := by simp
      have g2 : decide ((E : Int) < 0) = false := by simp
      clear hE
      go_enter Tryd.func4, Tryd.ntmps4
      go_wp2_with (first
        | (go_at_call 7; refine HA.out.mono ?_; rintro e w1 ⟨rfl, b1⟩; have B1 := Lib.hid b1; have HN1 := Lib.hid (HN.out _ b1); clear b1)
        | (go_at_call 12; refine HN1.out.mono ?_; rintro e w2 ⟨b2, s, q2, g2, rfl, s2, -, -⟩; have B2 := Lib.hid (up_trans B1.out b2); have S2 := Lib.hid s2; have HR2 := Lib.hid (HR.out w2); clear b2 s2)
        | (go_at_call 13; refine HR2.out.mono ?_; rintro e w3 ⟨b3, R, gl, rfl, r3, -, -⟩; have B3 := Lib.hid (up_trans B2.out b3); have S3 := Lib.hid (S2.out.below b3); have R3 := Lib.hid r3; have T3 := Lib.hid (HT.out.below B3.out); have c3 := r3.c3; rw [HL.out] at c3; have HSl := Lib.hid (slot_any x HX.out S3.out T3.out); rw [HL.out, HZ.out, HE.out, HS0.out] at HSl; have HRs := Lib.hid (rslot_any x R3.out); rw [HL.out, HZ.out, HE.out] at HRs; clear b3 r3)
        | (go_at_call_of 18 (Value.int IntKind.i64 x); refine HSl.out.mono ?_; rintro e w' ⟨rfl, rfl⟩)
        | (go_at_call 19; refine HRs.out.mono ?_; rintro e w4 ⟨rfl, b4⟩; have B4 := Lib.hid (up_trans B3.out b4); have S4 := Lib.hid (S3.out.below b4); have R4 := Lib.hid (R3.out.below b4); have T4 := Lib.hid (T3.out.below b4); clear b4 c3; have HAd := Lib.hid (address_any (K : Int) S4.out T4.out); rw [HL.out, HZ.out, HAD.out, HK.out] at HAd)
        | (go_at_call 20; refine HAd.out.mono ?_; rintro e w5 ⟨rfl, d5⟩; have B5 := Lib.hid (up_trans B4.out d5.below); have S5 := Lib.hid (S4.out.below d5.below); have R5 := Lib.hid (R4.out.below d5.below); have T5 := Lib.hid (T4.out.below d5.below); clear d5; have c35 := R5.out.c3; rw [HL.out] at c35; have HSa := Lib.hid (slot_any a hi1.out S5.out T5.out); rw [HL.out, HZ.out, HSA.out, HS0.out] at HSa; have HSm := Lib.hid (slot_any y hi2.out S5.out T5.out); rw [HL.out, HZ.out, HSM.out, hs1] at HSm; have HSz := Lib.hid (size_any S5.out T5.out); rw [HZ.out] at HSz; have HRz := Lib.hid (rsize_any R5.out); rw [HZ.out] at HRz)
        | (go_at_call_of 18 (Value.int IntKind.i64 a); refine HSa.out.mono ?_; rintro e w' ⟨rfl, rfl⟩)
        | (go_at_call_of 18 (Value.int IntKind.i64 y); refine HSm.out.mono ?_; rintro e w' ⟨rfl, rfl⟩)
        | (go_at_call 21; refine HSz.out.mono ?_; rintro e w' ⟨rfl, rfl⟩)
        | (go_at_call 22; refine HRz.out.mono ?_; rintro e w6 ⟨rfl, b6⟩; have B6 := Lib.hid (up_trans B5.out b6); have HSz := Lib.hid (size_any (S5.out.below b6) (T5.out.below b6)); rw [HZ.out] at HSz; clear b6))
      go_ret
      exact ⟨rfl, B6.out⟩
  · have hk' : hasB n k = false := by simpa using hk
    have HK := Lib.hid hk'
    have HAD : Hid (adV b z n k = -1) := by show _ = _; unfold adV; rw [hk']; rfl
    have hd : (decide (k < 0) = true) ∨ (decide (k < 0) = false ∧ decide ((n : Int) ≤ k) = true) := by
      have := Bi.hasB_not.1 hk'
      by_cases h : k < 0
      · exact .inl (by simpa using h)
      · exact .inr ⟨by simpa using h, by simp; omega⟩
    clear hk hk'
    rcases hE with ⟨E, hE, hE2⟩ | ⟨E, hE⟩ <;> rcases hd with hd | ⟨hd, hd2⟩
    · have HE := Lib.hid (hE.trans hE2)
      clear hE hE2
      go_enter Tryd.func4, Tryd.ntmps4
      go_wp2_with (first
        | (go_at_call 7; refine HA.out.mono ?_; rintro e w1 ⟨rfl, b1⟩; have B1 := Lib.hid b1; have HN1 := Lib.hid (HN.out _ b1); clear b1)
        | (go_at_call 12; refine HN1.out.mono ?_; rintro e w2 ⟨b2, s, q2, g2, rfl, s2, -, -⟩; have B2 := Lib.hid (up_trans B1.out b2); have S2 := Lib.hid s2; have HR2 := Lib.hid (HR.out w2); clear b2 s2)
        | (go_at_call 13; refine HR2.out.mono ?_; rintro e w3 ⟨b3, R, gl, rfl, r3, -, -⟩; have B3 := Lib.hid (up_trans B2.out b3); have S3 := Lib.hid (S2.out.below b3); have R3 := Lib.hid r3; have T3 := Lib.hid (HT.out.below B3.out); have c3 := r3.c3; rw [HL.out] at c3; have HSl := Lib.hid (slot_any x HX.out S3.out T3.out); rw [HL.out, HZ.out, HE.out, hs1] at HSl; have HRs := Lib.hid (rslot_any x R3.out); rw [HL.out, HZ.out, HE.out] at HRs; clear b3 r3)
        | (go_at_call_of 18 (Value.int IntKind.i64 x); refine HSl.out.mono ?_; rintro e w' ⟨rfl, rfl⟩)
        | (go_at_call 19; refine HRs.out.mono ?_; rintro e w4 ⟨rfl, b4⟩; have B4 := Lib.hid (up_trans B3.out b4); have S4 := Lib.hid (S3.out.below b4); have R4 := Lib.hid (R3.out.below b4); have T4 := Lib.hid (T3.out.below b4); clear b4 c3; have c34 := R4.out.c3; rw [HL.out] at c34; have HAd := Lib.hid (address_any k S4.out T4.out); rw [HL.out, HZ.out, HAD.out, HK.out] at HAd)
        | (go_at_call 20; refine HAd.out.mono ?_; rintro e w5 ⟨rfl, d5⟩; have B5 := Lib.hid (up_trans B4.out d5.below); have R5 := Lib.hid (R4.out.below d5.below); clear d5 c34; have c35 := R5.out.c3; rw [HL.out] at c35))
      go_ret
      exact ⟨rfl, B5.out⟩
    · have HE := Lib.hid (hE.trans hE2)
      clear hE hE2
      go_enter Tryd.func4, Tryd.ntmps4
      go_wp2_with (first
        | (go_at_call 7; refine HA.out.mono ?_; rintro e w1 ⟨rfl, b1⟩; have B1 := Lib.hid b1; have HN1 := Lib.hid (HN.out _ b1); clear b1)
        | (go_at_call 12; refine HN1.out.mono ?_; rintro e w2 ⟨b2, s, q2, g2, rfl, s2, -, -⟩; have B2 := Lib.hid (up_trans B1.out b2); have S2 := Lib.hid s2; have HR2 := Lib.hid (HR.out w2); clear b2 s2)
        | (go_at_call 13; refine HR2.out.mono ?_; rintro e w3 ⟨b3, R, gl, rfl, r3, -, -⟩; have B3 := Lib.hid (up_trans B2.out b3); have S3 := Lib.hid (S2.out.below b3); have R3 := Lib.hid r3; have T3 := Lib.hid (HT.out.below B3.out); have c3 := r3.c3; rw [HL.out] at c3; have HSl := Lib.hid (slot_any x HX.out S3.out T3.out); rw [HL.out, HZ.out, HE.out, hs1] at HSl; have HRs := Lib.hid (rslot_any x R3.out); rw [HL.out, HZ.out, HE.out] at HRs; clear b3 r3)
        | (go_at_call_of 18 (Value.int IntKind.i64 x); refine HSl.out.mono ?_; rintro e w' ⟨rfl, rfl⟩)
        | (go_at_call 19; refine HRs.out.mono ?_; rintro e w4 ⟨rfl, b4⟩; have B4 := Lib.hid (up_trans B3.out b4); have S4 := Lib.hid (S3.out.below b4); have R4 := Lib.hid (R3.out.below b4); have T4 := Lib.hid (T3.out.below b4); clear b4 c3; have c34 := R4.out.c3; rw [HL.out] at c34; have HAd := Lib.hid (address_any k S4.out T4.out); rw [HL.out, HZ.out, HAD.out, HK.out] at HAd)
        | (go_at_call 20; refine HAd.out.mono ?_; rintro e w5 ⟨rfl, d5⟩; have B5 := Lib.hid (up_trans B4.out d5.below); have R5 := Lib.hid (R4.out.below d5.below); clear d5 c34; have c35 := R5.out.c3; rw [HL.out] at c35))
      go_ret
      exact ⟨rfl, B5.out⟩
    · have HE := Lib.hid hE
      have g0 : ((E : Int) != (E : Int)) = false := by simp
      have g1 : decide ((0 : Int) ≤ (E : Int)) = true := by simp
      have g2 : decide ((E : Int) < 0) = false := by simp
      clear hE
      go_enter Tryd.func4, Tryd.ntmps4
      go_wp2_with (first
        | (go_at_call 7; refine HA.out.mono ?_; rintro e w1 ⟨rfl, b1⟩; have B1 := Lib.hid b1; have HN1 := Lib.hid (HN.out _ b1); clear b1)
        | (go_at_call 12; refine HN1.out.mono ?_; rintro e w2 ⟨b2, s, q2, g2, rfl, s2, -, -⟩; have B2 := Lib.hid (up_trans B1.out b2); have S2 := Lib.hid s2; have HR2 := Lib.hid (HR.out w2); clear b2 s2)
        | (go_at_call 13; refine HR2.out.mono ?_; rintro e w3 ⟨b3, R, gl, rfl, r3, -, -⟩; have B3 := Lib.hid (up_trans B2.out b3); have S3 := Lib.hid (S2.out.below b3); have R3 := Lib.hid r3; have T3 := Lib.hid (HT.out.below B3.out); have c3 := r3.c3; rw [HL.out] at c3; have HSl := Lib.hid (slot_any x HX.out S3.out T3.out); rw [HL.out, HZ.out, HE.out, HS0.out] at HSl; have HRs := Lib.hid (rslot_any x R3.out); rw [HL.out, HZ.out, HE.out] at HRs; clear b3 r3)
        | (go_at_call_of 18 (Value.int IntKind.i64 x); refine HSl.out.mono ?_; rintro e w' ⟨rfl, rfl⟩)
        | (go_at_call 19; refine HRs.out.mono ?_; rintro e w4 ⟨rfl, b4⟩; have B4 := Lib.hid (up_trans B3.out b4); have S4 := Lib.hid (S3.out.below b4); have R4 := Lib.hid (R3.out.below b4); have T4 := Lib.hid (T3.out.below b4); clear b4 c3; have c34 := R4.out.c3; rw [HL.out] at c34; have HAd := Lib.hid (address_any k S4.out T4.out); rw [HL.out, HZ.out, HAD.out, HK.out] at HAd)
        | (go_at_call 20; refine HAd.out.mono ?_; rintro e w5 ⟨rfl, d5⟩; have B5 := Lib.hid (up_trans B4.out d5.below); have R5 := Lib.hid (R4.out.below d5.below); clear d5 c34; have c35 := R5.out.c3; rw [HL.out] at c35))
      go_ret
      exact ⟨rfl, B5.out⟩
    · have HE := Lib.hid hE
      have g0 : ((E : Int) != (E : Int)) = false := by simp
      have g1 : decide ((0 : Int) ≤ (E : Int)) = true := by simp
      have g2 : decide ((E : Int) < 0) = false := by simp
      clear hE
      go_enter Tryd.func4, Tryd.ntmps4
      go_wp2_with (first
        | (go_at_call 7; refine HA.out.mono ?_; rintro e w1 ⟨rfl, b1⟩; have B1 := Lib.hid b1; have HN1 := Lib.hid (HN.out _ b1); clear b1)
        | (go_at_call 12; refine HN1.out.mono ?_; rintro e w2 ⟨b2, s, q2, g2, rfl, s2, -, -⟩; have B2 := Lib.hid (up_trans B1.out b2); have S2 := Lib.hid s2; have HR2 := Lib.hid (HR.out w2); clear b2 s2)
        | (go_at_call 13; refine HR2.out.mono ?_; rintro e w3 ⟨b3, R, gl, rfl, r3, -, -⟩; have B3 := Lib.hid (up_trans B2.out b3); have S3 := Lib.hid (S2.out.below b3); have R3 := Lib.hid r3; have T3 := Lib.hid (HT.out.below B3.out); have c3 := r3.c3; rw [HL.out] at c3; have HSl := Lib.hid (slot_any x HX.out S3.out T3.out); rw [HL.out, HZ.out, HE.out, HS0.out] at HSl; have HRs := Lib.hid (rslot_any x R3.out); rw [HL.out, HZ.out, HE.out] at HRs; clear b3 r3)
        | (go_at_call_of 18 (Value.int IntKind.i64 x); refine HSl.out.mono ?_; rintro e w' ⟨rfl, rfl⟩)
        | (go_at_call 19; refine HRs.out.mono ?_; rintro e w4 ⟨rfl, b4⟩; have B4 := Lib.hid (up_trans B3.out b4); have S4 := Lib.hid (S3.out.below b4); have R4 := Lib.hid (R3.out.below b4); have T4 := Lib.hid (T3.out.below b4); clear b4 c3; have c34 := R4.out.c3; rw [HL.out] at c34; have HAd := Lib.hid (address_any k S4.out T4.out); rw [HL.out, HZ.out, HAD.out, HK.out] at HAd)
        | (go_at_call 20; refine HAd.out.mono ?_; rintro e w5 ⟨rfl, d5⟩; have B5 := Lib.hid (up_trans B4.out d5.below); have R5 := Lib.hid (R4.out.below d5.below); clear d5 c34; have c35 := R5.out.c3; rw [HL.out] at c35))
      go_ret
      exact ⟨rfl, B5.out⟩
theorem law_places (b c x k : Int) (w : World) (hx : I64 x) (hT : Tb w) : Calls Tryd.prog 4 #[.int .i64 b, .int .i64 c, .int .i64 x, .int .i64 k] w fun e w' => e = .returned (.bool true) ∧ Below w.heap.size w w' := by
  cases h : (baseB b && classB c) with
  | false => exact places_no b c x k w hT h
  | true =>
    rw [Bool.and_eq_true] at h
    exact places_yes b c x k w hT hx h.1 h.2
end Go.Proofs.YtiemgeflkmbfoaaDoor.Os
