/-
  What the reference's Rotate does: contracts that the claimed proofs use.
-/
import Derived.Test.YtlkphjbnjeelaaaRefs
namespace Go.Proofs.Ytlkphjbnjeelaaa
open Go.RowKit

theorem bit_quiet (x : BitVec 64) (k : Nat) (w : World) (a : Nat) (h1 : k ≤ 64) :
    Calls Try.prog 27 #[.int .u64 (u x), .int .i64 (k : Int)] (w.drewN a) fun e w' => e = .returned (.int .u64 (u (bitW x k))) ∧ ∃ m, w' = w.drewN m :=
  (bit_nat x k _ h1).mono fun _ _ ⟨he, hw⟩ => ⟨he, a, hw.symm⟩
def Drawn (w wr : World) : Prop := ∃ j, wr = w.drewN j
theorem Drawn.refl (w : World) : Drawn w w := ⟨0, rfl⟩
theorem Drawn.on {w wr : World} (h : Drawn w wr) (n : Nat) : Drawn w (wr.drewN n) := by
  obtain ⟨j, rfl⟩ := h; exact ⟨j + n, by rw [World.drewN_drewN]⟩
def rotAcc (v : BitVec 64) (n up k : Nat) : BitVec 64 := accP (fun i => bitW v i) (fun i => (i + up) % n) k
theorem rotAcc_raw (v : BitVec 64) (n up k : Nat) : bits .or .u64 (u (rotAcc v n up k)) (IntKind.u64.wrap (u (bitW v k) * 2 ^ ((k + up) % n))) = u (rotAcc v n up (k + 1)) := by
  rw [shl_u, or_u]; rfl
theorem rrotate_no (v : BitVec 64) (n d : Int) (w : World) (h : n < 1 ∨ 64 < n) :
    Calls Try.prog 18 #[.int .u64 (u v), .int .i64 n, .int .i64 d] w fun e w' => e = .returned (.tuple #[.int .u64 0, .bool false]) ∧ ∃ k, w' = w.drewN k := by
  rcases h with h | h
  · go_enter Try.func18, Try.ntmps18
    go_wp2
    go_ret2
    exact ⟨rfl, 0, rfl⟩
  · have hd : decide (n < 1) = false := by simp; omega
    go_enter Try.func18, Try.ntmps18
    go_wp2
    go_ret2
    exact ⟨rfl, 0, rfl⟩
theorem rrotate_wide (v : BitVec 64) (n d : Int) (w : World) (h0 : 1 ≤ n) (h1 : n ≤ 64) (hv : fits v n.toNat = false) :
    Calls Try.prog 18 #[.int .u64 (u v), .int .i64 n, .int .i64 d] w fun e w' => e = .returned (.tuple #[.int .u64 0, .bool false]) ∧ ∃ k, w' = w.drewN k := by
  have hd : decide (n < 1) = false := by simp; omega
  have hd2 : decide (64 < n) = false := by simp; omega
  go_enter Try.func18, Try.ntmps18
  go_wp2_with (go_at_call 30; refine (above_any _ _ _ (by omega) (by omega)).mono ?_; rintro e w' ⟨rfl, rfl⟩)
  go_ret2
  exact ⟨rfl, 0, rfl⟩
set_option maxHeartbeats 800000 in
theorem rrotate_neg (v : BitVec 64) (n U : Nat) (d : Int) (w : World) (h0 : 1 ≤ n) (h1 : n ≤ 64) (hv : fits v n = true) (hs : d.tmod n < 0) (hup : d.tmod n + n = U) (hU : U < n) :
    Calls Try.prog 18 #[.int .u64 (u v), .int .i64 n, .int .i64 d] w fun e w' => e = .returned (.tuple #[.int .u64 (u (rotW v n U)), .bool true]) ∧ ∃ k, w' = w.drewN k := by
  have hd : decide ((n : Int) < 1) = false := by simp; omega
  have hd2 : decide (64 < (n : Int)) = false := by simp; omega
  obtain ⟨b1, b2⟩ := tmod_bd d n (by omega)
  go_enter Try.func18, Try.ntmps18
  go_wp2_with (go_at_call 30; refine (above_nat _ n _ (by omega)).mono ?_; rintro e w' ⟨rfl, rfl⟩)
  clear hup hs b1 b2
  go_loopw [8, 9] (fun o i wr => ∃ k : Nat, k ≤ n ∧ i = .int .i64 k ∧ o = .int .u64 (u (rotAcc v n U k)) ∧ Drawn w wr) (fun _ i _ => n - (intOf i).toNat)
  case atStart => exact ⟨0, by omega, rfl, rfl, Drawn.refl w⟩
  case round =>
    obtain ⟨k, hk, rfl, rfl, hdr⟩ := hrel
    by_cases hlt : k < n
    · obtain ⟨R, hR⟩ : ∃ R, (k + U) % n = R := ⟨_, rfl⟩
      have HR : Hid ((k + U) % n = R) := hR
      have e1 : IntKind.i64.wrap ((k : Int) + (U : Int)) = (k : Int) + (U : Int) := IntWalk.i64_in _ (by omega)
      have e2 : ((k : Int) + (U : Int)).tmod (n : Int) = (R : Int) := by
        rw [Int.tmod_eq_emod_of_nonneg (by omega), ← hR, Int.natCast_emod, Int.natCast_add]
      have r1 : R < n := by rw [← hR]; exact Nat.mod_lt _ (by omega)
      have e3 : IntKind.u64.wrap (R : Int) = (R : Int) := IntWalk.u64_in _ (by omega)
      clear hR
      go_wp2_with fail
      go_quiet ((go_at_call 27; exact bit_quiet _ k _ _ (by omega)))
      go_wp2
      go_roundw
      case rel => exact ⟨k + 1, by omega, by go_num, by rw [← HR.out, rotAcc_raw], hdr.on _⟩
      case measure => simp [intOf]; omega
    · obtain rfl : k = n := by omega
      go_wp2
      go_ret2
      exact ⟨ret_ub (by rw [rotAcc, rot_acc v k U (by omega) hU hv]), hdr⟩
set_option maxHeartbeats 800000 in
theorem rrotate_pos (v : BitVec 64) (n U : Nat) (d : Int) (w : World) (h0 : 1 ≤ n) (h1 : n ≤ 64) (hv : fits v n = true) (hup : d.tmod n = U) (hU : U < n) :
    Calls Try.prog 18 #[.int .u64 (u v), .int .i64 n, .int .i64 d] w fun e w' => e = .returned (.tuple #[.int .u64 (u (rotW v n U)), .bool true]) ∧ ∃ k, w' = w.drewN k := by
  have hd : decide ((n : Int) < 1) = false := by simp; omega
  have hd2 : decide (64 < (n : Int)) = false := by simp; omega

  go_enter Try.func18, Try.ntmps18
  go_wp2_with (go_at_call 30; refine (above_nat _ n _ (by omega)).mono ?_; rintro e w' ⟨rfl, rfl⟩)
  clear hup
  go_loopw [8, 9] (fun o i wr => ∃ k : Nat, k ≤ n ∧ i = .int .i64 k ∧ o = .int .u64 (u (rotAcc v n U k)) ∧ Drawn w wr) (fun _ i _ => n - (intOf i).toNat)
  case atStart => exact ⟨0, by omega, rfl, rfl, Drawn.refl w⟩
  case round =>
    obtain ⟨k, hk, rfl, rfl, hdr⟩ := hrel
    by_cases hlt : k < n
    · obtain ⟨R, hR⟩ : ∃ R, (k + U) % n = R := ⟨_, rfl⟩
      have HR : Hid ((k + U) % n = R) := hR
      have e1 : IntKind.i64.wrap ((k : Int) + (U : Int)) = (k : Int) + (U : Int) := IntWalk.i64_in _ (by omega)
      have e2 : ((k : Int) + (U : Int)).tmod (n : Int) = (R : Int) := by
        rw [Int.tmod_eq_emod_of_nonneg (by omega), ← hR, Int.natCast_emod, Int.natCast_add]
      have r1 : R < n := by rw [← hR]; exact Nat.mod_lt _ (by omega)
      have e3 : IntKind.u64.wrap (R : Int) = (R : Int) := IntWalk.u64_in _ (by omega)
      clear hR
      go_wp2_with fail
      go_quiet ((go_at_call 27; exact bit_quiet _ k _ _ (by omega)))
      go_wp2
      go_roundw
      case rel => exact ⟨k + 1, by omega, by go_num, by rw [← HR.out, rotAcc_raw], hdr.on _⟩
      case measure => simp [intOf]; omega
    · obtain rfl : k = n := by omega
      go_wp2
      go_ret2
      exact ⟨ret_ub (by rw [rotAcc, rot_acc v k U (by omega) hU hv]), hdr⟩
theorem rrotate_yes (v : BitVec 64) (n : Nat) (d : Int) (w : World) (h0 : 1 ≤ n) (h1 : n ≤ 64) (hv : fits v n = true) :
    Calls Try.prog 18 #[.int .u64 (u v), .int .i64 n, .int .i64 d] w fun e w' => e = .returned (.tuple #[.int .u64 (u (turnW v n d)), .bool true]) ∧ ∃ k, w' = w.drewN k := by
  obtain ⟨b1, b2⟩ := tmod_bd d n (by omega)
  obtain ⟨t1, t2⟩ := tmod_up d n (by omega)
  have a1 : 0 ≤ d % (n : Int) := Int.emod_nonneg _ (by omega)
  obtain ⟨U, hU⟩ := Int.eq_ofNat_of_zero_le a1
  have e : turnW v n d = rotW v n U := by rw [turnW, hU]; rfl
  rw [e]
  by_cases hs : d.tmod n < 0
  · exact rrotate_neg v n U d w h0 h1 hv hs (by rw [t1 hs, hU]) (by have := t1 hs; omega)
  · exact rrotate_pos v n U d w h0 h1 hv (by rw [t2 (by omega), hU]) (by have := t2 (by omega); omega)

end Go.Proofs.Ytlkphjbnjeelaaa
