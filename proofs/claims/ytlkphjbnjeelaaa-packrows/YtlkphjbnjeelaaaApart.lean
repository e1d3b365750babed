/-
  What pack.Apart does: contracts that the claimed proofs use.
-/
import Derived.Test.YtlkphjbnjeelaaaTurn
namespace Go.Proofs.Ytlkphjbnjeelaaa
open Go.RowKit

/-- The fields of a slice that lies below a block, in a world. -/
def FAt (w : World) (b off : Nat) (l : List (Int × Int)) : Prop :=
  ∀ i, i < l.length → w.cell? ⟨b, off + i * 2, none⟩ = some (.int .i64 (l.getD i (0, 0)).1) ∧ w.cell? ⟨b, off + i * 2 + 1, none⟩ = some (.int .i64 (l.getD i (0, 0)).2)
def FS (B : Nat) (w : World) (A : Option Addr) (l : List (Int × Int)) : Prop :=
  0 < l.length → ∃ b off, A = some ⟨b, off, none⟩ ∧ b < B ∧ FAt w b off l
theorem FAt.below {B b off : Nat} {w w' : World} {l : List (Int × Int)} (h : FAt w b off l) (hb : b < B) (hw : Below B w w') : FAt w' b off l :=
  fun i hi => ⟨(hw.cell (p := ⟨b, off + i * 2, none⟩) hb).trans (h i hi).1, (hw.cell (p := ⟨b, off + i * 2 + 1, none⟩) hb).trans (h i hi).2⟩
theorem FS.below {B : Nat} {w w' : World} {A : Option Addr} {l : List (Int × Int)} (h : FS B w A l) (hw : Below B w w') : FS B w' A l := fun hp => by
  obtain ⟨b, off, e, hb, hf⟩ := h hp
  exact ⟨b, off, e, hb, hf.below hb hw⟩
theorem FS.more {B B' : Nat} {w : World} {A : Option Addr} {l : List (Int × Int)} (h : FS B w A l) (hB : B ≤ B') : FS B' w A l := fun hp => by
  obtain ⟨b, off, e, hb, hf⟩ := h hp
  exact ⟨b, off, e, by omega, hf⟩

theorem up_alloc {w wr : World} (h : Below w.heap.size w wr) (o : Obj) : Below w.heap.size w (wr.alloc o) := h.alloc h.size o
theorem up_drew {w wr : World} (h : Below w.heap.size w wr) (n : Nat) : Below w.heap.size w (wr.drewN n) := below_drewN h n
theorem apart_none (A : Option Addr) (c : Nat) (w : World) :
    Calls Try.prog 25 #[.slice A 0 c] w fun e w' => e = .returned (.bool true) ∧ Below w.heap.size w w' := by
  go_enter Try.func25, Try.ntmps25
  go_wp2
  go_loop [8] (fun i => i = .int .i64 0) (fun _ => 0)
  case atStart => rfl
  case round =>
    obtain rfl := hrel
    go_wp2
    go_ret
    exact ⟨rfl, Below.refl _ _⟩
theorem and_ne {x y : BitVec 64} {b : Bool} (h : (x &&& y == 0#64) = b) : (bits .and .u64 (u x) (u y) != 0) = !b := by
  have e : (0 : Int) = u 0#64 := rfl
  rw [and_u, e, bne, u_beq, h]
set_option maxHeartbeats 800000 in
theorem apart_some (b off : Nat) (l : List (Int × Int)) (c : Nat) (w : World) (hb : b < w.heap.size) (hf : FAt w b off l) (hl : l.length ≤ 70) :
    Calls Try.prog 25 #[.slice (some ⟨b, off, none⟩) l.length c] w fun e w' => e = .returned (.bool (apartGo 0#64 l)) ∧ Below w.heap.size w w' := by
  have HF := Lib.hid hf
  clear hf
  go_enter Try.func25, Try.ntmps25
  go_wp2
  go_loopw [3, 8] (fun o i wr => ∃ k : Nat, k ≤ l.length ∧ i = .int .i64 k ∧ o = .int .u64 (u (seenTo l k)) ∧ okTo l k ∧ Below w.heap.size w wr) (fun _ i _ => l.length - (intOf i).toNat)
  case atStart => exact ⟨0, by omega, rfl, rfl, okTo_zero l, Below.refl _ _⟩
  case round =>
    obtain ⟨k, hk, rfl, rfl, hok, hbel⟩ := hrel
    have HO := Lib.hid hok
    clear hok
    by_cases hlt : k < l.length
    · obtain ⟨q1, q2⟩ := (HF.out.below hb hbel) k hlt
      have hsz := hbel.size
      obtain ⟨s, hs⟩ : ∃ s, (l.getD k (0, 0)).1 = s := ⟨_, rfl⟩
      obtain ⟨n, hn⟩ : ∃ n, (l.getD k (0, 0)).2 = n := ⟨_, rfl⟩
      rw [hs] at q1
      rw [hn] at q2
      have HP : Hid (l.getD k (0, 0) = (s, n)) := by rw [← hs, ← hn]; rfl
      clear hs hn
      have hb2 : b < wr.heap.size := by omega
      by_cases hr : rightB s n = true
      · obtain ⟨h0, h1, h2, h3⟩ := rightB_iff.1 hr
        by_cases ht : (seenTo l k &&& maskW s.toNat n.toNat == 0#64) = true
        · have hne := and_ne ht
          have HT := Lib.hid ht
          clear ht
          go_wp2_with (first | (go_at_call 12; refine (right_any _ _ _).mono ?_; rintro e w' ⟨rfl, rfl⟩) | (go_at_call 29; refine (mask_any _ _ _ (by omega) (by omega) (by omega) (by omega)).mono ?_; rintro e w' ⟨rfl, j, rfl⟩))
          go_roundw
          case rel => exact ⟨k + 1, by omega, by go_num, by rw [or_u, seenTo, HP.out]; rfl, okTo_succ HO.out hlt (by rw [HP.out]; exact hr) (by rw [HP.out]; exact HT.out), by repeat (first | exact hbel | apply up_drew | apply up_alloc)⟩
          case measure => simp [intOf]; omega
        · have hne := and_ne (b := false) (by simpa using ht)
          have HT := Lib.hid ht
          clear ht
          go_wp2_with (first | (go_at_call 12; refine (right_any _ _ _).mono ?_; rintro e w' ⟨rfl, rfl⟩) | (go_at_call 29; refine (mask_any _ _ _ (by omega) (by omega) (by omega) (by omega)).mono ?_; rintro e w' ⟨rfl, j, rfl⟩))
          go_ret
          exact ⟨ret_b (okTo_twice HO.out hlt (by rw [HP.out]; exact Bool.eq_false_iff.2 HT.out)).symm, by repeat (first | exact hbel | apply up_drew | apply up_alloc)⟩
      · have hr' : rightB s n = false := by simpa using hr
        clear hr
        go_wp2_with (first | (go_at_call 12; refine (right_any _ _ _).mono ?_; rintro e w' ⟨rfl, rfl⟩))
        go_ret
        exact ⟨ret_b (okTo_wrong HO.out hlt (by rw [HP.out]; exact hr')).symm, by repeat (first | exact hbel | apply up_drew | apply up_alloc)⟩
    · obtain rfl : k = l.length := by omega
      go_wp2
      go_ret
      exact ⟨ret_b (okTo_end HO.out).symm, hbel⟩
theorem apart_any (A : Option Addr) (l : List (Int × Int)) (c : Nat) (w : World) (hf : FS w.heap.size w A l) (hl : l.length ≤ 70) :
    Calls Try.prog 25 #[.slice A l.length c] w fun e w' => e = .returned (.bool (apartGo 0#64 l)) ∧ Below w.heap.size w w' := by
  rcases Nat.eq_zero_or_pos l.length with h0 | hp
  · rw [List.eq_nil_of_length_eq_zero h0]; exact apart_none A c w
  · obtain ⟨b, off, rfl, hb, hf⟩ := hf hp
    exact apart_some b off l c w hb hf hl

end Go.Proofs.Ytlkphjbnjeelaaa
