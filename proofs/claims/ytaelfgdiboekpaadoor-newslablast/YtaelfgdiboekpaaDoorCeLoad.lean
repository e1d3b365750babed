/-
  What Load, Store and Fill do: contracts that the claimed proofs use.
-/
import Derived.Test.YtaelfgdiboekpaaDoorCeSmall
namespace Go.Proofs.YtaelfgdiboekpaaDoor.Ce
set_option maxRecDepth 100000
open Go.RowKit

/-- The number of so many bytes at an address. -/
def ldW (bs : List (BitVec 8)) (s n : Nat) : BitVec 64 := ld (fun i => bs.getD (s + i) 0#8) n
theorem ld_step (f : Nat → BitVec 8) (k : Nat) (x : BitVec 8) (h : f k = x) : bits .or .u64 (u (ld f k)) (IntKind.u64.wrap (IntKind.u64.wrap (y x) * 2 ^ (8 * k))) = u (ld f (k + 1)) := by
  have e : IntKind.u64.wrap (y x) = y x := by rw [IntKind.wrap_u64]; have := y_nonneg x; have := y_lt x; omega
  rw [e, u_y, shl_u, or_u, ld, h]
theorem load_no (q g L : Nat) (s n : Int) (w : World) (hc : w.cell? ⟨q, 0, none⟩ = some (.slice (some ⟨g, 0, none⟩) L L)) (hL : L ≤ 1048576) (hs : s ≤ 9223372036854775807) (hno : (widthB n && hasB L s n) = false) :
    Calls Tryd.prog 45 #[.pointer (some ⟨q, 0, none⟩), .int .i64 s, .int .i64 n] w fun e w' => e = .returned (.tuple #[.int .u64 0, .int .i64 11]) ∧ w = w' := by
  cases hw : widthB n
  · go_enter Tryd.func45, Tryd.ntmps45
    go_wp2_with (go_at_call 83; refine (isWidth_any _ _).mono ?_; rw [hw]; rintro e w' ⟨rfl, rfl⟩)
    go_ret2
    exact ⟨rfl, rfl⟩
  · rw [hw, Bool.true_and] at hno
    go_enter Tryd.func45, Tryd.ntmps45
    go_wp2_with (first | (go_at_call 83; refine (isWidth_any _ _).mono ?_; rw [hw]; rintro e w' ⟨rfl, rfl⟩) | (go_at_call 61; refine (has_any q g L _ _ _ hc hL hs).mono ?_; rw [hno]; rintro e w' ⟨rfl, rfl⟩))
    go_ret2
    exact ⟨rfl, rfl⟩
theorem load_yes (q g : Nat) (bs : List (BitVec 8)) (s n : Nat) (w : World) (hm : Mem w q g bs) (hw : widthB n = true) (hh : s + n ≤ bs.length) :
    Calls Tryd.prog 45 #[.pointer (some ⟨q, 0, none⟩), .int .i64 (s : Int), .int .i64 (n : Int)] w fun e w' => e = .returned (.tuple #[.int .u64 (u (ldW bs s n)), .int .i64 0]) ∧ w = w' := by
  have hc := hm.cell
  have hL := hm.2.2
  have HM := Lib.hid hm
  have hb : hasB bs.length s n = true := hasB_iff.2 ⟨by omega, by omega, by omega⟩
  have hn : 1 ≤ n ∧ n ≤ 8 := by have := widthB_iff.1 hw; omega
  obtain ⟨n1, n8⟩ := hn
  clear hm
  obtain ⟨L, hl⟩ : ∃ L, bs.length = L := ⟨_, rfl⟩
  have HL := Lib.hid hl
  rw [hl] at hc hL hb hh
  clear hl
  go_enter Tryd.func45, Tryd.ntmps45
  go_wp2_with (first | (go_at_call 83; refine (isWidth_any _ _).mono ?_; rw [hw]; rintro e w' ⟨rfl, rfl⟩) | (go_at_call 61; refine (has_any q g L _ _ _ hc hL (by omega)).mono ?_; rw [hb]; rintro e w' ⟨rfl, rfl⟩))
  go_loop [8, 31] (fun v i => ∃ k : Nat, k ≤ n ∧ i = .int .i64 k ∧ v = .int .u64 (u (ldW bs s k))) (fun _ i => n - (intOf i).toNat)
  case atStart => exact ⟨0, by omega, rfl, rfl⟩
  case round =>
    obtain ⟨k, hk, rfl, rfl⟩ := hrel
    by_cases hlt : k < n
    · have q1 := HM.out.2.1.cell (i := s + k) (by have := HL.out; omega)
      obtain ⟨x, hx⟩ : ∃ x, bs.getD (s + k) 0#8 = x := ⟨_, rfl⟩
      rw [hx] at q1
      have HX := Lib.hid hx
      clear hx
      go_wp2
      go_round
      case rel => exact ⟨k + 1, by omega, by go_num, by rw [ldW, ld_step _ k x HX.out]; rfl⟩
      case measure => simp [intOf]; omega
    · obtain rfl : k = n := by omega
      go_wp2
      go_ret2
      exact ⟨rfl, rfl⟩

/-- What a call leaves that writes into the memory at q alone. -/
def Wrote (q g : Nat) (bs : List (BitVec 8)) (e0 : Int) (w : World) (e : Ending) (w' : World) : Prop :=
  e = .returned (.int .i64 e0) ∧ Mem w' q g bs ∧ w.grownBy w' (some g)

theorem store_no (q g L : Nat) (s n : Int) (v : BitVec 64) (w : World) (hc : w.cell? ⟨q, 0, none⟩ = some (.slice (some ⟨g, 0, none⟩) L L)) (hL : L ≤ 1048576) (hs : s ≤ 9223372036854775807) (hno : (widthB n && hasB L s n) = false) :
    Calls Tryd.prog 44 #[.pointer (some ⟨q, 0, none⟩), .int .i64 s, .int .i64 n, .int .u64 (u v)] w fun e w' => e = .returned (.int .i64 11) ∧ w = w' := by
  cases hw : widthB n
  · go_enter Tryd.func44, Tryd.ntmps44
    go_wp2_with (go_at_call 83; refine (isWidth_any _ _).mono ?_; rw [hw]; rintro e w' ⟨rfl, rfl⟩)
    go_ret
    exact ⟨rfl, rfl⟩
  · rw [hw, Bool.true_and] at hno
    go_enter Tryd.func44, Tryd.ntmps44
    go_wp2_with (first | (go_at_call 83; refine (isWidth_any _ _).mono ?_; rw [hw]; rintro e w' ⟨rfl, rfl⟩) | (go_at_call 61; refine (has_any q g L _ _ _ hc hL hs).mono ?_; rw [hno]; rintro e w' ⟨rfl, rfl⟩))
    go_ret
    exact ⟨rfl, rfl⟩
theorem by8_raw (v : BitVec 64) (k : Nat) : IntKind.u8.wrap (u v / 2 ^ (8 * k)) = y (by8 v k) := by rw [shr_u, y_u]; rfl
theorem put_step {w wr : World} {q g s k n : Nat} {bs : List (BitVec 8)} (cs : List (BitVec 8)) (x : BitVec 8) (hk : cs.length = k) (hs : s + n ≤ bs.length) (hkn : k < n)
    (hm : Mem wr q g (splice bs s cs)) (hg : w.grownBy wr (some g)) :
    Mem (wr.setCell ⟨g, s + k, none⟩ (.int .u8 (y x))) q g (splice bs s (cs ++ [x])) ∧ w.grownBy (wr.setCell ⟨g, s + k, none⟩ (.int .u8 (y x))) (some g) := by
  have hr := hm.2.1.set (i := s + k) x
  subst hk
  rw [splice_set bs cs s x (by omega)] at hr
  exact ⟨hm.turned (grown_set (grown_refl _ _)) hr (by rw [splice_length (by simp; omega), splice_length (by omega)]), grown_set hg⟩
theorem store_yes (q g : Nat) (bs : List (BitVec 8)) (s n : Nat) (v : BitVec 64) (w : World) (hm : Mem w q g bs) (hw : widthB n = true) (hh : s + n ≤ bs.length) :
    Calls Tryd.prog 44 #[.pointer (some ⟨q, 0, none⟩), .int .i64 (s : Int), .int .i64 (n : Int), .int .u64 (u v)] w (Wrote q g (splice bs s (bytesOf v n)) 0 w) := by
  have hc := hm.cell
  have hL := hm.2.2
  have HM := Lib.hid hm
  have hb : hasB bs.length s n = true := hasB_iff.2 ⟨by omega, by omega, by omega⟩
  have hn : 1 ≤ n ∧ n ≤ 8 := by have := widthB_iff.1 hw; omega
  obtain ⟨n1, n8⟩ := hn
  clear hm
  obtain ⟨L, hl⟩ : ∃ L, bs.length = L := ⟨_, rfl⟩
  have HL := Lib.hid hl
  rw [hl] at hc hL hb hh
  clear hl
  go_enter Tryd.func44, Tryd.ntmps44
  go_wp2_with (first | (go_at_call 83; refine (isWidth_any _ _).mono ?_; rw [hw]; rintro e w' ⟨rfl, rfl⟩) | (go_at_call 61; refine (has_any q g L _ _ _ hc hL (by omega)).mono ?_; rw [hb]; rintro e w' ⟨rfl, rfl⟩))
  go_loopw [21] (fun i wr => ∃ k : Nat, k ≤ n ∧ i = .int .i64 k ∧ Mem wr q g (splice bs s (bytesOf v k)) ∧ w.grownBy wr (some g)) (fun i _ => n - (intOf i).toNat)
  case atStart => exact ⟨0, by omega, rfl, by rw [show bytesOf v 0 = [] from rfl, splice_nil]; exact HM.out, grown_refl _ _⟩
  case round =>
    obtain ⟨k, hk, rfl, hmr, hgr⟩ := hrel
    have HMR := Lib.hid hmr
    have HGR := Lib.hid hgr
    have hlen : (splice bs s (bytesOf v k)).length = L := by rw [splice_length (by rw [bytesOf_length, HL.out]; omega)]; exact HL.out
    have hc2 := hmr.cell
    rw [hlen] at hc2
    clear hmr hgr
    by_cases hlt : k < n
    · have q1 := HMR.out.2.1.cell (i := s + k) (by rw [hlen]; omega)
      have q2 := HMR.out.2.1.frozen (s + k)
      obtain ⟨x, hx⟩ : ∃ x, (splice bs s (bytesOf v k)).getD (s + k) 0#8 = x := ⟨_, rfl⟩
      rw [hx] at q1
      clear hx hlen hc
      go_wp2
      go_region
      go_wp2
      go_roundw
      case rel =>
        have h := put_step (w := w) (bytesOf v k) (by8 v k) (bytesOf_length v k) (by rw [HL.out]; exact hh) hlt HMR.out HGR.out
        rw [← bytesOf_succ, ← by8_raw] at h
        exact ⟨k + 1, by omega, by go_num, h.1, grown_drew h.2⟩
      case measure => simp [intOf]; omega
    · obtain rfl : k = n := by omega
      go_wp2
      go_ret
      exact ⟨rfl, HMR.out, HGR.out⟩

theorem fill_no (q g L : Nat) (s n : Int) (x : BitVec 8) (w : World) (hc : w.cell? ⟨q, 0, none⟩ = some (.slice (some ⟨g, 0, none⟩) L L)) (hL : L ≤ 1048576) (hs : s ≤ 9223372036854775807) (hno : hasB L s n = false) :
    Calls Tryd.prog 72 #[.pointer (some ⟨q, 0, none⟩), .int .i64 s, .int .i64 n, .int .u8 (y x)] w fun e w' => e = .returned (.int .i64 11) ∧ w = w' := by
  go_enter Tryd.func72, Tryd.ntmps72
  go_wp2_with (go_at_call 61; refine (has_any q g L _ _ _ hc hL hs).mono ?_; rw [hno]; rintro e w' ⟨rfl, rfl⟩)
  go_ret
  exact ⟨rfl, rfl⟩
theorem fill_yes (q g : Nat) (bs : List (BitVec 8)) (s n : Nat) (x : BitVec 8) (w : World) (hm : Mem w q g bs) (hh : s + n ≤ bs.length) :
    Calls Tryd.prog 72 #[.pointer (some ⟨q, 0, none⟩), .int .i64 (s : Int), .int .i64 (n : Int), .int .u8 (y x)] w (Wrote q g (splice bs s (List.replicate n x)) 0 w) := by
  have hc := hm.cell
  have hL := hm.2.2
  have HM := Lib.hid hm
  have hb : hasB bs.length s n = true := hasB_iff.2 ⟨by omega, by omega, by omega⟩
  clear hm
  obtain ⟨L, hl⟩ : ∃ L, bs.length = L := ⟨_, rfl⟩
  have HL := Lib.hid hl
  rw [hl] at hc hL hb hh
  clear hl
  go_enter Tryd.func72, Tryd.ntmps72
  go_wp2_with (go_at_call 61; refine (has_any q g L _ _ _ hc hL (by omega)).mono ?_; rw [hb]; rintro e w' ⟨rfl, rfl⟩)
  go_loopw [16] (fun i wr => ∃ k : Nat, k ≤ n ∧ i = .int .i64 k ∧ Mem wr q g (splice bs s (List.replicate k x)) ∧ w.grownBy wr (some g)) (fun i _ => n - (intOf i).toNat)
  case atStart => exact ⟨0, by omega, rfl, by rw [List.replicate_zero, splice_nil]; exact HM.out, grown_refl _ _⟩
  case round =>
    obtain ⟨k, hk, rfl, hmr, hgr⟩ := hrel
    have HMR := Lib.hid hmr
    have HGR := Lib.hid hgr
    have hlen : (splice bs s (List.replicate k x)).length = L := by rw [splice_length (by rw [List.length_replicate, HL.out]; omega)]; exact HL.out
    have hc2 := hmr.cell
    rw [hlen] at hc2
    clear hmr hgr
    by_cases hlt : k < n
    · have q1 := HMR.out.2.1.cell (i := s + k) (by rw [hlen]; omega)
      have q2 := HMR.out.2.1.frozen (s + k)
      obtain ⟨x', hx⟩ : ∃ x', (splice bs s (List.replicate k x)).getD (s + k) 0#8 = x' := ⟨_, rfl⟩
      rw [hx] at q1
      clear hx hlen hc
      go_wp2
      go_roundw
      case rel =>
        have h := put_step (w := w) (List.replicate k x) x (List.length_replicate ..) (by rw [HL.out]; exact hh) hlt HMR.out HGR.out
        rw [← List.replicate_succ'] at h
        exact ⟨k + 1, by omega, by go_num, h.1, h.2⟩
      case measure => simp [intOf]; omega
    · obtain rfl : k = n := by omega
      go_wp2
      go_ret
      exact ⟨rfl, HMR.out, HGR.out⟩

end Go.Proofs.YtaelfgdiboekpaaDoor.Ce
