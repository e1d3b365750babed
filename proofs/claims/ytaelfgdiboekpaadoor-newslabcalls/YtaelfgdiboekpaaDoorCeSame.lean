/-
  What SameBytes does of two lists of the same bytes: a contract that the claimed proofs use.
-/
import Derived.Test.YtaelfgdiboekpaaDoorCeDiffer
namespace Go.Proofs.YtaelfgdiboekpaaDoor.Ce
set_option maxRecDepth 100000
open Go.RowKit

/-- A list of bytes that came in, or was answered: of its address something is said only where there is an element. -/
def BA (B : Nat) (w : World) (A : Option Addr) (bs : List (BitVec 8)) : Prop :=
  0 < bs.length → ∃ b o, A = some ⟨b, o, none⟩ ∧ b < B ∧ ∀ j, j < bs.length → w.cell? ⟨b, o + j, none⟩ = some (.int .u8 (y (bs.getD j 0#8)))
theorem BA.below {B : Nat} {w w' : World} {A : Option Addr} {bs : List (BitVec 8)} (h : BA B w A bs) (hb : Below B w w') : BA B w' A bs := fun hp => by
  obtain ⟨b, o, e, hg, hc⟩ := h hp
  exact ⟨b, o, e, hg, fun i hi => (hb.cell (p := ⟨b, o + i, none⟩) hg).trans (hc i hi)⟩
theorem BA.more {B B' : Nat} {w : World} {A : Option Addr} {bs : List (BitVec 8)} (h : BA B w A bs) (hb : B ≤ B') : BA B' w A bs := fun hp => by
  obtain ⟨b, o, e, hg, hc⟩ := h hp
  exact ⟨b, o, e, by omega, hc⟩
theorem BA.row {w : World} {g : Nat} {bs : List (BitVec 8)} (h : Row w g bs) : BA w.heap.size w (some ⟨g, 0, none⟩) bs := fun _ =>
  ⟨g, 0, rfl, h.lt, fun j hj => by rw [Nat.zero_add]; exact h.cell hj⟩
def Drawn (w wr : World) : Prop := ∃ j, wr = w.drewN j
theorem Drawn.refl (w : World) : Drawn w w := ⟨0, rfl⟩
theorem Drawn.on {w wr : World} (h : Drawn w wr) (n : Nat) : Drawn w (wr.drewN n) := by
  obtain ⟨j, rfl⟩ := h; exact ⟨j + n, by rw [World.drewN_drewN]⟩
theorem Drawn.cell {w wr : World} (h : Drawn w wr) {p : Addr} {v : Value} (hc : w.cell? p = some v) : wr.cell? p = some v := by
  obtain ⟨j, rfl⟩ := h
  exact ((up_drew (Below.refl _ w) j).cell (World.block_lt_of_cell? w p hc)).trans hc

theorem same_none (A B : Option Addr) (c d : Nat) (w : World) :
    Calls Tryd.prog 19 #[.slice A 0 c, .slice B 0 d] w fun e w' => e = .returned (.bool true) ∧ Drawn w w' := by
  go_enter Tryd.func19, Tryd.ntmps19
  go_wp2
  go_loop [5] (fun i => i = .int .i64 0) (fun _ => 0)
  case atStart => rfl
  case round =>
    obtain rfl := hrel
    go_wp2
    go_ret
    exact ⟨rfl, Drawn.refl _⟩
theorem same_some (b o b2 o2 : Nat) (bs : List (BitVec 8)) (c d : Nat) (w : World) (h1 : ∀ j, j < bs.length → w.cell? ⟨b, o + j, none⟩ = some (.int .u8 (y (bs.getD j 0#8))))
    (h2 : ∀ j, j < bs.length → w.cell? ⟨b2, o2 + j, none⟩ = some (.int .u8 (y (bs.getD j 0#8)))) (hl : bs.length ≤ 1048576) :
    Calls Tryd.prog 19 #[.slice (some ⟨b, o, none⟩) bs.length c, .slice (some ⟨b2, o2, none⟩) bs.length d] w fun e w' => e = .returned (.bool true) ∧ Drawn w w' := by
  obtain ⟨n, hn⟩ : ∃ n, bs.length = n := ⟨_, rfl⟩
  rw [hn] at h1 h2 hl ⊢
  have H1 := Lib.hid h1
  have H2 := Lib.hid h2
  have hd : ((n : Int) != (n : Int)) = false := by simp
  clear h1 h2 hn
  go_enter Tryd.func19, Tryd.ntmps19
  go_wp2
  go_loopw [5] (fun i wr => ∃ k : Nat, k ≤ n ∧ i = .int .i64 k ∧ Drawn w wr) (fun i _ => n - (intOf i).toNat)
  case atStart => exact ⟨0, by omega, rfl, Drawn.refl _⟩
  case round =>
    obtain ⟨k, hk, rfl, hdr⟩ := hrel
    have HD := Lib.hid hdr
    clear hdr
    by_cases hlt : k < n
    · have q1 := HD.out.cell (H1.out k hlt)
      have q2 := HD.out.cell (H2.out k hlt)
      have k1 : (0 : Int) ≤ (k : Int) := by omega
      have k2 : (k : Int) < (n : Int) := by omega
      obtain ⟨x, hx⟩ : ∃ x, bs.getD k 0#8 = x := ⟨_, rfl⟩
      rw [hx] at q1 q2
      have hxx : (y x != y x) = false := by simp
      clear hx
      go_wp2_with fail
      go_quiet (fail)
      go_wp2
      go_roundw
      case rel => exact ⟨k + 1, by omega, by go_num, HD.out.on _⟩
      case measure => simp [intOf]; omega
    · obtain rfl : k = n := by omega
      go_wp2
      go_ret
      exact ⟨rfl, HD.out⟩
theorem same_yes (A B : Option Addr) (bs : List (BitVec 8)) (c d N N2 : Nat) (w : World) (h1 : BA N w A bs) (h2 : BA N2 w B bs) (hl : bs.length ≤ 1048576) :
    Calls Tryd.prog 19 #[.slice A bs.length c, .slice B bs.length d] w fun e w' => e = .returned (.bool true) ∧ Drawn w w' := by
  rcases Nat.eq_zero_or_pos bs.length with h0 | hp
  · rw [h0]; exact same_none A B c d w
  · obtain ⟨b, o, rfl, _, q1⟩ := h1 hp
    obtain ⟨b2, o2, rfl, _, q2⟩ := h2 hp
    exact same_some b o b2 o2 bs c d w q1 q2 hl

end Go.Proofs.YtaelfgdiboekpaaDoor.Ce
