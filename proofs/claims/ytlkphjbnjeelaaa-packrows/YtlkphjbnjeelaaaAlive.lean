/-
  What the statements' first call does: it answers true, and leaves all that was there as it was.
-/
import Derived.Test.YtlkphjbnjeelaaaUnpack
namespace Go.Proofs.Ytlkphjbnjeelaaa
open Go.RowKit

theorem up_trans {w W w2 : World} (h : Below w.heap.size w W) (h2 : Below W.heap.size W w2) : Below w.heap.size w w2 := h.trans (h2.mono h.size)

theorem put_c1 (w : World) : Calls Try.prog 10 #[.int .u64 0, .agg #[.int .i64 4, .int .i64 8], .int .u64 255] w fun e w' => e = .returned (.tuple #[.int .u64 4080, .bool true]) ∧ Below w.heap.size w w' :=
  put_yes 0#64 255#64 4 8 w (by decide) (by decide)
theorem put_c2 (w : World) : Calls Try.prog 10 #[.int .u64 0, .agg #[.int .i64 4, .int .i64 8], .int .u64 256] w fun e w' => e = .returned (.tuple #[.int .u64 0, .bool false]) ∧ Below w.heap.size w w' :=
  put_wide 0#64 256#64 4 8 w (by decide) (by decide)
theorem get_c (w : World) : Calls Try.prog 8 #[.int .u64 4080, .agg #[.int .i64 4, .int .i64 8]] w fun e w' => e = .returned (.tuple #[.int .u64 255, .bool true]) ∧ Below w.heap.size w w' :=
  get_yes 4080#64 4 8 w (by decide)
theorem signed_c (w : World) : Calls Try.prog 14 #[.int .u64 200, .int .i64 8] w fun e w' => e = .returned (.tuple #[.int .i64 (-56), .bool true]) ∧ w = w' :=
  signed_yes 200#64 8 w (by decide) (by decide)
theorem rotate_c (w : World) : Calls Try.prog 17 #[.int .u64 6, .int .i64 4, .int .i64 2] w fun e w' => e = .returned (.tuple #[.int .u64 9, .bool true]) ∧ ∃ k, w' = w.drewN k :=
  have e : u (turnW 6#64 4 2) = 9 := by unfold turnW rotW; decide
  e ▸ rotate_yes 6#64 4 2 w (by decide) (by decide) (by decide)
theorem unsigned_c (w : World) : Calls Try.prog 16 #[.int .i64 (-1), .int .i64 5] w fun e w' => e = .returned (.tuple #[.int .u64 31, .bool true]) ∧ w = w' :=
  unsigned_yes 18446744073709551615#64 5 w (by decide) (by decide)
theorem fits_c1 (w : World) : Calls Try.prog 19 #[.int .i64 (-56), .int .i64 8, .bool true] w fun e w' => e = .returned (.bool true) ∧ w = w' :=
  have e1 : sg 18446744073709551560#64 = -56 := by decide +kernel
  have e2 : (signW 18446744073709551560#64 (8 : Int).toNat == 18446744073709551560#64) = true := by decide +kernel
  e1 ▸ e2 ▸ fitsS_yes 18446744073709551560#64 8 w (by decide) (by decide)
theorem fits_c2 (w : World) : Calls Try.prog 19 #[.int .i64 (-1), .int .i64 8, .bool false] w fun e w' => e = .returned (.bool false) ∧ w = w' :=
  fitsU_yes (BitVec.allOnes 64) 8 w (by decide) (by decide)
theorem pack_c (b vb : Nat) (w : World) (hb : b < w.heap.size) (hvb : vb < w.heap.size) (h0 : w.cell? ⟨b, 0, none⟩ = some (.int .i64 0)) (h1 : w.cell? ⟨b, 1, none⟩ = some (.int .i64 2)) (h2 : w.cell? ⟨b, 2, none⟩ = some (.int .i64 8)) (h3 : w.cell? ⟨b, 3, none⟩ = some (.int .i64 4))
    (v0 : w.cell? ⟨vb, 0, none⟩ = some (.int .u64 3)) (v1 : w.cell? ⟨vb, 1, none⟩ = some (.int .u64 5)) :
    Calls Try.prog 22 #[.slice (some ⟨b, 0, none⟩) 2 2, .slice (some ⟨vb, 0, none⟩) 2 2] w fun e w' => e = .returned (.tuple #[.int .u64 1283, .bool true]) ∧ Below w.heap.size w w' := by
  have hf : FS w.heap.size w (some ⟨b, 0, none⟩) [(0, 2), (8, 4)] := fun _ => ⟨b, 0, rfl, hb, fun i hi => by
    match i, hi with
    | 0, _ => exact ⟨h0, h1⟩
    | 1, _ => exact ⟨h2, h3⟩⟩
  have hv : WS w.heap.size w (some ⟨vb, 0, none⟩) [3#64, 5#64] := fun _ => ⟨vb, 0, rfl, hvb, fun i hi => by
    match i, hi with
    | 0, _ => exact v0
    | 1, _ => exact v1⟩
  exact pack_any _ _ [(0, 2), (8, 4)] [3#64, 5#64] 2 2 w hf hv (by decide)
theorem apart_c (b : Nat) (w : World) (hb : b < w.heap.size) (h0 : w.cell? ⟨b, 0, none⟩ = some (.int .i64 0)) (h1 : w.cell? ⟨b, 1, none⟩ = some (.int .i64 2)) (h2 : w.cell? ⟨b, 2, none⟩ = some (.int .i64 1)) (h3 : w.cell? ⟨b, 3, none⟩ = some (.int .i64 1)) :
    Calls Try.prog 25 #[.slice (some ⟨b, 0, none⟩) 2 2] w fun e w' => e = .returned (.bool false) ∧ Below w.heap.size w w' := by
  have hf : FS w.heap.size w (some ⟨b, 0, none⟩) [(0, 2), (1, 1)] := fun _ => ⟨b, 0, rfl, hb, fun i hi => by
    match i, hi with
    | 0, _ => exact ⟨h0, h1⟩
    | 1, _ => exact ⟨h2, h3⟩⟩
  exact apart_any _ [(0, 2), (1, 1)] 2 w hf (by decide)
def UnpackC (w : World) (e : Ending) (w' : World) : Prop :=
  ∃ g, e = .returned (.tuple #[.slice (some ⟨g, 0, none⟩) 1 1, .bool true]) ∧ w'.cell? ⟨g, 0, none⟩ = some (.int .u64 5) ∧ Below w.heap.size w w'
theorem unpack_c (b : Nat) (w : World) (hb : b < w.heap.size) (h0 : w.cell? ⟨b, 0, none⟩ = some (.int .i64 8)) (h1 : w.cell? ⟨b, 1, none⟩ = some (.int .i64 4)) :
    Calls Try.prog 24 #[.int .u64 1283, .slice (some ⟨b, 0, none⟩) 1 1] w (UnpackC w) := by
  have hf : FS w.heap.size w (some ⟨b, 0, none⟩) [(8, 4)] := fun _ => ⟨b, 0, rfl, hb, fun i hi => by
    match i, hi with
    | 0, _ => exact ⟨h0, h1⟩⟩
  exact (unpack_yes 1283#64 _ [(8, 4)] 1 w hf (by decide) (by decide)).mono fun e w' ⟨g, he, _, hr, hbel⟩ => ⟨g, he, hr.cell (by decide), hbel⟩

set_option maxRecDepth 100000 in
set_option maxHeartbeats 2000000 in
theorem alive_any (w : World) : Calls Try.prog 7 #[] w fun e w' => e = .returned (.bool true) ∧ Below w.heap.size w w' := by
  go_enter Try.func7, Try.ntmps7
  go_wp2_with fail
  refine (put_c1 _).mono ?_
  rintro e w1 ⟨rfl, hb1⟩
  go_wp2_with fail
  refine (get_c _).mono ?_
  rintro e w2 ⟨rfl, hb2⟩
  go_wp2_with fail
  refine (signed_c _).mono ?_
  rintro e w3 ⟨rfl, rfl⟩
  go_wp2_with fail
  refine (rotate_c _).mono ?_
  rintro e w4 ⟨rfl, k4, rfl⟩
  go_wp2_with fail
  refine (put_c2 _).mono ?_
  rintro e w5 ⟨rfl, hb5⟩
  go_wp2_with fail
  refine (pack_c w5.heap.size (w5.heap.size + 1) _ (by simp <;> omega) (by simp <;> omega) (by simp [go_sem]) (by simp [go_sem]) (by simp [go_sem]) (by simp [go_sem]) (by simp [go_sem]) (by simp [go_sem])).mono ?_
  rintro e w6 ⟨rfl, hb6⟩
  go_wp2_with fail
  refine (unpack_c w6.heap.size _ (by simp <;> omega) (by simp [go_sem]) (by simp [go_sem])).mono ?_
  rintro e w7 ⟨g, rfl, hg, hb7⟩
  go_wp2_with fail
  refine (unsigned_c _).mono ?_
  rintro e w8 ⟨rfl, rfl⟩
  go_wp2_with fail
  refine (fits_c1 _).mono ?_
  rintro e w8 ⟨rfl, rfl⟩
  go_wp2_with fail
  refine (fits_c2 _).mono ?_
  rintro e w8 ⟨rfl, rfl⟩
  go_wp2_with fail
  refine (apart_c w7.heap.size _ (by simp <;> omega) (by simp [go_sem]) (by simp [go_sem]) (by simp [go_sem]) (by simp [go_sem])).mono ?_
  rintro e w8 ⟨rfl, hb8⟩
  go_wp2
  go_ret
  refine ⟨rfl, ?_⟩
  have g2 := up_drew (up_trans hb1 hb2) k4
  have g5 := up_alloc (up_alloc (up_trans g2 hb5) (.cells #[.int .i64 0, .int .i64 2, .int .i64 8, .int .i64 4] 24)) (.cells #[.int .u64 3, .int .u64 5] 22)
  have g6 := up_alloc (up_trans g5 hb6) (.cells #[.int .i64 8, .int .i64 4] 24)
  have g7 := up_alloc (up_trans g6 hb7) (.cells #[.int .i64 0, .int .i64 2, .int .i64 1, .int .i64 1] 24)
  exact up_trans g7 hb8

end Go.Proofs.Ytlkphjbnjeelaaa
