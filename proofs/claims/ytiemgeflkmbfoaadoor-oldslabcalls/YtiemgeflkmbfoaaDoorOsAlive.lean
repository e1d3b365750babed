/-
  The statements' first call.
-/
import Derived.Test.YtiemgeflkmbfoaaDoorOsEnv
namespace Go.Proofs.YtiemgeflkmbfoaaDoor.Os
set_option maxRecDepth 100000
open Go.RowKit
open Ta (sz szs classB classB_iff classB_not sizeOf' slotsOf)
open Bi (sets bt on first setL setB tst hasB u Blk Drawn grown_refl grown_trans grown_below up_alloc up_drew up_trans i64_in ret_i ret_b)

def a0 : List Bool := l0 8
def a1 : List Bool := tkL a0
def a2 : List Bool := tkL a1
def a3 : List Bool := gvL 1024 160 a2 1024
def a4 : List Bool := gvL 1024 160 a3 1024
def a5 : List Bool := tkL a4
def a6 : List Bool := gvL 1024 160 a5 1100
def a7 : List Bool := smS a6 4
def a8 : List Bool := tkL a7
def a9 : List Bool := gaL 1024 160 a8 [1024, 1344, 1024]
def aX : List Bool := gaL 1024 160 a9 [1024, 1344]
theorem v1 : tkV 1024 160 a0 = 1024 ∧ tkE a0 = 0 ∧ tkV 1024 160 a1 = 1184 ∧ tkE a1 = 0 ∧ gvE 1024 160 a2 1024 = 0 ∧ gvE 1024 160 a3 1024 = 19 ∧ tkV 1024 160 a4 = 1024 ∧ tkE a4 = 0 := by decide +kernel
theorem v2 : gvE 1024 160 a5 1100 = 12 ∧ slotI a6.length 1024 160 1984 = -1 ∧ smM a6 9 = 4 ∧ tkE a7 = 18 ∧ tkV 1024 160 a7 = -1 ∧ gaE 1024 160 a8 [1024, 1344, 1024] = 19 ∧ gaE 1024 160 a9 [1024, 1344] = 0 := by decide +kernel
theorem v3 : fr aX = 2 ∧ stI aX = 1 ∧ nats (sets aX) = [1, 3, 4, 5] ∧ aX.length = 6 ∧ sizeOf' 8 = 160 := by decide +kernel
theorem v4 : Wd 58#64 aX := by unfold Wd; decide +kernel
theorem at_new (w : World) (xs : List Int) : At (w.alloc (.cells (ints xs).toArray 3)).heap.size (w.alloc (.cells (ints xs).toArray 3)) (some ⟨w.heap.size, 0, none⟩) (ints xs) := fun _ =>
  ⟨w.heap.size, 0, rfl, by rw [World.size_alloc]; omega, fun j v hj => by
    have hk : Blk (w.alloc (.cells (ints xs).toArray 3)) w.heap.size (ints xs) 3 := heap_alloc_last w _
    rw [Nat.zero_add]
    exact hk.cell.trans hj⟩
set_option maxHeartbeats 8000000 in
theorem alive_any (w : World) (hT : Tb w) : Calls Tryd.prog 7 #[] w fun e w' => e = .returned (.bool true) ∧ Below w.heap.size w w' := by
  obtain ⟨x1, x2, x3, x4, x5, x6, x7, x8⟩ := v1
  obtain ⟨y1, y2, y3, y4, y5, y6, y7⟩ := v2
  obtain ⟨z1, z2, z3, z4, z5⟩ := v3
  have HN := Lib.hid (new_yes (b := 1024) (c := 8) hT (by decide +kernel) (by decide +kernel))
  unfold GaveN at HN
  have HT := Lib.hid hT
  clear hT
  go_enter Tryd.func7, Tryd.ntmps7
  go_wp2_with fail
  refine HN.out.mono ?_
  rintro e w1 ⟨b1, s, q1, g1, rfl, s1, hs1, hg1⟩
  have E1 : Hid (Ev w w1 s q1 g1 1024 8 a0) := ⟨s1, hs1, hg1, b1, HT.out.below b1⟩
  have H1 := Lib.hid (take_any E1.out.sl E1.out.tb)
  rw [z5, x1, x2, show tkL a0 = a1 from rfl] at H1
  clear b1 s1 hs1 hg1 HN HT
  go_wp2_with fail
  refine H1.out.mono ?_
  rintro e w2 ⟨rfl, h2⟩
  obtain ⟨q2, g2, E2⟩ := E1.out.step h2
  have E2 := Lib.hid E2
  have H2 := Lib.hid (take_any E2.out.sl E2.out.tb)
  rw [z5, x3, x4, show tkL a1 = a2 from rfl] at H2
  clear h2 H1 E1
  go_wp2_with fail
  refine H2.out.mono ?_
  rintro e w3 ⟨rfl, h3⟩
  obtain ⟨q3, g3, E3⟩ := E2.out.step h3
  have E3 := Lib.hid E3
  have H3 := Lib.hid (give_any 1024 (by unfold I64; omega) E3.out.sl E3.out.tb)
  rw [z5, x5, show gvL 1024 160 a2 1024 = a3 from rfl] at H3
  clear h3 H2 E2
  go_wp2_with fail
  refine H3.out.mono ?_
  rintro e w4 ⟨rfl, h4⟩
  obtain ⟨q4, g4, E4⟩ := E3.out.step h4
  have E4 := Lib.hid E4
  have H4 := Lib.hid (give_any 1024 (by unfold I64; omega) E4.out.sl E4.out.tb)
  rw [z5, x6, show gvL 1024 160 a3 1024 = a4 from rfl] at H4
  clear h4 H3 E3
  go_wp2_with fail
  refine H4.out.mono ?_
  rintro e w5 ⟨rfl, h5⟩
  obtain ⟨q5, g5, E5⟩ := E4.out.step h5
  have E5 := Lib.hid E5
  have H5 := Lib.hid (take_any E5.out.sl E5.out.tb)
  rw [z5, x7, x8, show tkL a4 = a5 from rfl] at H5
  clear h5 H4 E4
  go_wp2_with fail
  refine H5.out.mono ?_
  rintro e w6 ⟨rfl, h6⟩
  obtain ⟨q6, g6, E6⟩ := E5.out.step h6
  have E6 := Lib.hid E6
  have H6 := Lib.hid (give_any 1100 (by unfold I64; omega) E6.out.sl E6.out.tb)
  rw [z5, y1, show gvL 1024 160 a5 1100 = a6 from rfl] at H6
  clear h6 H5 E5
  go_wp2_with fail
  refine H6.out.mono ?_
  rintro e w7 ⟨rfl, h7⟩
  obtain ⟨q7, g7, E7⟩ := E6.out.step h7
  have E7 := Lib.hid E7
  have H7 := Lib.hid (slot_any 1984 (by unfold I64; omega) E7.out.sl E7.out.tb)
  rw [z5, y2, show sle (-1) = 12 from rfl] at H7
  have H8 := Lib.hid (some_any 9 E7.out.sl E7.out.tb)
  rw [z5, y3, show smS a6 4 = a7 from rfl] at H8
  clear h7 H6 E6
  go_wp2_with (go_at_call 18; refine H7.out.mono ?_; rintro e w' ⟨rfl, rfl⟩)
  refine H8.out.mono ?_
  rintro e w8 ⟨A8, cap8, rfl, -, h8⟩
  obtain ⟨q8, g8, E8⟩ := E7.out.step h8
  have E8 := Lib.hid E8
  have H9 := Lib.hid (take_any E8.out.sl E8.out.tb)
  rw [z5, y4, y5, show tkL a7 = a8 from rfl] at H9
  clear h8 H7 H8 E7
  go_wp2_with fail
  refine H9.out.mono ?_
  rintro e w9 ⟨rfl, h9⟩
  obtain ⟨q9, g9, E9⟩ := E8.out.step h9
  have E9 := Lib.hid E9
  clear h9 H9 E8
  have EA : Hid (Ev w (w9.alloc (.cells #[.int .i64 1024, .int .i64 1344, .int .i64 1024] 3)) s q9 g9 1024 8 a8) := E9.out.below (up_alloc (Below.refl _ _) _)
  have HA := Lib.hid (giveAll_any _ 3 3 [1024, 1344, 1024] (at_new w9 [1024, 1344, 1024]) rfl (by omega) (by intro x hx; simp at hx; unfold I64; omega) EA.out.sl EA.out.tb)
  rw [z5, y6, show gaL 1024 160 a8 [1024, 1344, 1024] = a9 from rfl] at HA
  go_wp2_with fail
  refine HA.out.mono ?_
  rintro e wA ⟨rfl, hA⟩
  obtain ⟨qA, gA, EB⟩ := EA.out.step hA
  have EB := Lib.hid EB
  clear hA HA EA E9
  have EC : Hid (Ev w (wA.alloc (.cells #[.int .i64 1024, .int .i64 1344] 3)) s qA gA 1024 8 a9) := EB.out.below (up_alloc (Below.refl _ _) _)
  have HC := Lib.hid (giveAll_any _ 2 2 [1024, 1344] (at_new wA [1024, 1344]) rfl (by omega) (by intro x hx; simp at hx; unfold I64; omega) EC.out.sl EC.out.tb)
  rw [z5, y7, show gaL 1024 160 a9 [1024, 1344] = aX from rfl] at HC
  go_wp2_with fail
  refine HC.out.mono ?_
  rintro e wC ⟨rfl, hC⟩
  obtain ⟨qC, gC, ED⟩ := EC.out.step hC
  have ED := Lib.hid ED
  clear hC HC EC EB
  have HFr := Lib.hid (free_any ED.out.sl)
  rw [z1] at HFr
  go_wp2_with (first
    | (go_at_call 25; refine HFr.out.mono ?_; rintro e wD ⟨rfl, dD⟩; have EE := Lib.hid (ED.out.below dD.below); have HSt := Lib.hid (state_any EE.out.sl); rw [z2] at HSt; clear dD)
    | (go_at_call 26; refine HSt.out.mono ?_; rintro e wE ⟨rfl, dE⟩; have EF := Lib.hid (EE.out.below dE.below); have HTa := Lib.hid (taken_any EF.out.sl EF.out.tb); rw [z3] at HTa; clear dE)
    | (go_at_call 29; refine HTa.out.mono ?_; rintro e wF ⟨AF, cF, rfl, atF, bF⟩; have EG := Lib.hid (EF.out.below bF); have ATF := Lib.hid atF; clear atF bF; have bn := Lib.hid (up_alloc (Below.refl wF.heap.size wF) (.cells #[.int .i64 1, .int .i64 3, .int .i64 4, .int .i64 5] 3)); have HSI := Lib.hid (sameints_any [1, 3, 4, 5] AF (some ⟨wF.heap.size, 0, none⟩) cF 4 4 4 _ (ATF.out.up bn.out) (at_new wF [1, 3, 4, 5]) (by decide) rfl rfl); have EH := Lib.hid (EG.out.below bn.out))
    | (go_at_call 17; refine HSI.out.mono ?_; rintro e wH ⟨rfl, bH⟩; have EI := Lib.hid (EH.out.below bH); have HK := Lib.hid (key_any EI.out.sl); clear bH)
    | (go_at_call 28; refine HK.out.mono ?_; rintro e wI ⟨⟨x, rfl, hx⟩, bI⟩; obtain rfl := hx.one v4; have EJ := Lib.hid (EI.out.below bI); have HSz := Lib.hid (size_any EJ.out.sl EJ.out.tb); rw [z5] at HSz; have HSl := Lib.hid (slots_any EJ.out.sl); rw [z4] at HSl; have hke : ∀ V : World, (binOp .eql 58 (keyW 58#64) (.agg #[.int .u64 58, .int .u64 0, .int .u64 0, .int .u64 0])).run Tryd.prog V = .ok (.bool true) V := (fun V => (keyw_eql V 58#64 58#64)); have hkg : ∀ (V : World) (p q : Operand), (eqGuard .eql 58 p q (keyW 58#64) (.agg #[.int .u64 58, .int .u64 0, .int .u64 0, .int .u64 0])).run Tryd.prog V = .ok () V := (fun V p q => keyw_guard V p q 58#64 58#64); clear hx bI)
    | (go_at_call 21; refine HSz.out.mono ?_; rintro e w' ⟨rfl, rfl⟩)
    | (go_at_call 23; refine HSl.out.mono ?_; rintro e w' ⟨rfl, rfl⟩))
  go_ret
  exact ⟨rfl, EJ.out.bel⟩
end Go.Proofs.YtiemgeflkmbfoaaDoor.Os
