/-
  The walk of the statement that what is given back makes one run again.
-/
import Derived.Test.YtbfcejmifmeigaaCount
import Derived.Test.YtbfcejmifmeigaaInts
import Derived.StillTailTactics
import Derived.Deep.DeepCutAuto
namespace Go.Proofs.Ytbfcejmifmeigaa
open Go.RowKit

set_option maxRecDepth 100000 in
set_option maxHeartbeats 2000000 in
theorem back_great (N turn : Int) (A : Option Addr) (M c : Nat) (w : World) (h : 200 < N ∨ 100 < M) :
    Calls Try.prog 5 #[.int .i64 N, .slice A M c, .int .i64 turn] w fun e w' => e = .returned (.bool true) ∧ Below w.heap.size w w' := by
  have hd : decide (200 < N ∨ 100 < M) = true := by simpa using h
  have HG : Hid (∀ W, Calls Try.prog 7 #[.int .i64 N, .slice A M c] W fun e w' => e = .returned (.bool true) ∧ W = w') := fun W => by
    have := great_any N A M c W; rwa [hd] at this
  clear hd h
  go_enter Try.func5, Try.ntmps5
  go_wp2_with fail
  refine (alive_any _).mono ?_
  rintro e w1 ⟨rfl, B1⟩
  have HB := Lib.hid B1
  clear B1
  go_wp2_with (go_at_call 7; refine (HG.out _).mono ?_; rintro e w' ⟨rfl, rfl⟩)
  go_ret
  exact ⟨rfl, HB.out⟩
set_option maxRecDepth 100000 in
set_option maxHeartbeats 2000000 in
theorem back_no (N turn : Int) (A : Option Addr) (M c : Nat) (w : World) (h : ¬ (200 < N ∨ 100 < M)) (h2 : N < 0) :
    Calls Try.prog 5 #[.int .i64 N, .slice A M c, .int .i64 turn] w fun e w' => e = .returned (.bool true) ∧ Below w.heap.size w w' := by
  have hd : decide (200 < N ∨ 100 < M) = false := by simpa using h
  have HG : Hid (∀ W, Calls Try.prog 7 #[.int .i64 N, .slice A M c] W fun e w' => e = .returned (.bool false) ∧ W = w') := fun W => by
    have := great_any N A M c W; rwa [hd] at this
  have HNew := Lib.hid (fun W => new_no N W (by omega))
  clear hd h h2
  go_enter Try.func5, Try.ntmps5
  go_wp2_with fail
  refine (alive_any _).mono ?_
  rintro e w1 ⟨rfl, B1⟩
  have HB := Lib.hid B1
  clear B1
  go_wp2_with (first | (go_at_call 7; refine (HG.out _).mono ?_; rintro e w' ⟨rfl, rfl⟩) | (go_at_call 8; refine (HNew.out _).mono ?_; rintro e w' ⟨rfl, rfl⟩))
  go_ret
  exact ⟨rfl, HB.out⟩
/-- A list of numbers and a row of runs are two blocks. -/
theorem types_apart {w : World} {base gl cap n ga ca : Nat} {xs : List Value} {L : List Rn} (h : w.ownsRow base 3 1 (.slice (some ⟨gl, 0, none⟩) n cap) n xs) (hr : Rw w ga ca L) : ga ≠ gl := by
  rintro rfl
  rcases h.2 with ⟨h', _⟩ | ⟨g', cap', cur, h', _, hb, _⟩
  · simp at h'
  · simp only [Value.slice.injEq, Option.some.injEq, Addr.mk.injEq, and_true, true_and] at h'
    obtain ⟨rfl, rfl⟩ := h'
    obtain ⟨c2, hb2, _⟩ := hr
    unfold Blk at hb2
    rw [hb] at hb2
    simp at hb2
theorem own_block {w : World} {base gl cap n : Nat} {xs : List Int} (h : w.ownsRow base 3 1 (.slice (some ⟨gl, 0, none⟩) n cap) n (irow xs)) (hn : xs.length = n) : ∃ vs, Blk w gl vs 3 ∧ (∀ j, j < n → vs[j]? = some (.int .i64 (xs.getD j 0))) ∧ base ≤ gl := by
  rcases h.2 with ⟨h', _⟩ | ⟨g', cap', cur, h', hbase, hb, _, _, _, ht⟩
  · simp at h'
  · simp only [Value.slice.injEq, Option.some.injEq, Addr.mk.injEq, and_true, true_and] at h'
    obtain ⟨rfl, rfl⟩ := h'
    refine ⟨cur.toList, by unfold Blk; simpa using hb, fun j hj => ?_, hbase⟩
    rw [← irow_get (by omega), ← ht, List.getElem?_take, if_pos (by omega)]
theorem IA.dropl {B b s : Nat} {w : World} {xs : List Int} (h : IA B w (some ⟨b, 0, none⟩) xs) : IA B w (some ⟨b, s, none⟩) (xs.drop s) := fun hp => by
  rw [List.length_drop] at hp
  obtain ⟨b', o', e, hg, hc⟩ := h (by omega)
  cases e
  refine ⟨b, s, rfl, hg, fun j hj => ?_⟩
  rw [List.length_drop] at hj
  have := hc (s + j) (by omega)
  rw [Nat.zero_add] at this
  rw [this, List.getD_eq_getElem?_getD, List.getD_eq_getElem?_getD, List.getElem?_drop]
theorem IA.takel {B b s : Nat} {w : World} {xs : List Int} (h : IA B w (some ⟨b, 0, none⟩) xs) : IA B w (some ⟨b, 0, none⟩) (xs.take s) := fun hp => by
  rw [List.length_take] at hp
  obtain ⟨b', o', e, hg, hc⟩ := h (by omega)
  cases e
  refine ⟨b, 0, rfl, hg, fun j hj => ?_⟩
  rw [List.length_take] at hj
  rw [hc j (by omega), List.getD_eq_getElem?_getD, List.getD_eq_getElem?_getD, List.getElem?_take, if_pos (by omega)]
set_option maxRecDepth 100000 in
set_option maxHeartbeats 8000000 in
theorem back_main (N turn : Int) (A : Option Addr) (l : List (Bool × Int × Int)) (c : Nat) (w : World) (hcs : CA w.heap.size w A l) (h0 : 0 ≤ N) (hN : N ≤ 200) (hl : l.length ≤ 100) :
    Calls Try.prog 5 #[.int .i64 N, .slice A l.length c, .int .i64 turn] w fun e w' => e = .returned (.bool true) ∧ Below w.heap.size w w' := by
  obtain ⟨M, hM⟩ : ∃ M, l.length = M := ⟨_, rfl⟩
  have HG : Hid (∀ W, Calls Try.prog 7 #[.int .i64 N, .slice A M c] W fun e w' => e = .returned (.bool false) ∧ W = w') := fun W => by
    have := great_any N A M c W
    rwa [show decide (200 < N ∨ 100 < M) = false by rw [decide_eq_false_iff_not]; omega] at this
  have HC := Lib.hid hcs
  have HM := Lib.hid hM
  rw [hM] at hl ⊢
  clear hcs hM
  go_enter Try.func5, Try.ntmps5
  go_wp2_with fail
  refine (alive_any _).mono ?_
  rintro e w1 ⟨rfl, b1⟩
  have B1 := Lib.hid b1
  clear b1
  go_wp2_with fail
  refine (HG.out _).mono ?_; rintro e w' ⟨rfl, rfl⟩
  go_wp2_with fail
  refine (live_new (w0 := w) N h0 (by omega) B1.out).mono ?_
  rintro e w2 ⟨q, rfl, l2, _, _⟩
  have L2 := Lib.hid l2
  clear l2 B1
  go_wp2_with fail
  go_loopw [9] (fun i wr => ∃ (k : Nat) (L : List Rn), k ≤ M ∧ i = .int .i64 k ∧ WF N L ∧ Live w q (fun _ _ => False) L wr) (fun i _ => M - (intOf i).toNat)
  case atStart => exact ⟨0, _, by omega, rfl, new_wf h0, L2.out⟩
  case round =>
    obtain ⟨k, L, hk, rfl, hwf, hlive⟩ := hrel
    have HW := Lib.hid hwf
    have HL := Lib.hid hlive
    clear hwf hlive L2
    by_cases hlt : k < M
    · obtain ⟨cb, co, rfl, hcb, hcl⟩ := (HC.out.below HL.out.bel) (by rw [HM.out]; omega)
      obtain ⟨c0, c1, c2⟩ := hcl k (by rw [HM.out]; exact hlt)
      obtain ⟨z, hz⟩ : ∃ z, l.getD k (false, 0, 0) = z := ⟨_, rfl⟩
      rw [hz] at c0 c1 c2
      obtain ⟨z0, z1, z2⟩ := z
      dsimp only at c0 c1 c2
      have i1 : (0 : Int) ≤ (k : Int) := by omega
      have i2 : (k : Int) < (M : Int) := by omega
      clear hz hcl
      cases z0 with
      | true =>
        go_wp2
        go_roundw
        case rel => exact ⟨k + 1, L, by omega, by go_num, HW.out, HL.out⟩
        case measure => simp [intOf]; omega
      | false =>
        have HT := Lib.hid (live_take z1 z2 (HL.out.below (Below.refl _ _).drew) HW.out (by omega))
        have HW2 := Lib.hid (tk_wf HW.out z1 z2)
        generalize tkL L z1 z2 = L' at HT HW2
        generalize tkv L z1 z2 = v1 at HT
        generalize tke L z1 z2 = v2 at HT
        go_wp2_with fail
        go_still_tail 11, (by kernel_rfl)
        change wpList _ _ _ _ _ wr.drew
        go_wp2_with fail
        refine HT.out.mono ?_
        rintro e w4 ⟨rfl, l4⟩
        have L4 := Lib.hid l4
        clear l4 HT c0 c1 c2
        go_wp2
        go_roundw
        case rel => exact ⟨k + 1, L', by omega, by go_num, HW2.out, L4.out⟩
        case measure => simp [intOf]; omega
    · obtain rfl : k = M := by omega
      go_wp2_with fail
      obtain ⟨wo, rfl⟩ : ∃ wo : World, wo = wr := ⟨wr, rfl⟩
      have hE : Below wo.heap.size wo (wo.alloc (.cells #[] 3)) := up_alloc (Below.refl _ _) _
      have OE := Lib.hid (iown_empty wo)
      have LE := Lib.hid (HL.out.below hE)
      refine (live_runs LE.out HW.out (by omega)).mono ?_
      rintro e w3 ⟨⟨ga, ca, rfl, r3, h3, b3⟩, l3⟩
      have R3 := Lib.hid r3
      have L3 := Lib.hid l3
      have B3 := Lib.hid (up_trans hE b3)
      have O3 := Lib.hid (OE.out.kept (grown_below (r := none) b3) (.inr (by simp [Value.ownBlock])))
      have hlen : L.length ≤ 200 := by have := HW.out.len; omega
      obtain ⟨m, hm⟩ : ∃ m, L.length = m := ⟨_, rfl⟩
      have HMM := Lib.hid hm
      rw [hm] at hlen ⊢
      clear r3 l3 h3 b3 hE OE LE hm HC HG
      go_wp2_with fail
      go_loopw [10, 12] (fun o i wx => ∃ (j n gl cap : Nat), j ≤ m ∧ i = .int .i64 j ∧ o = .slice (some ⟨gl, 0, none⟩) n cap ∧ (tps (L.take j)).length = n ∧ wx.ownsRow wo.heap.size 3 1 (.slice (some ⟨gl, 0, none⟩) n cap) n (irow (tps (L.take j))) ∧ Rw wx ga ca L ∧ Below wo.heap.size wo wx) (fun _ i _ => m - (intOf i).toNat)
      case atStart => exact ⟨0, 0, wo.heap.size, 0, by omega, rfl, rfl, rfl, O3.out, R3.out, B3.out⟩
      case round =>
        obtain ⟨j, n, gl, cap, hj, rfl, rfl, hnl, hown, hrw, hbe⟩ := hrel
        have HNL := Lib.hid hnl
        have HO := Lib.hid hown
        have HR := Lib.hid hrw
        have HB := Lib.hid hbe
        have hsz := hbe.size
        have hn200 : n ≤ 200 := by have := tps_len (L.take j); rw [List.length_take, HMM.out] at this; omega
        clear hnl hown hrw hbe O3 R3 B3
        by_cases hjl : j < m
        · have hjL : j < L.length := by rw [HMM.out]; exact hjl
          obtain ⟨r0, r1, r2⟩ := HR.out.cells hjL
          have hst := Lib.hid (tps_take hjL)
          obtain ⟨x, hx⟩ : ∃ x, el L j = x := ⟨_, rfl⟩
          rw [hx] at r0 r1 r2 hst
          obtain ⟨p, pn, pt⟩ := x
          dsimp only at r0 r1 r2 hst
          have j1 : (0 : Int) ≤ (j : Int) := by omega
          have j2 : (j : Int) < (m : Int) := by omega
          clear hx
          cases pt with
          | false =>
            go_wp2
            go_roundw
            case rel => exact ⟨j + 1, n, gl, cap, by omega, by go_num, rfl, by rw [hst.out]; simpa using HNL.out, by rw [hst.out]; simpa using HO.out, HR.out, HB.out⟩
            case measure => simp [intOf]; omega
          | true =>
            have hgl := own_lt HO.out
            have hAl : Below wr.heap.size wr (wr.alloc (.cells #[.int .i64 p] 3)) := up_alloc (Below.refl _ _) _
            have HA := Lib.hid hAl
            have hcell : (wr.alloc (.cells #[.int .i64 p] 3)).cell? ⟨wr.heap.size, 0, none⟩ = some (.int .i64 p) := by simp
            have HIA := Lib.hid (IA.one (W := wr.alloc (.cells #[.int .i64 p] 3)) hcell)
            have hga : ga ≠ gl := types_apart HO.out HR.out
            clear hAl hcell
            go_wp2_with (at_builtin; refine list_app (by rfl) _ _ (by rfl) wo.heap.size gl cap n 1 1 _ (tps (L.take j)) [p] (some ⟨wr.heap.size, 0, none⟩) (by rfl) (HO.out.alloc _) (by rfl) rfl (by simp) HIA.out (by omega) (by simp; omega) ?_; intro g' cap' w' HO2 HB2 HG2)
            have R5 := Lib.hid ((HR.out.below HA.out).of (HG2.out.block ga (HR.out.below HA.out).lt (by simpa using hga)))
            go_roundw
            case rel => exact ⟨j + 1, n + 1, g', cap', by omega, by go_num, rfl, by rw [hst.out, List.length_append, HNL.out]; rfl, by rw [hst.out]; exact HO2.out, R5.out, HB.out.trans ((HA.out.mono hsz).trans HB2.out)⟩
            case measure => simp [intOf]; omega
        · obtain rfl : j = m := by omega
          have e1 : L.take j = L := List.take_of_length_le (by rw [HMM.out]; omega)
          rw [e1] at HNL HO
          have LX := Lib.hid (HL.out.below HB.out)
          obtain ⟨P, hP⟩ : ∃ P, tps L = P := ⟨_, rfl⟩
          rw [hP] at HNL HO
          have HP := Lib.hid hP
          clear e1 HR hP
          go_upto_region 20 with fail
          go_cut [88] (fun s88 wx => ∃ b : Bool, b = decide (turn < 0 ∨ (n : Int) < turn) ∧ s88 = .bool b ∧ wx = wr)
          case first =>
            by_cases q1 : turn < 0
            · have d1 : decide (turn < 0) = true := by simpa using q1
              go_wp2_with fail
              go_meet
              case rel => exact ⟨true, by symm; simp [q1], rfl, rfl⟩
            · have d1 : decide (turn < 0) = false := by simpa using q1
              go_wp2_with fail
              go_meet
              case rel => exact ⟨_, by rw [decide_eq_decide]; omega, rfl, rfl⟩
          case rest =>
          obtain ⟨b, hb, rfl, rfl⟩ := hcut
          have HBB := Lib.hid hb
          clear hb
          go_upto_if 88 with fail
          go_cut [2] (fun s2 wx => ∃ t : Nat, t ≤ n ∧ s2 = .int .i64 t ∧ wx = wc)
          case first =>
            cases b with
            | true =>
              go_wp2_with fail
              go_meet
              case rel => exact ⟨0, by omega, rfl, rfl⟩
            | false =>
              have hno : ¬ (turn < 0 ∨ (n : Int) < turn) := by have := HBB.out.symm; simpa using this
              go_wp2_with fail
              go_meet
              case rel => exact ⟨turn.toNat, by omega, by rw [Int.toNat_of_nonneg (by omega)], rfl⟩
          case rest =>
          obtain ⟨s, hs, rfl, rfl⟩ := hcut
          clear HBB
          obtain ⟨wd, rfl⟩ : ∃ wd : World, wd = wc := ⟨wc, rfl⟩
          go_upto_region 22 with fail
          have hgl := own_lt HO.out
          have hcap : n ≤ cap := by
            rcases HO.out.2 with ⟨h', _⟩ | ⟨g', cap', cur, h', _, _, h1, _⟩
            · simp at h'
            · simp only [Value.slice.injEq, Option.some.injEq, Addr.mk.injEq, and_true, true_and] at h'
              obtain ⟨rfl, rfl⟩ := h'; exact h1
          go_cut [10] (fun o wx => ∃ g2 cap2 : Nat, o = .slice (some ⟨g2, 0, none⟩) n cap2 ∧ wx.ownsRow wd.heap.size 3 1 (.slice (some ⟨g2, 0, none⟩) n cap2) n (irow (P.drop s ++ P.take s)) ∧ Below wd.heap.size wd wx)
          case first =>
            have hal : Below wd.heap.size wd (wd.alloc (.cells #[] 3)).drew := (up_alloc (Below.refl _ _) _).drew
            have HAL := Lib.hid hal
            have OE : Hid ((wd.alloc (.cells #[] 3)).drew.ownsRow wd.heap.size 3 1 (.slice (some ⟨wd.heap.size, 0, none⟩) 0 0) 0 (irow [])) := (iown_empty wd).kept (grown_below (r := none) (Below.refl _ _).drew) (.inr (by simp [Value.ownBlock]))
            have HI := Lib.hid ((own_ints HO.out HNL.out).below hal)
            have hsz := hal.size
            have s0 : (0 : Int) ≤ (s : Int) := by omega
            have s1 : (s : Int) ≤ (n : Int) := by omega
            have s2 : s ≤ cap := by omega
            have hd : (P.drop s).length = n - s := by rw [List.length_drop, HNL.out]
            have ht : (P.take s).length = s := by rw [List.length_take, HNL.out]; omega
            have HD := Lib.hid hd
            have HT := Lib.hid ht
            clear hal hd ht
            by_cases hsc : s = cap
            · obtain rfl : n = s := by omega
              obtain rfl : cap = n := hsc.symm
              have hdn : P.drop cap = [] := List.drop_eq_nil_of_le (by rw [HNL.out]; omega)
              have HDN := Lib.hid hdn
              clear hdn hsc
              go_region_law (first
                | (refine step_app0 (by rfl) (.tmp 89) (.tmp 92) (by rfl) wd.heap.size wd.heap.size 0 0 0 wd.heap.size [] (some ⟨gl, 0, none⟩) (by simp [Act.eval]) OE.out (by simp [Act.eval]) rfl (by simp) (fun h => by simp at h) (by omega) hsz ?_; intro g5 cap5 w5 O5 B5 G5)
                | (refine step_app0 (by rfl) (.tmp 93) (.tmp 96) (by rfl) wd.heap.size g5 cap5 cap cap wd.heap.size (P.take cap) (some ⟨gl, 0, none⟩) (by simp [Act.eval]) O5.out (by simp [Act.eval]) HT.out (by simp) (HI.out.takel.below B5.out) (by omega) (Nat.le_trans hsz B5.out.size) ?_; intro g6 cap6 w6 O6 B6 G6))
              all_goals (go_wp2_with fail; go_meet)
              all_goals exact ⟨g6, cap6, rfl, by rw [HDN.out, List.nil_append]; exact O6.out, HAL.out.trans (B5.out.trans B6.out)⟩
            · have hsc2 : cap ≠ s := fun e => hsc e.symm
              go_region_law (first
                | (refine step_app0 (by rfl) (.tmp 89) (.tmp 92) (by rfl) wd.heap.size wd.heap.size 0 (n - s) (cap - s) wd.heap.size (P.drop s) (some ⟨gl, s, none⟩) (by simp [Act.eval]) OE.out (by simp [Act.eval]) HD.out (by simp) HI.out.dropl (by omega) hsz ?_; intro g5 cap5 w5 O5 B5 G5)
                | (refine step_app (by rfl) (.tmp 93) (.tmp 96) (by rfl) wd.heap.size g5 cap5 (n - s) s cap wd.heap.size (P.drop s) (P.take s) (some ⟨gl, 0, none⟩) (by simp [Act.eval]) O5.out (by simp [Act.eval]) HT.out (by simp) (HI.out.takel.below B5.out) (by omega) (Nat.le_trans hsz B5.out.size) ?_; intro g6 cap6 w6 O6 B6 G6))
              all_goals (go_wp2_with fail; go_meet)
              all_goals
                have e : n - s + s = n := by omega
                refine ⟨g6, cap6, rfl, ?_, HAL.out.trans (B5.out.trans B6.out)⟩
                have := O6.out
                rwa [e] at this
          case rest =>
          obtain ⟨g2, cap2, rfl, o2, b2⟩ := hcut
          have hPl : (P.drop s ++ P.take s).length = n := by rw [List.length_append, List.length_drop, List.length_take, HNL.out]; omega
          obtain ⟨vs, hvs, hvj, hbase⟩ := own_block o2 hPl
          have hPerm : (tps L).Perm (P.drop s ++ P.take s) := by
            rw [HP.out]
            have := List.perm_append_comm (l₁ := P.take s) (l₂ := P.drop s)
            rwa [List.take_append_drop] at this
          have LK : Hid (Live w q (fun k o => k = g2 ∧ o = .cells vs.toArray 3 (0, 0)) L wc) := by
            obtain ⟨g, sp, h1, h2, h3, _⟩ := LX.out
            have hlt := sp.lt
            refine ⟨g, sp.below b2, h1, h2, up_trans h3 b2, ?_⟩
            rintro k o ⟨rfl, rfl⟩
            exact ⟨by omega, by omega, hvs⟩
          obtain ⟨P', hP'⟩ : ∃ P', P.drop s ++ P.take s = P' := ⟨_, rfl⟩
          rw [hP'] at hPl hvj hPerm
          have HPL := Lib.hid hPl
          have HVJ := Lib.hid hvj
          have HPE := Lib.hid hPerm
          clear hPl hvj hPerm hP' o2 b2 hvs hbase HO HNL HP LX
          go_wp2_with fail
          go_loopw [13] (fun i wx => ∃ (y : Nat) (L' : List Rn), y ≤ n ∧ i = .int .i64 y ∧ WF N L' ∧ (tps L').Perm (P'.drop y) ∧ Live w q (fun k o => k = g2 ∧ o = .cells vs.toArray 3 (0, 0)) L' wx) (fun i _ => n - (intOf i).toNat)
          case atStart => exact ⟨0, L, by omega, rfl, HW.out, HPE.out, LK.out⟩
          case round =>
            obtain ⟨y, L', hy, rfl, hwf, hperm, hlive⟩ := hrel
            have HWF := Lib.hid hwf
            have HPR := Lib.hid hperm
            have HLV := Lib.hid hlive
            clear hwf hperm hlive LK HPE
            by_cases hyl : y < n
            · have hblk : Blk wr g2 vs 3 := HLV.out.prot ⟨rfl, rfl⟩
              have c0 : wr.cell? ⟨g2, y, none⟩ = some (.int .i64 (P'.getD y 0)) := by rw [hblk.cell]; exact HVJ.out y hyl
              have hdy : P'.drop y = P'.getD y 0 :: P'.drop (y + 1) := by
                rw [List.drop_eq_getElem_cons (by rw [HPL.out]; exact hyl), List.getD_eq_getElem?_getD, List.getElem?_eq_getElem (by rw [HPL.out]; exact hyl)]; rfl
              have hp2 := HPR.out
              rw [hdy] at hp2
              obtain ⟨e1, e2⟩ := give_ok HWF.out hp2
              have HGV := Lib.hid (live_give (P'.getD y 0) HLV.out HWF.out (by omega))
              rw [e1] at HGV
              have HW2 := Lib.hid (gv_wf HWF.out (P'.getD y 0))
              have HP2 := Lib.hid e2
              generalize gvL L' (P'.getD y 0) = L2 at HGV HW2 HP2
              generalize gvv L' (P'.getD y 0) = v2 at HGV
              generalize P'.getD y 0 = x at c0 HGV
              have y1 : (0 : Int) ≤ (y : Int) := by omega
              have y2 : (y : Int) < (n : Int) := by omega
              clear hblk hdy hp2 e1 e2
              go_wp2_with fail
              refine HGV.out.mono ?_
              rintro e w5 ⟨rfl, l5⟩
              have L5 := Lib.hid l5
              clear l5 HGV c0
              go_wp2
              go_roundw
              case rel => exact ⟨y + 1, L2, by omega, by go_num, HW2.out, HP2.out, L5.out⟩
              case measure => simp [intOf]; omega
            · obtain rfl : y = n := by omega
              have hnil : tk L' = [] := by
                have := HPR.out
                rw [List.drop_eq_nil_of_le (by rw [HPL.out]; omega)] at this
                have := this.eq_nil
                unfold tps at this
                simpa using this
              obtain ⟨f1, f2, f3⟩ := free_all HWF.out hnil
              have HFR : Hid (∀ W, Live w q (fun k o => k = g2 ∧ o = .cells vs.toArray 3 (0, 0)) L' W → Calls Try.prog 15 #[.pointer (some ⟨q, 0, none⟩)] W fun e w' => e = .returned (.int .i64 N) ∧ Live w q (fun k o => k = g2 ∧ o = .cells vs.toArray 3 (0, 0)) L' w') := fun W hL => by
                have := live_free hL HWF.out (by omega); rwa [f1] at this
              have HMX : Hid (∀ W, Live w q (fun k o => k = g2 ∧ o = .cells vs.toArray 3 (0, 0)) L' W → Calls Try.prog 16 #[.pointer (some ⟨q, 0, none⟩)] W fun e w' => e = .returned (.int .i64 N) ∧ Live w q (fun k o => k = g2 ∧ o = .cells vs.toArray 3 (0, 0)) L' w') := fun W hL => by
                have := live_largest hL HWF.out (by omega); rwa [f2] at this
              clear hnil f1 f2
              go_wp2_with fail
              refine (live_runs HLV.out HWF.out (by omega)).mono ?_
              rintro e w6 ⟨⟨g6, cap6, rfl, _, _, _⟩, l6⟩
              have L6 := Lib.hid l6
              clear l6
              go_wp2_with fail
              refine (HFR.out _ L6.out).mono ?_
              rintro e w7 ⟨rfl, l7⟩
              have L7 := Lib.hid l7
              clear l7
              have hNN : (N == N) = true := by simp
              go_wp2_with fail
              refine (HMX.out _ L7.out).mono ?_
              rintro e w8 ⟨rfl, l8⟩
              have L8 := Lib.hid l8
              clear l8
              rcases f3 with ⟨rfl, hz⟩ | ⟨hz1, hz⟩
              · rw [hz]
                go_wp2
                go_ret
                exact ⟨rfl, L8.out.bel⟩
              · rw [hz]
                go_wp2
                go_ret
                exact ⟨rfl, L8.out.bel⟩
theorem back_any (N turn : Int) (A : Option Addr) (l : List (Bool × Int × Int)) (c : Nat) (w : World) (hcs : CA w.heap.size w A l) :
    Calls Try.prog 5 #[.int .i64 N, .slice A l.length c, .int .i64 turn] w fun e w' => e = .returned (.bool true) ∧ Below w.heap.size w w' := by
  by_cases h : 200 < N ∨ 100 < l.length
  · exact back_great N turn A _ c w h
  · by_cases h2 : N < 0
    · exact back_no N turn A _ c w h h2
    · exact back_main N turn A l c w hcs (by omega) (by omega) (by omega)
end Go.Proofs.Ytbfcejmifmeigaa
