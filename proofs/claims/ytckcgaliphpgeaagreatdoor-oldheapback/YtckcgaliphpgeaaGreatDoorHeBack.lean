/-
  The walk of the statement on what is given back.
-/
import Derived.Test.YtckcgaliphpgeaaGreatDoorHeCalls
import Derived.Test.YtckcgaliphpgeaaGreatDoorHeInts
import Derived.Deep.DeepCutAuto
namespace Go.Proofs.YtckcgaliphpgeaaGreatDoor.He
set_option maxRecDepth 100000
open Go.RowKit
open Ri (up up_at up_far)
open Bi (up_trans up_alloc up_drew sets)
set_option maxHeartbeats 16000000 in
theorem back_any (N : Int) (A1 : Option Addr) (l1 : List Cl) (c1 : Nat) (t : Int) (w : World) (hcs1 : CA w.heap.size w A1 l1) (hT : Os.Tb w) :
    Calls Tryz.prog 5 #[.int .i64 N, .slice A1 l1.length c1, .int .i64 t] w fun e w' => e = .returned (.bool true) ∧ Below w.heap.size w w' := by
  obtain ⟨M1, hM1⟩ : ∃ M, l1.length = M := ⟨_, rfl⟩
  have HM1 := Lib.hid hM1
  have HC1 := Lib.hid hcs1
  have HT := Lib.hid hT
  rw [hM1]
  clear hcs1 hM1 hT
  have HGr := Lib.hid (fun W => great_any N A1 M1 c1 W)
  cases hG : greatB N M1 with
  | true =>
    rw [hG] at HGr
    go_enter Tryz.func5, Tryz.ntmps5
    go_wp2_with fail
    refine (alive_any _ HT.out).mono ?_
    rintro e w2 ⟨rfl, b2⟩
    have HB2 := Lib.hid b2
    clear b2
    go_wp2_with fail
    refine (HGr.out _).mono ?_
    rintro e w3 ⟨rfl, rfl⟩
    go_wp2_with fail
    go_ret
    exact ⟨rfl, HB2.out⟩
  | false =>
  rw [hG] at HGr
  have hg' : N ≤ 60 ∧ M1 ≤ 60 := by
    have h := hG
    unfold greatB at h
    rw [Bool.or_eq_false_iff, decide_eq_false_iff_not, decide_eq_false_iff_not] at h
    omega
  obtain ⟨hN, hM160⟩ := hg'
  clear hG
  by_cases h0 : N < 0
  · have HNo := Lib.hid (fun W => begin_no N W h0)
    have d0 : decide (N < 0) = true := by simp; omega
    clear h0
    go_enter Tryz.func5, Tryz.ntmps5
    go_wp2_with fail
    refine (alive_any _ HT.out).mono ?_
    rintro e w2 ⟨rfl, b2⟩
    have HB2 := Lib.hid b2
    clear b2
    go_wp2_with fail
    refine (HGr.out _).mono ?_
    rintro e w3 ⟨rfl, rfl⟩
    go_wp2_with fail
    refine (HNo.out _).mono ?_
    rintro e w3 ⟨rfl, b3⟩
    have HB3 := Lib.hid (up_trans HB2.out b3)
    clear b3
    go_wp2_with fail
    go_ret
    exact ⟨rfl, HB3.out⟩
  obtain ⟨n, rfl⟩ : ∃ n : Nat, N = n := ⟨N.toNat, by omega⟩
  have HNew := Lib.hid (fun W hW => begin_yes n W (by omega) hW)
  have hn60 : n ≤ 60 := by omega
  clear h0 hN
  go_enter Tryz.func5, Tryz.ntmps5
  go_wp2_with fail
  refine (alive_any _ HT.out).mono ?_
  rintro e w2 ⟨rfl, b2⟩
  have HB2 := Lib.hid b2
  clear b2
  go_wp2_with fail
  refine (HGr.out _).mono ?_
  rintro e w3 ⟨rfl, rfl⟩
  go_wp2_with fail
  refine (HNew.out _ (HT.out.below HB2.out)).mono ?_
  rintro e w3 ⟨x, y, P0, bs, rfl, hw0, b3⟩
  have HR0 : Hid (Rn w w3 x P0.h P0.q n 0 bs) := ⟨P0, _, hw0.early HB2.out, bk0 n, rfl, by simp [σ0], rfl, rfl⟩
  clear hw0 b3 HGr HNew
  go_wp2_with fail
  go_loopw [9] (fun i wr => ∃ j : Nat, j ≤ M1 ∧ i = .int .i64 j ∧ Rn w wr x P0.h P0.q n j bs) (fun i _ => M1 - (intOf i).toNat)
  case atStart => exact ⟨0, by omega, rfl, HR0.out⟩
  case round =>
    obtain ⟨j, hj, rfl, hR⟩ := hrel
    have HR := Lib.hid hR
    clear hR HR0 HB2
    by_cases hlt : j < M1
    · have hjl : j < l1.length := by rw [HM1.out]; exact hlt
      obtain ⟨cb, co, rfl, _, c0, c1, c2, c3, c4, hok⟩ := (HC1.out.below HR.out.bel) j hjl
      obtain ⟨y, hy⟩ : ∃ y, l1[j] = y := ⟨_, rfl⟩
      rw [hy] at c0 c1 c2 c3 c4 hok
      have j1 : (0 : Int) ≤ (j : Int) := by omega
      have j2 : (j : Int) < (M1 : Int) := by omega
      by_cases hk : 0 ≤ y.x ∧ y.x < 5
      · have HDo := Lib.hid (HR.out.step hok hk hn60 (by omega))
        have k1 := hk.1
        have k2 := hk.2
        have d1 : decide ((0 : Int) ≤ y.x) = true := by simp; omega
        have d2 : decide (y.x < (5 : Int)) = true := by simp; omega
        have d3 : decide (y.x ≥ (0 : Int)) = true := by simp; omega
        unfold clV at HDo
        clear hy hjl hok hk
        go_wp2_with fail
        refine HDo.out.mono ?_
        rintro e w5 ⟨A5, n5, c5, E5, rfl, h5⟩
        have HR5 := Lib.hid h5
        clear h5 HDo HR c0 c1 c2 c3 c4
        go_wp2_with fail
        go_roundw
        case rel => exact ⟨j + 1, by omega, by go_num, HR5.out⟩
        case measure => simp [intOf]; omega
      · have HR5 := Lib.hid HR.out.wait
        by_cases hk0 : 0 ≤ y.x
        · have d1 : decide ((0 : Int) ≤ y.x) = true := by simp; omega
          have d2 : decide (y.x < (5 : Int)) = false := by simp; omega
          have d3 : decide (y.x ≥ (0 : Int)) = true := by simp; omega
          clear hy hjl hok hk hk0 HR c1 c2 c3 c4
          go_wp2_with fail
          go_roundw
          case rel => exact ⟨j + 1, by omega, by go_num, HR5.out⟩
          case measure => simp [intOf]; omega
        · have d1 : decide ((0 : Int) ≤ y.x) = false := by simp; omega
          have d3 : decide (y.x ≥ (0 : Int)) = false := by simp; omega
          clear hy hjl hok hk hk0 HR c1 c2 c3 c4
          go_wp2_with fail
          go_roundw
          case rel => exact ⟨j + 1, by omega, by go_num, HR5.out⟩
          case measure => simp [intOf]; omega
    · obtain rfl : j = M1 := by omega
      obtain ⟨P, σ, hw, hbk, hn, hS, hp1, hp2⟩ := HR.out
      have W1 := Lib.hid hw
      have K1 := Lib.hid hbk
      have F1 : Hid (σ.N = n ∧ σ.S.length ≤ 310000) := ⟨hn, by omega⟩
      have q0 := hw.cells.1
      have q1 := hw.cells.2
      have HTa := Lib.hid (takenAll_own hw.hm hw.hi)
      have TL := hw.hi.taken_len
      have TI : Hid (∀ z ∈ takenO σ, Os.I64 z) := fun z hz => by
        have := hw.hi.taken_lt hz
        have := hn; unfold Os.I64; omega
      have TN := Lib.hid hw.hi.taken_nodup
      obtain ⟨T, hT⟩ : ∃ T, takenO σ = T := ⟨_, rfl⟩
      rw [hT] at HTa TI TN TL
      have TM : Hid (∀ z, z ∈ takenO σ ↔ z ∈ T) := fun z => by rw [hT]
      obtain ⟨k, hk⟩ : ∃ k, T.length = k := ⟨_, rfl⟩
      rw [hk] at HTa TL
      have TK := Lib.hid hk
      have hkb : k ≤ 4000 := by omega
      clear hw hbk hn hS hp1 hp2 HR HC1 HM1 hlt hj hM160 hT hk TL
      go_wp2_with fail
      refine HTa.out.mono ?_
      rintro e w5 ⟨v5, rfl, hr5, hb5⟩
      obtain ⟨A5, c5, rfl⟩ := Os.own_form hr5
      have O5 := Lib.hid hr5
      have W5 := Lib.hid (W1.out.below hb5)
      clear hr5 hb5 q0 q1 HTa W1
      go_upto_region 14 with fail
      go_cut [67] (fun s67 wx => ∃ q : Bool, q = decide (t < 0 ∨ (k : Int) < t) ∧ s67 = .bool q ∧ wx = w5)
      case first =>
        by_cases q1 : t < 0
        · have d1 : decide (t < 0) = true := by simpa using q1
          go_wp2_with fail
          go_meet
          case rel => exact ⟨true, by symm; simp [q1], rfl, rfl⟩
        · have d1 : decide (t < 0) = false := by simpa using q1
          go_wp2_with fail
          go_meet
          case rel => exact ⟨_, by rw [decide_eq_decide]; omega, rfl, rfl⟩
      case rest =>
      obtain ⟨q1, hq1, rfl, rfl⟩ := hcut
      have HBB := Lib.hid hq1
      clear hq1
      obtain ⟨wd, rfl⟩ : ∃ wd : World, wd = wc := ⟨wc, rfl⟩
      go_upto_if 67 with fail
      go_cut [2] (fun s2 wx => ∃ x : Nat, x ≤ k ∧ s2 = .int .i64 x ∧ wx = wd)
      case first =>
        cases q1 with
        | true =>
          go_wp2_with fail
          go_meet
          case rel => exact ⟨0, by omega, rfl, rfl⟩
        | false =>
          have hno : ¬ (t < 0 ∨ (k : Int) < t) := by have := HBB.out.symm; simpa using this
          go_wp2_with fail
          go_meet
          case rel => exact ⟨t.toNat, by omega, by rw [Int.toNat_of_nonneg (by omega)], rfl⟩
      case rest =>
      obtain ⟨u, hu, rfl, rfl⟩ := hcut
      obtain ⟨we, rfl⟩ : ∃ we : World, we = wc := ⟨wc, rfl⟩
      clear HBB
      go_upto_region 16 with fail
      have hcase : (A5 = none ∧ k = 0 ∧ c5 = 0) ∨ ∃ gl, A5 = some ⟨gl, 0, none⟩ ∧ k ≤ c5 := by
        rcases O5.out.2 with ⟨h', h0⟩ | ⟨g', cap', cur, h', _, _, h1, _⟩
        · simp only [Value.slice.injEq] at h'
          exact .inl ⟨h'.1, h'.2.1, h'.2.2⟩
        · simp only [Value.slice.injEq, true_and] at h'
          obtain ⟨rfl, rfl⟩ := h'; exact .inr ⟨g', rfl, h1⟩
      have HCs := Lib.hid hcase
      clear hcase
      go_cut [10] (fun o wx => ∃ g2 cap2 : Nat, o = .slice (some ⟨g2, 0, none⟩) k cap2 ∧ wx.ownsRow we.heap.size 3 1 (.slice (some ⟨g2, 0, none⟩) k cap2) k (Os.ints (T.drop u ++ T.take u)) ∧ Below we.heap.size we wx)
      case first =>
        have hal : Below we.heap.size we (we.alloc (.cells #[] 3)).drew := (up_alloc (Below.refl _ _) _).drew
        have HAL := Lib.hid hal
        have OE : Hid ((we.alloc (.cells #[] 3)).drew.ownsRow we.heap.size 3 1 (.slice (some ⟨we.heap.size, 0, none⟩) 0 0) 0 (Os.ints [])) := (iown_empty we).kept (Bi.grown_below (r := none) (Below.refl _ _).drew) (.inr (by simp [Value.ownBlock]))
        have hszz := hal.size
        have s0 : (0 : Int) ≤ (u : Int) := by omega
        have s1 : (u : Int) ≤ (k : Int) := by omega
        have hd : (T.drop u).length = k - u := by rw [List.length_drop, TK.out]
        have ht : (T.take u).length = u := by rw [List.length_take, TK.out]; omega
        have HD := Lib.hid hd
        have HTk2 := Lib.hid ht
        rcases HCs.out with ⟨rfl, rfl, rfl⟩ | ⟨gl, rfl, hcap⟩
        · obtain rfl : u = 0 := by omega
          have hT0 : Hid (T = []) := List.eq_nil_of_length_eq_zero TK.out
          clear hal hd ht HCs
          go_region_law (first
            | (refine step_app0 (by rfl) (.tmp 68) (.tmp 71) (by rfl) we.heap.size we.heap.size 0 0 0 we.heap.size [] none (by simp [Act.eval]) OE.out (by simp [Act.eval]) rfl (by simp) (fun h => by simp at h) (by omega) hszz ?_; intro g5 cap5 w5 O5 B5 G5)
            | (refine step_app0 (by rfl) (.tmp 72) (.tmp 75) (by rfl) we.heap.size g5 cap5 0 0 we.heap.size [] none (by simp [Act.eval]) O5.out (by simp [Act.eval]) rfl (by simp) (fun h => by simp at h) (by omega) (Nat.le_trans hszz B5.out.size) ?_; intro g6 cap6 w6 O6 B6 G6))
          all_goals (go_wp2_with fail; go_meet)
          all_goals exact ⟨g6, cap6, rfl, by rw [hT0.out]; exact O6.out, HAL.out.trans (B5.out.trans B6.out)⟩
        · have HI : Hid (IA we.heap.size (we.alloc (.cells #[] 3)).drew (some ⟨gl, 0, none⟩) T) := (own_ints O5.out TK.out).below hal
          have s2 : u ≤ c5 := by omega
          clear hal hd ht HCs
          by_cases hsc : u = c5
          · obtain rfl : k = u := by omega
            obtain rfl : c5 = k := hsc.symm
            have hdn : T.drop c5 = [] := List.drop_eq_nil_of_le (by rw [TK.out]; omega)
            have HDN := Lib.hid hdn
            clear hdn hsc
            go_region_law (first
              | (refine step_app0 (by rfl) (.tmp 68) (.tmp 71) (by rfl) we.heap.size we.heap.size 0 0 0 we.heap.size [] (some ⟨gl, 0, none⟩) (by simp [Act.eval]) OE.out (by simp [Act.eval]) rfl (by simp) (fun h => by simp at h) (by omega) hszz ?_; intro g5 cap5 w5 O5 B5 G5)
              | (refine step_app0 (by rfl) (.tmp 72) (.tmp 75) (by rfl) we.heap.size g5 cap5 c5 c5 we.heap.size (T.take c5) (some ⟨gl, 0, none⟩) (by simp [Act.eval]) O5.out (by simp [Act.eval]) HTk2.out (by simp) (HI.out.takel.below B5.out) (by omega) (Nat.le_trans hszz B5.out.size) ?_; intro g6 cap6 w6 O6 B6 G6))
            all_goals (go_wp2_with fail; go_meet)
            all_goals exact ⟨g6, cap6, rfl, by rw [HDN.out, List.nil_append]; exact O6.out, HAL.out.trans (B5.out.trans B6.out)⟩
          · have hsc2 : c5 ≠ u := fun e => hsc e.symm
            go_region_law (first
              | (refine step_app0 (by rfl) (.tmp 68) (.tmp 71) (by rfl) we.heap.size we.heap.size 0 (k - u) (c5 - u) we.heap.size (T.drop u) (some ⟨gl, u, none⟩) (by simp [Act.eval]) OE.out (by simp [Act.eval]) HD.out (by simp) HI.out.dropl (by omega) hszz ?_; intro g5 cap5 w5 O5 B5 G5)
              | (refine step_app (by rfl) (.tmp 72) (.tmp 75) (by rfl) we.heap.size g5 cap5 (k - u) u c5 we.heap.size (T.drop u) (T.take u) (some ⟨gl, 0, none⟩) (by simp [Act.eval]) O5.out (by simp [Act.eval]) HTk2.out (by simp) (HI.out.takel.below B5.out) (by omega) (Nat.le_trans hszz B5.out.size) ?_; intro g6 cap6 w6 O6 B6 G6))
            all_goals (go_wp2_with fail; go_meet)
            all_goals
              have e : k - u + u = k := by omega
              refine ⟨g6, cap6, rfl, ?_, HAL.out.trans (B5.out.trans B6.out)⟩
              have := O6.out
              rwa [e] at this
      case rest =>
      obtain ⟨gr, capr, rfl, o2, b2⟩ := hcut
      obtain ⟨wf, rfl⟩ : ∃ wf : World, wf = wc := ⟨wc, rfl⟩
      obtain ⟨lr, hlr⟩ : ∃ lr, T.drop u ++ T.take u = lr := ⟨_, rfl⟩
      rw [hlr] at o2
      have hperm : lr.Perm T := by rw [← hlr]; exact (List.perm_append_comm).trans (by rw [List.take_append_drop])
      have RK : Hid (lr.length = k) := hperm.length_eq.trans TK.out
      have RN : Hid lr.Nodup := hperm.nodup_iff.2 TN.out
      have RI : Hid (∀ z ∈ lr, Os.I64 z) := fun z hz => TI.out z (hperm.mem_iff.1 hz)
      have RM : Hid (∀ z, z ∈ takenO σ ↔ z ∈ lr.drop 0) := fun z => by rw [List.drop_zero, TM.out, hperm.mem_iff]
      have OM : Hid (Mine P σ.U wf we.heap.size (.slice (some ⟨gr, 0, none⟩) k capr) lr) := ⟨by rw [RK.out]; exact o2, fun g hg ho => by
        have h1 := W5.out.hm.own_lt ho
        have h2 := Ri.own_base o2 g hg
        omega⟩
      have W6 := Lib.hid (W5.out.below b2)
      clear o2 b2 hlr hperm TK TN TI TM O5 W5 HCs hu
      go_wp2_with fail
      go_loopw [11] (fun i wx => ∃ (y : Nat) (P' : Pl) (σ' : St), y ≤ k ∧ i = .int .i64 y ∧ Wd w wx x P' σ' bs ∧ BK σ' ∧ (σ'.N = n ∧ σ'.S.length ≤ 310000 + y) ∧ P'.h = P.h ∧ P'.q = P.q ∧ Mine P' σ'.U wx we.heap.size (.slice (some ⟨gr, 0, none⟩) k capr) lr ∧ (∀ z, z ∈ takenO σ' ↔ z ∈ lr.drop y)) (fun i _ => k - (intOf i).toNat)
      case atStart => exact ⟨0, P, σ, by omega, rfl, W6.out, K1.out, ⟨F1.out.1, by have := F1.out.2; omega⟩, rfl, rfl, OM.out, RM.out⟩
      case round =>
        obtain ⟨y, P7, σ7, hy, rfl, hw7, hb7, hf7, hp7, hq7, hm7, ht7⟩ := hrel
        have W7 := Lib.hid hw7
        have K7 := Lib.hid hb7
        have F7 := Lib.hid hf7
        have M7 := Lib.hid hm7
        have T7 := Lib.hid ht7
        have HP7 := Lib.hid (And.intro hp7 hq7)
        clear hw7 hb7 hf7 hm7 ht7 OM RM W6 K1 F1
        by_cases hlt : y < k
        · have q1 := W7.out.cells.2
          have hyl : y < lr.length := by rw [RK.out]; exact hlt
          have hrow := M7.out.row
          rw [RK.out] at hrow
          obtain ⟨ab, ao, e, _, r0⟩ := (Os.own_at hrow).int hyl
          cases e
          rw [Nat.zero_add] at r0
          obtain ⟨e1, e2⟩ := W7.out.hi.rest RN.out hyl T7.out
          have hi := RI.out _ (List.getElem_mem hyl)
          have bd : Below wr.heap.size wr (wr.drewN 1) := up_drew (Below.refl _ _) 1
          have W7 := Lib.hid (W7.out.below bd)
          have M7 := Lib.hid (M7.out.below bd)
          have HG := Lib.hid (give_any W7.out.hm W7.out.hi lr[y] hi (by have := F7.out.2; omega))
          rw [e1] at HG
          have HJ := Lib.hid (And.intro e2 (And.intro (K7.out.give W7.out.hi lr[y]) (And.intro (give_N σ7 lr[y]) (And.intro (give_S σ7 lr[y]) (give_keep W7.out.hi lr[y])))))
          obtain ⟨v, hv⟩ : ∃ v, lr[y] = v := ⟨_, rfl⟩
          rw [hv] at r0 HG HJ
          obtain ⟨σ8, hσ8⟩ : ∃ σ8, (giveO σ7 v).σ = σ8 := ⟨_, rfl⟩
          rw [hσ8] at HG HJ
          rw [hp7] at q1
          rw [hp7] at HG
          have j1 : (0 : Int) ≤ (y : Int) := by omega
          have j2 : (y : Int) < (k : Int) := by omega
          clear hyl hrow e1 e2 hi hv hσ8 hp7 hq7 bd
          go_wp2_with fail
          refine wp_region_still_tail 8 (by kernel_rfl) (by kernel_rfl) ?_
          simp only [List.take_succ_cons, List.take_zero, List.drop_succ_cons, List.drop_zero]
          iterate 8 still_step
          refine wpStill_nil ?_
          change wpList _ _ _ _ _ (wr.drewN 1)
          go_wp2_with fail
          refine HG.out.mono ?_
          rintro e w8 ⟨rfl, hl⟩
          obtain ⟨P8, p1, p2, hw8, f8, n8⟩ := W7.out.step hl HJ.out.2.2.1.2 HJ.out.2.2.2.2
          have W8 := Lib.hid hw8
          have M8 := Lib.hid (M7.out.left f8 n8)
          have HP8 := Lib.hid (And.intro (p1.trans HP7.out.1) (p2.trans HP7.out.2))
          clear hl p1 p2 hw8 f8 n8 HG r0 q1
          go_wp2_with fail
          go_roundw
          case rel => exact ⟨y + 1, P8, σ8, by omega, by go_num, W8.out, HJ.out.2.1, ⟨HJ.out.2.2.1.1.trans F7.out.1, by have := F7.out.2; have := HJ.out.2.2.2.1; omega⟩, HP8.out.1, HP8.out.2, M8.out, HJ.out.1⟩
          case measure => simp [intOf]; omega
        · obtain rfl : y = k := by omega
          have hT0 : takenO σ7 = [] := List.eq_nil_iff_forall_not_mem.2 (fun z hz => by
            have := (T7.out z).1 hz
            rw [List.drop_eq_nil_of_le (by rw [RK.out]; omega)] at this
            cases this)
          have HT0 := Lib.hid hT0
          have NE := Lib.hid (fun c => W7.out.hi.unsealed hT0 c)
          have CT := Lib.hid (W7.out.hi.count hT0)
          have FR := Lib.hid (K7.out.free W7.out.hi)
          clear hp7 hq7 hT0 hlt hy M7 T7 RK RN RI
          go_wp2_with fail
          go_loopw [13, 12] (fun i l wx => ∃ c : Nat, c ≤ 16 ∧ i = .int .i64 c ∧ l = .int .i64 (emptyR σ7.R c).length ∧ Wd w wx x P7 σ7 bs) (fun i _ _ => 16 - (intOf i).toNat)
          case atStart => exact ⟨0, by omega, rfl, rfl, W7.out⟩
          case round =>
            obtain ⟨c, hc, rfl, rfl, hw8⟩ := hrel
            have W8 := Lib.hid hw8
            clear hw8
            by_cases hlt : c < 16
            · have HL2 := Lib.hid (fun (W : World) (hW : Wd w W x P7 σ7 bs) => list_at hW.hm c 2)
              have HL3 := Lib.hid (fun (W : World) (hW : Wd w W x P7 σ7 bs) => list_at hW.hm c 3)
              rw [show ((2 : Int)) = ((2 : Nat) : Int) from rfl, ringI_nat hlt (by omega), Ri.of_nat] at HL2
              rw [show ((3 : Int)) = ((3 : Nat) : Int) from rfl, ringI_nat hlt (by omega), Ri.of_nat, NE.out c] at HL3
              have h1 := K7.out.one c
              have hst := empty_step σ7.R c
              have hle := empty_le K7.out c
              obtain ⟨m2, hm2⟩ : ∃ m2, (σ7.R (4 * c + 2)).length = m2 := ⟨_, rfl⟩
              obtain ⟨m1, hm1⟩ : ∃ m1, (emptyR σ7.R c).length = m1 := ⟨_, rfl⟩
              rw [hm2] at HL2 h1 hst
              rw [hm1] at hst hle
              rw [hm1]
              have HST := Lib.hid hst
              have d1 : decide ((1 : Int) < (m2 : Int)) = false := by simp; omega
              have q1 := W8.out.cells.2
              have HL2 := Lib.hid (HL2.out _ W8.out)
              have e0 : ([] : List Nat).length = 0 := rfl
              rw [e0] at HL3
              clear hm1 hm2 hst e0
              go_wp2_with fail
              refine HL2.out.mono ?_
              rintro e w9 ⟨A9, c9, rfl, -, b9⟩
              have W9 := Lib.hid (W8.out.below b9)
              have q2 := W9.out.cells.2
              have HL3 := Lib.hid (HL3.out _ W9.out)
              clear b9 HL2 W8 q1
              go_wp2_with fail
              refine HL3.out.mono ?_
              rintro e w10 ⟨A10, c10, rfl, -, b10⟩
              have W10 := Lib.hid (W9.out.below b10)
              clear b10 HL3 W9 q2
              go_wp2_with fail
              go_roundw
              case rel => exact ⟨c + 1, by omega, by go_num, by rw [HST.out]; go_num, W10.out⟩
              case measure => simp [intOf]; omega
            · obtain rfl : c = 16 := by omega
              have HTa := Lib.hid (takenAll_any W8.out.hm W8.out.hi)
              rw [HT0.out] at HTa
              have e0 : ([] : List Int).length = 0 := rfl
              rw [e0] at HTa
              have hle := empty_le K7.out 16
              obtain ⟨m1, hm1⟩ : ∃ m1, (emptyR σ7.R 16).length = m1 := ⟨_, rfl⟩
              have CT' := CT.out
              rw [hm1] at CT' hle ⊢
              have CT2 := Lib.hid CT'
              have FR2 : Hid (Sp.fsum σ7.L = (n : Int) - 4 * (m1 : Int)) := by
                have := FR.out
                rw [CT', F7.out.1] at this
                exact this
              have q1 := W8.out.cells.2
              have hbb : ((n : Int) - 4 * (m1 : Int) == (n : Int) - 4 * (m1 : Int)) = true := by simp
              have hmm : ((m1 : Int) == (m1 : Int)) = true := by simp
              clear CT' hm1 e0 hlt hc HT0 CT FR NE
              go_wp2_with fail
              refine HTa.out.mono ?_
              rintro e w9 ⟨A9, c9, rfl, -, b9⟩
              have W9 := Lib.hid (W8.out.below b9)
              have q2 := W9.out.cells.2
              have HPg := Lib.hid (pages_at W9.out.hm)
              rw [CT2.out] at HPg
              clear b9 HTa W8 q1
              go_wp2_with fail
              refine HPg.out.mono ?_
              rintro e w10 ⟨A10, c10, rfl, -, b10⟩
              have W10 := Lib.hid (W9.out.below b10)
              have q3 := W10.out.cells.1
              have HFr := Lib.hid (Gr.free_any W10.out.hm.gm)
              rw [FR2.out] at HFr
              clear b10 HPg W9 q2
              go_wp2_with fail
              refine HFr.out.mono ?_
              rintro e w11 ⟨rfl, b11⟩
              have W11 := Lib.hid (W10.out.below b11)
              clear b11 HFr W10 q3
              go_wp2_with fail
              go_ret
              exact ⟨rfl, W11.out.bel⟩
end Go.Proofs.YtckcgaliphpgeaaGreatDoor.He
