/-
  The walk of the statement that no page is in two spans, where there are pages.
-/
import Derived.Test.YtbfcejmifmeigaaApart
namespace Go.Proofs.Ytbfcejmifmeigaa
open Go.RowKit Go.Maps

theorem chain_uniq : ∀ {L : List Rn} {a e e' : Int}, Chain a L e → Chain a L e' → e = e'
  | [], _, _, _, h, h' => h.symm.trans h'
  | _ :: _, _, _, _, h, h' => chain_uniq h.2.2 h'.2.2
/-- What is known of the next run. -/
theorem next_run {N e : Int} {L : List Rn} (h : WF N L) {j : Nat} (hj : j < L.length) (he : Chain 0 (L.take j) e) : (el L j).p = e ∧ 1 ≤ (el L j).n ∧ (lf false (L.take j) = true → (el L j).t = true) ∧ Chain 0 (L.take (j + 1)) (e + (el L j).n) ∧ lf false (L.take (j + 1)) = (!(el L j).t) ∧ e + (el L j).n ≤ N := by
  have hc := h.chain
  have ha := h.apart
  rw [cut_el hj] at hc ha
  obtain ⟨m, c1, c2⟩ := chain_app.1 hc
  obtain ⟨a1, a2⟩ := ap_app.1 ha
  have hm := chain_uniq c1 he
  subst hm
  have hb := chain_at h.chain hj
  have hp : (el L j).p = m := c2.1
  refine ⟨hp, c2.2.1, a2.1, ?_, ?_, by omega⟩
  · rw [take_one hj]; exact chain_app.2 ⟨m, c1, hp, c2.2.1, rfl⟩
  · rw [take_one hj, lf_app]; rfl
theorem tk_one {L : List Rn} {j : Nat} (hj : j < L.length) : (tk (L.take (j + 1))).length = (tk (L.take j)).length + (if (el L j).t = true then 1 else 0) := by
  rw [take_one hj, tk_app, List.length_append]
  congr 1
  unfold tk
  by_cases h : (el L j).t = true
  · rw [List.filter_cons_of_pos h, if_pos h]; rfl
  · rw [List.filter_cons_of_neg h, if_neg h]; rfl
def Wf64 (x : Int) : Prop := (Lit.int .i64 x).wf = true
theorem wf_small {x : Int} (h0 : 0 ≤ x) (h1 : x ≤ 4096) : Wf64 x := WalkArith.wf_i64 (by omega)
set_option maxRecDepth 100000 in
set_option maxHeartbeats 8000000 in
theorem apart_main (N : Int) (A : Option Addr) (l : List (Bool × Int × Int)) (c : Nat) (w : World) (hcs : CA w.heap.size w A l) (hwf : ∀ i, i < l.length → Wf64 (l.getD i (false, 0, 0)).2.1) (h0 : 0 ≤ N) (hN : N ≤ 200) (hl : l.length ≤ 100) :
    Calls Try.prog 4 #[.int .i64 N, .slice A l.length c] w fun e w' => e = .returned (.bool true) ∧ Below w.heap.size w w' := by
  obtain ⟨M, hM⟩ : ∃ M, l.length = M := ⟨_, rfl⟩
  have HG : Hid (∀ W, Calls Try.prog 7 #[.int .i64 N, .slice A M c] W fun e w' => e = .returned (.bool false) ∧ W = w') := fun W => by
    have := great_any N A M c W
    rwa [show decide (200 < N ∨ 100 < M) = false by rw [decide_eq_false_iff_not]; omega] at this
  have HC := Lib.hid hcs
  have HWF := Lib.hid hwf
  have HM := Lib.hid hM
  have hmm := @run_makeMap Try.prog
  rw [hM] at hl ⊢
  clear hcs hM hwf
  go_enter Try.func4, Try.ntmps4
  go_wp2_with fail
  refine (alive_any _).mono ?_
  rintro e w1 ⟨rfl, b1⟩
  have B1 := Lib.hid b1
  clear b1
  go_wp2_with fail
  refine (HG.out _).mono ?_; rintro e w' ⟨rfl, rfl⟩
  go_wp2_with fail
  refine (live_new (w0 := w) N h0 (by omega) B1.out).mono ?_
  rintro e w2 ⟨q, rfl, l2, _, _⟩
  have A2 : Hid (Asd w q w2.heap.size 0 (newL N) (w2.alloc (.map #[] 0))) := by
    refine ⟨?_, l2.bel.size, _, Hm.made w2 h0⟩
    exact kp_add (S := []) (l2.weaken fun k o hk => by cases hk.1) (fun k hk => by cases hk) _
  clear l2 B1
  go_wp2_with fail
  generalize w2.heap.size = b at A2
  generalize w2.alloc (.map #[] 0) = w3 at A2
  go_loopw [8] (fun i wr => ∃ (k n : Nat) (L : List Rn), k ≤ M ∧ n ≤ k ∧ i = .int .i64 k ∧ WF N L ∧ Asd w q b n L wr) (fun i _ => M - (intOf i).toNat)
  case atStart => exact ⟨0, 0, _, by omega, by omega, rfl, new_wf h0, A2.out⟩
  case round =>
    obtain ⟨k, n, L, hk, hnk, rfl, hwf, hasd⟩ := hrel
    have HW := Lib.hid hwf
    obtain ⟨hlive, hb0, D, hmap⟩ := hasd
    have HL := Lib.hid hlive
    have HMP := Lib.hid hmap
    have hbl := hmap.lt
    clear hwf hlive hmap A2
    by_cases hlt : k < M
    · obtain ⟨cb, co, rfl, hcb, hcl⟩ := (HC.out.below HL.out.bel) (by rw [HM.out]; omega)
      obtain ⟨c0, c1, c2⟩ := hcl k (by rw [HM.out]; exact hlt)
      have hz1 := HWF.out k (by rw [HM.out]; exact hlt)
      obtain ⟨z, hz⟩ : ∃ z, l.getD k (false, 0, 0) = z := ⟨_, rfl⟩
      rw [hz] at c0 c1 c2 hz1
      obtain ⟨z0, z1, z2⟩ := z
      dsimp only at c0 c1 c2 hz1
      have HZ := Lib.hid hz1
      have i1 : (0 : Int) ≤ (k : Int) := by omega
      have i2 : (k : Int) < (M : Int) := by omega
      have hS : ∀ k ∈ [b], k < wr.heap.size := fun k hk => by rw [List.mem_singleton.1 hk]; exact hbl
      have LB := Lib.hid (kp_add HL.out hS (.cells #[.bool z0, .int .i64 z1, .int .i64 z2] 34))
      have hbx : Blk (wr.alloc (.cells #[.bool z0, .int .i64 z1, .int .i64 z2] 34)) wr.heap.size [.bool z0, .int .i64 z1, .int .i64 z2] 34 := heap_alloc_new wr _
      have HBX := Lib.hid hbx
      have HMB := Lib.hid (HMP.out.of (heap_alloc_old wr (.cells #[.bool z0, .int .i64 z1, .int .i64 z2] 34) hbl))
      have hS2 : ∀ k ∈ [wr.heap.size, b], k < (wr.alloc (.cells #[.bool z0, .int .i64 z1, .int .i64 z2] 34)).heap.size := fun k hk => by
        rw [World.size_alloc]
        simp at hk
        omega
      have HS2 := Lib.hid hS2
      clear hz hcl hS hbx hS2 hz1 hmm
      cases z0 with
      | true =>
        have HP := Lib.hid (live_give z1 LB.out HW.out (by omega))
        have HWL := Lib.hid (gv_wf HW.out z1)
        go_wp2_with fail
        refine HP.out.mono ?_
        rintro e w4 ⟨rfl, l4⟩
        have hx4 : Blk w4 wr.heap.size [.bool true, .int .i64 z1, .int .i64 z2] 34 := HBX.out.of (kp_same l4 (by simp) (HS2.out _ (by simp)))
        have hm4 : Hm w4 b n D L := HMB.out.of (kp_same l4 (by simp) (HS2.out _ (by simp)))
        have d1 : w4.cell? ⟨wr.heap.size, 1, none⟩ = some (.int .i64 z1) := hx4.cell
        have hlook := hm4.look HZ.out
        have L4 := Lib.hid (kp_less (S' := [b]) (kp_now l4 HS2.out) (by simp))
        have HM4 := Lib.hid hm4
        clear l4 hx4 hm4 HP LB HBX HMB HS2 c0 c1 c2
        rcases gvv_pos (y := z1) HW.out with ⟨g1, g2, g3⟩ | ⟨g1, g2, g3⟩
        · have HGI := Lib.hid g1
          rw [g3]
          obtain ⟨v, hv⟩ : ∃ v, gvv L z1 = v := ⟨_, rfl⟩
          rw [hv] at hlook g2 ⊢
          have d2 : decide (0 < v) = true := by simp; omega
          have d3 : (v != v) = false := by simp
          clear hv g1 g3
          go_wp2_with (at_delete; refine wpList_delete_own _ rfl _ _ 49 3 rfl 3 law3 Try.underlying49 (plainElem Try.prog 3) b n D rfl HM4.out.own _ (ky z1) rfl (keyOf_int_mk Try.underlying3 HZ.out) ?_; intro w5 own5 turn5)
          have A5 : Hid (Asd w q b n (gvL L z1) w5) := ⟨kp_turn L4.out (fun k hk => by rw [List.mem_singleton.1 hk]; exact HM4.out.lt) (by simp) hb0 turn5.grown, hb0, _, HM4.out.gone HW.out HGI.out own5⟩
          go_roundw
          case rel => exact ⟨k + 1, n, _, by omega, by omega, by go_num, HWL.out, A5.out⟩
          case measure => simp [intOf]; omega
        · have e1 := give_not g1
          rw [g3, g2]
          rw [g2] at hlook
          rw [e1] at L4
          have A5 : Hid (Asd w q b n L w4) := ⟨L4.out, hb0, D, HM4.out⟩
          clear g1 g2 g3 e1
          go_wp2
          go_roundw
          case rel => exact ⟨k + 1, n, L, by omega, by omega, by go_num, HW.out, A5.out⟩
          case measure => simp [intOf]; omega
      | false =>
        have HCAN : Hid (Calls Try.prog 17 #[.pointer (some ⟨q, 0, none⟩), .int .i64 z1, .int .i64 z2] (wr.alloc (.cells #[.bool false, .int .i64 z1, .int .i64 z2] 34)) fun e w' => e = .returned (.bool (tke L z1 z2 == 0)) ∧ Live w q (Kp [wr.heap.size, b] (wr.alloc (.cells #[.bool false, .int .i64 z1, .int .i64 z2] 34))) L w') := by
          have := live_can z1 z2 LB.out HW.out (by omega)
          rwa [can_tke L z1 z2] at this
        have HTK : Hid (∀ W, Live w q (Kp [wr.heap.size, b] (wr.alloc (.cells #[.bool false, .int .i64 z1, .int .i64 z2] 34))) L W → Calls Try.prog 19 #[.pointer (some ⟨q, 0, none⟩), .int .i64 z1, .int .i64 z2] W fun e w' => e = .returned (.tuple #[.int .i64 (tkv L z1 z2), .int .i64 (tke L z1 z2)]) ∧ Live w q (Kp [wr.heap.size, b] (wr.alloc (.cells #[.bool false, .int .i64 z1, .int .i64 z2] 34))) (tkL L z1 z2) w') := fun W hW => live_take z1 z2 hW HW.out (by omega)
        have HWL := Lib.hid (tk_wf HW.out z1 z2)
        go_wp2_with fail
        refine HCAN.out.mono ?_
        rintro e w4 ⟨rfl, l4⟩
        have hx4 : Blk w4 wr.heap.size [.bool false, .int .i64 z1, .int .i64 z2] 34 := HBX.out.of (kp_same l4 (by simp) (HS2.out _ (by simp)))
        have d1 : w4.cell? ⟨wr.heap.size, 1, none⟩ = some (.int .i64 z1) := hx4.cell
        have d2 : w4.cell? ⟨wr.heap.size, 2, none⟩ = some (.int .i64 z2) := hx4.cell
        have L4 := Lib.hid l4
        clear l4 hx4 HCAN c0 c1 c2
        go_wp2_with fail
        refine (HTK.out _ L4.out).mono ?_
        rintro e w5 ⟨rfl, l5⟩
        have hx5 : Blk w5 wr.heap.size [.bool false, .int .i64 z1, .int .i64 z2] 34 := HBX.out.of (kp_same l5 (by simp) (HS2.out _ (by simp)))
        have hm5 : Hm w5 b n D L := HMB.out.of (kp_same l5 (by simp) (HS2.out _ (by simp)))
        have f1 : w5.cell? ⟨wr.heap.size, 1, none⟩ = some (.int .i64 z1) := hx5.cell
        have f2 : w5.cell? ⟨wr.heap.size, 2, none⟩ = some (.int .i64 z2) := hx5.cell
        have HM5 := Lib.hid hm5
        have L5 := Lib.hid (kp_less (S' := [b]) (kp_now l5 HS2.out) (by simp))
        clear l5 hx5 hm5 HTK L4 HBX HMB HS2 d1 d2 LB
        by_cases hte : tke L z1 z2 = 0
        · obtain ⟨g1, g2, g3, g4, g5, g6, g7, g8, g9, g10⟩ := take_held HW.out hte
          have HTE := Lib.hid hte
          have HCM : Hid (∀ w', w'.ownsMap Try.prog 3 (plainElem Try.prog 3) b (n + 1) (D.put (ky (tkv L z1 z2)) (vz z1)) → Hm w' b (n + 1) (D.put (ky (tkv L z1 z2)) (vz z1)) (tkL L z1 z2)) := fun w' ho => HM5.out.came HW.out HTE.out ho
          have hlook := HM5.out.look (x := tkv L z1 z2) (wf_small g7 (by omega))
          rw [gvv_no HW.out g2] at hlook
          rw [hte]
          obtain ⟨v, hv⟩ : ∃ v, tkv L z1 z2 = v := ⟨_, rfl⟩
          rw [hv] at g7 g8 g10 hlook HCM ⊢
          have hz2 : z2 ≠ 0 := by omega
          have hz3 : (z2 == 0) = false := by simpa using hz2
          clear hte g1 g2 g3 g4 hv HTE
          go_wp2_with (at_mapUpdate; refine wpList_mapUpdate_own _ rfl _ _ _ 49 rfl 3 3 law3 Try.underlying49 (plainElem Try.prog 3) b n D rfl HM5.out.own (by unfold maxLen; omega) _ _ (ky v) rfl rfl (keyOf_int_mk Try.underlying3 (wf_small g7 (by omega))) (vz z1) [] (plainElem_int Try.underlying3 HZ.out) ?_; intro w6 own6 grow6)
          have A6 : Hid (Asd w q b (n + 1) (tkL L z1 z2) w6) := ⟨kp_turn L5.out (fun k hk => by rw [List.mem_singleton.1 hk]; exact HM5.out.lt) (by simp) hb0 grow6, hb0, _, HCM.out _ own6⟩
          go_roundw
          case rel => exact ⟨k + 1, n + 1, _, by omega, by omega, by go_num, HWL.out, A6.out⟩
          case measure => simp [intOf]; omega
        · have hte2 : (tke L z1 z2 == 0) = false := by simpa using hte
          have e1 := take_not hte
          rw [e1] at L5
          obtain ⟨v2, hv2⟩ : ∃ v2, tke L z1 z2 = v2 := ⟨_, rfl⟩
          rw [hv2] at hte2 ⊢
          have A6 : Hid (Asd w q b n L w5) := ⟨L5.out, hb0, D, HM5.out⟩
          clear hte e1 hv2
          go_wp2
          go_roundw
          case rel => exact ⟨k + 1, n, L, by omega, by omega, by go_num, HW.out, A6.out⟩
          case measure => simp [intOf]; omega
    · obtain rfl : k = M := by omega
      go_wp2_with fail
      refine (live_runs HL.out HW.out (by omega)).mono ?_
      rintro e w5 ⟨⟨ga, ca, rfl, r5, h5, b5⟩, l5⟩
      have R5 := Lib.hid r5
      have M5 := Lib.hid (HMP.out.of (b5.block _ hbl))
      have B5 := Lib.hid l5.bel
      have hlen : L.length ≤ 200 := by have := HW.out.len; omega
      obtain ⟨m, hm⟩ : ∃ m, L.length = m := ⟨_, rfl⟩
      have HMM := Lib.hid hm
      rw [hm] at hlen ⊢
      clear r5 h5 b5 l5 HL HMP HC HG hm hmm
      go_wp2_with fail
      go_loopw [15, 16, 17, 19] (fun e f s i wx => ∃ (j : Nat) (x : Int), j ≤ m ∧ i = .int .i64 j ∧ e = .int .i64 x ∧ Chain 0 (L.take j) x ∧ f = .bool (lf false (L.take j)) ∧ s = .int .i64 ((tk (L.take j)).length : Int) ∧ Drawn w5 wx) (fun _ _ _ i _ => m - (intOf i).toNat)
      case atStart => exact ⟨0, 0, by omega, rfl, rfl, rfl, rfl, rfl, Drawn.refl _⟩
      case round =>
        obtain ⟨j, x, hj, rfl, rfl, hch, rfl, rfl, hdr⟩ := hrel
        have HCH := Lib.hid hch
        have HD := Lib.hid hdr
        clear hch hdr
        by_cases hjl : j < m
        · have hjL : j < L.length := by rw [HMM.out]; exact hjl
          obtain ⟨r0, r1, r2⟩ := (R5.out.below HD.out.below).cells hjL
          obtain ⟨a1, a2, a3, a4, a5, a6⟩ := next_run HW.out hjL HCH.out
          have hx0 : 0 ≤ x := by have := chain_at HW.out.chain hjL; omega
          have HC4 := Lib.hid a4
          have HL5 := Lib.hid a5
          have HT1 := Lib.hid (tk_one hjL)
          have HGV : Hid ((el L j).t = true → ∀ W : World, W.heap = w5.heap → (Instr.lookup 49 (.map (some b)) (.int .i64 (el L j).p) false).run Try.prog W = .ok (.int .i64 (el L j).n) W) := fun ht W hW => by
            have hmem : el L j ∈ tk L := List.mem_filter.2 ⟨el_mem hjL, by simpa using ht⟩
            have hmw : Hm W b n D L := M5.out.of (by rw [hW])
            have := hmw.look (x := (el L j).p) (wf_small (by omega) (by have := chain_at HW.out.chain hjL; omega))
            rwa [(gvv_of HW.out hmem).1] at this
          obtain ⟨z, hz⟩ : ∃ z, el L j = z := ⟨_, rfl⟩
          rw [hz] at r0 r1 r2 a1 a2 a3 a6 HC4 HL5 HT1 HGV
          obtain ⟨p, pn, pt⟩ := z
          dsimp only at r0 r1 r2 a1 a2 a3 a6 HC4 HL5 HT1 HGV
          subst a1
          obtain ⟨fl, hfl⟩ : ∃ fl, lf false (L.take j) = fl := ⟨_, rfl⟩
          rw [hfl] at a3 ⊢
          obtain ⟨tn, htn⟩ : ∃ tn, (tk (L.take j)).length = tn := ⟨_, rfl⟩
          have htl : tn ≤ 200 := by
            rw [← htn]; unfold tk
            have := List.length_filter_le (fun r : Rn => r.t) (L.take j)
            rw [List.length_take, HMM.out] at this; omega
          rw [htn] at HT1 ⊢
          have e1 : (p != p) = false := by simp
          have e2 : decide (pn < 1) = false := by simp; omega
          have e3 : (pn != pn) = false := by simp
          have j1 : (0 : Int) ≤ (j : Int) := by omega
          have j2 : (j : Int) < (m : Int) := by omega
          have HDH := Lib.hid HD.out.heap
          clear hz a4 a5 hfl htn
          cases pt with
          | true =>
            have hlook : ∀ d, (Instr.lookup 49 (.map (some b)) (.int .i64 p) false).run Try.prog (wr.drewN d) = .ok (.int .i64 pn) (wr.drewN d) := fun d => HGV.out rfl _ (by rw [drewN_heap]; exact HDH.out)
            clear a3
            cases fl with
            | true =>
              go_wp2_with fail
              go_quiet (fail)
              go_wp2
              go_roundw
              case rel => exact ⟨j + 1, p + pn, by omega, by go_num, rfl, HC4.out, by rw [HL5.out]; rfl, by rw [HT1.out, if_pos trivial]; go_num, HD.out.on nq⟩
              case measure => simp [intOf]; omega
            | false =>
              go_wp2_with fail
              go_quiet (fail)
              go_wp2
              go_roundw
              case rel => exact ⟨j + 1, p + pn, by omega, by go_num, rfl, HC4.out, by rw [HL5.out]; rfl, by rw [HT1.out, if_pos trivial]; go_num, HD.out.on nq⟩
              case measure => simp [intOf]; omega
          | false =>
            cases fl with
            | true => exact absurd (a3 rfl) (by simp)
            | false =>
              go_wp2_with fail
              go_quiet (fail)
              go_wp2
              go_roundw
              case rel => exact ⟨j + 1, p + pn, by omega, by go_num, rfl, HC4.out, by rw [HL5.out]; rfl, by rw [HT1.out, if_neg (by simp)]; rfl, HD.out.on nq⟩
              case measure => simp [intOf]; omega
        · obtain rfl : j = m := by omega
          have e1 : L.take j = L := List.take_of_length_le (by rw [HMM.out]; omega)
          rw [e1] at HCH ⊢
          have hxN : x = N := chain_uniq HCH.out HW.out.chain
          subst hxN
          have hsz : ∀ ty, (Builtin.len_ #[49] ty #[.map (some b)]).run Try.prog wr = .ok (.int .i64 ((tk L).length : Int)) wr := fun ty => by
            have := (M5.out.of (w' := wr) (by rw [HD.out.heap])).own.len Try.underlying49 ty
            rw [M5.out.len] at this
            exact this
          obtain ⟨tn, htn⟩ : ∃ tn, (tk L).length = tn := ⟨_, rfl⟩
          rw [htn] at hsz ⊢
          have q1 : (x == x) = true := by simp
          have q2 : ((tn : Int) == (tn : Int)) = true := by simp
          clear e1 htn
          go_wp2
          go_ret
          exact ⟨rfl, up_trans B5.out HD.out.below⟩
theorem apart_any (N : Int) (A : Option Addr) (l : List (Bool × Int × Int)) (c : Nat) (w : World) (hcs : CA w.heap.size w A l) (hwf : ∀ i, i < l.length → Wf64 (l.getD i (false, 0, 0)).2.1) :
    Calls Try.prog 4 #[.int .i64 N, .slice A l.length c] w fun e w' => e = .returned (.bool true) ∧ Below w.heap.size w w' := by
  by_cases h : 200 < N ∨ 100 < l.length
  · exact apart_great N A _ c w h
  · by_cases h2 : N < 0
    · exact apart_no N A _ c w h h2
    · exact apart_main N A l c w hcs hwf (by omega) (by omega) (by omega)
end Go.Proofs.Ytbfcejmifmeigaa
