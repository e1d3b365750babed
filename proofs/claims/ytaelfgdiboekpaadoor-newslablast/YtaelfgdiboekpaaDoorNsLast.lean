/-
  What was given back last is taken first, and all free slots can be taken once each: the walk of a statement.
-/
import Derived.Test.YtaelfgdiboekpaaDoorNsOther
namespace Go.Proofs.YtaelfgdiboekpaaDoor.Ns
set_option maxRecDepth 100000
open Go.RowKit
open Ce (u y ldW Mem)
open Bi (Blk Drawn hasB hasB_iff hasB_not up_alloc up_drew up_trans i64_in ret_i ret_b grown_refl grown_trans grown_below)

set_option maxHeartbeats 8000000 in
theorem last_any (class_ pick : Int) (P : Option Addr) (l : List Cl) (cap : Nat) (w : World) (hT : Tb.Tab w) (hC : CA w P l) :
    Calls Tryd.prog 6 #[.int .i64 class_, .slice P l.length cap, .int .i64 pick] w fun e w' => e = .returned (.bool true) ∧ Below w.heap.size w w' := by
  have HA := Lib.hid (alive_any w hT)
  have HT := Lib.hid hT
  have HC := Lib.hid hC
  obtain ⟨n, hn⟩ : ∃ n, l.length = n := ⟨_, rfl⟩
  have HN := Lib.hid hn
  have HG : Hid (∀ V : World, Below w.heap.size w V → Calls Tryd.prog 13 #[.int .i64 0, .slice P n cap] V fun e w' => e = .returned (.bool (greatB 0 l)) ∧ V = w') := fun V hV => great_any 0 n cap (hC.up hV) hn
  rw [hn]
  clear hT hC hn
  cases hg : greatB 0 l with
  | true =>
    rw [hg] at HG
    clear hg HT HC HN
    go_enter Tryd.func6, Tryd.ntmps6
    go_wp2_with fail
    refine HA.out.mono ?_
    rintro e w1 ⟨rfl, b1⟩
    have B1 := Lib.hid b1
    clear b1 HA
    go_wp2_with fail
    refine (HG.out _ B1.out).mono ?_
    rintro e w' ⟨rfl, rfl⟩
    clear HG
    go_wp2_with fail
    go_ret
    exact ⟨rfl, B1.out⟩
  | false =>
  rcases class_split class_ with hcl | hcl | ⟨c, rfl, hc⟩
  · have d0 : decide (class_ < 0) = true := by simpa using hcl
    rw [hg] at HG
    clear hg HT HC HN hcl
    go_enter Tryd.func6, Tryd.ntmps6
    go_wp2_with fail
    refine HA.out.mono ?_
    rintro e w1 ⟨rfl, b1⟩
    have B1 := Lib.hid b1
    clear b1 HA
    go_wp2_with fail
    refine (HG.out _ B1.out).mono ?_
    rintro e w' ⟨rfl, rfl⟩
    clear HG
    go_wp2_with fail
    go_ret
    exact ⟨rfl, B1.out⟩
  · have d0 : decide (class_ < 0) = false := by simp; omega
    have d1 : decide (11 < class_) = true := by simpa using hcl
    rw [hg] at HG
    clear hg HT HC HN hcl
    go_enter Tryd.func6, Tryd.ntmps6
    go_wp2_with fail
    refine HA.out.mono ?_
    rintro e w1 ⟨rfl, b1⟩
    have B1 := Lib.hid b1
    clear b1 HA
    go_wp2_with fail
    refine (HG.out _ B1.out).mono ?_
    rintro e w' ⟨rfl, rfl⟩
    clear HG
    go_wp2_with fail
    go_ret
    exact ⟨rfl, B1.out⟩
  · have d0 : decide ((c : Int) < 0) = false := decide_eq_false (by omega)
    have d1 : decide ((11 : Int) < (c : Int)) = false := decide_eq_false (by omega)
    have HGr := Lib.hid hg
    have Hc := Lib.hid hc
    rw [hg] at HG
    clear hg hc
    go_enter Tryd.func6, Tryd.ntmps6
    go_wp2_with fail
    refine HA.out.mono ?_
    rintro e w1 ⟨rfl, b1⟩
    have B1 := Lib.hid b1
    clear b1 HA
    go_wp2_with fail
    refine (HG.out _ B1.out).mono ?_
    rintro e w' ⟨rfl, rfl⟩
    have HB := Lib.hid (begun_any c 0#8 P l n cap w1 (HT.out.below B1.out) Hc.out (HC.out.up B1.out) HN.out HGr.out)
    rw [show y 0#8 = 0 from rfl] at HB
    clear HG
    go_wp2_with fail
    refine HB.out.mono ?_
    rintro e w2 ⟨s, q, g, S, L, rfl, E2, -⟩
    have E2 := Lib.hid E2
    clear HB d0 d1
    obtain ⟨N, hN⟩ : ∃ N, nS c = N := ⟨_, rfl⟩
    have HNc := Lib.hid hN
    have h128 : N ≤ 128 := by rw [← hN]; exact (cls c Hc.out).2.2.2.1
    have HTk := Lib.hid (ev_taken E2.out)
    rw [hN] at HTk
    obtain ⟨T, hTt⟩ : ∃ T, tkn L N = T := ⟨_, rfl⟩
    have HTin : Hid (∀ k, k ∈ T ↔ k < N ∧ k ∉ L) := fun k => by rw [← hTt]; exact mem_tkn
    have HTle : T.length ≤ 128 := by rw [← hTt]; have := tkn_le L N; omega
    have HTeq := Lib.hid hTt
    rw [hTt] at HTk
    obtain ⟨tn, htn⟩ : ∃ tn, T.length = tn := ⟨_, rfl⟩
    have HTn := Lib.hid htn
    rw [htn] at HTk HTle
    clear hN hTt htn
    go_wp2_with fail
    refine HTk.out.mono ?_
    rintro e w3 ⟨⟨A1, cp1, rfl, l1⟩, b3⟩
    have E3 := Lib.hid (E2.out.below b3)
    have L1 := Lib.hid l1
    clear b3 l1 HTk E2
    have HLs := Lib.hid (ev_list E3.out)
    have HLle : L.length ≤ 128 := by rw [← E3.out.fl]; have := E3.out.sb.hf; rw [HNc.out] at this; omega
    obtain ⟨ln, hln⟩ : ∃ ln, L.length = ln := ⟨_, rfl⟩
    have HLn := Lib.hid hln
    rw [hln] at HLs HLle
    clear hln
    go_wp2_with fail
    refine HLs.out.mono ?_
    rintro e w4 ⟨⟨A2, cp2, rfl, l2⟩, b4⟩
    have E4 := Lib.hid (E3.out.below b4)
    have L14 := Lib.hid (L1.out.below b4)
    have L2 := Lib.hid l2
    clear b4 l2 HLs E3 L1
    have hall : tn + ln = N := by rw [← HTn.out, ← HLn.out, ← HTeq.out, ← HNc.out]; exact tkn_all E4.out.rt.1.nodup E4.out.rt.in_
    have HSl := Lib.hid (slots_any E4.out.sb E4.out.tb)
    rw [HNc.out] at HSl
    have HFr := Lib.hid (free_any E4.out.sb)
    rw [E4.out.fl, HLn.out] at HFr
    have w1' : IntKind.i64.wrap ((tn : Int) + (ln : Int)) = (N : Int) := by rw [IntKind.wrap_i64]; omega
    have dN : ((N : Int) != (N : Int)) = false := by simp
    have dl : ((ln : Int) != (ln : Int)) = false := by simp
    by_cases ht0 : tn = 0
    · have dt : decide ((0 : Int) < (tn : Int)) = false := decide_eq_false (by omega)
      have dt2 : decide (0 < tn) = false := decide_eq_false (by omega)
      clear hall ht0
      go_wp2_with (first | (go_at_call 28; refine HSl.out.mono ?_; rintro e w' ⟨rfl, rfl⟩) | (go_at_call 32; refine HFr.out.mono ?_; rintro e w' ⟨rfl, rfl⟩))
      clear HSl HFr w1' dN dt dt2
      have EZ := Lib.hid E4.out
      have LZ := Lib.hid L2.out
      clear E4 L2 L14
      have HCl := Lib.hid (Ce.clone_any q g _ _ EZ.out.sb.mem)
      unfold Ce.Cloned at HCl
      refine HCl.out.mono ?_
      rintro e wa ⟨q', rfl, hq', m', ba⟩
      have Ea := Lib.hid (EZ.out.below ba)
      have La := Lib.hid (LZ.out.below ba)
      have hqs := Ea.out.ns
      have hlt := EZ.out.sb.lt
      have hbs := EZ.out.bel.size
      have htl := EZ.out.tb.lt
      obtain ⟨g', hg'⟩ : ∃ g', g' = g' ∧ Mem wa q' g' _ ∧ w1.heap.size ≤ g' ∧ 1 < g' ∧ s < g' ∧ q < g' ∧ g < g' := ⟨_, rfl, m', by omega, by omega, by omega, by omega, by omega⟩
      have HM' := Lib.hid hg'.2.1
      have HO : Hid (w1.heap.size ≤ g' ∧ 1 < g' ∧ s < g' ∧ q < g' ∧ g < g' ∧ w1.heap.size ≤ q' ∧ 1 < q' ∧ s < q' ∧ q < q' ∧ g < q') := ⟨hg'.2.2.1, hg'.2.2.2.1, hg'.2.2.2.2.1, hg'.2.2.2.2.2.1, hg'.2.2.2.2.2.2, by omega, by omega, by omega, by omega, by omega⟩
      have HOn := Lib.hid (ev_on Ea.out HM'.out ⟨HO.out.2.2.2.2.2.1, HO.out.1⟩ ⟨HO.out.2.2.2.2.2.2.1, HO.out.2.1⟩)
      clear HCl ba EZ LZ hqs hlt hbs htl hg' m' hq'
      go_wp2_with fail
      refine HOn.out.mono ?_
      rintro e wb ⟨s', rfl, U1, hs', bb⟩
      have Eb := Lib.hid (Ea.out.below bb)
      have Lb := Lib.hid (La.out.below bb)
      have U1 := Lib.hid U1
      have hlt := Ea.out.sb.lt
      have HO2 : Hid (s < s' ∧ q < s' ∧ g < s') := by show _ ∧ _ ∧ _; omega
      have HSm := Lib.hid (ev_some 200 U1.out)
      rw [U1.out.fl, HLn.out, show smM ln 200 = ln by unfold smM; show min 200 ln = ln; omega, List.take_of_length_le (by rw [HLn.out]; exact Nat.le_refl _), List.drop_of_length_le (by rw [HLn.out]; exact Nat.le_refl _)] at HSm
      clear HOn bb Ea La hlt hs'
      go_wp2_with fail
      refine HSm.out.mono ?_
      rintro e wc ⟨⟨A3, cp3, rfl, l3⟩, S3, -, U2, f2⟩
      have hk := U1.out.sb.kinds
      have hns := U1.out.ns
      have hp := U1.out.sb.pos
      have o1 := HO.out
      have o2 := HO2.out
      have Ec := Lib.hid (Eb.out.other f2 ⟨hns.1, by omega, by omega, by omega⟩ ⟨hns.2.2, by omega, by omega, by omega⟩ ⟨hp.1, hp.2.2⟩)
      have Lc := Lib.hid (Lb.out.fr f2 hk.1 hk.2.2 (by decide) (by decide))
      have U2 := Lib.hid U2
      have M3 := Lib.hid l3
      have F1 := Lib.hid (free_any Ec.out.sb)
      rw [Ec.out.fl, HLn.out] at F1
      have F2 := Lib.hid (free_any U2.out.sb)
      rw [U2.out.fl, show (([] : List Nat).length : Int) = 0 from rfl] at F2
      have G1 := Lib.hid (base_any Ec.out.sb)
      have G2 := Lib.hid (base_any U2.out.sb)
      have G3 := Lib.hid (class_any U2.out.sb)
      have dc : ((c : Int) != (c : Int)) = false := by simp
      have dl2 : ((ln : Int) != (ln : Int)) = false := by simp
      have HF1 : Hid (s ≠ s') := by show _ ≠ _; omega
      clear hk hns hp o1 o2 f2 l3 HSm U1 Eb Lb
      go_wp2_with fail
      refine F1.out.mono ?_
      rintro e w' ⟨rfl, rfl⟩
      clear F1
      go_wp2_with fail
      refine F2.out.mono ?_
      rintro e w' ⟨rfl, rfl⟩
      clear F2
      go_wp2_with fail
      refine G2.out.mono ?_
      rintro e w' ⟨rfl, rfl⟩
      clear G2
      go_wp2_with fail
      refine G1.out.mono ?_
      rintro e w' ⟨rfl, rfl⟩
      clear G1
      go_wp2_with (go_at_call 39; refine G3.out.mono ?_; rintro e w' ⟨rfl, rfl⟩)
      clear G3 dc
      go_loopw [24] (fun i wr => ∃ (k : Nat) (Sk : SS), k ≤ ln ∧ i = .int .i64 (k : Int) ∧ Ev w1 wr s q g 1024 c Sk (L.drop k) ∧ Li wr A2 (nats L) ∧ Li wr A3 (adr 1024 c L)) (fun i _ => ln - (intOf i).toNat)
      case atStart => exact ⟨0, _, by omega, rfl, Ec.out, Lc.out, M3.out⟩
      case round =>
        obtain ⟨k, Sk, hk, rfl, he, hl2, hl3⟩ := hrel
        have HE := Lib.hid he
        have H2 := Lib.hid hl2
        have H3 := Lib.hid hl3
        clear he hl2 hl3
        by_cases hlt : k < ln
        · have hkl : k < L.length := by rw [HLn.out]; exact hlt
          have hdr := List.drop_eq_getElem_cons hkl
          have HTk := Lib.hid (ev_take HE.out)
          obtain ⟨z, hz⟩ : ∃ z, L[k] = z := ⟨_, rfl⟩
          obtain ⟨b2, o2, hA2, q2⟩ := H2.out.int (t := k) (by rw [nats_len]; exact hkl)
          rw [show (nats L)[k]'(by rw [nats_len]; exact hkl) = (z : Int) by rw [← hz]; simp [nats]] at q2
          obtain ⟨b3, o3, hA3, q3⟩ := H3.out.int (t := k) (by rw [adr_len]; exact hkl)
          obtain ⟨ad, had⟩ : ∃ ad, 1024 + z * zN c = ad := ⟨_, rfl⟩
          rw [show (adr 1024 c L)[k]'(by rw [adr_len]; exact hkl) = (ad : Int) by rw [← had, ← hz]; simp [adr]] at q3
          rw [hdr, hz, show tkV 1024 c (z :: L.drop (k + 1)) = .tuple #[.int .i64 (ad : Int), .int .i64 0] by rw [← had]; rfl] at HTk
          have hzN : z < nS c := HE.out.rt.in_ z (by rw [hdr, hz]; simp)
          have hI : I64 (ad : Int) := by rw [← had]; exact ev_addr HE.out hzN
          have HSO : Hid (slotV 1024 c (ad : Int) = .tuple #[.int .i64 (z : Int), .int .i64 0]) := by
            show _ = _
            unfold slotV
            rw [← had, slotO_at HE.out.sb.hc hzN]
          have HI := Lib.hid hI
          have j1 : (0 : Int) ≤ (k : Int) := by omega
          have j2 : (k : Int) < (ln : Int) := by omega
          have j3 : decide ((k : Int) < (ln : Int)) = true := decide_eq_true j2
          have dz : ((z : Int) != (z : Int)) = false := by simp
          have da : ((ad : Int) != (ad : Int)) = false := by simp
          have HA2 := Lib.hid hA2
          have HA3 := Lib.hid hA3
          clear hdr hz had hzN hI hkl hA2 hA3
          go_wp2_with fail
          refine HTk.out.mono ?_
          rintro e wd ⟨rfl, S5, -, E5, f5⟩
          have E5 : Hid (Ev w1 wd s q g 1024 c S5 (L.drop (k + 1))) := E5
          have H25 := Lib.hid (HE.out.li f5 H2.out)
          have H35 := Lib.hid (HE.out.li f5 H3.out)
          have hs2 := H2.out.2 b2 o2 HA2.out
          have hs3 := H3.out.2 b3 o3 HA3.out
          have hkd := HE.out.sb.kinds
          have q25 := (Bi.cell_of_block (i := o2 + k) (f5.block b2 hs2.1 (kne hs2.2 hkd.1 (by decide)) (kne hs2.2 hkd.2.2 (by decide)))).trans q2
          have q35 := (Bi.cell_of_block (i := o3 + k) (f5.block b3 hs3.1 (kne hs3.2 hkd.1 (by decide)) (kne hs3.2 hkd.2.2 (by decide)))).trans q3
          have HSlt := Lib.hid (slot_any (ad : Int) HI.out E5.out.sb E5.out.tb)
          rw [HSO.out] at HSlt
          obtain rfl := HA2.out
          obtain rfl := HA3.out
          clear hs2 hs3 hkd f5 q2 q3 HTk HE H2 H3
          go_wp2_with fail
          refine HSlt.out.mono ?_
          rintro e w' ⟨rfl, rfl⟩
          clear HSlt
          go_wp2_with fail
          go_roundw
          case rel => exact ⟨k + 1, S5, by omega, by go_num, E5.out, H25.out, H35.out⟩
          case measure => simp [intOf]; omega
        · obtain rfl : k = ln := by omega
          have j3 : decide ((k : Int) < (k : Int)) = false := decide_eq_false (by omega)
          have hdr : L.drop k = [] := List.drop_of_length_le (by rw [HLn.out]; exact Nat.le_refl _)
          rw [hdr] at HE
          have HTk := Lib.hid (ev_take HE.out)
          rw [show tkV 1024 c [] = .tuple #[.int .i64 (-1), .int .i64 18] from rfl] at HTk
          clear hdr H2 H3
          go_wp2_with fail
          refine HTk.out.mono ?_
          rintro e wd ⟨rfl, S5, -, E5, -⟩
          have E5 : Hid (Ev w1 wd s q g 1024 c S5 []) := E5
          have HHd := Lib.hid (head_any E5.out.sb)
          have h0 : S5.h = 0 := E5.out.rt.1
          rw [h0, show ((0 : Nat) : Int) - 1 = -1 from rfl] at HHd
          have HSt := Lib.hid (state_any E5.out.sb E5.out.tb)
          have hf0 : S5.f = 0 := E5.out.fl
          have hN2 := (cls c E5.out.sb.hc).2.2.1
          rw [hf0, show stI (nS c) 0 = 2 by unfold stI; rw [if_neg (by omega), if_pos rfl]] at HSt
          have HCk := Lib.hid (check_yes E5.out.sb E5.out.tb E5.out.rt)
          clear HTk HE h0 hf0 hN2
          go_wp2_with (first | (go_at_call 41; refine HHd.out.mono ?_; rintro e w' ⟨rfl, rfl⟩) | (go_at_call 42; refine HSt.out.mono ?_; rintro e w' ⟨rfl, rfl⟩))
          refine HCk.out.mono ?_
          rintro e we ⟨rfl, be⟩
          have Be := Lib.hid (up_trans (up_trans B1.out E5.out.bel) be)
          clear be HCk
          go_wp2_with fail
          go_ret
          exact ⟨rfl, Be.out⟩
    · have dt : decide ((0 : Int) < (tn : Int)) = true := decide_eq_true (by omega)
      have dt2 : decide (0 < tn) = true := decide_eq_true (by omega)
      have d0 : ((tn : Int) == 0) = false := by rw [beq_eq_false_iff_ne]; omega
      have d9 : ((tn : Int) == -1) = false := by rw [beq_eq_false_iff_ne]; omega
      have e1 := i64_and1023 pick
      obtain ⟨Q, hQ⟩ : ∃ Q : Int, pick % 1024 = Q := ⟨_, rfl⟩
      rw [hQ] at e1
      have hQ0 : 0 ≤ Q := by omega
      obtain ⟨I, hI⟩ : ∃ I : Nat, Q.tmod (tn : Int) = (I : Int) := ⟨(Q.tmod (tn : Int)).toNat, by have := Int.tmod_nonneg (tn : Int) hQ0; omega⟩
      have hIl : I < tn := by have := Int.tmod_lt_of_pos Q (b := (tn : Int)) (by omega); omega
      have hIL : I < T.length := by rw [HTn.out]; exact hIl
      obtain ⟨k, hk⟩ : ∃ k, T[I] = k := ⟨_, rfl⟩
      have hkT := (HTin.out k).1 (by rw [← hk]; exact List.getElem_mem hIL)
      have hkN : k < nS c := by rw [HNc.out]; exact hkT.1
      obtain ⟨b', o', rfl, q0⟩ := L14.out.int (t := I) (by rw [nats_len]; exact hIL)
      rw [show (nats T)[I]'(by rw [nats_len]; exact hIL) = (k : Int) by rw [← hk]; simp [nats]] at q0
      have HAd := Lib.hid (ev_address k E4.out hkN)
      have HGv : Hid (∀ V : World, Ev w1 V s q g 1024 c S L → _) := fun V m => ev_give_out k m hkN hkT.2
      have HTk2 : Hid (∀ (V : World) (S1 : SS), Ev w1 V s q g 1024 c S1 (k :: L) → _) := fun V S1 m => ev_take m
      have j1 : (0 : Int) ≤ (I : Int) := by omega
      have j2 : (I : Int) < (tn : Int) := by omega
      obtain ⟨ad, had⟩ : ∃ ad, 1024 + k * zN c = ad := ⟨_, rfl⟩
      have htk : tkV 1024 c (k :: L) = .tuple #[.int .i64 (ad : Int), .int .i64 0] := by rw [← had]; rfl
      rw [had] at HAd HGv
      rw [htk] at HTk2
      have dad : ((ad : Int) != (ad : Int)) = false := by simp
      clear hQ hQ0 hIl hIL hk hkT hkN had htk hall ht0
      go_wp2_with (first | (go_at_call 28; refine HSl.out.mono ?_; rintro e w' ⟨rfl, rfl⟩) | (go_at_call 32; refine HFr.out.mono ?_; rintro e w' ⟨rfl, rfl⟩))
      clear HSl HFr w1' dN dt dt2
      refine HAd.out.mono ?_
      rintro e w5 ⟨rfl, b5⟩
      have E5 := Lib.hid (E4.out.below b5)
      have L5 := Lib.hid (L2.out.below b5)
      have HG1 := Lib.hid (HGv.out w5 E5.out)
      clear b5 HAd HGv E4 L2 L14 q0
      go_wp2_with fail
      refine HG1.out.mono ?_
      rintro e w6 ⟨rfl, E6, f6⟩
      have L6 := Lib.hid (E5.out.li f6 L5.out)
      have HT6 := Lib.hid (HTk2.out w6 _ E6)
      have E6 := Lib.hid E6
      clear f6 HG1 HTk2 E5 L5
      go_wp2_with fail
      refine HT6.out.mono ?_
      rintro e w7 ⟨rfl, S2, -, E7, f7⟩
      have L7 := Lib.hid (E6.out.li f7 L6.out)
      have E7 : Hid (Ev w1 w7 s q g 1024 c S2 L) := E7
      have HL7 := Lib.hid (ev_list E7.out)
      rw [HLn.out] at HL7
      clear f7 HT6 E6 L6
      go_wp2_with fail
      refine HL7.out.mono ?_
      rintro e w8 ⟨⟨A8, cp8, rfl, l8⟩, b8⟩
      have E8 := Lib.hid (E7.out.below b8)
      have L8 := Lib.hid (L7.out.below b8)
      have HS8 := Lib.hid (sameints_any (nats L) A2 A8 cp2 cp8 ln ln w8 L8.out l8 (by rw [nats_len, HLn.out]; omega) (by rw [nats_len, HLn.out]) (by rw [nats_len, HLn.out]))
      clear b8 l8 HL7 E7 L7
      go_wp2_with fail
      refine HS8.out.mono ?_
      rintro e w9 ⟨rfl, b9⟩
      have EZ := Lib.hid (E8.out.below b9)
      have LZ := Lib.hid (L8.out.below b9)
      clear b9 HS8 E8 L8
      go_wp2_with fail
      have HCl := Lib.hid (Ce.clone_any q g _ _ EZ.out.sb.mem)
      unfold Ce.Cloned at HCl
      refine HCl.out.mono ?_
      rintro e wa ⟨q', rfl, hq', m', ba⟩
      have Ea := Lib.hid (EZ.out.below ba)
      have La := Lib.hid (LZ.out.below ba)
      have hqs := Ea.out.ns
      have hlt := EZ.out.sb.lt
      have hbs := EZ.out.bel.size
      have htl := EZ.out.tb.lt
      obtain ⟨g', hg'⟩ : ∃ g', g' = g' ∧ Mem wa q' g' _ ∧ w1.heap.size ≤ g' ∧ 1 < g' ∧ s < g' ∧ q < g' ∧ g < g' := ⟨_, rfl, m', by omega, by omega, by omega, by omega, by omega⟩
      have HM' := Lib.hid hg'.2.1
      have HO : Hid (w1.heap.size ≤ g' ∧ 1 < g' ∧ s < g' ∧ q < g' ∧ g < g' ∧ w1.heap.size ≤ q' ∧ 1 < q' ∧ s < q' ∧ q < q' ∧ g < q') := ⟨hg'.2.2.1, hg'.2.2.2.1, hg'.2.2.2.2.1, hg'.2.2.2.2.2.1, hg'.2.2.2.2.2.2, by omega, by omega, by omega, by omega, by omega⟩
      have HOn := Lib.hid (ev_on Ea.out HM'.out ⟨HO.out.2.2.2.2.2.1, HO.out.1⟩ ⟨HO.out.2.2.2.2.2.2.1, HO.out.2.1⟩)
      clear HCl ba EZ LZ hqs hlt hbs htl hg' m' hq'
      go_wp2_with fail
      refine HOn.out.mono ?_
      rintro e wb ⟨s', rfl, U1, hs', bb⟩
      have Eb := Lib.hid (Ea.out.below bb)
      have Lb := Lib.hid (La.out.below bb)
      have U1 := Lib.hid U1
      have hlt := Ea.out.sb.lt
      have HO2 : Hid (s < s' ∧ q < s' ∧ g < s') := by show _ ∧ _ ∧ _; omega
      have HSm := Lib.hid (ev_some 200 U1.out)
      rw [U1.out.fl, HLn.out, show smM ln 200 = ln by unfold smM; show min 200 ln = ln; omega, List.take_of_length_le (by rw [HLn.out]; exact Nat.le_refl _), List.drop_of_length_le (by rw [HLn.out]; exact Nat.le_refl _)] at HSm
      clear HOn bb Ea La hlt hs'
      go_wp2_with fail
      refine HSm.out.mono ?_
      rintro e wc ⟨⟨A3, cp3, rfl, l3⟩, S3, -, U2, f2⟩
      have hk := U1.out.sb.kinds
      have hns := U1.out.ns
      have hp := U1.out.sb.pos
      have o1 := HO.out
      have o2 := HO2.out
      have Ec := Lib.hid (Eb.out.other f2 ⟨hns.1, by omega, by omega, by omega⟩ ⟨hns.2.2, by omega, by omega, by omega⟩ ⟨hp.1, hp.2.2⟩)
      have Lc := Lib.hid (Lb.out.fr f2 hk.1 hk.2.2 (by decide) (by decide))
      have U2 := Lib.hid U2
      have M3 := Lib.hid l3
      have F1 := Lib.hid (free_any Ec.out.sb)
      rw [Ec.out.fl, HLn.out] at F1
      have F2 := Lib.hid (free_any U2.out.sb)
      rw [U2.out.fl, show (([] : List Nat).length : Int) = 0 from rfl] at F2
      have G1 := Lib.hid (base_any Ec.out.sb)
      have G2 := Lib.hid (base_any U2.out.sb)
      have G3 := Lib.hid (class_any U2.out.sb)
      have dc : ((c : Int) != (c : Int)) = false := by simp
      have dl2 : ((ln : Int) != (ln : Int)) = false := by simp
      have HF1 : Hid (s ≠ s') := by show _ ≠ _; omega
      clear hk hns hp o1 o2 f2 l3 HSm U1 Eb Lb
      go_wp2_with fail
      refine F1.out.mono ?_
      rintro e w' ⟨rfl, rfl⟩
      clear F1
      go_wp2_with fail
      refine F2.out.mono ?_
      rintro e w' ⟨rfl, rfl⟩
      clear F2
      go_wp2_with fail
      refine G2.out.mono ?_
      rintro e w' ⟨rfl, rfl⟩
      clear G2
      go_wp2_with fail
      refine G1.out.mono ?_
      rintro e w' ⟨rfl, rfl⟩
      clear G1
      go_wp2_with (go_at_call 39; refine G3.out.mono ?_; rintro e w' ⟨rfl, rfl⟩)
      clear G3 dc
      go_loopw [24] (fun i wr => ∃ (k : Nat) (Sk : SS), k ≤ ln ∧ i = .int .i64 (k : Int) ∧ Ev w1 wr s q g 1024 c Sk (L.drop k) ∧ Li wr A2 (nats L) ∧ Li wr A3 (adr 1024 c L)) (fun i _ => ln - (intOf i).toNat)
      case atStart => exact ⟨0, _, by omega, rfl, Ec.out, Lc.out, M3.out⟩
      case round =>
        obtain ⟨k, Sk, hk, rfl, he, hl2, hl3⟩ := hrel
        have HE := Lib.hid he
        have H2 := Lib.hid hl2
        have H3 := Lib.hid hl3
        clear he hl2 hl3
        by_cases hlt : k < ln
        · have hkl : k < L.length := by rw [HLn.out]; exact hlt
          have hdr := List.drop_eq_getElem_cons hkl
          have HTk := Lib.hid (ev_take HE.out)
          obtain ⟨z, hz⟩ : ∃ z, L[k] = z := ⟨_, rfl⟩
          obtain ⟨b2, o2, hA2, q2⟩ := H2.out.int (t := k) (by rw [nats_len]; exact hkl)
          rw [show (nats L)[k]'(by rw [nats_len]; exact hkl) = (z : Int) by rw [← hz]; simp [nats]] at q2
          obtain ⟨b3, o3, hA3, q3⟩ := H3.out.int (t := k) (by rw [adr_len]; exact hkl)
          obtain ⟨ad, had⟩ : ∃ ad, 1024 + z * zN c = ad := ⟨_, rfl⟩
          rw [show (adr 1024 c L)[k]'(by rw [adr_len]; exact hkl) = (ad : Int) by rw [← had, ← hz]; simp [adr]] at q3
          rw [hdr, hz, show tkV 1024 c (z :: L.drop (k + 1)) = .tuple #[.int .i64 (ad : Int), .int .i64 0] by rw [← had]; rfl] at HTk
          have hzN : z < nS c := HE.out.rt.in_ z (by rw [hdr, hz]; simp)
          have hI : I64 (ad : Int) := by rw [← had]; exact ev_addr HE.out hzN
          have HSO : Hid (slotV 1024 c (ad : Int) = .tuple #[.int .i64 (z : Int), .int .i64 0]) := by
            show _ = _
            unfold slotV
            rw [← had, slotO_at HE.out.sb.hc hzN]
          have HI := Lib.hid hI
          have j1 : (0 : Int) ≤ (k : Int) := by omega
          have j2 : (k : Int) < (ln : Int) := by omega
          have j3 : decide ((k : Int) < (ln : Int)) = true := decide_eq_true j2
          have dz : ((z : Int) != (z : Int)) = false := by simp
          have da : ((ad : Int) != (ad : Int)) = false := by simp
          have HA2 := Lib.hid hA2
          have HA3 := Lib.hid hA3
          clear hdr hz had hzN hI hkl hA2 hA3
          go_wp2_with fail
          refine HTk.out.mono ?_
          rintro e wd ⟨rfl, S5, -, E5, f5⟩
          have E5 : Hid (Ev w1 wd s q g 1024 c S5 (L.drop (k + 1))) := E5
          have H25 := Lib.hid (HE.out.li f5 H2.out)
          have H35 := Lib.hid (HE.out.li f5 H3.out)
          have hs2 := H2.out.2 b2 o2 HA2.out
          have hs3 := H3.out.2 b3 o3 HA3.out
          have hkd := HE.out.sb.kinds
          have q25 := (Bi.cell_of_block (i := o2 + k) (f5.block b2 hs2.1 (kne hs2.2 hkd.1 (by decide)) (kne hs2.2 hkd.2.2 (by decide)))).trans q2
          have q35 := (Bi.cell_of_block (i := o3 + k) (f5.block b3 hs3.1 (kne hs3.2 hkd.1 (by decide)) (kne hs3.2 hkd.2.2 (by decide)))).trans q3
          have HSlt := Lib.hid (slot_any (ad : Int) HI.out E5.out.sb E5.out.tb)
          rw [HSO.out] at HSlt
          obtain rfl := HA2.out
          obtain rfl := HA3.out
          clear hs2 hs3 hkd f5 q2 q3 HTk HE H2 H3
          go_wp2_with fail
          refine HSlt.out.mono ?_
          rintro e w' ⟨rfl, rfl⟩
          clear HSlt
          go_wp2_with fail
          go_roundw
          case rel => exact ⟨k + 1, S5, by omega, by go_num, E5.out, H25.out, H35.out⟩
          case measure => simp [intOf]; omega
        · obtain rfl : k = ln := by omega
          have j3 : decide ((k : Int) < (k : Int)) = false := decide_eq_false (by omega)
          have hdr : L.drop k = [] := List.drop_of_length_le (by rw [HLn.out]; exact Nat.le_refl _)
          rw [hdr] at HE
          have HTk := Lib.hid (ev_take HE.out)
          rw [show tkV 1024 c [] = .tuple #[.int .i64 (-1), .int .i64 18] from rfl] at HTk
          clear hdr H2 H3
          go_wp2_with fail
          refine HTk.out.mono ?_
          rintro e wd ⟨rfl, S5, -, E5, -⟩
          have E5 : Hid (Ev w1 wd s q g 1024 c S5 []) := E5
          have HHd := Lib.hid (head_any E5.out.sb)
          have h0 : S5.h = 0 := E5.out.rt.1
          rw [h0, show ((0 : Nat) : Int) - 1 = -1 from rfl] at HHd
          have HSt := Lib.hid (state_any E5.out.sb E5.out.tb)
          have hf0 : S5.f = 0 := E5.out.fl
          have hN2 := (cls c E5.out.sb.hc).2.2.1
          rw [hf0, show stI (nS c) 0 = 2 by unfold stI; rw [if_neg (by omega), if_pos rfl]] at HSt
          have HCk := Lib.hid (check_yes E5.out.sb E5.out.tb E5.out.rt)
          clear HTk HE h0 hf0 hN2
          go_wp2_with (first | (go_at_call 41; refine HHd.out.mono ?_; rintro e w' ⟨rfl, rfl⟩) | (go_at_call 42; refine HSt.out.mono ?_; rintro e w' ⟨rfl, rfl⟩))
          refine HCk.out.mono ?_
          rintro e we ⟨rfl, be⟩
          have Be := Lib.hid (up_trans (up_trans B1.out E5.out.bel) be)
          clear be HCk
          go_wp2_with fail
          go_ret
          exact ⟨rfl, Be.out⟩
end Go.Proofs.YtaelfgdiboekpaaDoor.Ns
