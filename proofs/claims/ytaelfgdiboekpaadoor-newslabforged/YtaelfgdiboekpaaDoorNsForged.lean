/-
  Whatever a client writes into taken slots, the list stays right: the walk of a statement.
-/
import Derived.Test.YtaelfgdiboekpaaDoorNsForge
namespace Go.Proofs.YtaelfgdiboekpaaDoor.Ns
set_option maxRecDepth 100000
open Go.RowKit
open Ce (u y ldW Mem bytesOf bytesOf_length splice_length)
open Bi (Blk Drawn hasB hasB_iff hasB_not up_alloc up_drew up_trans i64_in ret_i ret_b grown_refl grown_trans grown_below)

set_option maxHeartbeats 8000000 in
theorem forged_any (class_ sl nxt of_ : Int) (all : Bool) (P : Option Addr) (l : List Cl) (cap : Nat) (w : World) (hT : Tb.Tab w) (hC : CA w P l) :
    Calls Tryd.prog 7 #[.int .i64 class_, .slice P l.length cap, .int .i64 sl, .int .i64 nxt, .int .i64 of_, .bool all] w fun e w' => e = .returned (.bool true) ∧ Below w.heap.size w w' := by
  have HA := Lib.hid (alive_any w hT)
  have HT := Lib.hid hT
  have HC := Lib.hid hC
  obtain ⟨n, hn⟩ : ∃ n, l.length = n := ⟨_, rfl⟩
  have HN := Lib.hid hn
  have HG : Hid (∀ V : World, Below w.heap.size w V → Calls Tryd.prog 13 #[.int .i64 0, .slice P n cap] V fun e w' => e = .returned (.bool (greatB 0 l)) ∧ V = w') := fun V hV => great_any 0 n cap (hC.up hV) hn
  rw [hn]
  clear hT hC hn
  cases hg : greatB 0 l with
  | true =>
    rw [hg] at HG
    clear hg HT HC HN
    go_enter Tryd.func7, Tryd.ntmps7
    go_wp2_with fail
    refine HA.out.mono ?_
    rintro e w1 ⟨rfl, b1⟩
    have B1 := Lib.hid b1
    clear b1 HA
    go_wp2_with fail
    refine (HG.out _ B1.out).mono ?_
    rintro e w' ⟨rfl, rfl⟩
    clear HG
    go_wp2_with fail
    go_ret
    exact ⟨rfl, B1.out⟩
  | false =>
  rcases class_split class_ with hcl | hcl | ⟨c, rfl, hc⟩
  · have d0 : decide (class_ < 0) = true := by simpa using hcl
    rw [hg] at HG
    clear hg HT HC HN hcl
    go_enter Tryd.func7, Tryd.ntmps7
    go_wp2_with fail
    refine HA.out.mono ?_
    rintro e w1 ⟨rfl, b1⟩
    have B1 := Lib.hid b1
    clear b1 HA
    go_wp2_with fail
    refine (HG.out _ B1.out).mono ?_
    rintro e w' ⟨rfl, rfl⟩
    clear HG
    go_wp2_with fail
    go_ret
    exact ⟨rfl, B1.out⟩
  · have d0 : decide (class_ < 0) = false := by simp; omega
    have d1 : decide (11 < class_) = true := by simpa using hcl
    rw [hg] at HG
    clear hg HT HC HN hcl
    go_enter Tryd.func7, Tryd.ntmps7
    go_wp2_with fail
    refine HA.out.mono ?_
    rintro e w1 ⟨rfl, b1⟩
    have B1 := Lib.hid b1
    clear b1 HA
    go_wp2_with fail
    refine (HG.out _ B1.out).mono ?_
    rintro e w' ⟨rfl, rfl⟩
    clear HG
    go_wp2_with fail
    go_ret
    exact ⟨rfl, B1.out⟩
  · have d0 : decide ((c : Int) < 0) = false := decide_eq_false (by omega)
    have d1 : decide ((11 : Int) < (c : Int)) = false := decide_eq_false (by omega)
    have HGr := Lib.hid hg
    have Hc := Lib.hid hc
    rw [hg] at HG
    clear hg hc
    go_enter Tryd.func7, Tryd.ntmps7
    go_wp2_with fail
    refine HA.out.mono ?_
    rintro e w1 ⟨rfl, b1⟩
    have B1 := Lib.hid b1
    clear b1 HA
    go_wp2_with fail
    refine (HG.out _ B1.out).mono ?_
    rintro e w' ⟨rfl, rfl⟩
    have HB := Lib.hid (begun_any c 0#8 P l n cap w1 (HT.out.below B1.out) Hc.out (HC.out.up B1.out) HN.out HGr.out)
    rw [show y 0#8 = 0 from rfl] at HB
    clear HG
    go_wp2_with fail
    refine HB.out.mono ?_
    rintro e w2 ⟨s, q, g, S, L, rfl, E2, -⟩
    have E2 := Lib.hid E2
    clear HB d0 d1
    obtain ⟨N, hN⟩ : ∃ N, nS c = N := ⟨_, rfl⟩
    have HNc := Lib.hid hN
    have h128 : N ≤ 128 := by rw [← hN]; exact (cls c Hc.out).2.2.2.1
    have HTk := Lib.hid (ev_taken E2.out)
    rw [hN] at HTk
    obtain ⟨T, hTt⟩ : ∃ T, tkn L N = T := ⟨_, rfl⟩
    have HTin : Hid (∀ k, k ∈ T ↔ k < N ∧ k ∉ L) := fun k => by rw [← hTt]; exact mem_tkn
    have HTle : T.length ≤ 128 := by rw [← hTt]; have := tkn_le L N; omega
    have HTeq := Lib.hid hTt
    rw [hTt] at HTk
    obtain ⟨tn, htn⟩ : ∃ tn, T.length = tn := ⟨_, rfl⟩
    have HTn := Lib.hid htn
    rw [htn] at HTk HTle
    clear hN hTt htn
    go_wp2_with fail
    refine HTk.out.mono ?_
    rintro e w3 ⟨⟨A1, cp1, rfl, l1⟩, b3⟩
    have E3 := Lib.hid (E2.out.below b3)
    have L1 := Lib.hid l1
    clear b3 l1 HTk E2
    have HLs := Lib.hid (ev_list E3.out)
    have HLle : L.length ≤ 128 := by rw [← E3.out.fl]; have := E3.out.sb.hf; rw [HNc.out] at this; omega
    obtain ⟨ln, hln⟩ : ∃ ln, L.length = ln := ⟨_, rfl⟩
    have HLn := Lib.hid hln
    rw [hln] at HLs HLle
    clear hln
    go_wp2_with fail
    refine HLs.out.mono ?_
    rintro e w4 ⟨⟨A2, cp2, rfl, l2⟩, b4⟩
    have E4 := Lib.hid (E3.out.below b4)
    have L14 := Lib.hid (L1.out.below b4)
    have L2 := Lib.hid l2
    clear b4 l2 HLs E3 L1
    have HWd := Lib.hid (word_any sl nxt of_ w4 E4.out.tb)
    obtain ⟨xw, ow, hxw⟩ := wdV_is sl nxt of_
    rw [hxw] at HWd
    clear hxw
    go_wp2_with fail
    refine HWd.out.mono ?_
    rintro e w5 ⟨rfl, b5⟩
    have E5 := Lib.hid (E4.out.below b5)
    have L15 := Lib.hid (L14.out.below b5)
    have L25 := Lib.hid (L2.out.below b5)
    clear b5 HWd E4 L14 L2
    go_wp2_with fail
    -- what is written into taken slots
    go_loopw [19, 21] (fun v i wr => ∃ (k : Nat) (x : BitVec 64) (S : SS), k ≤ tn ∧ i = .int .i64 (k : Int) ∧ v = .int .u64 (u x) ∧ Ev w1 wr s q g 1024 c S L ∧ Li wr A1 (nats T) ∧ Li wr A2 (nats L)) (fun _ i _ => tn - (intOf i).toNat)
    case atStart => exact ⟨0, xw, S, by omega, rfl, rfl, E5.out, L15.out, L25.out⟩
    case round =>
      obtain ⟨k, x, S, hk, rfl, rfl, he, hl1, hl2⟩ := hrel
      have HE := Lib.hid he
      have H1 := Lib.hid hl1
      have H2 := Lib.hid hl2
      clear he hl1 hl2
      by_cases hlt : k < tn
      · have hkl : k < T.length := by rw [HTn.out]; exact hlt
        obtain ⟨t, ht⟩ : ∃ t, T[k] = t := ⟨_, rfl⟩
        have htin := (HTin.out t).1 (by rw [← ht]; exact List.getElem_mem hkl)
        obtain ⟨b', o', rfl, q0⟩ := H1.out.int (t := k) (by rw [nats_len]; exact hkl)
        rw [show (nats T)[k]'(by rw [nats_len]; exact hkl) = (t : Int) by rw [← ht]; simp [nats]] at q0
        have htN : t < nS c := by rw [HNc.out]; exact htin.1
        have HAd := Lib.hid (ev_address t HE.out htN)
        have HSt : Hid (∀ (V : World) (z : BitVec 64), Ev w1 V s q g 1024 c S L → _) := fun V z m => ev_store t z m htN htin.2
        have HWa : Hid (∀ V : World, Tb.Tab V → Calls Tryd.prog 10 #[.int .i64 (t : Int), .int .i64 nxt, .int .i64 (c : Int)] V fun e w' => e = .returned (wdV (t : Int) nxt (c : Int)) ∧ Below V.heap.size V w') := fun V hV => word_any _ _ _ V hV
        obtain ⟨xa, oa, hxa⟩ := wdV_is (t : Int) nxt (c : Int)
        rw [hxa] at HWa
        generalize 1024 + t * zN c = ad at *
        have j1 : (0 : Int) ≤ (k : Int) := by omega
        have j2 : (k : Int) < (tn : Int) := by omega
        clear hxa ht htin hkl htN
        go_wp2_with fail
        refine HAd.out.mono ?_
        rintro e w6 ⟨rfl, b6⟩
        have E6 := Lib.hid (HE.out.below b6)
        have H16 := Lib.hid (H1.out.below b6)
        have H26 := Lib.hid (H2.out.below b6)
        have q6 := (b6.cell (p := ⟨b', o' + k, none⟩) ((H1.out.2 b' o' rfl).1)).trans q0
        have c60 := E6.out.sb.c0
        clear b6 HAd HE H1 H2 q0
        cases all with
        | true =>
          have HW6 := Lib.hid (HWa.out w6 E6.out.tb)
          clear HWa c60
          go_wp2_with fail
          refine HW6.out.mono ?_
          rintro e w7 ⟨rfl, b7⟩
          have E7 := Lib.hid (E6.out.below b7)
          have H17 := Lib.hid (H16.out.below b7)
          have H27 := Lib.hid (H26.out.below b7)
          have HS7 := Lib.hid (HSt.out w7 xa E7.out)
          clear b7 HW6 HSt E6 H16 H26 q6
          go_wp2_with fail
          refine HS7.out.mono ?_
          rintro e w8 ⟨rfl, E8, f8⟩
          have H18 := Lib.hid (E7.out.li f8 H17.out)
          have H28 := Lib.hid (E7.out.li f8 H27.out)
          have E8 := Lib.hid E8
          clear f8 HS7 E7 H17 H27
          go_wp2_with fail
          go_roundw
          case rel => exact ⟨k + 1, xa, _, by omega, by go_num, rfl, E8.out, H18.out, H28.out⟩
          case measure => simp [intOf]; omega
        | false =>
          have HS7 := Lib.hid (HSt.out w6 x E6.out)
          clear HWa HSt c60 q6
          go_wp2_with fail
          refine HS7.out.mono ?_
          rintro e w8 ⟨rfl, E8, f8⟩
          have H18 := Lib.hid (E6.out.li f8 H16.out)
          have H28 := Lib.hid (E6.out.li f8 H26.out)
          have E8 := Lib.hid E8
          clear f8 HS7 E6 H16 H26
          go_wp2_with fail
          go_roundw
          case rel => exact ⟨k + 1, x, _, by omega, by go_num, rfl, E8.out, H18.out, H28.out⟩
          case measure => simp [intOf]; omega
      · obtain rfl : k = tn := by omega
        have HTk := Lib.hid (ev_taken HE.out)
        rw [HNc.out, HTeq.out, HTn.out] at HTk
        clear E5 L15 L25
        go_wp2_with fail
        refine HTk.out.mono ?_
        rintro e w6 ⟨⟨A3, cp3, rfl, l3⟩, b6⟩
        have E6 := Lib.hid (HE.out.below b6)
        have H16 := Lib.hid (H1.out.below b6)
        have H26 := Lib.hid (H2.out.below b6)
        have H36 := Lib.hid l3
        have HLs := Lib.hid (ev_list E6.out)
        rw [HLn.out] at HLs
        clear l3 b6 HTk HE H1 H2
        go_wp2_with fail
        refine HLs.out.mono ?_
        rintro e w7 ⟨⟨A4, cp4, rfl, l4⟩, b7⟩
        have E7 := Lib.hid (E6.out.below b7)
        have H17 := Lib.hid (H16.out.below b7)
        have H27 := Lib.hid (H26.out.below b7)
        have HS1 := Lib.hid (sameints_any (nats T) A1 A3 cp1 cp3 k k w7 H17.out (H36.out.below b7) (by rw [nats_len, HTn.out]; omega) (by rw [nats_len, HTn.out]) (by rw [nats_len, HTn.out]))
        have H47 := Lib.hid l4
        clear l4 b7 HLs E6 H16 H26 H36
        go_wp2_with fail
        refine HS1.out.mono ?_
        rintro e w8 ⟨rfl, b8⟩
        have E8 := Lib.hid (E7.out.below b8)
        have H18 := Lib.hid (H17.out.below b8)
        have HS2 := Lib.hid (sameints_any (nats L) A2 A4 cp2 cp4 ln ln w8 (H27.out.below b8) (H47.out.below b8) (by rw [nats_len, HLn.out]; omega) (by rw [nats_len, HLn.out]) (by rw [nats_len, HLn.out]))
        clear b8 HS1 E7 H17 H27 H47
        go_wp2_with fail
        refine HS2.out.mono ?_
        rintro e w9 ⟨rfl, b9⟩
        have E9 := Lib.hid (E8.out.below b9)
        have H19 := Lib.hid (H18.out.below b9)
        clear b9 HS2 E8 H18
        go_wp2_with fail
        -- each slot is given
        go_loopw [28] (fun i wr => ∃ (j : Nat) (S : SS) (M : List Nat), j ≤ N ∧ i = .int .i64 (j : Int) ∧ Ev w1 wr s q g 1024 c S M ∧ (∀ z, z ∈ M ↔ z ∈ L ∨ z < j) ∧ Li wr A1 (nats T)) (fun i _ => N - (intOf i).toNat)
        case atStart => exact ⟨0, S, L, by omega, rfl, E9.out, fun z => by simp, H19.out⟩
        case round =>
          obtain ⟨j, S, M, hj, rfl, he, hM, hl1⟩ := hrel
          have HE := Lib.hid he
          have HM := Lib.hid hM
          have H1 := Lib.hid hl1
          have HSl := Lib.hid (slots_any he.sb he.tb)
          rw [HNc.out] at HSl
          clear he hM hl1
          by_cases hlt2 : j < N
          · have hjN : j < nS c := by rw [HNc.out]; exact hlt2
            have HAd := Lib.hid (ev_address j HE.out hjN)
            have HJN := Lib.hid hjN
            have j2 : decide ((j : Int) < (N : Int)) = true := decide_eq_true (by omega)
            clear hjN
            go_wp2_with fail
            refine HSl.out.mono ?_
            rintro e w' ⟨rfl, rfl⟩
            clear HSl
            go_wp2_with fail
            refine HAd.out.mono ?_
            rintro e wa ⟨rfl, ba⟩
            have Ea := Lib.hid (HE.out.below ba)
            have H1a := Lib.hid (H1.out.below ba)
            have HIn := Lib.hid (in_any (nats T) A1 cp1 k (j : Int) wa H1a.out (by rw [nats_len, HTn.out]) (by omega))
            clear ba HAd HE H1
            by_cases hin : j ∈ T
            · have hout := ((HTin.out j).1 hin).2
              rw [show decide ((j : Int) ∈ nats T) = true from decide_eq_true (mem_nats.2 hin)] at HIn
              have hjM : j ∉ M := fun e => by
                rcases (HM.out j).1 e with e | e
                · exact hout e
                · omega
              have HG1 := Lib.hid (ev_give_out j Ea.out HJN.out hjM)
              have HG2 : Hid (∀ V : World, Ev w1 V s q g 1024 c (S.push 1024 c j) (j :: M) → _) := fun V m => ev_give_in j m HJN.out (by simp)
              generalize 1024 + j * zN c = ad at *
              clear hin hout hjM
              go_wp2_with fail
              refine HIn.out.mono ?_
              rintro e w' ⟨rfl, rfl⟩
              clear HIn
              go_wp2_with fail
              refine HG1.out.mono ?_
              rintro e wb ⟨rfl, Eb, fb⟩
              have H1b := Lib.hid (Ea.out.li fb H1a.out)
              have HG3 := Lib.hid (HG2.out wb Eb)
              have Eb := Lib.hid Eb
              clear fb HG1 HG2 Ea H1a
              go_wp2_with fail
              refine HG3.out.mono ?_
              rintro e wc ⟨rfl, Ec, fc⟩
              have H1c := Lib.hid (Eb.out.li fc H1b.out)
              have Ec := Lib.hid Ec
              clear fc HG3 Eb H1b
              go_wp2_with fail
              go_roundw
              case rel =>
                refine ⟨j + 1, _, _, by omega, by go_num, Ec.out, fun z => ?_, H1c.out⟩
                rw [List.mem_cons, HM.out z]
                constructor
                · rintro (rfl | h | h)
                  · right; omega
                  · exact .inl h
                  · right; omega
                · rintro (h | h)
                  · exact .inr (.inl h)
                  · by_cases e : z = j
                    · exact .inl e
                    · right; right; omega
              case measure => simp [intOf]; omega
            · have hjL : j ∈ L := by
                by_cases e : j ∈ L
                · exact e
                · exact absurd ((HTin.out j).2 ⟨hlt2, e⟩) hin
              rw [show decide ((j : Int) ∈ nats T) = false from decide_eq_false (fun e => hin (mem_nats.1 e))] at HIn
              have hjM : j ∈ M := (HM.out j).2 (.inl hjL)
              have HG1 := Lib.hid (ev_give_in j Ea.out HJN.out hjM)
              have HG2 : Hid (∀ V : World, Ev w1 V s q g 1024 c S M → _) := fun V m => ev_give_in j m HJN.out hjM
              have HjL := Lib.hid hjL
              generalize 1024 + j * zN c = ad at *
              clear hin hjL hjM
              go_wp2_with fail
              refine HIn.out.mono ?_
              rintro e w' ⟨rfl, rfl⟩
              clear HIn
              go_wp2_with fail
              refine HG1.out.mono ?_
              rintro e wb ⟨rfl, Eb, fb⟩
              have H1b := Lib.hid (Ea.out.li fb H1a.out)
              have HG3 := Lib.hid (HG2.out wb Eb)
              have Eb := Lib.hid Eb
              clear fb HG1 HG2 Ea H1a
              go_wp2_with fail
              refine HG3.out.mono ?_
              rintro e wc ⟨rfl, Ec, fc⟩
              have H1c := Lib.hid (Eb.out.li fc H1b.out)
              have Ec := Lib.hid Ec
              clear fc HG3 Eb H1b
              go_wp2_with fail
              go_roundw
              case rel =>
                refine ⟨j + 1, _, _, by omega, by go_num, Ec.out, fun z => ?_, H1c.out⟩
                rw [HM.out z]
                constructor
                · rintro (h | h)
                  · exact .inl h
                  · right; omega
                · rintro (h | h)
                  · exact .inl h
                  · by_cases e : z = j
                    · subst e; exact .inl HjL.out
                    · right; omega
              case measure => simp [intOf]; omega
          · obtain rfl : j = N := by omega
            have j2 : decide ((j : Int) < (j : Int)) = false := decide_eq_false (by omega)
            have HSt := Lib.hid (state_any HE.out.sb HE.out.tb)
            have hMl : M.length = nS c := all_len HE.out.rt.1.nodup HE.out.rt.in_ (fun z hz => (HM.out z).2 (.inr (by rw [← HNc.out]; exact hz)))
            rw [show stI (nS c) S.f = 0 by unfold stI; rw [HE.out.fl, hMl]; exact if_pos rfl] at HSt
            have HCk := Lib.hid (check_yes HE.out.sb HE.out.tb HE.out.rt)
            clear hMl
            go_wp2_with fail
            refine HSl.out.mono ?_
            rintro e w' ⟨rfl, rfl⟩
            clear HSl
            go_wp2_with fail
            refine HSt.out.mono ?_
            rintro e w' ⟨rfl, rfl⟩
            clear HSt
            go_wp2_with fail
            refine HCk.out.mono ?_
            rintro e wz ⟨rfl, bz⟩
            have Bz := Lib.hid (up_trans (up_trans B1.out HE.out.bel) bz)
            clear bz HCk
            go_wp2_with fail
            go_ret
            exact ⟨rfl, Bz.out⟩
end Go.Proofs.YtaelfgdiboekpaaDoor.Ns
