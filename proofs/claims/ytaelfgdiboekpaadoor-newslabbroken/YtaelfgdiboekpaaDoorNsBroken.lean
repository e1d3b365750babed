/-
  A byte of a free slot's word that is another one breaks the list, until it is as it was: the walk of a statement.
-/
import Derived.Test.YtaelfgdiboekpaaDoorNsBreak
namespace Go.Proofs.YtaelfgdiboekpaaDoor.Ns
set_option maxRecDepth 100000
open Go.RowKit
open Ce (u y ld ldW Mem bytesOf bytesOf_length splice_length by8)
open Bi (Blk Drawn hasB hasB_iff hasB_not up_alloc up_drew up_trans i64_in ret_i ret_b grown_refl grown_trans grown_below)

theorem load1 {w : World} {q g : Nat} {bs : List (BitVec 8)} (a : Nat) (hm : Mem w q g bs) (hh : a < bs.length) :
    Calls Tryd.prog 45 #[.pointer (some ⟨q, 0, none⟩), .int .i64 (a : Int), .int .i64 1] w fun e w' => e = .returned (.tuple #[.int .u64 (u (ldW bs a 1)), .int .i64 0]) ∧ w = w' :=
  Ce.load_yes q g bs a 1 w hm (by decide) hh
theorem store1 {w : World} {q g : Nat} {bs : List (BitVec 8)} (a : Nat) (v : BitVec 64) (hm : Mem w q g bs) (hh : a < bs.length) :
    Calls Tryd.prog 44 #[.pointer (some ⟨q, 0, none⟩), .int .i64 (a : Int), .int .i64 1, .int .u64 (u v)] w fun e w' => e = .returned (.int .i64 0) ∧ Mem w' q g (setB1 bs a (by8 v 0)) ∧ w.grownBy w' (some g) :=
  Ce.store_yes q g bs a 1 v w hm (by decide) hh
theorem Sb.put1 {w w' : World} {s q g b c h f : Nat} {bs bs' : List (BitVec 8)} (m : Sb w s q g bs b c h f) (hm : Mem w' q g bs') (hg : w.grownBy w' (some g)) (hl : bs'.length = bs.length) : Sb w' s q g bs' b c h f := by
  obtain ⟨k1, k2, k3⟩ := m.kinds
  exact ⟨m.blk.far hg (kne k1 k3 (by decide)), hm, m.hc, m.hb, by rw [hl]; exact m.fit, m.hh, m.hf, m.pos⟩
set_option maxHeartbeats 8000000 in
theorem broken_any (class_ pick place by_ : Int) (P : Option Addr) (l : List Cl) (cap : Nat) (w : World) (hT : Tb.Tab w) (hC : CA w P l) :
    Calls Tryd.prog 8 #[.int .i64 class_, .slice P l.length cap, .int .i64 pick, .int .i64 place, .int .i64 by_] w fun e w' => e = .returned (.bool true) ∧ Below w.heap.size w w' := by
  have HA := Lib.hid (alive_any w hT)
  have HT := Lib.hid hT
  have HC := Lib.hid hC
  obtain ⟨n, hn⟩ : ∃ n, l.length = n := ⟨_, rfl⟩
  have HN := Lib.hid hn
  have HG : Hid (∀ V : World, Below w.heap.size w V → Calls Tryd.prog 13 #[.int .i64 0, .slice P n cap] V fun e w' => e = .returned (.bool (greatB 0 l)) ∧ V = w') := fun V hV => great_any 0 n cap (hC.up hV) hn
  rw [hn]
  clear hT hC hn
  cases hg : greatB 0 l with
  | true =>
    rw [hg] at HG
    clear hg HT HC HN
    go_enter Tryd.func8, Tryd.ntmps8
    go_wp2_with fail
    refine HA.out.mono ?_
    rintro e w1 ⟨rfl, b1⟩
    have B1 := Lib.hid b1
    clear b1 HA
    go_wp2_with fail
    refine (HG.out _ B1.out).mono ?_
    rintro e w' ⟨rfl, rfl⟩
    clear HG
    go_wp2_with fail
    go_ret
    exact ⟨rfl, B1.out⟩
  | false =>
  rcases class_split class_ with hcl | hcl | ⟨c, rfl, hc⟩
  · have d0 : decide (class_ < 0) = true := by simpa using hcl
    rw [hg] at HG
    clear hg HT HC HN hcl
    go_enter Tryd.func8, Tryd.ntmps8
    go_wp2_with fail
    refine HA.out.mono ?_
    rintro e w1 ⟨rfl, b1⟩
    have B1 := Lib.hid b1
    clear b1 HA
    go_wp2_with fail
    refine (HG.out _ B1.out).mono ?_
    rintro e w' ⟨rfl, rfl⟩
    clear HG
    go_wp2_with fail
    go_ret
    exact ⟨rfl, B1.out⟩
  · have d0 : decide (class_ < 0) = false := by simp; omega
    have d1 : decide (11 < class_) = true := by simpa using hcl
    rw [hg] at HG
    clear hg HT HC HN hcl
    go_enter Tryd.func8, Tryd.ntmps8
    go_wp2_with fail
    refine HA.out.mono ?_
    rintro e w1 ⟨rfl, b1⟩
    have B1 := Lib.hid b1
    clear b1 HA
    go_wp2_with fail
    refine (HG.out _ B1.out).mono ?_
    rintro e w' ⟨rfl, rfl⟩
    clear HG
    go_wp2_with fail
    go_ret
    exact ⟨rfl, B1.out⟩
  · have d0 : decide ((c : Int) < 0) = false := decide_eq_false (by omega)
    have d1 : decide ((11 : Int) < (c : Int)) = false := decide_eq_false (by omega)
    have HGr := Lib.hid hg
    have Hc := Lib.hid hc
    rw [hg] at HG
    clear hg hc
    have e255 := i64_and255 by_
    obtain ⟨Bn, hBn⟩ : ∃ Bn : Nat, by_ % 256 = (Bn : Int) := ⟨(by_ % 256).toNat, by omega⟩
    rw [hBn] at e255
    have hBl : Bn < 256 := by omega
    by_cases hb0 : Bn = 0
    · subst hb0
      have e0 : (bits .and .i64 by_ 255 == 0) = true := by rw [e255]; rfl
      clear hBn hBl HT HC HN e255
      go_enter Tryd.func8, Tryd.ntmps8
      go_wp2_with fail
      refine HA.out.mono ?_
      rintro e w1 ⟨rfl, b1⟩
      have B1 := Lib.hid b1
      clear b1 HA
      go_wp2_with fail
      refine (HG.out _ B1.out).mono ?_
      rintro e w' ⟨rfl, rfl⟩
      clear HG
      go_wp2_with fail
      go_ret
      exact ⟨rfl, B1.out⟩
    have e0 : (bits .and .i64 by_ 255 == 0) = false := by rw [e255, beq_eq_false_iff_ne]; omega
    have HZb : Hid (by8 (BitVec.ofNat 64 Bn) 0 ≠ 0#8) := by8_small hBl hb0
    have wB := u64_raw (n := Bn) (by omega)
    clear hBn hBl hb0
    go_enter Tryd.func8, Tryd.ntmps8
    go_wp2_with fail
    refine HA.out.mono ?_
    rintro e w1 ⟨rfl, b1⟩
    have B1 := Lib.hid b1
    clear b1 HA
    go_wp2_with fail
    refine (HG.out _ B1.out).mono ?_
    rintro e w' ⟨rfl, rfl⟩
    have HB := Lib.hid (begun_any c 0#8 P l n cap w1 (HT.out.below B1.out) Hc.out (HC.out.up B1.out) HN.out HGr.out)
    rw [show y 0#8 = 0 from rfl] at HB
    clear HG
    go_wp2_with fail
    refine HB.out.mono ?_
    rintro e w2 ⟨s, q, g, S, L, rfl, E2, -⟩
    have E2 := Lib.hid E2
    clear HB d0 d1
    have HLs := Lib.hid (ev_list E2.out)
    have HLle : L.length ≤ 128 := by
      rw [← E2.out.fl]
      have := E2.out.sb.hf
      have := (cls c Hc.out).2.2.2.1
      omega
    obtain ⟨ln, hln⟩ : ∃ ln, L.length = ln := ⟨_, rfl⟩
    have HLn := Lib.hid hln
    rw [hln] at HLs HLle
    clear hln
    go_wp2_with fail
    refine HLs.out.mono ?_
    rintro e w4 ⟨⟨A2, cp2, rfl, l2⟩, b4⟩
    have E4 := Lib.hid (E2.out.below b4)
    have L2 := Lib.hid l2
    clear b4 l2 HLs E2
    by_cases h0 : ln = 0
    · have d0 : ((ln : Int) == 0) = true := by rw [h0]; rfl
      clear h0
      go_wp2_with fail
      go_ret
      exact ⟨rfl, up_trans B1.out E4.out.bel⟩
    · have d0 : ((ln : Int) == 0) = false := by rw [beq_eq_false_iff_ne]; omega
      have d9 : ((ln : Int) == -1) = false := by rw [beq_eq_false_iff_ne]; omega
      -- which slot, and which byte
      have e1 := i64_and1023 pick
      obtain ⟨Q, hQ⟩ : ∃ Q : Int, pick % 1024 = Q := ⟨_, rfl⟩
      rw [hQ] at e1
      have hQ0 : 0 ≤ Q := by omega
      obtain ⟨I, hI⟩ : ∃ I : Nat, Q.tmod (ln : Int) = (I : Int) := ⟨(Q.tmod (ln : Int)).toNat, by have := Int.tmod_nonneg (ln : Int) hQ0; omega⟩
      have hIl : I < ln := by have := Int.tmod_lt_of_pos Q (b := (ln : Int)) (by omega); omega
      have e2 := i64_and1023 place
      obtain ⟨Q2, hQ2⟩ : ∃ Q2 : Int, place % 1024 = Q2 := ⟨_, rfl⟩
      rw [hQ2] at e2
      have hQ20 : 0 ≤ Q2 := by omega
      obtain ⟨p, hp⟩ : ∃ p : Nat, Q2.tmod 7 = (p : Int) := ⟨(Q2.tmod 7).toNat, by have := Int.tmod_nonneg 7 hQ20; omega⟩
      have hpl : p < 7 := by have := Int.tmod_lt_of_pos Q2 (b := 7) (by omega); omega
      have hIL : I < L.length := by rw [HLn.out]; exact hIl
      obtain ⟨k, hk⟩ : ∃ k, L[I] = k := ⟨_, rfl⟩
      have hkL : k ∈ L := by rw [← hk]; exact List.getElem_mem hIL
      have hkN : k < nS c := E4.out.rt.in_ k hkL
      obtain ⟨b', o', rfl, q0⟩ := L2.out.int (t := I) (by rw [nats_len]; exact hIL)
      rw [show (nats L)[I]'(by rw [nats_len]; exact hIL) = (k : Int) by rw [← hk]; simp [nats]] at q0
      have HAd := Lib.hid (ev_address k E4.out hkN)
      have hsl := slot_in Hc.out hkN
      have hz8 := (cls c Hc.out).1
      have hbd := E4.out.sb.bd
      have HKL := Lib.hid hkL
      have HKN := Lib.hid hkN
      obtain ⟨ad, had⟩ : ∃ ad, 1024 + k * zN c = ad := ⟨_, rfl⟩
      have HAdE := Lib.hid had
      rw [had] at HAd
      have j1 : (0 : Int) ≤ (I : Int) := by omega
      have j2 : (I : Int) < (ln : Int) := by omega
      have w1' : IntKind.i64.wrap (1 + (p : Int)) = ((1 + p : Nat) : Int) := by rw [IntKind.wrap_i64]; omega
      have w2' : IntKind.i64.wrap ((ad : Int) + ((1 + p : Nat) : Int)) = ((ad + (1 + p) : Nat) : Int) := by rw [IntKind.wrap_i64]; omega
      obtain ⟨p1, hp1⟩ : ∃ p1 : Nat, 1 + p = p1 := ⟨_, rfl⟩
      have HP1 := Lib.hid hp1
      have HPl := Lib.hid hpl
      rw [hp1] at w1' w2'
      obtain ⟨at_, hat⟩ : ∃ at_ : Nat, ad + p1 = at_ := ⟨_, rfl⟩
      have HAt := Lib.hid hat
      rw [hat] at w2'
      have hatl : at_ < S.bs.length := by omega
      have HAtl := Lib.hid hatl
      clear hQ hQ0 hQ2 hQ20 hIl hpl hIL hk hkL hkN hsl hz8 hbd had hp1 hat hatl h0
      go_wp2_with fail
      refine HAd.out.mono ?_
      rintro e w5 ⟨rfl, b5⟩
      have E5 := Lib.hid (E4.out.below b5)
      have L5 := Lib.hid (L2.out.below b5)
      clear b5 HAd E4 L2 q0
      have HLd := Lib.hid (load1 at_ E5.out.sb.mem HAtl.out)
      obtain ⟨v, hv⟩ : ∃ v, ldW S.bs at_ 1 = v := ⟨_, rfl⟩
      have HV := Lib.hid hv
      rw [hv] at HLd
      clear hv
      have ex := xor_u v (BitVec.ofNat 64 Bn)
      have HSt := Lib.hid (store1 at_ (v ^^^ BitVec.ofNat 64 Bn) E5.out.sb.mem HAtl.out)
      have hzz : by8 (v ^^^ BitVec.ofNat 64 Bn) 0 ≠ S.bs.getD at_ 0#8 := by
        rw [by8_xor, ← HV.out, ldW_one]
        exact xor_ne HZb.out
      have HZz := Lib.hid hzz
      generalize by8 (v ^^^ BitVec.ofNat 64 Bn) 0 = z at *
      generalize v ^^^ BitVec.ofNat 64 Bn = v2 at *
      generalize u (BitVec.ofNat 64 Bn) = ub at *
      clear hzz
      go_wp2_with (go_at_call 45; refine HLd.out.mono ?_; rintro e w' ⟨rfl, rfl⟩)
      refine HSt.out.mono ?_
      rintro e w6 ⟨rfl, m6, g6⟩
      -- broken
      have hkind := E5.out.sb.kinds
      have M6 := Lib.hid (E5.out.sb.put1 m6 g6 (setB1_len HAtl.out))
      have B6 : Hid (Below w1.heap.size w1 w6) := E5.out.bel.grown g6 E5.out.bel.size (fun _ e => by cases e; exact E5.out.ns.2.2)
      have T6 := Lib.hid ((Fr.grown (s := g) g6).tab E5.out.tb E5.out.sb.pos.2.2 E5.out.sb.pos.2.2)
      have L6 : Hid (Li w6 (some ⟨b', o', none⟩) (nats L)) := L5.out.fr (Fr.grown (s := g) g6) hkind.2.2 hkind.2.2 (by decide) (by decide)
      have HNo : Hid (¬ ∃ M, Rt (nx (setB1 S.bs at_ z) 1024 c) S.h S.f M) := by
        have hk2 : at_ = 1024 + k * zN c + (1 + p) := by rw [HAdE.out, HP1.out, HAt.out]
        have hlt := HAtl.out
        have hzn := HZz.out
        rw [hk2] at hlt hzn ⊢
        cases hkx : nx S.bs 1024 c k with
        | none =>
          have := E5.out.rt.1.mem k HKL.out
          rw [hkx] at this; cases this
        | some a0 => exact rt_broken E5.out.rt HKL.out (nx_broken hkx HPl.out hlt hzn) (fun j hj => setB1_far Hc.out HKN.out HPl.out E5.out.sb.fit hj)
      have HFl := Lib.hid (E5.out.fl.trans HLn.out)
      have HRt := Lib.hid E5.out.rt
      have HNs := Lib.hid E5.out.ns
      have HBk := Lib.hid (setB1_back (z := z) HAtl.out)
      have HLz : Hid (at_ < (setB1 S.bs at_ z).length) := by show _ < _; rw [setB1_len HAtl.out]; exact HAtl.out
      have HVb : Hid (by8 v 0 = S.bs.getD at_ 0#8) := by show _ = _; rw [← HV.out, ldW_one]
      have K1 := Lib.hid (take_no M6.out T6.out HNo.out)
      clear m6 g6 hkind HSt HLd E5 L5 HAtl HZz HV HZb ex
      generalize setB1 S.bs at_ z = bs' at *
      go_wp2_with fail
      refine K1.out.mono ?_
      rintro e w7 ⟨rfl, b7⟩
      have M7 := Lib.hid (M6.out.below b7)
      have T7 := Lib.hid (T6.out.below b7)
      have L7 := Lib.hid (L6.out.below b7)
      have B7 := Lib.hid (up_trans B6.out b7)
      have K2 := Lib.hid (some_no 1 M7.out T7.out HNo.out)
      clear b7 K1 M6 T6 L6 B6
      go_wp2_with fail
      refine K2.out.mono ?_
      rintro e w8 ⟨rfl, b8⟩
      have M8 := Lib.hid (M7.out.below b8)
      have T8 := Lib.hid (T7.out.below b8)
      have L8 := Lib.hid (L7.out.below b8)
      have B8 := Lib.hid (up_trans B7.out b8)
      have K3 := Lib.hid (list_no M8.out T8.out HNo.out)
      clear b8 K2 M7 T7 L7 B7
      go_wp2_with fail
      refine K3.out.mono ?_
      rintro e w9 ⟨rfl, b9⟩
      have M9 := Lib.hid (M8.out.below b9)
      have T9 := Lib.hid (T8.out.below b9)
      have L9 := Lib.hid (L8.out.below b9)
      have B9 := Lib.hid (up_trans B8.out b9)
      have K4 := Lib.hid (taken_no M9.out T9.out HNo.out)
      clear b9 K3 M8 T8 L8 B8
      go_wp2_with fail
      refine K4.out.mono ?_
      rintro e wa ⟨rfl, ba⟩
      have Ma := Lib.hid (M9.out.below ba)
      have Ta := Lib.hid (T9.out.below ba)
      have La := Lib.hid (L9.out.below ba)
      have Ba := Lib.hid (up_trans B9.out ba)
      have K5 := Lib.hid (give_no 1024 Ma.out Ta.out HNo.out)
      clear ba K4 M9 T9 L9 B9
      go_wp2_with fail
      refine K5.out.mono ?_
      rintro e wb ⟨rfl, bb⟩
      have Mb := Lib.hid (Ma.out.below bb)
      have Tb' := Lib.hid (Ta.out.below bb)
      have Lb := Lib.hid (La.out.below bb)
      have Bb := Lib.hid (up_trans Ba.out bb)
      have K6 := Lib.hid (all_no (A := none) (n := 0) (cap := 0) Mb.out Tb'.out HNo.out)
      clear bb K5 Ma Ta La Ba
      go_wp2_with fail
      refine K6.out.mono ?_
      rintro e wc ⟨rfl, bc⟩
      have Mc := Lib.hid (Mb.out.below bc)
      have Tc := Lib.hid (Tb'.out.below bc)
      have Lc := Lib.hid (Lb.out.below bc)
      have Bc := Lib.hid (up_trans Bb.out bc)
      have K7 := Lib.hid (check_no Mc.out Tc.out HNo.out)
      clear bc K6 Mb Tb' Lb Bb
      go_wp2_with fail
      refine K7.out.mono ?_
      rintro e wd ⟨rfl, bd⟩
      have Md := Lib.hid (Mc.out.below bd)
      have Td := Lib.hid (Tc.out.below bd)
      have Ld := Lib.hid (Lc.out.below bd)
      have Bd := Lib.hid (up_trans Bc.out bd)
      have K8 := Lib.hid (free_any Md.out)
      rw [HFl.out] at K8
      have dln : ((ln : Int) != (ln : Int)) = false := by simp
      have K9 := Lib.hid (store1 at_ v Md.out.mem HLz.out)
      rw [HVb.out, HBk.out] at K9
      clear bd K7 Mc Tc Lc Bc
      go_wp2_with (go_at_call 32; refine K8.out.mono ?_; rintro e w' ⟨rfl, rfl⟩)
      refine K9.out.mono ?_
      rintro e we ⟨rfl, me, ge⟩
      have hkind := Md.out.kinds
      have Ee : Hid (Ev w1 we s q g 1024 c S L) := by
        have hms := Md.out.put1 me ge (by have := congrArg List.length HBk.out; rw [setB1_len HLz.out] at this; exact this.symm)
        exact ⟨hms, HRt.out, HNs.out, Bd.out.grown ge Bd.out.size (fun _ e => by cases e; exact HNs.out.2.2), (Fr.grown (s := g) ge).tab Td.out Md.out.pos.2.2 Md.out.pos.2.2⟩
      have Le : Hid (Li we (some ⟨b', o', none⟩) (nats L)) := Ld.out.fr (Fr.grown (s := g) ge) hkind.2.2 hkind.2.2 (by decide) (by decide)
      have KA := Lib.hid (ev_list Ee.out)
      rw [HLn.out] at KA
      clear me ge hkind K9 K8 Md Td Ld Bd
      go_wp2_with fail
      refine KA.out.mono ?_
      rintro e wf ⟨⟨A3, cp3, rfl, l3⟩, bf⟩
      have Ef := Lib.hid (Ee.out.below bf)
      have Lf := Lib.hid (Le.out.below bf)
      have KB := Lib.hid (sameints_any (nats L) (some ⟨b', o', none⟩) A3 cp2 cp3 ln ln wf Lf.out l3 (by rw [nats_len, HLn.out]; omega) (by rw [nats_len, HLn.out]) (by rw [nats_len, HLn.out]))
      clear bf l3 KA Ee Le
      go_wp2_with fail
      refine KB.out.mono ?_
      rintro e wg ⟨rfl, bg⟩
      have Eg := Lib.hid (Ef.out.below bg)
      have KC := Lib.hid (check_yes Eg.out.sb Eg.out.tb Eg.out.rt)
      clear bg KB Ef Lf
      go_wp2_with fail
      refine KC.out.mono ?_
      rintro e wh ⟨rfl, bh⟩
      have Bh := Lib.hid (up_trans (up_trans B1.out Eg.out.bel) bh)
      clear bh KC
      go_wp2_with fail
      go_ret
      exact ⟨rfl, Bh.out⟩
end Go.Proofs.YtaelfgdiboekpaaDoor.Ns
