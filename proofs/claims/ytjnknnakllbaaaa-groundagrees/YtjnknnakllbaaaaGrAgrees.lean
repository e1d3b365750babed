/-
  The walk of the statement that pages, map and book agree.
-/
import Derived.Test.YtjnknnakllbaaaaGrCalls
import Derived.Test.YtjnknnakllbaaaaGrSum
namespace Go.Proofs.Ytjnknnakllbaaaa.Gr
set_option maxRecDepth 100000
open Go.RowKit
theorem i0_any (A : Option Addr) (X : List Int) (n c : Nat) (w : World) (h : At w.heap.size w A (ints X)) (hn : X.length = n) : Calls Try.prog 13 #[.slice A n c] w fun e w' => e = .returned (.int .i64 (X.headD 0)) ∧ w = w' := by
  cases X with
  | nil =>
    subst hn
    go_enter Try.func13, Try.ntmps13
    go_wp2
    go_ret
    exact ⟨rfl, rfl⟩
  | cons x X =>
    obtain ⟨b, o, rfl, _, c0⟩ := h.int (t := 0) (by simp)
    have hd : ((n : Int) == 0) = false := by rw [← hn]; simp; omega
    have hp : (0 : Int) < (n : Int) := by rw [← hn]; simp
    have hx : w.cell? ⟨b, o, none⟩ = some (.int .i64 x) := c0
    clear c0 h hn
    go_enter Try.func13, Try.ntmps13
    go_wp2
    go_ret
    exact ⟨rfl, rfl⟩
/-- How many pages the first versions have. -/
def acc (f : Ra.Ws) (n : Nat) : Nat → Nat
  | 0 => 0
  | v + 1 => acc f n v + cw (ver (v : Int)) f n
theorem acc_le {f : Ra.Ws} {n : Nat} (h : cw (ver 0) f n + cw (ver 1) f n + cw (ver 2) f n = cw nz f n) : acc f n 3 = cw nz f n ∧ ∀ v, v ≤ 3 → acc f n v ≤ n := by
  have hl := cw_le nz f n
  have e3 : acc f n 3 = cw nz f n := by
    show 0 + cw (ver ((0 : Nat) : Int)) f n + cw (ver ((1 : Nat) : Int)) f n + cw (ver ((2 : Nat) : Int)) f n = _
    have e0 : ((0 : Nat) : Int) = 0 := rfl
    have e1 : ((1 : Nat) : Int) = 1 := rfl
    have e2 : ((2 : Nat) : Int) = 2 := rfl
    rw [e0, e1, e2]; omega
  refine ⟨e3, fun v hv => ?_⟩
  have m0 : acc f n 0 ≤ acc f n 1 := Nat.le_add_right _ _
  have m1 : acc f n 1 ≤ acc f n 2 := Nat.le_add_right _ _
  have m2 : acc f n 2 ≤ acc f n 3 := Nat.le_add_right _ _
  obtain rfl | rfl | rfl | rfl : v = 0 ∨ v = 1 ∨ v = 2 ∨ v = 3 := by omega
  all_goals omega
theorem pos_of (i : Nat) : (0 : Int) ≤ (i : Int) := by omega
set_option maxHeartbeats 16000000 in
theorem agrees_any (N : Int) (A : Option Addr) (l : List Cl) (c : Nat) (w : World) (hcs : CA w.heap.size w A l) :
    Calls Try.prog 3 #[.int .i64 N, .slice A l.length c] w fun e w' => e = .returned (.bool true) ∧ Below w.heap.size w w' := by
  obtain ⟨M, hM⟩ : ∃ M, l.length = M := ⟨_, rfl⟩
  have HM := Lib.hid hM
  have HCs := Lib.hid hcs
  rw [hM]
  clear hcs hM
  have HGr := Lib.hid (fun W => great_any N A M c W)
  cases hg : greatB N M with
  | true =>
    rw [hg] at HGr
    go_enter Try.func3, Try.ntmps3
    go_wp2_with fail
    refine (alive_any _).mono ?_
    rintro e w2 ⟨rfl, b2⟩
    have HB2 := Lib.hid b2
    clear b2
    go_wp2_with fail
    refine (HGr.out _).mono ?_
    rintro e w3 ⟨rfl, rfl⟩
    go_wp2_with fail
    go_ret
    exact ⟨rfl, HB2.out⟩
  | false =>
    rw [hg] at HGr
    have hg' : N ≤ 100 ∧ M ≤ 60 := by unfold greatB at hg; simp at hg; omega
    obtain ⟨hN, hM60⟩ := hg'
    clear hg
    by_cases h0 : N < 0
    · have HNo := Lib.hid (fun W => new_no N W (.inl h0))
      clear h0
      go_enter Try.func3, Try.ntmps3
      go_wp2_with fail
      refine (alive_any _).mono ?_
      rintro e w2 ⟨rfl, b2⟩
      have HB2 := Lib.hid b2
      clear b2
      go_wp2_with fail
      refine (HGr.out _).mono ?_
      rintro e w3 ⟨rfl, rfl⟩
      go_wp2_with fail
      refine (HNo.out _).mono ?_
      rintro e w3 ⟨rfl, rfl⟩
      go_wp2_with fail
      go_ret
      exact ⟨rfl, HB2.out⟩
    have h0' : 0 ≤ N := by omega
    have HNew := Lib.hid (fun W => new_yes N W h0' (by omega))
    go_enter Try.func3, Try.ntmps3
    go_wp2_with fail
    refine (alive_any _).mono ?_
    rintro e w2 ⟨rfl, b2⟩
    have HB2 := Lib.hid b2
    have hs2 := b2.size
    clear b2
    go_wp2_with fail
    refine (HGr.out _).mono ?_
    rintro e w3 ⟨rfl, rfl⟩
    go_wp2_with fail
    refine (HNew.out _).mono ?_
    rintro e w3 ⟨q, p0, rfl, g0, _, fr0, b3⟩
    have HE0 : Hid (Rn w w3 q p0.qc p0.gc N 0 (zeros N)) := ⟨p0, _, _, _, _, ⟨g0, ⟨fun k hk => Nat.le_trans hs2 (fr0.1 k hk), Nat.le_trans hs2 fr0.2.1, Nat.le_trans hs2 fr0.2.2⟩, up_trans HB2.out b3⟩, by simp, rfl, rfl⟩
    clear g0 fr0 b3 hs2 HB2 HGr HNew h0
    go_wp2_with fail
    go_loopw [7] (fun i wr => ∃ j : Nat, j ≤ M ∧ i = .int .i64 j ∧ Rn w wr q p0.qc p0.gc N j (zeros N)) (fun i _ => M - (intOf i).toNat)
    case atStart => exact ⟨0, by omega, rfl, HE0.out⟩
    case round =>
      obtain ⟨j, hj, rfl, p, L, f, t, S, hE, hSl, hp1, hp2⟩ := hrel
      have HE := Lib.hid hE
      clear hE HE0
      by_cases hlt : j < M
      · have hjl : j < l.length := by rw [HM.out]; exact hlt
        obtain ⟨cb, co, rfl, _, c0, c1, c2, c3, c4, c5, c6⟩ := (HCs.out.below HE.out.bel) j hjl
        obtain ⟨x, hx⟩ : ∃ x, l[j] = x := ⟨_, rfl⟩
        rw [hx] at c0 c1 c2 c3 c4 c5 c6
        have HDo := Lib.hid (do_any x HE.out.gm (by omega))
        have HSt := Lib.hid (fun V' hb => HE.out.step (w' := V') (o := doO L f t S x) hb)
        have HS2 := Lib.hid (fun V' hb => Rn.step (V' := V') x HE.out hSl hp1 hp2 hb)
        unfold clV at HDo
        have j1 : (0 : Int) ≤ (j : Int) := by omega
        have j2 : (j : Int) < (M : Int) := by omega
        clear hx hjl hp1 hp2 HSt
        go_wp2_with fail
        refine HDo.out.mono ?_
        rintro e w5 ⟨rfl, h5⟩
        have HR5 := Lib.hid (HS2.out _ h5)
        clear h5 HDo HS2 c0 c1 c2 c3 c4 c5 c6
        go_wp2_with fail
        go_roundw
        case rel => exact ⟨j + 1, by omega, by go_num, HR5.out⟩
        case measure => simp [intOf]; omega
      · obtain rfl : j = M := by omega
        clear hp1 hp2 HCs hlt hj hM60 HM
        have HFr := Lib.hid (free_any HE.out.gm)
        have hsum := HE.out.gm.inv.fsum
        have h3 := HE.out.gm.inv.three
        have hn0 := HE.out.gm.inv.n0
        obtain ⟨n, rfl⟩ : ∃ n : Nat, N = n := ⟨N.toNat, by omega⟩
        rw [Int.toNat_natCast] at hsum h3
        go_wp2_with fail
        refine HFr.out.mono ?_
        rintro e w6 ⟨rfl, b6⟩
        have HE6 := Lib.hid (HE.out.below b6)
        have HB0 := Lib.hid (HE.out.below b6).bel
        clear b6 HFr HE
        obtain ⟨ha3, hal⟩ := acc_le h3
        have HL : Hid (∀ v, v ≤ 3 → acc f n v ≤ n) := hal
        have HA3 := Lib.hid ha3
        have HS := Lib.hid hsum
        have hfs : 0 ≤ Sp.fsum L ∧ Sp.fsum L ≤ n := by have := cw_le nz f n; omega
        have hn100 : n ≤ 100 := by omega
        have hIv := HE6.out.gm.inv
        have HIv := Lib.hid hIv
        have HCw : Hid (∀ v : Nat, v < 3 → Le.heldOf (Le.hd S) v = (cw (ver (v : Int)) f n : Int)) := fun v hv => by
          unfold Le.heldOf
          rw [if_pos (Le.kindB_iff.2 (by omega)), Int.toNat_natCast, hIv.bk v (by omega), Int.toNat_natCast]
        clear hal ha3 h3 hsum hIv hn0 hSl
        go_wp2_with fail
        go_loopw [8, 9, 10] (fun tt ct v wr => ∃ m : Nat, m ≤ 3 ∧ v = .int .i64 m ∧ tt = .int .i64 (Sp.fsum L + (acc f n m : Nat)) ∧ ct = .int .i64 (acc f n m : Nat) ∧ Below w6.heap.size w6 wr) (fun _ _ v _ => 3 - (intOf v).toNat)
        case atStart => exact ⟨0, by omega, rfl, by simp [acc], rfl, Below.refl _ _⟩
        case round =>
          obtain ⟨m, hm, rfl, rfl, rfl, hb⟩ := hrel
          have HBv := Lib.hid hb
          have HEv := Lib.hid (HE6.out.below hb)
          clear hb
          by_cases hm3 : m < 3
          · have hdm : decide ((m : Int) < 3) = true := by simp; omega
            have HSp := Lib.hid (spans_any (m : Int) HEv.out.gm)
            have hsl : (spL L f m).length = (vL L f m).length := by unfold spL vL; rw [List.length_map]
            obtain ⟨K, hK⟩ : ∃ K, (vL L f m).length = K := ⟨_, rfl⟩
            have HK := Lib.hid hK
            rw [hsl, hK] at HSp
            have hKn : K ≤ n := by
              have := spL_len L f m
              have := HIv.out.wf.len
              omega
            have HGet : Hid (∀ i, (h : i < (vL L f m).length) → (spL L f m).length = (vL L f m).length ∧ (spL L f m)[i]? = some ((vL L f m)[i].p)) := fun i hi => ⟨hsl, by unfold spL; rw [List.getElem?_map]; unfold vL at hi ⊢; rw [List.getElem?_eq_getElem hi]; rfl⟩
            have hcwm : (cw (ver (m : Int)) f n : Int) = ((vL L f m).map (·.n)).sum := by
              have := HIv.out.cw (ver (m : Int))
              rw [Int.toNat_natCast] at this
              rw [this]; rfl
            have hcl := cw_le (ver (m : Int)) f n
            have HCm := Lib.hid hcwm
            have HCum := Lib.hid (fun i (hi : i ≤ (vL L f m).length) => cum_le (l := vL L f m) (fun r hr => by have := (HIv.out.vrun hr).2.2.1; omega) hi)
            clear hsl hK hcwm
            go_wp2_with fail
            refine HSp.out.mono ?_
            rintro e w7 ⟨A1, ca1, rfl, at1, b7⟩
            have HE7 := Lib.hid (HEv.out.below b7)
            have HB7 := Lib.hid (up_trans HBv.out b7)
            have HA1 := Lib.hid at1
            clear at1 b7 HSp HEv
            go_wp2_with fail
            go_loopw [12, 13] (fun nn i wr => ∃ i' : Nat, i' ≤ K ∧ i = .int .i64 i' ∧ nn = .int .i64 (cum (vL L f m) i') ∧ Below w7.heap.size w7 wr) (fun _ i _ => K - (intOf i).toNat)
            case atStart => exact ⟨0, by omega, rfl, by rw [cum_zero], Below.refl _ _⟩
            case round =>
              obtain ⟨i, hi, rfl, rfl, hb⟩ := hrel
              have HBi := Lib.hid hb
              clear hb
              by_cases hiK : i < K
              · have hil : i < (vL L f m).length := by rw [HK.out]; exact hiK
                obtain ⟨hl1, hl2⟩ := HGet.out i hil
                have hcs := HCum.out i (by omega)
                have hcs2 := HCum.out (i + 1) (by omega)
                have hcu := cum_succ hil
                obtain ⟨v1, v2, v3, v4, v5, v6, v7, v8⟩ := HIv.out.vrun (List.getElem_mem hil)
                rw [← HCm.out] at hcs hcs2
                have hcell := (HA1.out.below HBi.out)
                obtain ⟨b, o, rfl, hbl, q0⟩ := hcell.int (t := i) (by rw [hl1]; exact hil)
                have hpe : (spL L f m)[i]'(by rw [hl1]; exact hil) = (vL L f m)[i].p := by
                  have := hl2
                  rw [List.getElem?_eq_getElem (by rw [hl1]; exact hil)] at this
                  exact Option.some.inj this
                rw [hpe] at q0
                have HQ : Hid (∀ V, Below w7.heap.size w7 V → V.cell? ⟨b, o + i, none⟩ = some (.int .i64 (vL L f m)[i].p)) := fun V hV => by
                  have hc2 := HA1.out.below hV
                  obtain ⟨b', o', e, _, q0'⟩ := hc2.int (t := i) (by rw [hl1]; exact hil)
                  cases e
                  rw [hpe] at q0'; exact q0'
                have HLen := Lib.hid (len_any (vL L f m)[i].p (HE7.out.below HBi.out).gm)
                rw [v1] at HLen
                have HCU := Lib.hid hcu
                have HV5 := Lib.hid v5
                obtain ⟨r, hr⟩ : ∃ r, (vL L f m)[i] = r := ⟨_, rfl⟩
                rw [hr] at v2 v3 v4 v6 v7 v8 hcu
                simp only [hr] at q0 HQ HLen HCU HV5
                obtain ⟨a, ha⟩ : ∃ a : Nat, r.p = a := ⟨r.p.toNat, by omega⟩
                obtain ⟨kk, hkk⟩ : ∃ kk : Nat, r.n = kk := ⟨r.n.toNat, by omega⟩
                obtain ⟨W, hW⟩ : ∃ W, f r.p.toNat = W := ⟨_, rfl⟩
                simp only [ha, Int.toNat_natCast] at hW
                rw [ha, Int.toNat_natCast, hW] at v6 v7 v8
                simp only [ha, hkk, Int.toNat_natCast, hW] at HV5
                rw [ha] at v4
                rw [hkk] at v3 v4 hcu HCU HLen
                rw [ha] at q0 HQ HLen
                have i1 := pos_of i
                have i2 : (i : Int) < (K : Int) := by omega
                have hwr1 := i64_in (cum (vL L f m) i + (kk : Int)) (by omega) (by omega)
                have hwr2 := i64_in ((a : Int) + (kk : Int)) (by omega) (by omega)
                have HW : Hid (Ra.spanOf W = a ∧ Ra.verOf W = m ∧ W ≠ 0) := ⟨v7, v8, v6⟩
                generalize cum (vL L f m) i = cu at *
                clear hl1 hl2 hcs hcell hpe v1 v2 v5 v6 v7 v8 hil ha hkk hr hW hcs2
                go_wp2_with fail
                refine HLen.out.mono ?_
                rintro e w8 ⟨rfl, b8⟩
                have HB8 := Lib.hid (up_trans HBi.out b8)
                have q8 := HQ.out _ HB8.out
                clear b8 HLen q0
                go_wp2_with fail
                go_loopw [15] (fun pp wr => ∃ d : Nat, d ≤ kk ∧ pp = .int .i64 ((a : Int) + (d : Int)) ∧ Below w7.heap.size w7 wr) (fun pp _ => a + kk - (intOf pp).toNat)
                case atStart => exact ⟨0, by omega, by simp, HB8.out⟩
                case round =>
                  obtain ⟨d, hd, rfl, hb⟩ := hrel
                  have HBd := Lib.hid hb
                  have q9 := HQ.out _ HBd.out
                  clear hb q8
                  by_cases hdk : d < kk
                  · have hfd := HV5.out (a + d) (by omega) (by omega)
                    have e1 : (256 * ((a : Int) + (d : Int))) / 256 = ((a + d : Nat) : Int) := by omega
                    have e2 : (256 * ((a : Int) + (d : Int)) + 255) / 256 = ((a + d : Nat) : Int) := by omega
                    have hX : Ra.wAt (n : Int) f ((a + d : Nat) : Int) = W := by
                      unfold Ra.wAt
                      rw [if_pos (Ra.inB_iff.2 (by omega)), Int.toNat_natCast, hfd.1]
                    have hWn : (W != 0) = true := by simpa using HW.out.2.2
                    have HAt1 : Hid (∀ V, Below w7.heap.size w7 V → Calls Try.prog 11 #[.pointer (some ⟨q, 0, none⟩), .int .i64 (256 * ((a : Int) + (d : Int)))] V fun e w' => e = .returned (.tuple #[.agg #[.int .i64 a, .int .i64 m, .int .i64 (Ra.clsOf W), .int .i64 (Ra.staOf W)], .bool true]) ∧ Below V.heap.size V w') := fun V hV => by
                      have := at_any (256 * ((a : Int) + (d : Int))) (by unfold Ra.I64; omega) (HE7.out.below hV).gm
                      rw [e1, hX, hWn] at this
                      unfold Ra.entV at this
                      rw [HW.out.1, HW.out.2.1] at this
                      exact this
                    have HAt2 : Hid (∀ V, Below w7.heap.size w7 V → Calls Try.prog 11 #[.pointer (some ⟨q, 0, none⟩), .int .i64 (256 * ((a : Int) + (d : Int)) + 255)] V fun e w' => e = .returned (.tuple #[.agg #[.int .i64 a, .int .i64 m, .int .i64 (Ra.clsOf W), .int .i64 (Ra.staOf W)], .bool true]) ∧ Below V.heap.size V w') := fun V hV => by
                      have := at_any (256 * ((a : Int) + (d : Int)) + 255) (by unfold Ra.I64; omega) (HE7.out.below hV).gm
                      rw [e2, hX, hWn] at this
                      unfold Ra.entV at this
                      rw [HW.out.1, HW.out.2.1] at this
                      exact this
                    have HLn2 : Hid (0 < d → ∀ V, Below w7.heap.size w7 V → Calls Try.prog 10 #[.pointer (some ⟨q, 0, none⟩), .int .i64 ((a : Int) + (d : Int))] V fun e w' => e = .returned (.int .i64 0) ∧ Below V.heap.size V w') := fun h0 V hV => by
                      have := len_any ((a : Int) + (d : Int)) (HE7.out.below hV).gm
                      have h5 := hfd.2 (by omega)
                      have e3 : ((a + d : Nat) : Int) = (a : Int) + (d : Int) := by omega
                      rw [e3] at h5
                      rw [h5] at this
                      exact this
                    have hwr3 := i64_in (256 * ((a : Int) + (d : Int))) (by omega) (by omega)
                    have hwr4 := i64_in (256 * ((a : Int) + (d : Int)) + 255) (by omega) (by omega)
                    have hwr5 := i64_in ((a : Int) + (d : Int) + 1) (by omega) (by omega)
                    have hdd : decide ((a : Int) + (d : Int) < (a : Int) + (kk : Int)) = true := by simp; omega
                    generalize Ra.clsOf W = cl at *
                    generalize Ra.staOf W = st at *
                    clear e1 e2 hX hWn hfd
                    go_wp2_with fail
                    refine (HAt1.out _ HBd.out).mono ?_
                    rintro e w9 ⟨rfl, b9⟩
                    obtain ⟨wa, hwa⟩ : ∃ wa, w9.alloc (.cells #[.int .i64 a, .int .i64 m, .int .i64 cl, .int .i64 st] 38) = wa := ⟨_, rfl⟩
                    have ba : Below wr.heap.size wr wa := by rw [← hwa]; exact up_alloc b9 _
                    have ka : Blk wa w9.heap.size [.int .i64 a, .int .i64 m, .int .i64 cl, .int .i64 st] 38 := by rw [← hwa]; exact Blk.new w9 _ 38
                    obtain ⟨bx, hbx⟩ : ∃ bx, w9.heap.size = bx := ⟨_, rfl⟩
                    rw [hbx] at ka
                    have HKa := Lib.hid ka
                    have HBa := Lib.hid (up_trans HBd.out ba)
                    clear b9 ba ka
                    go_wp2_with fail
                    clear hwa hbx
                    refine (HAt2.out _ HBa.out).mono ?_
                    rintro e w10 ⟨rfl, b10⟩
                    obtain ⟨wb, hwb⟩ : ∃ wb, w10.alloc (.cells #[.int .i64 a, .int .i64 m, .int .i64 cl, .int .i64 st] 38) = wb := ⟨_, rfl⟩
                    have bb : Below wa.heap.size wa wb := by rw [← hwb]; exact up_alloc b10 _
                    have kb : Blk wb w10.heap.size [.int .i64 a, .int .i64 m, .int .i64 cl, .int .i64 st] 38 := by rw [← hwb]; exact Blk.new w10 _ 38
                    obtain ⟨bz, hbz⟩ : ∃ bz, w10.heap.size = bz := ⟨_, rfl⟩
                    rw [hbz] at kb
                    have HKb := Lib.hid kb
                    have HKa2 := Lib.hid (HKa.out.below bb)
                    have HBb := Lib.hid (up_trans HBa.out bb)
                    clear b10 bb kb HAt1 HAt2 HKa q9
                    have SB := Lib.hid (fun (V : World) (hV : Below wb.heap.size wb V) => (show V.cell? ⟨b, o + i, none⟩ = some (.int .i64 a) ∧ (V.cell? ⟨bx, 0, none⟩ = some (.int .i64 a) ∧ V.cell? ⟨bx, 1, none⟩ = some (.int .i64 m) ∧ V.cell? ⟨bx, 2, none⟩ = some (.int .i64 cl) ∧ V.cell? ⟨bx, 3, none⟩ = some (.int .i64 st)) ∧ (V.cell? ⟨bz, 0, none⟩ = some (.int .i64 a) ∧ V.cell? ⟨bz, 1, none⟩ = some (.int .i64 m) ∧ V.cell? ⟨bz, 2, none⟩ = some (.int .i64 cl) ∧ V.cell? ⟨bz, 3, none⟩ = some (.int .i64 st)) from
                      ⟨HQ.out _ (up_trans HBb.out hV), ⟨Sp.Blk.cell (HKa2.out.below hV), Sp.Blk.cell (HKa2.out.below hV), Sp.Blk.cell (HKa2.out.below hV), Sp.Blk.cell (HKa2.out.below hV)⟩, Sp.Blk.cell (HKb.out.below hV), Sp.Blk.cell (HKb.out.below hV), Sp.Blk.cell (HKb.out.below hV), Sp.Blk.cell (HKb.out.below hV)⟩))
                    rcases Nat.eq_zero_or_pos d with h0 | h0
                    · have dd : decide ((a : Int) < (a : Int) + (d : Int)) = false := by simp; omega
                      go_upto_region 29 with fail
                      clear hwb hbz
                      refine region_in (fun W => Below wb.heap.size wb W) (by kernel_rfl) (by kernel_rfl) (Below.refl _ wb).drew ?_
                      intro ι ine fw hS hT
                      have HSS := Lib.hid hS
                      have s0 := fun n => (SB.out _ (HSS.out n)).1
                      have s1 := fun n => (SB.out _ (HSS.out n)).2.1.1
                      have s2 := fun n => (SB.out _ (HSS.out n)).2.1.2.1
                      have s3 := fun n => (SB.out _ (HSS.out n)).2.1.2.2.1
                      have s4 := fun n => (SB.out _ (HSS.out n)).2.1.2.2.2
                      have s5 := fun n => (SB.out _ (HSS.out n)).2.2.1
                      have s6 := fun n => (SB.out _ (HSS.out n)).2.2.2.1
                      have s7 := fun n => (SB.out _ (HSS.out n)).2.2.2.2.1
                      have s8 := fun n => (SB.out _ (HSS.out n)).2.2.2.2.2
                      clear hS hT
                      repeat (go_big_quiet_step (fail))
                      refine wpQuiet_nil ?_
                      rintro _ ⟨n1, rfl⟩
                      have B9 := Lib.hid (up_trans HBb.out (HSS.out n1))
                      clear s0 s1 s2 s3 s4 s5 s6 s7 s8
                      go_wp2_with fail
                      go_roundw
                      case rel => exact ⟨d + 1, by omega, by (congr 1) <;> omega, B9.out⟩
                      case measure => simp [intOf]; omega
                    · have dd : decide ((a : Int) < (a : Int) + (d : Int)) = true := by simp; omega
                      go_upto_region 29 with fail
                      clear hwb hbz
                      refine region_in (fun W => Below wb.heap.size wb W) (by kernel_rfl) (by kernel_rfl) (Below.refl _ wb).drew ?_
                      intro ι ine fw hS hT
                      have HSS := Lib.hid hS
                      have s0 := fun n => (SB.out _ (HSS.out n)).1
                      have s1 := fun n => (SB.out _ (HSS.out n)).2.1.1
                      have s2 := fun n => (SB.out _ (HSS.out n)).2.1.2.1
                      have s3 := fun n => (SB.out _ (HSS.out n)).2.1.2.2.1
                      have s4 := fun n => (SB.out _ (HSS.out n)).2.1.2.2.2
                      have s5 := fun n => (SB.out _ (HSS.out n)).2.2.1
                      have s6 := fun n => (SB.out _ (HSS.out n)).2.2.2.1
                      have s7 := fun n => (SB.out _ (HSS.out n)).2.2.2.2.1
                      have s8 := fun n => (SB.out _ (HSS.out n)).2.2.2.2.2
                      have HC := Lib.hid (fun n => (HLn2.out h0 _ (up_trans HBb.out (HSS.out n))).mono fun e w' ⟨he, hb⟩ => show _ ∧ ∃ j, w' = fw j from ⟨he, hT w' (up_trans (HSS.out n) hb)⟩)
                      clear hS hT
                      repeat (go_big_quiet_step ((go_at_call 10; exact HC.out _)))
                      refine wpQuiet_nil ?_
                      rintro _ ⟨n1, rfl⟩
                      have B9 := Lib.hid (up_trans HBb.out (HSS.out n1))
                      clear s0 s1 s2 s3 s4 s5 s6 s7 s8 HC
                      go_wp2_with fail
                      go_roundw
                      case rel => exact ⟨d + 1, by omega, by (congr 1) <;> omega, B9.out⟩
                      case measure => simp [intOf]; omega
                  · obtain rfl : d = kk := by omega
                    have hdd : decide ((a : Int) + (d : Int) < (a : Int) + (d : Int)) = false := by simp
                    clear hd hdk
                    go_wp2_with fail
                    go_roundw
                    case rel => exact ⟨i + 1, by omega, by go_num, by rw [HCU.out], HBd.out⟩
                    case measure => simp [intOf]; omega
              · obtain rfl : i = K := by omega
                have hcu : cum (vL L f m) i = (cw (ver (m : Int)) f n : Int) := by rw [← HK.out, cum_all, HCm.out]
                rw [hcu]
                have HHe := Lib.hid (held_any (m : Int) (HE7.out.below HBi.out).gm)
                rw [HCw.out m hm3] at HHe
                have hsl : (spL L f m).length = i := by rw [← HK.out]; unfold spL vL; rw [List.length_map]
                have HI0 := Lib.hid (i0_any A1 (spL L f m) i ca1 _ (HA1.out.up HBi.out) hsl)
                have hz : 0 ≤ (spL L f m).headD 0 := by
                  unfold spL
                  cases hv : L.filter (fun r => ver (m : Int) (f r.p.toNat)) with
                  | nil => simp
                  | cons r rs =>
                    have hr : r ∈ vL L f m := by unfold vL; rw [hv]; exact List.mem_cons_self ..
                    exact (HIv.out.vrun hr).2.1
                have dz : decide ((spL L f m).headD 0 < 0) = false := by simp; simpa using hz
                generalize (spL L f m).headD 0 = z at *
                have hacc : acc f n (m + 1) = acc f n m + cw (ver (m : Int)) f n := rfl
                have hle := HL.out (m + 1) (by omega)
                have HAc := Lib.hid hacc
                have BB := Lib.hid (up_trans HB7.out HBi.out)
                have hcb := cw_le (ver (m : Int)) f n
                rw [hacc] at hle
                have hw1 := i64_in (Sp.fsum L + (acc f n m : Int) + (cw (ver (m : Int)) f n : Int)) (by omega) (by omega)
                have hw2 := i64_in ((acc f n m : Int) + (cw (ver (m : Int)) f n : Int)) (by omega) (by omega)
                generalize cw (ver (m : Int)) f n = cwm at *
                have dn : ((cwm : Int) != (cwm : Int)) = false := by simp
                clear hcu hsl hz hacc hcb HCum HGet
                go_wp2_with (first
                  | (go_at_call 12; refine HHe.out.mono ?_; rintro e w' ⟨rfl, rfl⟩)
                  | (go_at_call 13; refine HI0.out.mono ?_; rintro e w' ⟨rfl, rfl⟩))
                go_roundw
                case rel => exact ⟨m + 1, by omega, by go_num, by (rw [HAc.out]; (congr 1) <;> omega), by (rw [HAc.out]; (congr 1) <;> omega), BB.out⟩
                case measure => simp [intOf]; omega
          · have hdm : decide ((m : Int) < 3) = false := by simp; omega
            have HE8 := Lib.hid (HE6.out.below HBv.out)
            have em : acc f n m = cw nz f n := by rw [show m = 3 by omega]; exact HA3.out
            rw [em]
            clear HEv hm3 hm em
            go_wp2_with fail
            go_loopw [20, 21] (fun en pp vr => ∃ k : Nat, k ≤ n ∧ pp = .int .i64 k ∧ en = .int .i64 (cw nz f k : Nat) ∧ Below wr.heap.size wr vr) (fun _ pp _ => n - (intOf pp).toNat)
            case atStart => exact ⟨0, by omega, rfl, rfl, Below.refl _ _⟩
            case round =>
              obtain ⟨k, hk, rfl, rfl, hb⟩ := hrel
              have HBk := Lib.hid hb
              have HEk := Lib.hid (HE8.out.below hb)
              clear hb
              by_cases hkn : k < n
              · have e1 : (256 * (k : Int)) / 256 = (k : Int) := by omega
                have hX : Ra.wAt (n : Int) f (k : Int) = f k := by unfold Ra.wAt; rw [if_pos (Ra.inB_iff.2 (by omega)), Int.toNat_natCast]
                have HAt := at_any (256 * (k : Int)) (by unfold Ra.I64; omega) HEk.out.gm
                rw [e1, hX] at HAt
                unfold Ra.entV at HAt
                have HAt := Lib.hid HAt
                have hst : cw nz f (k + 1) = cw nz f k + (if (f k != 0) = true then 1 else 0) := rfl
                have HST := Lib.hid hst
                have hle := cw_le nz f k
                have k1 := pos_of k
                have k2 : (k : Int) < (n : Int) := by omega
                have hw1 := i64_in (256 * (k : Int)) (by omega) (by omega)
                have hw2 := i64_in ((k : Int) + 1) (by omega) (by omega)
                have hw3 := i64_in ((cw nz f k : Int) + 1) (by omega) (by omega)
                generalize f k = X at *
                clear e1 hX hst
                cases hn0 : (X != 0) with
                | false =>
                  rw [hn0] at HAt HST
                  have HS2 : Hid (cw nz f (k + 1) = cw nz f k) := by show _ = _; rw [HST.out]; simp
                  go_wp2_with fail
                  refine HAt.out.mono ?_
                  rintro e w9 ⟨rfl, b9⟩
                  have B9 := Lib.hid (up_trans HBk.out (up_alloc b9 (.cells #[.int .i64 (Ra.spanOf X), .int .i64 (Ra.verOf X), .int .i64 (Ra.clsOf X), .int .i64 (Ra.staOf X)] 38)))
                  clear b9
                  go_wp2_with fail
                  go_roundw
                  case rel => exact ⟨k + 1, by omega, by go_num, by rw [HS2.out], B9.out⟩
                  case measure => simp [intOf]; omega
                | true =>
                  rw [hn0] at HAt HST
                  have HS2 : Hid (cw nz f (k + 1) = cw nz f k + 1) := by show _ = _; rw [HST.out]; simp
                  go_wp2_with fail
                  refine HAt.out.mono ?_
                  rintro e w9 ⟨rfl, b9⟩
                  have B9 := Lib.hid (up_trans HBk.out (up_alloc b9 (.cells #[.int .i64 (Ra.spanOf X), .int .i64 (Ra.verOf X), .int .i64 (Ra.clsOf X), .int .i64 (Ra.staOf X)] 38)))
                  clear b9
                  go_wp2_with fail
                  go_roundw
                  case rel => exact ⟨k + 1, by omega, by go_num, by rw [HS2.out]; first | rfl | (push_cast; rfl), B9.out⟩
                  case measure => simp [intOf]; omega
              · obtain rfl : k = n := by omega
                have HPk := Lib.hid (peak_any HEk.out.gm)
                have hp1 := Le.pk_hd HIv.out.bw
                rw [HIv.out.tot, Int.toNat_natCast] at hp1
                have hp2 := (Le.pk_bd HIv.out.n0 HIv.out.bw.all).2
                have d1 : ((Sp.fsum L + (cw nz f k : Int)) == (k : Int)) = true := by have := HS.out; simp; exact this
                have d2 : ((cw nz f k : Int) == (cw nz f k : Int)) = true := by simp
                have d3 : decide ((cw nz f k : Int) ≤ Le.pk S) = true := by simpa using hp1
                have d4 : decide (Le.pk S ≤ (k : Int)) = true := by simpa using hp2
                generalize Le.pk S = pkS at *
                generalize cw nz f k = cz at *
                generalize Sp.fsum L = fs at *
                clear hp1 hp2
                go_wp2_with (go_at_call 14; refine HPk.out.mono ?_; rintro e w' ⟨rfl, rfl⟩)
                go_ret
                exact ⟨rfl, HEk.out.bel⟩
end Go.Proofs.Ytjnknnakllbaaaa.Gr
