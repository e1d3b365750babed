/-
  The walk of the statement on marks.
-/
import Derived.Test.YtjnknnakllbaaaaGreatGrTwo
import Derived.Test.YtjnknnakllbaaaaGreatGrSum
namespace Go.Proofs.YtjnknnakllbaaaaGreat.Gr
set_option maxRecDepth 100000
open Go.RowKit
section
variable {N : Int} {L : List Sp.Rn} {f : Ra.Ws} {S : List Le.Row}
theorem mark_L (L : List Sp.Rn) (f : Ra.Ws) (t : Int) (S : List Le.Row) (x v c s : Int) : (markO L f t S x v c s).L = L := by
  unfold markO
  repeat' split
  all_goals rfl
/-- What a mark that has no error is. -/
theorem mark_yes {x v c s t : Int} (hx : Sp.gi L x < L.length) (hm : mayB v c s = true) :
    markO L f t S x v c s = ⟨0, 0, L, Ra.fill f x.toNat (Sp.gvv L x).toNat (Ra.wd x v c s (Ra.nx t)), Ra.nx t, Le.shF (Le.hd S) (Ra.verOf (f x.toNat)) v (Sp.gvv L x) :: S⟩ := by
  unfold markO; rw [if_pos hx, hm]; rfl
theorem mark_words (h : Inv N L f S) {x v c s t : Int} (hx : Sp.gi L x < L.length) (hm : mayB v c s = true) :
    Ra.spanOf (Ra.wd x v c s t) = x ∧ Ra.verOf (Ra.wd x v c s t) = v ∧ Ra.clsOf (Ra.wd x v c s t) = c ∧ Ra.staOf (Ra.wd x v c s t) = s := by
  obtain ⟨_, _, e4, e5, e6, _⟩ := h.gi hx
  obtain ⟨v0, v2, c0, c6, s0, s1⟩ := mayB_iff.1 hm
  have := h.n1
  exact Ra.wd_parts (Ra.okB_iff.2 (by omega))
theorem wd_pos {x v c s t : Int} (h : 0 ≤ x ∧ 0 ≤ v ∧ 0 ≤ c ∧ 0 ≤ s ∧ 0 ≤ t) : Ra.wd x v c s t ≠ 0 := by unfold Ra.wd; omega
theorem mark_back (h : Inv N L f S) {x : Int} (hx : Sp.gi L x < L.length) : mayB (Ra.verOf (f x.toNat)) (Ra.clsOf (f x.toNat)) (Ra.staOf (f x.toNat)) = true := by
  obtain ⟨_, _, w3, w4⟩ := h.word hx
  have hs := h.sta hx
  have hp := Ra.part_bd (f x.toNat)
  exact mayB_iff.2 (by omega)
end
set_option maxHeartbeats 16000000 in
theorem marks_any (N : Int) (A1 : Option Addr) (l1 : List Cl) (c1 : Nat) (x v cl s : Int) (w : World) (hcs1 : CA w.heap.size w A1 l1) (hx64 : Ra.I64 x) :
    Calls Tryz.prog 4 #[.int .i64 N, .slice A1 l1.length c1, .int .i64 x, .int .i64 v, .int .i64 cl, .int .i64 s] w fun e w' => e = .returned (.bool true) ∧ Below w.heap.size w w' := by
  obtain ⟨M1, hM1⟩ : ∃ M, l1.length = M := ⟨_, rfl⟩
  have HM1 := Lib.hid hM1
  have HC1 := Lib.hid hcs1
  rw [hM1]
  clear hcs1 hM1
  have HGr := Lib.hid (fun W => great_any N A1 M1 c1 W)
  cases hG : greatB N M1 with
  | true =>
    rw [hG] at HGr
    go_enter Tryz.func4, Tryz.ntmps4
    go_wp2_with fail
    refine (alive_any _).mono ?_
    rintro e w2 ⟨rfl, b2⟩
    have HB2 := Lib.hid b2
    clear b2
    go_wp2_with fail
    refine (HGr.out _).mono ?_
    rintro e w3 ⟨rfl, rfl⟩
    go_wp2_with fail
    go_ret
    exact ⟨rfl, HB2.out⟩
  | false =>
  rw [hG] at HGr
  have hg' : N ≤ 100 ∧ M1 ≤ 60 := by
    have h := hG
    unfold greatB at h
    rw [Bool.or_eq_false_iff, decide_eq_false_iff_not, decide_eq_false_iff_not] at h
    omega
  obtain ⟨hN, hM160⟩ := hg'
  clear hG
  by_cases h0 : N < 0
  · have HNo := Lib.hid (fun W => new_no N W (.inl h0))
    clear h0
    go_enter Tryz.func4, Tryz.ntmps4
    go_wp2_with fail
    refine (alive_any _).mono ?_
    rintro e w2 ⟨rfl, b2⟩
    have HB2 := Lib.hid b2
    clear b2
    go_wp2_with fail
    refine (HGr.out _).mono ?_
    rintro e w3 ⟨rfl, rfl⟩
    go_wp2_with fail
    refine (HNo.out _).mono ?_
    rintro e w3 ⟨rfl, rfl⟩
    go_wp2_with fail
    go_ret
    exact ⟨rfl, HB2.out⟩
  have h0' : 0 ≤ N := by omega
  have HNew := Lib.hid (fun W => new_yes N W h0' (by omega))
  go_enter Tryz.func4, Tryz.ntmps4
  go_wp2_with fail
  refine (alive_any _).mono ?_
  rintro e w2 ⟨rfl, b2⟩
  have HB2 := Lib.hid b2
  have hs2 := b2.size
  clear b2
  go_wp2_with fail
  refine (HGr.out _).mono ?_
  rintro e w3 ⟨rfl, rfl⟩
  go_wp2_with fail
  refine (HNew.out _).mono ?_
  rintro e w3 ⟨q, p0, rfl, g0, _, fr0, b3⟩
  have HR0 : Hid (Rn w w3 q p0.qc p0.gc N 0 (zeros N)) := ⟨p0, _, _, _, _, ⟨g0, ⟨fun k hk => Nat.le_trans hs2 (fr0.1 k hk), Nat.le_trans hs2 fr0.2.1, Nat.le_trans hs2 fr0.2.2⟩, up_trans HB2.out b3⟩, by simp, by omega, rfl, rfl⟩
  clear g0 fr0 b3 hs2 HB2 HGr HNew h0
  go_wp2_with fail
  go_loopw [15] (fun i wr => ∃ j : Nat, j ≤ M1 ∧ i = .int .i64 j ∧ Rn w wr q p0.qc p0.gc N j (zeros N)) (fun i _ => M1 - (intOf i).toNat)
  case atStart => exact ⟨0, by omega, rfl, HR0.out⟩
  case round =>
    obtain ⟨j, hj, rfl, p, L, f, t, S, hE, hSl, ht, hp1, hp2⟩ := hrel
    have HE := Lib.hid hE
    clear hE HR0
    by_cases hlt : j < M1
    · have hjl : j < l1.length := by rw [HM1.out]; exact hlt
      obtain ⟨cb, co, rfl, _, c0, c1, c2, c3, c4, c5, c6⟩ := (HC1.out.below HE.out.bel) j hjl
      obtain ⟨y, hy⟩ : ∃ y, l1[j] = y := ⟨_, rfl⟩
      rw [hy] at c0 c1 c2 c3 c4 c5 c6
      have HDo := Lib.hid (do_any y HE.out.gm (by omega))
      have HS2 := Lib.hid (fun V' hb => Rn.step (V' := V') y HE.out hSl ht hp1 hp2 hb)
      unfold clV at HDo
      have j1 : (0 : Int) ≤ (j : Int) := by omega
      have j2 : (j : Int) < (M1 : Int) := by omega
      clear hy hjl hp1 hp2 ht
      go_wp2_with fail
      refine HDo.out.mono ?_
      rintro e w5 ⟨rfl, h5⟩
      have HR5 := Lib.hid (HS2.out _ h5)
      clear h5 HDo HS2 c0 c1 c2 c3 c4 c5 c6
      go_wp2_with fail
      go_roundw
      case rel => exact ⟨j + 1, by omega, by go_num, HR5.out⟩
      case measure => simp [intOf]; omega
    · obtain rfl : j = M1 := by omega
      have HCl := Lib.hid (clone_any HE.out.gm)
      have HSl : Hid (S.length ≤ 61 ∧ (0 ≤ t ∧ t ≤ 60)) := ⟨by omega, by omega⟩
      clear hp1 hp2 HC1 hlt hj HM1 hSl ht hM160
      go_wp2_with fail
      refine HCl.out.mono ?_
      rintro e w5 ⟨q2, p2, rfl, g5, hq5, fr5, b5⟩
      have HT5 := Lib.hid (Tw.made HE.out.gm hq5 fr5 g5)
      have HE5 := Lib.hid (HE.out.below b5)
      have hMk := mark_any x v cl s HE5.out.gm (by have := HSl.out.1; omega)
      have hL := mark_L L f t S x v cl s
      clear g5 hq5 fr5 b5 HCl HE
      by_cases hgi : Sp.gi L x < L.length
      · obtain ⟨y1, y2, y3, y4, y5, y6⟩ := HE5.out.gm.inv.gi hgi
        cases hm : mayB v cl s with
        | false =>
          have e1 : markO L f t S x v cl s = ⟨0, 11, L, f, t, S⟩ := by unfold markO; rw [if_pos hgi, hm]; rfl
          rw [e1] at hMk
          have HMk := Lib.hid hMk
          have hn : decide (0 < Sp.gvv L x) = true := by simp; omega
          clear hMk hL e1 y1 y2 y3 y4 y5 y6 hm hgi
          go_wp2_with fail
          refine HMk.out.mono ?_
          rintro e w6 ⟨rfl, h6⟩
          obtain ⟨g', m', g6, f6, n6⟩ := h6
          have HT6 := Lib.hid (HT5.out.step f6 n6 rfl)
          have HB6 : Hid (Below w.heap.size w w6) := HE5.out.bel.trans (f6.below HE5.out.fresh.1 HE5.out.bel.size)
          have HLn := Lib.hid (len_any x g6)
          have HG6 := Lib.hid g6
          clear f6 n6 HMk g6 HT5 HE5
          generalize Sp.gvv L x = n at *
          go_wp2_with fail
          refine HLn.out.mono ?_
          rintro e w7 ⟨rfl, b7⟩
          have HT7 := Lib.hid (HT6.out.below b7)
          have HB7 := Lib.hid (up_trans HB6.out b7)
          have HS1 := Lib.hid (stamp_any (HG6.out.below b7))
          have HS2 := Lib.hid (stamp_any HT7.out.gm)
          have dt : (t == t) = true := by simp
          clear b7
          go_wp2_with (first
            | (go_at_call_of 12 (Value.pointer (some ⟨q, 0, none⟩)); refine HS1.out.mono ?_; rintro e w' ⟨rfl, rfl⟩)
            | (go_at_call_of 12 (Value.pointer (some ⟨q2, 0, none⟩)); refine HS2.out.mono ?_; rintro e w' ⟨rfl, rfl⟩))
          go_ret
          exact ⟨rfl, HB7.out⟩
        | true =>
          have e1 := mark_yes (L := L) (f := f) (t := t) (S := S) hgi hm
          rw [e1] at hMk
          dsimp only at hMk
          have HMk := Lib.hid hMk
          have hIv := HE5.out.gm.inv
          obtain ⟨z1, z2, z3, z4⟩ := mark_words (t := Ra.nx t) hIv hgi hm
          obtain ⟨v0, v2, c0, c6, s0, s1⟩ := mayB_iff.1 hm
          obtain ⟨u1, u2, u3, u4⟩ := hIv.word hgi
          have hmb := mark_back hIv hgi
          have hnx : Ra.nx t = t + 1 := by have := HSl.out.2; unfold Ra.nx; omega
          have hW1 : Ra.wd x v cl s (Ra.nx t) ≠ 0 := wd_pos (by have := HSl.out.2; omega)
          have hsame : ∀ i : Nat, x ≤ i → (i : Int) < x + Sp.gvv L x → f i = f x.toNat := fun i h1 h2 => hIv.same hgi h1 h2
          have hi1 : Inv N L (Ra.fill f x.toNat (Sp.gvv L x).toNat (Ra.wd x v cl s (Ra.nx t))) (Le.shF (Le.hd S) (Ra.verOf (f x.toNat)) v (Sp.gvv L x) :: S) := (hIv.mark hgi ⟨v0, v2⟩ ⟨c0, by omega⟩ ⟨s0, s1⟩).2
          obtain ⟨W, hW⟩ : ∃ W, f x.toNat = W := ⟨_, rfl⟩
          obtain ⟨W1, hWd⟩ : ∃ W1, Ra.wd x v cl s (Ra.nx t) = W1 := ⟨_, rfl⟩
          obtain ⟨n, hn⟩ : ∃ n, Sp.gvv L x = n := ⟨_, rfl⟩
          rw [hWd] at z1 z2 z3 z4 hW1
          rw [hW] at u1 u2 u3 u4 hmb
          simp only [hW, hn] at hsame
          rw [hW, hWd, hn] at HMk hi1
          rw [hn] at y4 y5
          obtain ⟨f1, hf1⟩ : ∃ f1, Ra.fill f x.toNat n.toNat W1 = f1 := ⟨_, rfl⟩
          obtain ⟨S1, hS1⟩ : ∃ S1, Le.shF (Le.hd S) (Ra.verOf W) v n :: S = S1 := ⟨_, rfl⟩
          rw [hf1, hS1, hnx] at HMk
          rw [hf1, hS1] at hi1
          have hfin : ∀ i : Nat, x ≤ i → (i : Int) < x + n → f1 i = W1 := fun i h1 h2 => by rw [← hf1]; exact fill_at _ (by omega) (by omega)
          have hfout : ∀ i : Nat, ¬ (x ≤ i ∧ (i : Int) < x + n) → f1 i = f i := fun i h1 => by rw [← hf1]; exact fill_far _ (by omega)
          have hSl1 : S1.length ≤ 62 := by rw [← hS1]; have := HSl.out.1; simp; omega
          have HZ : Hid (Ra.spanOf W1 = x ∧ Ra.verOf W1 = v ∧ Ra.clsOf W1 = cl ∧ Ra.staOf W1 = s ∧ W1 ≠ 0) := ⟨z1, z2, z3, z4, hW1⟩
          have HU : Hid (Ra.spanOf W = x ∧ W ≠ 0 ∧ f x.toNat = W) := ⟨u2, u1, hW⟩
          have HFi := Lib.hid hfin
          have HFo := Lib.hid hfout
          have HSm := Lib.hid hsame
          have HI1 := Lib.hid hi1
          have HIv := Lib.hid hIv
          have HMb := Lib.hid hmb
          have HGi := Lib.hid hgi
          have HGn := Lib.hid hn
          have HY : Hid (0 ≤ x ∧ 1 ≤ n ∧ x + n ≤ N) := ⟨y3, y4, y5⟩
          clear hMk hL e1 y1 y2 y6 hm hgi z1 z2 z3 z4 v0 v2 c0 c6 s0 s1 u1 u2 u3 u4 hmb hnx hW1 hsame hi1 hW hWd hf1 hS1 hfin hfout hIv hn
          go_wp2_with fail
          refine HMk.out.mono ?_
          rintro e w6 ⟨rfl, h6⟩
          obtain ⟨g', m', g6, f6, n6⟩ := h6
          have HT6 := Lib.hid (HT5.out.step f6 n6 rfl)
          have HE6 : Hid (Ev w w6 q (p.put g' m') N L f1 (t + 1) S1 (zeros N)) := ⟨g6, ⟨fun k hk => by
            rcases n6 k hk with e | e
            · exact HE5.out.fresh.1 k e
            · exact Nat.le_trans HE5.out.bel.size e, HE5.out.fresh.2⟩, HE5.out.bel.trans (f6.below HE5.out.fresh.1 HE5.out.bel.size)⟩
          obtain ⟨p6, hp6⟩ : ∃ p6, p.put g' m' = p6 := ⟨_, rfl⟩
          rw [hp6] at HT6 HE6
          have hLn := len_any x HE6.out.gm
          rw [HGn.out] at hLn
          have HLn := Lib.hid hLn
          have hLo := fun (V : World) (hV : Below w6.heap.size w6 V) => len_any x (HT6.out.below hV).gm
          rw [HGn.out] at hLo
          have HLo := Lib.hid hLo
          have e256 : (256 * x) / 256 = x := by omega
          have hAo := fun (V : World) (hV : Below w6.heap.size w6 V) => at_any (256 * x) (by unfold Ra.I64; omega) (HT6.out.below hV).gm
          have hAg := fun (V : World) (hV : Below w6.heap.size w6 V) => at_any (256 * x) (by unfold Ra.I64; omega) (HE6.out.below hV).gm
          have hX0 : Ra.wAt N f x = W := by unfold Ra.wAt; rw [if_pos (Ra.inB_iff.2 (by omega)), HU.out.2.2]
          have hX1 : Ra.wAt N f1 x = W1 := by unfold Ra.wAt; rw [if_pos (Ra.inB_iff.2 (by omega))]; exact HFi.out _ (by omega) (by omega)
          have hWn : (W != 0) = true := by simpa using HU.out.2.1
          have hW1n : (W1 != 0) = true := by simpa using HZ.out.2.2.2.2
          rw [e256, hX0, hWn] at hAo
          rw [e256, hX1, hW1n] at hAg
          unfold Ra.entV at hAo hAg
          rw [HU.out.1] at hAo
          rw [HZ.out.1, HZ.out.2.1, HZ.out.2.2.1, HZ.out.2.2.2.1] at hAg
          have HAo := Lib.hid hAo
          have HAg := Lib.hid hAg
          have hw256 := i64_in (256 * x) (by omega) (by omega)
          obtain ⟨vw, hvw⟩ : ∃ vw, Ra.verOf W = vw := ⟨_, rfl⟩
          obtain ⟨cw', hcw⟩ : ∃ cw', Ra.clsOf W = cw' := ⟨_, rfl⟩
          obtain ⟨sw, hsw⟩ : ∃ sw, Ra.staOf W = sw := ⟨_, rfl⟩
          rw [hvw, hcw, hsw] at HAo HMb
          have HVw : Hid (Ra.verOf W = vw ∧ Ra.clsOf W = cw' ∧ Ra.staOf W = sw) := ⟨hvw, hcw, hsw⟩
          clear g6 f6 n6 hp6 HMk hLn hLo hAo hAg hX0 hX1 hWn hW1n e256 HT5 HE5 hvw hcw hsw
          go_wp2_with fail
          refine HLn.out.mono ?_
          rintro e w7 ⟨rfl, b7⟩
          have HB7 := Lib.hid b7
          clear b7
          go_wp2_with fail
          refine (HAo.out _ HB7.out).mono ?_
          rintro e w8 ⟨rfl, b8⟩
          obtain ⟨wa, hwa⟩ : ∃ wa, w8.alloc (.cells #[.int .i64 x, .int .i64 vw, .int .i64 cw', .int .i64 sw] 52) = wa := ⟨_, rfl⟩
          have ba : Below w7.heap.size w7 wa := by rw [← hwa]; exact up_alloc b8 _
          have ka : Blk wa w8.heap.size [.int .i64 x, .int .i64 vw, .int .i64 cw', .int .i64 sw] 52 := by rw [← hwa]; exact Blk.new w8 _ 52
          obtain ⟨bx, hbx⟩ : ∃ bx, w8.heap.size = bx := ⟨_, rfl⟩
          rw [hbx] at ka
          have HKa := Lib.hid ka
          have HBa := Lib.hid (up_trans HB7.out ba)
          clear b8 ba ka HB7 HLn
          go_wp2_with fail
          clear hwa hbx
          refine (HAg.out _ HBa.out).mono ?_
          rintro e w9 ⟨rfl, b9⟩
          obtain ⟨wb, hwb⟩ : ∃ wb, w9.alloc (.cells #[.int .i64 x, .int .i64 v, .int .i64 cl, .int .i64 s] 52) = wb := ⟨_, rfl⟩
          have bb : Below wa.heap.size wa wb := by rw [← hwb]; exact up_alloc b9 _
          have kb : Blk wb w9.heap.size [.int .i64 x, .int .i64 v, .int .i64 cl, .int .i64 s] 52 := by rw [← hwb]; exact Blk.new w9 _ 52
          obtain ⟨bz, hbz⟩ : ∃ bz, w9.heap.size = bz := ⟨_, rfl⟩
          rw [hbz] at kb
          have HKb := Lib.hid kb
          have HKa2 := Lib.hid (HKa.out.below bb)
          have HBb := Lib.hid (up_trans HBa.out bb)
          have t0 : wb.cell? ⟨bz, 0, none⟩ = some (.int .i64 x) := Sp.Blk.cell kb
          have t1 : wb.cell? ⟨bz, 1, none⟩ = some (.int .i64 v) := Sp.Blk.cell kb
          have t2 : wb.cell? ⟨bz, 2, none⟩ = some (.int .i64 cl) := Sp.Blk.cell kb
          have t3 : wb.cell? ⟨bz, 3, none⟩ = some (.int .i64 s) := Sp.Blk.cell kb
          clear b9 bb kb HKa HBa
          have dx : (x != x) = false := by simp
          have dv : (v != v) = false := by simp
          have dc : (cl != cl) = false := by simp
          have ds : (s != s) = false := by simp
          have dn : (n != n) = false := by simp
          go_wp2_with fail
          clear hwb hbz
          refine (HLo.out _ HBb.out).mono ?_
          rintro e w10 ⟨rfl, b10⟩
          have HB10 := Lib.hid (up_trans HBb.out b10)
          have HKb3 := Lib.hid (HKb.out.below b10)
          have HKa3 := Lib.hid (HKa2.out.below b10)
          clear b10 t0 t1 t2 t3 HKb HKa2 HBb
          go_wp2_with fail
          go_loopw [23] (fun pp wr => ∃ i : Nat, pp = .int .i64 i ∧ (i : Int) ≤ N ∧ Below w10.heap.size w10 wr) (fun pp _ => N.toNat - (intOf pp).toNat)
          case atStart => exact ⟨0, rfl, by omega, Below.refl _ _⟩
          case round =>
            obtain ⟨i, rfl, hi, hb⟩ := hrel
            have HBi := Lib.hid hb
            clear hb
            by_cases hiN : (i : Int) < N
            · have e1 : (256 * (i : Int)) / 256 = (i : Int) := by omega
              have hX1 : Ra.wAt N f1 (i : Int) = f1 i := by unfold Ra.wAt; rw [if_pos (Ra.inB_iff.2 (by omega)), Int.toNat_natCast]
              have hX0 : Ra.wAt N f (i : Int) = f i := by unfold Ra.wAt; rw [if_pos (Ra.inB_iff.2 (by omega)), Int.toNat_natCast]
              have hA1 := fun (V : World) (hV : Below w10.heap.size w10 V) => at_any (256 * (i : Int)) (by unfold Ra.I64; omega) (HE6.out.below (up_trans HB10.out hV)).gm
              have hA2 := fun (V : World) (hV : Below w10.heap.size w10 V) => at_any (256 * (i : Int)) (by unfold Ra.I64; omega) (HT6.out.below (up_trans HB10.out hV)).gm
              rw [e1, hX1] at hA1
              rw [e1, hX0] at hA2
              unfold Ra.entV at hA1 hA2
              have hwi := i64_in (256 * (i : Int)) (by omega) (by omega)
              have hwi2 := i64_in ((i : Int) - x) (by omega) (by omega)
              have i1 : (0 : Int) ≤ (i : Int) := by omega
              clear e1 hX1 hX0
              by_cases hin : x ≤ i ∧ (i : Int) < x + n
              · have hF1 := HFi.out i hin.1 hin.2
                have hF0 := HSm.out i hin.1 hin.2
                have d1 : decide (x ≤ (i : Int)) = true := by simpa using hin.1
                have d2 : decide ((i : Int) - x < n) = true := by simp; omega
                have hWn : (W != 0) = true := by simpa using HU.out.2.1
                have hW1n : (W1 != 0) = true := by simpa using HZ.out.2.2.2.2
                rw [hF1, HZ.out.1, HZ.out.2.1, HZ.out.2.2.1, HZ.out.2.2.2.1, hW1n] at hA1
                rw [hF0, HU.out.1, HVw.out.1, HVw.out.2.1, HVw.out.2.2, hWn] at hA2
                have HA1 := Lib.hid hA1
                have HA2 := Lib.hid hA2
                clear hA1 hA2 hF1 hF0 hWn hW1n hin
                go_wp2_with fail
                refine (HA1.out _ HBi.out).mono ?_
                rintro e w11 ⟨rfl, b11⟩
                obtain ⟨wc1, hwc⟩ : ∃ wc1, w11.alloc (.cells #[.int .i64 x, .int .i64 v, .int .i64 cl, .int .i64 s] 52) = wc1 := ⟨_, rfl⟩
                have bc : Below wr.heap.size wr wc1 := by rw [← hwc]; exact up_alloc b11 _
                have kc : Blk wc1 w11.heap.size [.int .i64 x, .int .i64 v, .int .i64 cl, .int .i64 s] 52 := by rw [← hwc]; exact Blk.new w11 _ 52
                obtain ⟨b4, hb4⟩ : ∃ b4, w11.heap.size = b4 := ⟨_, rfl⟩
                rw [hb4] at kc
                have HKc := Lib.hid kc
                have HBc := Lib.hid (up_trans HBi.out bc)
                clear b11 bc kc
                go_wp2_with fail
                clear hwc hb4
                refine (HA2.out _ HBc.out).mono ?_
                rintro e w12 ⟨rfl, b12⟩
                obtain ⟨wd1, hwd⟩ : ∃ wd1, w12.alloc (.cells #[.int .i64 x, .int .i64 vw, .int .i64 cw', .int .i64 sw] 52) = wd1 := ⟨_, rfl⟩
                have bd : Below wc1.heap.size wc1 wd1 := by rw [← hwd]; exact up_alloc b12 _
                have kd : Blk wd1 w12.heap.size [.int .i64 x, .int .i64 vw, .int .i64 cw', .int .i64 sw] 52 := by rw [← hwd]; exact Blk.new w12 _ 52
                obtain ⟨b6, hb6⟩ : ∃ b6, w12.heap.size = b6 := ⟨_, rfl⟩
                rw [hb6] at kd
                have kc2 := HKc.out.below bd
                have kz2 := HKb3.out.below (up_trans HBc.out bd)
                have HBd := Lib.hid (up_trans HBc.out bd)
                have q0 : wd1.cell? ⟨b4, 0, none⟩ = some (.int .i64 x) := Sp.Blk.cell kc2
                have q1 : wd1.cell? ⟨b4, 1, none⟩ = some (.int .i64 v) := Sp.Blk.cell kc2
                have q2' : wd1.cell? ⟨b4, 2, none⟩ = some (.int .i64 cl) := Sp.Blk.cell kc2
                have q3 : wd1.cell? ⟨b4, 3, none⟩ = some (.int .i64 s) := Sp.Blk.cell kc2
                have q4 : wd1.cell? ⟨b6, 0, none⟩ = some (.int .i64 x) := Sp.Blk.cell kd
                have q5 : wd1.cell? ⟨b6, 1, none⟩ = some (.int .i64 vw) := Sp.Blk.cell kd
                have q6 : wd1.cell? ⟨b6, 2, none⟩ = some (.int .i64 cw') := Sp.Blk.cell kd
                have q7 : wd1.cell? ⟨b6, 3, none⟩ = some (.int .i64 sw) := Sp.Blk.cell kd
                have q8 : wd1.cell? ⟨bz, 0, none⟩ = some (.int .i64 x) := Sp.Blk.cell kz2
                have q9 : wd1.cell? ⟨bz, 1, none⟩ = some (.int .i64 v) := Sp.Blk.cell kz2
                have q10 : wd1.cell? ⟨bz, 2, none⟩ = some (.int .i64 cl) := Sp.Blk.cell kz2
                have q11 : wd1.cell? ⟨bz, 3, none⟩ = some (.int .i64 s) := Sp.Blk.cell kz2
                clear b12 bd kd kc2 kz2 HKc HA1 HA2
                go_wp2_with fail
                go_roundw
                case rel => exact ⟨i + 1, by go_num, by omega, HBd.out⟩
                case measure => simp [intOf]; omega
              · have hF1 := HFo.out i hin
                rw [hF1] at hA1
                generalize f i = X at *
                have HA1 := Lib.hid hA1
                have HA2 := Lib.hid hA2
                generalize Ra.spanOf X = za at *
                generalize Ra.verOf X = zb at *
                generalize Ra.clsOf X = zc at *
                generalize Ra.staOf X = zd at *
                generalize (X != 0) = bo at *
                have dbo : (bo != bo) = false := by simp
                have dza : (za != za) = false := by simp
                have dzb : (zb != zb) = false := by simp
                have dzc : (zc != zc) = false := by simp
                have dzd : (zd != zd) = false := by simp
                clear hA1 hA2 hF1
                by_cases hge : x ≤ (i : Int)
                · have d1 : decide (x ≤ (i : Int)) = true := by simpa using hge
                  have d2 : decide ((i : Int) - x < n) = false := by simp; omega
                  clear hin
                  go_wp2_with fail
                  refine (HA1.out _ HBi.out).mono ?_
                  rintro e w11 ⟨rfl, b11⟩
                  obtain ⟨wc1, hwc⟩ : ∃ wc1, w11.alloc (.cells #[.int .i64 za, .int .i64 zb, .int .i64 zc, .int .i64 zd] 52) = wc1 := ⟨_, rfl⟩
                  have bc : Below wr.heap.size wr wc1 := by rw [← hwc]; exact up_alloc b11 _
                  have kc : Blk wc1 w11.heap.size [.int .i64 za, .int .i64 zb, .int .i64 zc, .int .i64 zd] 52 := by rw [← hwc]; exact Blk.new w11 _ 52
                  obtain ⟨b4, hb4⟩ : ∃ b4, w11.heap.size = b4 := ⟨_, rfl⟩
                  rw [hb4] at kc
                  have HKc := Lib.hid kc
                  have HBc := Lib.hid (up_trans HBi.out bc)
                  clear b11 bc kc
                  go_wp2_with fail
                  clear hwc hb4
                  refine (HA2.out _ HBc.out).mono ?_
                  rintro e w12 ⟨rfl, b12⟩
                  obtain ⟨wd1, hwd⟩ : ∃ wd1, w12.alloc (.cells #[.int .i64 za, .int .i64 zb, .int .i64 zc, .int .i64 zd] 52) = wd1 := ⟨_, rfl⟩
                  have bd : Below wc1.heap.size wc1 wd1 := by rw [← hwd]; exact up_alloc b12 _
                  have kd : Blk wd1 w12.heap.size [.int .i64 za, .int .i64 zb, .int .i64 zc, .int .i64 zd] 52 := by rw [← hwd]; exact Blk.new w12 _ 52
                  obtain ⟨b6, hb6⟩ : ∃ b6, w12.heap.size = b6 := ⟨_, rfl⟩
                  rw [hb6] at kd
                  have kc2 := HKc.out.below bd
                  have kz2 := HKb3.out.below (up_trans HBc.out bd)
                  have HBd := Lib.hid (up_trans HBc.out bd)
                  have q0 : wd1.cell? ⟨b4, 0, none⟩ = some (.int .i64 za) := Sp.Blk.cell kc2
                  have q1 : wd1.cell? ⟨b4, 1, none⟩ = some (.int .i64 zb) := Sp.Blk.cell kc2
                  have q2' : wd1.cell? ⟨b4, 2, none⟩ = some (.int .i64 zc) := Sp.Blk.cell kc2
                  have q3 : wd1.cell? ⟨b4, 3, none⟩ = some (.int .i64 zd) := Sp.Blk.cell kc2
                  have q4 : wd1.cell? ⟨b6, 0, none⟩ = some (.int .i64 za) := Sp.Blk.cell kd
                  have q5 : wd1.cell? ⟨b6, 1, none⟩ = some (.int .i64 zb) := Sp.Blk.cell kd
                  have q6 : wd1.cell? ⟨b6, 2, none⟩ = some (.int .i64 zc) := Sp.Blk.cell kd
                  have q7 : wd1.cell? ⟨b6, 3, none⟩ = some (.int .i64 zd) := Sp.Blk.cell kd
                  have q8 : wd1.cell? ⟨bz, 0, none⟩ = some (.int .i64 x) := Sp.Blk.cell kz2
                  have q9 : wd1.cell? ⟨bz, 1, none⟩ = some (.int .i64 v) := Sp.Blk.cell kz2
                  have q10 : wd1.cell? ⟨bz, 2, none⟩ = some (.int .i64 cl) := Sp.Blk.cell kz2
                  have q11 : wd1.cell? ⟨bz, 3, none⟩ = some (.int .i64 s) := Sp.Blk.cell kz2
                  clear b12 bd kd kc2 kz2 HKc HA1 HA2
                  go_wp2_with fail
                  go_roundw
                  case rel => exact ⟨i + 1, by go_num, by omega, HBd.out⟩
                  case measure => simp [intOf]; omega
                · have d1 : decide (x ≤ (i : Int)) = false := by simpa using hge
                  clear hin
                  go_wp2_with fail
                  refine (HA1.out _ HBi.out).mono ?_
                  rintro e w11 ⟨rfl, b11⟩
                  obtain ⟨wc1, hwc⟩ : ∃ wc1, w11.alloc (.cells #[.int .i64 za, .int .i64 zb, .int .i64 zc, .int .i64 zd] 52) = wc1 := ⟨_, rfl⟩
                  have bc : Below wr.heap.size wr wc1 := by rw [← hwc]; exact up_alloc b11 _
                  have kc : Blk wc1 w11.heap.size [.int .i64 za, .int .i64 zb, .int .i64 zc, .int .i64 zd] 52 := by rw [← hwc]; exact Blk.new w11 _ 52
                  obtain ⟨b4, hb4⟩ : ∃ b4, w11.heap.size = b4 := ⟨_, rfl⟩
                  rw [hb4] at kc
                  have HKc := Lib.hid kc
                  have HBc := Lib.hid (up_trans HBi.out bc)
                  clear b11 bc kc
                  go_wp2_with fail
                  clear hwc hb4
                  refine (HA2.out _ HBc.out).mono ?_
                  rintro e w12 ⟨rfl, b12⟩
                  obtain ⟨wd1, hwd⟩ : ∃ wd1, w12.alloc (.cells #[.int .i64 za, .int .i64 zb, .int .i64 zc, .int .i64 zd] 52) = wd1 := ⟨_, rfl⟩
                  have bd : Below wc1.heap.size wc1 wd1 := by rw [← hwd]; exact up_alloc b12 _
                  have kd : Blk wd1 w12.heap.size [.int .i64 za, .int .i64 zb, .int .i64 zc, .int .i64 zd] 52 := by rw [← hwd]; exact Blk.new w12 _ 52
                  obtain ⟨b6, hb6⟩ : ∃ b6, w12.heap.size = b6 := ⟨_, rfl⟩
                  rw [hb6] at kd
                  have kc2 := HKc.out.below bd
                  have kz2 := HKb3.out.below (up_trans HBc.out bd)
                  have HBd := Lib.hid (up_trans HBc.out bd)
                  have q0 : wd1.cell? ⟨b4, 0, none⟩ = some (.int .i64 za) := Sp.Blk.cell kc2
                  have q1 : wd1.cell? ⟨b4, 1, none⟩ = some (.int .i64 zb) := Sp.Blk.cell kc2
                  have q2' : wd1.cell? ⟨b4, 2, none⟩ = some (.int .i64 zc) := Sp.Blk.cell kc2
                  have q3 : wd1.cell? ⟨b4, 3, none⟩ = some (.int .i64 zd) := Sp.Blk.cell kc2
                  have q4 : wd1.cell? ⟨b6, 0, none⟩ = some (.int .i64 za) := Sp.Blk.cell kd
                  have q5 : wd1.cell? ⟨b6, 1, none⟩ = some (.int .i64 zb) := Sp.Blk.cell kd
                  have q6 : wd1.cell? ⟨b6, 2, none⟩ = some (.int .i64 zc) := Sp.Blk.cell kd
                  have q7 : wd1.cell? ⟨b6, 3, none⟩ = some (.int .i64 zd) := Sp.Blk.cell kd
                  have q8 : wd1.cell? ⟨bz, 0, none⟩ = some (.int .i64 x) := Sp.Blk.cell kz2
                  have q9 : wd1.cell? ⟨bz, 1, none⟩ = some (.int .i64 v) := Sp.Blk.cell kz2
                  have q10 : wd1.cell? ⟨bz, 2, none⟩ = some (.int .i64 cl) := Sp.Blk.cell kz2
                  have q11 : wd1.cell? ⟨bz, 3, none⟩ = some (.int .i64 s) := Sp.Blk.cell kz2
                  clear b12 bd kd kc2 kz2 HKc HA1 HA2
                  go_wp2_with fail
                  go_roundw
                  case rel => exact ⟨i + 1, by go_num, by omega, HBd.out⟩
                  case measure => simp [intOf]; omega
            · have hiE : (i : Int) = N := by omega
              have dN : decide ((i : Int) < N) = false := by simpa using hiN
              clear hiN
              have HE10 := Lib.hid (HE6.out.below (up_trans HB10.out HBi.out))
              have HT10 := Lib.hid (HT6.out.below (up_trans HB10.out HBi.out))
              have HKa4 := Lib.hid (HKa3.out.below HBi.out)
              have hMk2 := mark_any x vw cw' sw HE10.out.gm (by omega)
              have e2 := mark_yes (L := L) (f := f1) (t := t + 1) (S := S1) HGi.out HMb.out
              rw [e2] at hMk2
              dsimp only at hMk2
              rw [HGn.out] at hMk2
              have hnx : Ra.nx (t + 1) = t + 2 := by have := HSl.out.2; unfold Ra.nx; omega
              obtain ⟨z1, z2, z3, z4⟩ := mark_words (t := t + 2) HI1.out HGi.out HMb.out
              obtain ⟨v0, v2, c0, c6, s0, s1⟩ := mayB_iff.1 HMb.out
              have hW2 : Ra.wd x vw cw' sw (t + 2) ≠ 0 := wd_pos (by have := HSl.out.2; omega)
              have hi2 := (HI1.out.mark HGi.out (v := vw) (c := cw') (s := sw) (t := t + 2) ⟨v0, v2⟩ ⟨c0, by omega⟩ ⟨s0, s1⟩).2
              rw [HGn.out] at hi2
              rw [hnx] at hMk2
              obtain ⟨W2, hWd⟩ : ∃ W2, Ra.wd x vw cw' sw (t + 2) = W2 := ⟨_, rfl⟩
              rw [hWd] at z1 z2 z3 z4 hW2 hMk2 hi2
              obtain ⟨f2, hf2⟩ : ∃ f2, Ra.fill f1 x.toNat n.toNat W2 = f2 := ⟨_, rfl⟩
              obtain ⟨S2, hS2⟩ : ∃ S2, Le.shF (Le.hd S1) (Ra.verOf (f1 x.toNat)) vw n :: S1 = S2 := ⟨_, rfl⟩
              rw [hf2, hS2] at hMk2 hi2
              have hfin : ∀ i : Nat, x ≤ i → (i : Int) < x + n → f2 i = W2 := fun i h1 h2 => by rw [← hf2]; exact fill_at _ (by omega) (by omega)
              have hfout : ∀ i : Nat, ¬ (x ≤ i ∧ (i : Int) < x + n) → f2 i = f1 i := fun i h1 => by rw [← hf2]; exact fill_far _ (by omega)
              have hheld : ∀ k : Nat, k < 8 → Le.heldOf (Le.hd S2) k = Le.heldOf (Le.hd S) k := fun k hk => by
                unfold Le.heldOf
                rw [if_pos (Le.kindB_iff.2 (by omega)), if_pos (Le.kindB_iff.2 (by omega)), Int.toNat_natCast, hi2.bk k hk, HIv.out.bk k hk]
                congr 1
                refine cw_cong fun i _ => ?_
                by_cases hin : x ≤ i ∧ (i : Int) < x + n
                · rw [hfin i hin.1 hin.2, HSm.out i hin.1 hin.2, ver_word hW2, ver_word HU.out.2.1, z2, HVw.out.1]
                · rw [hfout i hin, HFo.out i hin]
              have hh0 := hheld 0 (by omega)
              have hh1 := hheld 1 (by omega)
              have hh2 := hheld 2 (by omega)
              have e0 : ((0 : Nat) : Int) = 0 := rfl
              have e1' : ((1 : Nat) : Int) = 1 := rfl
              have e2' : ((2 : Nat) : Int) = 2 := rfl
              rw [e0] at hh0
              rw [e1'] at hh1
              rw [e2'] at hh2
              have hX2 : Ra.wAt N f2 x = W2 := by unfold Ra.wAt; rw [if_pos (Ra.inB_iff.2 (by omega))]; exact hfin _ (by omega) (by omega)
              have HMk2 := Lib.hid hMk2
              have HX2 : Hid (Ra.wAt N f2 x = W2 ∧ Ra.spanOf W2 = x ∧ Ra.verOf W2 = vw ∧ Ra.clsOf W2 = cw' ∧ Ra.staOf W2 = sw ∧ W2 ≠ 0) := ⟨hX2, z1, z2, z3, z4, hW2⟩
              have HH : Hid (Le.heldOf (Le.hd S2) 0 = Le.heldOf (Le.hd S) 0 ∧ Le.heldOf (Le.hd S2) 1 = Le.heldOf (Le.hd S) 1 ∧ Le.heldOf (Le.hd S2) 2 = Le.heldOf (Le.hd S) 2) := ⟨hh0, hh1, hh2⟩
              have q0 : wr.cell? ⟨bx, 0, none⟩ = some (.int .i64 x) := Sp.Blk.cell HKa4.out
              have q1 : wr.cell? ⟨bx, 1, none⟩ = some (.int .i64 vw) := Sp.Blk.cell HKa4.out
              have q2' : wr.cell? ⟨bx, 2, none⟩ = some (.int .i64 cw') := Sp.Blk.cell HKa4.out
              have q3 : wr.cell? ⟨bx, 3, none⟩ = some (.int .i64 sw) := Sp.Blk.cell HKa4.out
              have hwu : IntKind.u64.wrap (t + 2) = t + 2 := by have := HSl.out.2; rw [IntKind.wrap_u64]; omega
              have dt2 : (t + 2 != t + 2) = false := by simp
              clear hMk2 e2 hnx z1 z2 z3 z4 v0 v2 c0 c6 s0 s1 hW2 hWd hf2 hS2 hfin hfout hheld hh0 hh1 hh2 e0 e1' e2' hX2 hi2 HE6 HT6 HKa3 HKb3 HB10
              go_wp2_with fail
              refine HMk2.out.mono ?_
              rintro e w11 ⟨rfl, h11⟩
              obtain ⟨g', m', g11, f11, n11⟩ := h11
              have HT11 := Lib.hid (HT10.out.step f11 n11 rfl)
              have HG11 := Lib.hid g11
              have HB11 : Hid (Below w.heap.size w w11) := HE10.out.bel.trans (f11.below HE10.out.fresh.1 HE10.out.bel.size)
              have k11 : Blk w11 bx [.int .i64 x, .int .i64 vw, .int .i64 cw', .int .i64 sw] 52 := Sp.Blk.of HKa4.out (f11.block _ (Sp.Blk.lt HKa4.out) (HE10.out.gm.gx.other (kind_blk HKa4.out) (by decide)))
              have HK11 := Lib.hid k11
              have HSt1 := Lib.hid (stamp_any g11)
              have HSt2 := Lib.hid (stamp_any HT11.out.gm)
              have hAg := at_any (256 * x) (by unfold Ra.I64; omega) g11
              have e256 : (256 * x) / 256 = x := by omega
              have hWn : (W2 != 0) = true := by simpa using HX2.out.2.2.2.2.2
              rw [e256, HX2.out.1, hWn] at hAg
              unfold Ra.entV at hAg
              rw [HX2.out.2.1, HX2.out.2.2.1, HX2.out.2.2.2.1, HX2.out.2.2.2.2.1] at hAg
              have HAg2 := Lib.hid hAg
              clear g11 f11 n11 k11 hAg e256 hWn HMk2 q0 q1 q2' q3 HT10 HE10 HKa4
              go_wp2_with (first
                | (go_at_call_of 12 (Value.pointer (some ⟨q, 0, none⟩)); refine HSt1.out.mono ?_; rintro e w' ⟨rfl, rfl⟩)
                | (go_at_call_of 12 (Value.pointer (some ⟨q2, 0, none⟩)); refine HSt2.out.mono ?_; rintro e w' ⟨rfl, rfl⟩))
              refine HAg2.out.mono ?_
              rintro e w12 ⟨rfl, b12⟩
              obtain ⟨wd1, hwd⟩ : ∃ wd1, w12.alloc (.cells #[.int .i64 x, .int .i64 vw, .int .i64 cw', .int .i64 sw] 52) = wd1 := ⟨_, rfl⟩
              have bd : Below w11.heap.size w11 wd1 := by rw [← hwd]; exact up_alloc b12 _
              have kd : Blk wd1 w12.heap.size [.int .i64 x, .int .i64 vw, .int .i64 cw', .int .i64 sw] 52 := by rw [← hwd]; exact Blk.new w12 _ 52
              obtain ⟨b9, hb9⟩ : ∃ b9, w12.heap.size = b9 := ⟨_, rfl⟩
              rw [hb9] at kd
              have kx := HK11.out.below bd
              have HG12 := Lib.hid (HG11.out.below bd)
              have HT12 := Lib.hid (HT11.out.below bd)
              have HB12 := Lib.hid (up_trans HB11.out bd)
              have q0 : wd1.cell? ⟨bx, 0, none⟩ = some (.int .i64 x) := Sp.Blk.cell kx
              have q1 : wd1.cell? ⟨bx, 1, none⟩ = some (.int .i64 vw) := Sp.Blk.cell kx
              have q2' : wd1.cell? ⟨bx, 2, none⟩ = some (.int .i64 cw') := Sp.Blk.cell kx
              have q3 : wd1.cell? ⟨bx, 3, none⟩ = some (.int .i64 sw) := Sp.Blk.cell kx
              have q4 : wd1.cell? ⟨b9, 0, none⟩ = some (.int .i64 x) := Sp.Blk.cell kd
              have q5 : wd1.cell? ⟨b9, 1, none⟩ = some (.int .i64 vw) := Sp.Blk.cell kd
              have q6 : wd1.cell? ⟨b9, 2, none⟩ = some (.int .i64 cw') := Sp.Blk.cell kd
              have q7 : wd1.cell? ⟨b9, 3, none⟩ = some (.int .i64 sw) := Sp.Blk.cell kd
              have HG0 := held_any (S := S2) 0 HG12.out
              have HG1 := held_any (S := S2) 1 HG12.out
              have HG2 := held_any (S := S2) 2 HG12.out
              rw [HH.out.1] at HG0
              rw [HH.out.2.1] at HG1
              rw [HH.out.2.2] at HG2
              have HG0 := Lib.hid HG0
              have HG1 := Lib.hid HG1
              have HG2 := Lib.hid HG2
              have HO0 := Lib.hid (held_any 0 HT12.out.gm)
              have HO1 := Lib.hid (held_any 1 HT12.out.gm)
              have HO2 := Lib.hid (held_any 2 HT12.out.gm)
              have HF1 := Lib.hid (free_any (L := L) HG12.out)
              clear b12 bd kd kx HSt1 HSt2 HAg2 HG11 HT11 HB11 HK11
              generalize Le.heldOf (Le.hd S) 0 = h0v at *
              generalize Le.heldOf (Le.hd S) 1 = h1v at *
              generalize Le.heldOf (Le.hd S) 2 = h2v at *
              go_upto_region 34 with fail
              clear hwd hb9
              go_wp2_with (first
                | (go_at_call_of 20 (Value.pointer (some ⟨q, 0, none⟩)); go_at_call_of 20 (Value.int IntKind.i64 0); refine HG0.out.mono ?_; rintro e w' ⟨rfl, rfl⟩)
                | (go_at_call_of 20 (Value.pointer (some ⟨q2, 0, none⟩)); go_at_call_of 20 (Value.int IntKind.i64 0); refine HO0.out.mono ?_; rintro e w' ⟨rfl, rfl⟩)
                | (go_at_call_of 20 (Value.pointer (some ⟨q, 0, none⟩)); go_at_call_of 20 (Value.int IntKind.i64 1); refine HG1.out.mono ?_; rintro e w' ⟨rfl, rfl⟩)
                | (go_at_call_of 20 (Value.pointer (some ⟨q2, 0, none⟩)); go_at_call_of 20 (Value.int IntKind.i64 1); refine HO1.out.mono ?_; rintro e w' ⟨rfl, rfl⟩)
                | (go_at_call_of 20 (Value.pointer (some ⟨q, 0, none⟩)); go_at_call_of 20 (Value.int IntKind.i64 2); refine HG2.out.mono ?_; rintro e w' ⟨rfl, rfl⟩)
                | (go_at_call_of 20 (Value.pointer (some ⟨q2, 0, none⟩)); go_at_call_of 20 (Value.int IntKind.i64 2); refine HO2.out.mono ?_; rintro e w' ⟨rfl, rfl⟩))
              refine HF1.out.mono ?_
              rintro e w13 ⟨rfl, b13⟩
              have HT13 := Lib.hid (HT12.out.below b13)
              have HB13 := Lib.hid (up_trans HB12.out b13)
              have HF2 := Lib.hid (free_any HT13.out.gm)
              have df : (Sp.fsum L == Sp.fsum L) = true := by simp
              clear b13 HF1
              generalize Sp.fsum L = fs at *
              go_wp2_with fail
              refine HF2.out.mono ?_
              rintro e w14 ⟨rfl, b14⟩
              have HB14 := Lib.hid (up_trans HB13.out b14)
              clear b14
              go_wp2_with fail
              go_ret
              exact ⟨rfl, HB14.out⟩
      · have e1 : markO L f t S x v cl s = ⟨0, 12, L, f, t, S⟩ := by unfold markO; rw [if_neg hgi]
        have hn : Sp.gvv L x = 0 := by unfold Sp.gvv; rw [if_neg hgi]
        rw [e1] at hMk
        have HMk := Lib.hid hMk
        clear hMk hL e1 hgi
        go_wp2_with fail
        refine HMk.out.mono ?_
        rintro e w6 ⟨rfl, h6⟩
        obtain ⟨g', m', g6, f6, n6⟩ := h6
        have HT6 := Lib.hid (HT5.out.step f6 n6 rfl)
        have HB6 : Hid (Below w.heap.size w w6) := HE5.out.bel.trans (f6.below HE5.out.fresh.1 HE5.out.bel.size)
        have hLn := len_any x g6
        dsimp only at hLn
        rw [hn] at hLn
        have HLn := Lib.hid hLn
        have HG6 := Lib.hid g6
        clear f6 n6 HMk g6 HT5 HE5 hLn hn
        go_wp2_with fail
        refine HLn.out.mono ?_
        rintro e w7 ⟨rfl, b7⟩
        have HT7 := Lib.hid (HT6.out.below b7)
        have HB7 := Lib.hid (up_trans HB6.out b7)
        have HS1 := Lib.hid (stamp_any (HG6.out.below b7))
        have HS2 := Lib.hid (stamp_any HT7.out.gm)
        have dt : (t == t) = true := by simp
        clear b7
        go_wp2_with (first
          | (go_at_call_of 12 (Value.pointer (some ⟨q, 0, none⟩)); refine HS1.out.mono ?_; rintro e w' ⟨rfl, rfl⟩)
          | (go_at_call_of 12 (Value.pointer (some ⟨q2, 0, none⟩)); refine HS2.out.mono ?_; rintro e w' ⟨rfl, rfl⟩))
        go_ret
        exact ⟨rfl, HB7.out⟩
end Go.Proofs.YtjnknnakllbaaaaGreat.Gr
