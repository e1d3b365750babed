/-
  The walk of the statement on rows of calls.
-/
import Derived.Test.YtjnknnakllbaaaaGreatGrJoint
import Derived.Test.YtjnknnakllbaaaaGreatGrRefOf
import Derived.Test.YtjnknnakllbaaaaGreatGrRefSeen
import Derived.Test.YtjnknnakllbaaaaGreatGrRefEq
namespace Go.Proofs.YtjnknnakllbaaaaGreat.Gr
set_option maxRecDepth 100000
open Go.RowKit
section
variable {w : World} {A : Option Addr} {l : List Cl} {n c : Nat} {N a k al : Int} {g : Le.Row}
theorem calls_great (h : greatB N n = true) : Calls Tryz.prog 3 #[.int .i64 N, .slice A n c, .int .i64 a, .int .i64 k, .int .i64 al, Le.rowV g] w fun e w' => e = .returned (.bool true) ∧ Below w.heap.size w w' := by
  have HG := Lib.hid (fun W => great_any N A n c W)
  rw [h] at HG
  have hB := up_alloc (Below.refl _ w) (.cells #[.int .i64 (g 0), .int .i64 (g 1), .int .i64 (g 2), .int .i64 (g 3), .int .i64 (g 4), .int .i64 (g 5), .int .i64 (g 6), .int .i64 (g 7)] 24)
  have HB := Lib.hid hB
  unfold Le.rowV Le.rowA
  clear h hB
  go_enter Tryz.func3, Tryz.ntmps3
  go_wp2_with fail
  refine (alive_any _).mono ?_
  rintro e w2 ⟨rfl, b2⟩
  have HB2 := Lib.hid (up_trans HB.out b2)
  clear b2
  go_wp2_with fail
  refine (HG.out _).mono ?_
  rintro e w3 ⟨rfl, rfl⟩
  go_wp2_with fail
  go_ret
  exact ⟨rfl, HB2.out⟩
theorem calls_no (h : greatB N n = false) (h0 : N < 0) : Calls Tryz.prog 3 #[.int .i64 N, .slice A n c, .int .i64 a, .int .i64 k, .int .i64 al, Le.rowV g] w fun e w' => e = .returned (.bool true) ∧ Below w.heap.size w w' := by
  have HG := Lib.hid (fun W => great_any N A n c W)
  rw [h] at HG
  have HN1 := Lib.hid (fun W => new_no N W (.inl h0))
  have HN2 := Lib.hid (fun W => r12new_no N W (.inl h0))
  have hB := up_alloc (Below.refl _ w) (.cells #[.int .i64 (g 0), .int .i64 (g 1), .int .i64 (g 2), .int .i64 (g 3), .int .i64 (g 4), .int .i64 (g 5), .int .i64 (g 6), .int .i64 (g 7)] 24)
  have HB := Lib.hid hB
  unfold Le.rowV Le.rowA
  clear h hB h0
  go_enter Tryz.func3, Tryz.ntmps3
  go_wp2_with fail
  refine (alive_any _).mono ?_
  rintro e w2 ⟨rfl, b2⟩
  have HB2 := Lib.hid (up_trans HB.out b2)
  clear b2
  go_wp2_with fail
  refine (HG.out _).mono ?_
  rintro e w3 ⟨rfl, rfl⟩
  go_wp2_with fail
  refine (HN1.out _).mono ?_
  rintro e w3 ⟨rfl, rfl⟩
  go_wp2_with fail
  refine (HN2.out _).mono ?_
  rintro e w3 ⟨rfl, rfl⟩
  go_wp2_with fail
  go_ret
  exact ⟨rfl, HB2.out⟩
set_option maxHeartbeats 16000000 in
theorem calls_yes {M : Nat} (hg : greatB (N : Int) n = false) (hM : N = (M : Int)) (hcs : CA w.heap.size w A l) (hl : l.length = n) (hgi : ∀ j (h : j < l.length), Ra.I64 l[j].g) (ha : Ra.I64 a) (hr : Le.okR g) : Calls Tryz.prog 3 #[.int .i64 N, .slice A n c, .int .i64 a, .int .i64 k, .int .i64 al, Le.rowV g] w fun e w' => e = .returned (.bool true) ∧ Below w.heap.size w w' := by
  subst hM
  have hG : M ≤ 100 ∧ n ≤ 60 := by
    have h := hg
    unfold greatB at h
    rw [Bool.or_eq_false_iff, decide_eq_false_iff_not, decide_eq_false_iff_not] at h
    omega
  obtain ⟨hM, hn⟩ := hG
  have HG := Lib.hid (fun W => great_any (M : Int) A n c W)
  rw [hg] at HG
  have hB := up_alloc (Below.refl _ w) (.cells #[.int .i64 (g 0), .int .i64 (g 1), .int .i64 (g 2), .int .i64 (g 3), .int .i64 (g 4), .int .i64 (g 5), .int .i64 (g 6), .int .i64 (g 7)] 24)
  have HK : Hid (Blk (w.alloc (.cells #[.int .i64 (g 0), .int .i64 (g 1), .int .i64 (g 2), .int .i64 (g 3), .int .i64 (g 4), .int .i64 (g 5), .int .i64 (g 6), .int .i64 (g 7)] 24)) w.heap.size (Le.rowL g) 24) := Blk.new w _ 24
  have HB := Lib.hid hB
  have HN1 := Lib.hid (fun W => new_yes (M : Int) W (by omega) (by omega))
  have HN2 := Lib.hid (fun W => r12new_yes (N := M) W (by omega))
  have HCA := Lib.hid hcs
  have HL := Lib.hid hl
  have HGI := Lib.hid hgi
  have HA := Lib.hid ha
  have HOR := Lib.hid hr
  unfold Le.rowV Le.rowA
  clear hg hB hcs hl hgi ha hr
  go_enter Tryz.func3, Tryz.ntmps3
  go_wp2_with fail
  refine (alive_any _).mono ?_
  rintro e w2 ⟨rfl, b2⟩
  have HB2 := Lib.hid (up_trans HB.out b2)
  have HK2 := Lib.hid (Blk.below HK.out b2)
  obtain ⟨gw, hgw⟩ : ∃ gw, w.heap.size = gw := ⟨_, rfl⟩
  have HGW := Lib.hid hgw
  rw [hgw] at HK2 ⊢
  clear b2 HB HK hgw
  go_wp2_with fail
  refine (HG.out _).mono ?_
  rintro e w3 ⟨rfl, rfl⟩
  go_wp2_with fail
  refine (HN1.out _).mono ?_
  rintro e w3 ⟨q, p0, rfl, g0, _, fr0, b3⟩
  have hs2 := HB2.out.size
  have HE3 : Hid (Ev w w3 q p0 M (Sp.newL M) (fun _ => 0) 0 [Le.z8] (zeros M)) := ⟨g0, ⟨fun k hk => Nat.le_trans hs2 (fr0.1 k hk), Nat.le_trans hs2 fr0.2.1, Nat.le_trans hs2 fr0.2.2⟩, up_trans HB2.out b3⟩
  have HK3 := Lib.hid (Blk.below HK2.out b3)
  have hs3 := b3.size
  clear g0 fr0 b3 HK2 HB2 HG HN1
  go_wp2_with fail
  refine (HN2.out _).mono ?_
  rintro e w4 ⟨B, P, x, bv, rfl, r4, b4, l1, l2, l3, l4⟩
  have HJ4 : Hid (Jt w B P x bv w4 q p0 M (Sp.newL M) (fun _ => 0) 0 [Le.z8] (zeros M)) := ⟨HE3.out.below b4, r4, by omega, by omega, by omega, by omega⟩
  have HK4 := Lib.hid (Blk.below HK3.out b4)
  clear r4 b4 l1 l2 l3 l4 HK3 HE3 HN2 hs2 hs3
  have hlo : Hid (w.heap.size ≤ B ∧ w.heap.size ≤ x.g ∧ w.heap.size ≤ x.m ∧ w.heap.size ≤ x.r) := HJ4.out.lo
  go_wp2_with fail
  go_loopw [17, 18] (fun pe i wr => ∃ (j : Nat) (p : Pl) (L : List Sp.Rn) (f : Ra.Ws) (t : Int) (S : List Le.Row), j ≤ n ∧ i = .int .i64 j ∧ pe = .int .i64 (Le.pk S) ∧ Jt w B P x bv wr q p M L f t S (zeros M) ∧ S.length ≤ j + 1 ∧ (0 ≤ t ∧ t ≤ j) ∧ Blk wr gw (Le.rowL g) 24) (fun _ i _ => n - (intOf i).toNat)
  case atStart => exact ⟨0, _, _, _, _, _, by omega, rfl, rfl, HJ4.out, by simp, by omega, HK4.out⟩
  case round =>
    obtain ⟨j, p, L, f, t, S, hj, rfl, rfl, hJ, hSl, ht, hk⟩ := hrel
    have HJ := Lib.hid hJ
    have HK := Lib.hid hk
    clear hJ hk HJ4 HK4
    by_cases hlt : j < n
    · have hjl : j < l.length := by rw [HL.out]; exact hlt
      obtain ⟨cb, co, rfl, hcb, c0, c1, c2, c3, c4, c5, c6⟩ := (HCA.out.below HJ.out.ev.bel) j hjl
      have hgx := HGI.out j hjl
      have HC : Hid (∀ V, Below w.heap.size w V → V.cell? ⟨cb, co + j * 7, none⟩ = some (.int .i64 l[j].x) ∧ V.cell? ⟨cb, co + j * 7 + 1, none⟩ = some (.int .i64 l[j].g) ∧ V.cell? ⟨cb, co + j * 7 + 2, none⟩ = some (.int .i64 l[j].n) ∧ V.cell? ⟨cb, co + j * 7 + 3, none⟩ = some (.int .i64 l[j].a) ∧ V.cell? ⟨cb, co + j * 7 + 4, none⟩ = some (.int .i64 l[j].v) ∧ V.cell? ⟨cb, co + j * 7 + 5, none⟩ = some (.int .i64 l[j].c) ∧ V.cell? ⟨cb, co + j * 7 + 6, none⟩ = some (.int .i64 l[j].s)) := fun V hV => by
        obtain ⟨cb', co', e, _, d0, d1, d2, d3, d4, d5, d6⟩ := (HCA.out.below hV) j hjl
        cases e
        exact ⟨d0, d1, d2, d3, d4, d5, d6⟩
      obtain ⟨y, hy⟩ : ∃ y, l[j] = y := ⟨_, rfl⟩
      rw [hy] at c0 c1 c2 c3 c4 c5 c6 HC hgx
      have HDo := Lib.hid (do_any y HJ.out.ev.gm (by omega))
      have HGX := Lib.hid hgx
      have hdl := do_len L f t S y
      have hds := do_stamp L f t S y ht.1
      have HDS := Lib.hid (do_states L f t S y)
      have HNE : Hid (S ≠ []) := HJ.out.ev.gm.inv.bw.ne
      have hinv : Hid (Inv (M : Int) L f S ∧ Ra.St (M : Int) t f) := ⟨HJ.out.ev.gm.inv, HJ.out.ev.gm.gx.mp.st⟩
      have htb : 0 ≤ t ∧ t < 1099511627776 := by omega
      have hS1 : S.length ≤ 1000 := by omega
      have HDd := Lib.hid (fun (V : World) (hV : Rg B V P x bv M L f t S) => rdoes_any y HGX.out hV hinv.out.1 hinv.out.2 hS1 htb)
      obtain ⟨O, hO⟩ : ∃ O, doO L f t S y = O := ⟨_, rfl⟩
      rw [hO] at HDo HDd hdl hds HDS
      obtain ⟨ov, oe, oL, of, ot, oS⟩ := O
      dsimp only at HDo HDd hdl hds HDS
      unfold clV at HDo HDd
      have j1 : (0 : Int) ≤ (j : Int) := by omega
      have j2 : (j : Int) < (n : Int) := by omega
      have hlt2 : decide ((j : Int) < (n : Int)) = true := by simpa using hlt
      clear hy hjl hgx hO htb hinv
      go_wp2_with fail
      refine HDo.out.mono ?_
      rintro e w5 ⟨rfl, h5⟩
      obtain ⟨p5, ev5, rg5⟩ := HJ.out.told h5
      have k5 : Blk w5 gw (Le.rowL g) 24 := by
        obtain ⟨_, _, _, h2, _⟩ := h5
        exact Sp.Blk.of HK.out (h2.block _ (Sp.Blk.lt HK.out) (HJ.out.ev.gm.gx.other (kind_blk HK.out) (by decide)))
      have EV5 := Lib.hid ev5
      have RG5 := Lib.hid rg5
      have K5 := Lib.hid k5
      clear c0 c1 c2 c3 c4 c5 c6 h5 HDo HJ HK
      obtain ⟨c0, c1, c2, c3, c4, c5, c6⟩ := HC.out _ ev5.bel
      clear ev5 rg5 k5
      go_wp2_with fail
      refine (HDd.out _ RG5.out).mono ?_
      rintro e w6 ⟨rfl, h6⟩
      have j6 := Jt.done hlo.out EV5.out RG5.out h6
      have k6 : Blk w6 gw (Le.rowL g) 24 := h6.2.keep _ _ _ K5.out (by decide) (by decide) (kne (kind_blk K5.out) RG5.out.kg (by decide)) (kne (kind_blk K5.out) RG5.out.km (by decide)) (kne (kind_blk K5.out) RG5.out.kr (by decide))
      dsimp only at j6
      have HJ6 := Lib.hid j6
      have HK6 := Lib.hid k6
      have HSt := Lib.hid (fun i => stamp_any (j6.ev.gm.below (Le.Drawn.below (w := w6) ⟨i, rfl⟩)))
      have r2 := j6.rg.c2
      have r3 : w6.cell? ⟨x.m, 1, none⟩ = some (.int .u64 ot) := Sp.Blk.cell (show Blk w6 x.m _ 43 from j6.rg.mp.blk)
      have hvv : (ov != ov) = false := by simp
      have hee : (oe != oe) = false := by simp
      have htt : (ot != ot) = false := by simp
      clear c0 c1 c2 c3 c4 c5 c6 h6 j6 k6 HDd EV5 RG5 K5 HC
      go_wp2_with fail
      go_quiet ((go_at_call 12; exact Calls.quiet_of_same ((HSt.out _).mono fun e w' he => ⟨he.1, he.2.symm⟩)))
      have HJ7 := Lib.hid (HJ6.out.below (Le.Drawn.below (w := w6) ⟨nq, rfl⟩))
      have HK7 := Lib.hid (Blk.below HK6.out (Le.Drawn.below (w := w6) ⟨nq, rfl⟩))
      clear r2 r3 HJ6 HK6 HSt
      generalize w6.drewN nq = w7 at HJ7 HK7 ⊢
      have HFr := Lib.hid (rfree_any HJ7.out.rg HJ7.out.ev.gm.inv)
      have hpk := pk_step HJ7.out.ev.gm.inv HDS.out HNE.out
      have hfs := HJ7.out.ev.gm.inv.fsum
      have hcw := cw_le nz of M
      have hM2 : (M : Int).toNat = M := by omega
      rw [hM2] at hfs
      have HPK := Lib.hid hpk
      obtain ⟨Y, hY⟩ : ∃ Y, Sp.fsum oL = Y := ⟨_, rfl⟩
      rw [hY] at HFr hfs hpk HPK
      have hwy := i64_in ((M : Int) - Y) (by omega) (by omega)
      obtain ⟨X, hX⟩ : ∃ X, Le.pk S = X := ⟨_, rfl⟩
      rw [hX] at hpk HPK ⊢
      clear hX hY hfs hcw hM2 hpk
      have HE : Hid ((if X < (M : Int) - Y then (M : Int) - Y else X) = Le.pk oS) := by show _ = _; have := HPK.out; split <;> omega
      go_wp2_with fail
      refine HFr.out.mono ?_
      rintro e w8 ⟨rfl, rfl⟩
      go_wp2_with fail
      go_roundw
      case rel => exact ⟨j + 1, _, _, _, _, _, by omega, by go_num, by rw [HE.out], HJ7.out, by omega, by omega, HK7.out⟩
      case measure => simp [intOf]; omega
    · obtain rfl : j = n := by omega
      have HAt := Lib.hid (at_any a HA.out HJ.out.ev.gm)
      have HLn : Hid (S.length ≤ 1000) := by show _ ≤ _; omega
      have HRt := Lib.hid (fun (V : World) (hV : Below wr.heap.size wr V) => rat_any a HA.out (HJ.out.rg.below hV) HJ.out.ev.gm.gx.mp.st)
      obtain ⟨X, hX⟩ : ∃ X, Ra.wAt (M : Int) f (a / 256) = X := ⟨_, rfl⟩
      unfold Ra.entV at HAt HRt
      rw [hX] at HAt HRt
      obtain ⟨xb, hxb⟩ : ∃ xb, (X != 0) = xb := ⟨_, rfl⟩
      rw [hxb] at HAt HRt
      obtain ⟨e0, h0⟩ : ∃ e0, Ra.spanOf X = e0 := ⟨_, rfl⟩
      obtain ⟨e1, h1⟩ : ∃ e1, Ra.verOf X = e1 := ⟨_, rfl⟩
      obtain ⟨e2, h2⟩ : ∃ e2, Ra.clsOf X = e2 := ⟨_, rfl⟩
      obtain ⟨e3, h3⟩ : ∃ e3, Ra.staOf X = e3 := ⟨_, rfl⟩
      rw [h0, h1, h2, h3] at HAt HRt
      have hlt2 : decide ((j : Int) < (j : Int)) = false := by simp
      clear hX hxb h0 h1 h2 h3
      go_wp2_with fail
      refine HAt.out.mono ?_
      rintro e w5 ⟨rfl, b5⟩
      have B5 := Lib.hid b5
      clear HAt b5
      go_wp2_with fail
      obtain ⟨w6, hw6⟩ : ∃ w6, w5.alloc (.cells #[.int .i64 e0, .int .i64 e1, .int .i64 e2, .int .i64 e3] 52) = w6 := ⟨_, rfl⟩
      have B6 : Hid (Below wr.heap.size wr w6) := by show Below _ _ _; rw [← hw6]; exact up_alloc B5.out _
      have K6 : Hid (Blk w6 w5.heap.size [.int .i64 e0, .int .i64 e1, .int .i64 e2, .int .i64 e3] 52) := by show Blk _ _ _ _; rw [← hw6]; exact Blk.new w5 _ 52
      obtain ⟨be, hbe⟩ : ∃ be, w5.heap.size = be := ⟨_, rfl⟩
      rw [hw6, hbe]
      rw [hbe] at K6
      clear hw6 hbe B5
      refine (HRt.out _ B6.out).mono ?_
      rintro e w7 ⟨rfl, b7⟩
      have B7 := Lib.hid (up_trans B6.out b7)
      have K7 := Lib.hid (Blk.below K6.out b7)
      clear HRt B6 K6 b7
      go_upto_region 22 with fail
      obtain ⟨w8, hw8⟩ : ∃ w8, w7.alloc (.cells #[.int .i64 e0, .int .i64 e1, .int .i64 e2, .int .i64 e3] 55) = w8 := ⟨_, rfl⟩
      have B8 : Hid (Below wr.heap.size wr w8) := by show Below _ _ _; rw [← hw8]; exact up_alloc B7.out _
      have K8 : Hid (Blk w8 w7.heap.size [.int .i64 e0, .int .i64 e1, .int .i64 e2, .int .i64 e3] 55) := by show Blk _ _ _ _; rw [← hw8]; exact Blk.new w7 _ 55
      have K8' : Hid (Blk w8 be [.int .i64 e0, .int .i64 e1, .int .i64 e2, .int .i64 e3] 52) := by show Blk _ _ _ _; rw [← hw8]; exact Blk.below K7.out (up_alloc (Below.refl _ _) _)
      obtain ⟨bf, hbf⟩ : ∃ bf, w7.heap.size = bf := ⟨_, rfl⟩
      rw [hw8, hbf]
      rw [hbf] at K8
      clear hw8 hbf B7 K7
      have HJ8 := Lib.hid (HJ.out.below B8.out)
      have HK8 := Lib.hid (Blk.below HK.out B8.out)
      have HB8 := Lib.hid (HJ.out.ev.bel.trans (B8.out.mono HJ.out.ev.bel.size))
      clear B8 HJ HK
      go_upto_region 23 with fail
      go_cut [126] (fun s wx => s = .bool (Le.kindB k) ∧ wx = w8)
      case first =>
        by_cases k0 : 0 ≤ k
        · have dk : decide (0 ≤ k) = true := by simpa using k0
          have ek : Le.kindB k = decide (k < 8) := by simp [Le.kindB, k0]
          have HKk := Lib.hid ek
          clear ek
          go_wp2_with fail
          go_meet
          case rel => exact ⟨by rw [HKk.out], rfl⟩
        · have dk : decide (0 ≤ k) = false := by simpa using k0
          have ek : Le.kindB k = false := by simp [Le.kindB, k0]
          have HKk := Lib.hid ek
          clear ek
          go_wp2_with fail
          go_meet
          case rel => exact ⟨by rw [HKk.out], rfl⟩
      case rest =>
      obtain ⟨rfl, hwc⟩ := hcut
      subst hwc
      obtain ⟨w8, hw8'⟩ : ∃ w8 : World, w8 = wc := ⟨wc, rfl⟩
      subst hw8'
      go_upto_if 126 with fail
      go_cut [27] (fun s wx => s = .int .i64 (Le.heldOf (Le.hd S) k) ∧ Below w8.heap.size w8 wx)
      case first =>
        cases hk : Le.kindB k with
        | true =>
          obtain ⟨k0, k1⟩ := Le.kindB_iff.1 hk
          obtain ⟨kn, rfl⟩ := Int.eq_ofNat_of_zero_le k0
          have eh : Le.heldOf (Le.hd S) kn = Le.hd S kn := by unfold Le.heldOf; rw [if_pos hk]; rfl
          have HE := Lib.hid eh
          have r3 := HJ8.out.rg.c3
          have HNw := Lib.hid (Le.now_any HJ8.out.rg.bk HJ8.out.ev.gm.inv.bw.ne HLn.out)
          clear eh hk
          go_wp2_with fail
          refine HNw.out.mono ?_
          rintro e w9 ⟨r, c', rfl, hrow, hd9⟩
          have cK := (hrow.below hd9.below).cell (j := kn) (by omega)
          have B9 := Lib.hid hd9.below
          clear hrow hd9 HNw
          go_wp2_with fail
          go_meet
          case rel => exact ⟨by rw [HE.out], B9.out⟩
        | false =>
          have eh : Le.heldOf (Le.hd S) k = 0 := by unfold Le.heldOf; rw [if_neg (by rw [hk]; decide)]
          have HE := Lib.hid eh
          clear eh
          go_wp2_with fail
          go_meet
          case rel => exact ⟨by rw [HE.out], Below.refl _ _⟩
      case rest =>
      obtain ⟨rfl, hwc⟩ := hcut
      obtain ⟨w9, hw9⟩ : ∃ w9 : World, w9 = wc := ⟨wc, rfl⟩
      subst hw9
      have hdr : Below w9.heap.size w9 w9.drew := (Below.refl _ w9).drew
      have J0 := Lib.hid (HJ8.out.below hwc)
      have HJ1 := Lib.hid (J0.out.below hdr)
      have E9 := Lib.hid (Blk.below K8'.out hwc)
      have F9 := Lib.hid (Blk.below K8.out hwc)
      have R9 := Lib.hid (Blk.below HK8.out hwc)
      have HDR := Lib.hid hdr
      have HB9 := Lib.hid (HB8.out.trans (hwc.mono HB8.out.size))
      clear HJ8 K8 K8' HK8 HB8 hwc hdr
      have HSF : Hid (∀ V, Below w9.heap.size w9 V → V.cell? ⟨be, 0, none⟩ = some (.int .i64 e0) ∧ V.cell? ⟨be, 1, none⟩ = some (.int .i64 e1) ∧ V.cell? ⟨be, 2, none⟩ = some (.int .i64 e2) ∧ V.cell? ⟨be, 3, none⟩ = some (.int .i64 e3) ∧ V.cell? ⟨bf, 0, none⟩ = some (.int .i64 e0) ∧ V.cell? ⟨bf, 1, none⟩ = some (.int .i64 e1) ∧ V.cell? ⟨bf, 2, none⟩ = some (.int .i64 e2) ∧ V.cell? ⟨bf, 3, none⟩ = some (.int .i64 e3)) := fun V hV =>
        ⟨Sp.Blk.cell (Blk.below E9.out hV), Sp.Blk.cell (Blk.below E9.out hV), Sp.Blk.cell (Blk.below E9.out hV), Sp.Blk.cell (Blk.below E9.out hV), Sp.Blk.cell (Blk.below F9.out hV), Sp.Blk.cell (Blk.below F9.out hV), Sp.Blk.cell (Blk.below F9.out hV), Sp.Blk.cell (Blk.below F9.out hV)⟩
      have hS1 := HSF.out _ HDR.out
      have HEn := Lib.hid (entry_any e0 e1 e2 e3 w9.drew)
      have hneq : ∀ V : World, (binOp .neq 55 (.agg #[.int .i64 e0, .int .i64 e1, .int .i64 e2, .int .i64 e3]) (.agg #[.int .i64 e0, .int .i64 e1, .int .i64 e2, .int .i64 e3])).run Tryz.prog V = .ok (.bool false) V := fun V => ent_neq V e0 e1 e2 e3
      have hngd : ∀ (V : World) (x y : Operand), (eqGuard .neq 55 x y (.agg #[.int .i64 e0, .int .i64 e1, .int .i64 e2, .int .i64 e3]) (.agg #[.int .i64 e0, .int .i64 e1, .int .i64 e2, .int .i64 e3])).run Tryz.prog V = .ok () V := fun V x y => ent_guard V x y e0 e1 e2 e3
      obtain ⟨gv, hgv⟩ : ∃ gv, Sp.gvv L a = gv := ⟨_, rfl⟩
      have HGV := Lib.hid hgv
      obtain ⟨hh, hhh⟩ : ∃ hh, Le.heldOf (Le.hd S) k = hh := ⟨_, rfl⟩
      have HHH := Lib.hid hhh
      obtain ⟨ss, hss⟩ : ∃ ss, spL L f k = ss := ⟨_, rfl⟩
      have HSS := Lib.hid hss
      obtain ⟨ls, hls⟩ : ∃ ls, ss.length = ls := ⟨_, rfl⟩
      have HLS := Lib.hid hls
      have HSL : Hid (ss.length ≤ 1048576) := by
        show _ ≤ _
        have h1 := spL_len L f k
        have h2 := J0.out.ev.gm.inv.wf.len
        rw [← hss]; omega
      rw [hhh]
      have x1 : (xb != xb) = false := by simp
      have x2 : (gv != gv) = false := by simp
      have x3 : (hh != hh) = false := by simp
      clear hgv hhh hss hls
      go_upto_region 25 with fail
      go_region_held3 (fun V => V.cell? ⟨be, 0, none⟩ = some (.int .i64 e0) ∧ V.cell? ⟨be, 1, none⟩ = some (.int .i64 e1) ∧ V.cell? ⟨be, 2, none⟩ = some (.int .i64 e2) ∧ V.cell? ⟨be, 3, none⟩ = some (.int .i64 e3) ∧ V.cell? ⟨bf, 0, none⟩ = some (.int .i64 e0) ∧ V.cell? ⟨bf, 1, none⟩ = some (.int .i64 e1) ∧ V.cell? ⟨bf, 2, none⟩ = some (.int .i64 e2) ∧ V.cell? ⟨bf, 3, none⟩ = some (.int .i64 e3))
        (first | exact HSF.out _ B5.out | exact HSF.out _ B4.out | exact HSF.out _ B3.out | exact HSF.out _ B2.out | exact HSF.out _ B1.out | exact hS1)
        ((first
          | (go_at_call 21; refine HSI.out.mono ?_; rintro e w5 ⟨rfl, b5⟩; have B5 := Lib.hid (up_trans B4.out b5); clear b5)
          | (go_at_call 23; refine HOf.out.mono ?_; rintro e w4 ⟨A4, c4, rfl, at4, b4⟩; have B4 := Lib.hid (up_trans B3.out b4); have HSI := Lib.hid (sameints_any ss A3 A4 c3 c4 ls ls w4 (AT3.out.up b4) at4 HSL.out HLS.out HLS.out); clear b4 at4)
          | (go_at_call 22; refine HSp.out.mono ?_; rintro e w3 ⟨A3, c3, rfl, at3, b3⟩; have B3 := Lib.hid (up_trans B1.out b3); have AT3 := Lib.hid at3; have HOf := Lib.hid (rof_any k (HJ2.out.below b3).rg (HJ2.out.below b3).ev.gm.inv (HJ2.out.below b3).ev.gm.gx.mp.st); rw [HSS.out, HLS.out] at HOf; clear b3 at3)
          | (go_at_call 20; refine HHe.out.mono ?_; rintro e w' ⟨rfl, rfl⟩)
          | (go_at_call 19; refine HRl.out.mono ?_; rintro e w' ⟨rfl, rfl⟩)
          | (go_at_call 18; refine HLe.out.mono ?_; rintro e w2 ⟨rfl, b2⟩; have B1 := Lib.hid (up_trans B0.out b2); have HJ2 := Lib.hid (HJ1b.out.below b2); have HRl := Lib.hid (rlen_any a HA.out HJ2.out.rg HJ2.out.ev.gm.inv); rw [HGV.out] at HRl; have HHe := Lib.hid (held_any k HJ2.out.ev.gm); rw [HHH.out] at HHe; have HSp := Lib.hid (spans_any k HJ2.out.ev.gm); rw [HSS.out, HLS.out] at HSp; clear b2)
          | (go_at_call 17; refine HEn.out.mono ?_; rintro e w1 ⟨rfl, b1⟩; have B0 := Lib.hid (up_trans HDR.out b1); have B1 := Lib.hid B0.out; have HJ1b := Lib.hid (HJ1.out.below b1); have HLe := Lib.hid (len_any a HJ1b.out.ev.gm); rw [HGV.out] at HLe; clear b1)))
      have J5 := Lib.hid (J0.out.below B5.out)
      have R5 := Lib.hid (Blk.below R9.out B5.out)
      have HB5 := Lib.hid (HB9.out.trans (B5.out.mono HB9.out.size))
      have hdr : Below w5.heap.size w5 w5.drew := (Below.refl _ w5).drew
      have HDR5 := Lib.hid hdr
      have D5 := Lib.hid (J5.out.below hdr)
      have hr5 := J5.out.rg.c3
      have HTF : Hid (∀ V, Below w5.heap.size w5 V → V.cell? ⟨P, 3, none⟩ = some (.pointer (some ⟨x.k, 0, none⟩)) ∧ V.cell? ⟨gw, 0, none⟩ = some (.int .i64 (g 0)) ∧ V.cell? ⟨gw, 1, none⟩ = some (.int .i64 (g 1)) ∧ V.cell? ⟨gw, 2, none⟩ = some (.int .i64 (g 2)) ∧ V.cell? ⟨gw, 3, none⟩ = some (.int .i64 (g 3)) ∧ V.cell? ⟨gw, 4, none⟩ = some (.int .i64 (g 4)) ∧ V.cell? ⟨gw, 5, none⟩ = some (.int .i64 (g 5)) ∧ V.cell? ⟨gw, 6, none⟩ = some (.int .i64 (g 6)) ∧ V.cell? ⟨gw, 7, none⟩ = some (.int .i64 (g 7))) := fun V hV =>
        ⟨(J5.out.rg.below hV).c3, Sp.Blk.cell (Blk.below R5.out hV), Sp.Blk.cell (Blk.below R5.out hV), Sp.Blk.cell (Blk.below R5.out hV), Sp.Blk.cell (Blk.below R5.out hV), Sp.Blk.cell (Blk.below R5.out hV), Sp.Blk.cell (Blk.below R5.out hV), Sp.Blk.cell (Blk.below R5.out hV), Sp.Blk.cell (Blk.below R5.out hV)⟩
      have hT1 := HTF.out _ hdr
      have HPa := Lib.hid (pages_any D5.out.ev.gm)
      have HFe := Lib.hid (free_any D5.out.ev.gm)
      obtain ⟨fs, hfs⟩ : ∃ fs, Sp.fsum L = fs := ⟨_, rfl⟩
      have HFS := Lib.hid hfs
      rw [hfs] at HFe
      obtain ⟨cb, hcb⟩ : ∃ cb, canB L a al = cb := ⟨_, rfl⟩
      have HCB := Lib.hid hcb
      obtain ⟨pp, hpp⟩ : ∃ pp, Le.pk S = pp := ⟨_, rfl⟩
      have HPP := Lib.hid hpp
      obtain ⟨nn, hnn⟩ : ∃ nn, (Le.cn S g : Nat) = nn := ⟨_, rfl⟩
      have HNN := Lib.hid hnn
      rw [hpp]
      have y1 : ((M : Int) == (M : Int)) = true := by simp
      have y2 : (fs == fs) = true := by simp
      have y3 : (cb == cb) = true := by simp
      have y4 : (pp == pp) = true := by simp
      have y5 : ((nn : Int) == (nn : Int)) = true := by simp
      have y6 : ((256 * (M : Int)) == (256 * (M : Int))) = true := by simp
      have hw256 := i64_in (256 * (M : Int)) (by omega) (by omega)
      clear hS1 hneq hngd hdr hfs hcb hpp hnn x1 x2 x3
      go_upto_region 27 with fail
      go_region_held3 (fun V => V.cell? ⟨P, 3, none⟩ = some (.pointer (some ⟨x.k, 0, none⟩)) ∧ V.cell? ⟨gw, 0, none⟩ = some (.int .i64 (g 0)) ∧ V.cell? ⟨gw, 1, none⟩ = some (.int .i64 (g 1)) ∧ V.cell? ⟨gw, 2, none⟩ = some (.int .i64 (g 2)) ∧ V.cell? ⟨gw, 3, none⟩ = some (.int .i64 (g 3)) ∧ V.cell? ⟨gw, 4, none⟩ = some (.int .i64 (g 4)) ∧ V.cell? ⟨gw, 5, none⟩ = some (.int .i64 (g 5)) ∧ V.cell? ⟨gw, 6, none⟩ = some (.int .i64 (g 6)) ∧ V.cell? ⟨gw, 7, none⟩ = some (.int .i64 (g 7)))
        (first | exact HTF.out _ T5.out | exact HTF.out _ T4.out | exact HTF.out _ T3.out | exact HTF.out _ T2.out | exact HTF.out _ T1.out | exact hT1)
        ((first
          | (go_at_call 32; refine HLc.out.mono ?_; rintro e w' ⟨rfl, rfl⟩)
          | (go_at_call 31; refine HCe.out.mono ?_; rintro e w' ⟨rfl, rfl⟩)
          | (go_at_call 30; refine HSn.out.mono ?_; rintro e v5 ⟨rfl, b5⟩; have T5 := Lib.hid (up_trans T4.out b5); have HCe := Lib.hid (cells_any (JE.out.below b5).ev.gm); have HLc := Lib.hid (clen_any (JE.out.below b5).ev.gm); clear b5)
          | (go_at_call 29; refine HTi.out.mono ?_; rintro e v4 ⟨rfl, b4⟩; have T4 := Lib.hid (up_trans T3.out b4); have JE := Lib.hid (JD.out.below b4); have HSn := Lib.hid (seen_any g JE.out.rg.bk HLn.out); unfold Le.rowV Le.rowA at HSn; rw [HNN.out] at HSn; clear b4)
          | (go_at_call 28; refine HPk.out.mono ?_; rintro e w' ⟨rfl, rfl⟩)
          | (go_at_call 27; refine HRc.out.mono ?_; rintro e v3 ⟨rfl, b3⟩; have T3 := Lib.hid (up_trans T2.out b3); have JD := Lib.hid (JC.out.below b3); have HPk := Lib.hid (peak_any JD.out.ev.gm); rw [HPP.out] at HPk; have HTi := Lib.hid (times_any g HOR.out JD.out.ev.gm); unfold Le.rowV Le.rowA at HTi; rw [HNN.out] at HTi; clear b3)
          | (go_at_call 26; refine HCa.out.mono ?_; rintro e v2 ⟨rfl, b2⟩; have T2 := Lib.hid (up_trans T1.out b2); have JC := Lib.hid (JB.out.below b2); have HRc := Lib.hid (rcan_any a al JC.out.rg JC.out.ev.gm.inv); rw [HCB.out] at HRc; clear b2)
          | (go_at_call 13; refine HRf.out.mono ?_; rintro e w' ⟨rfl, rfl⟩)
          | (go_at_call 25; refine HFe.out.mono ?_; rintro e v1 ⟨rfl, b1⟩; have T1 := Lib.hid (up_trans HDR5.out b1); have JB := Lib.hid (D5.out.below b1); have HRf := Lib.hid (rfree_any JB.out.rg JB.out.ev.gm.inv); rw [HFS.out] at HRf; have HCa := Lib.hid (can_any a al JB.out.ev.gm); rw [HCB.out] at HCa; clear b1)
          | (go_at_call 24; refine HPa.out.mono ?_; rintro e w' ⟨rfl, rfl⟩)))
      go_wp2_with fail
      go_ret
      exact ⟨rfl, HB5.out.trans (T5.out.mono HB5.out.size)⟩
theorem law_calls (hcs : CA w.heap.size w A l) (hl : l.length = n) (hgi : ∀ j (h : j < l.length), Ra.I64 l[j].g) (ha : Ra.I64 a) (hr : Le.okR g) : Calls Tryz.prog 3 #[.int .i64 N, .slice A n c, .int .i64 a, .int .i64 k, .int .i64 al, Le.rowV g] w fun e w' => e = .returned (.bool true) ∧ Below w.heap.size w w' := by
  cases hg : greatB N n with
  | true => exact calls_great hg
  | false =>
    by_cases h0 : N < 0
    · exact calls_no hg h0
    · obtain ⟨M, rfl⟩ := Int.eq_ofNat_of_zero_le (show 0 ≤ N by omega)
      exact calls_yes hg rfl hcs hl hgi ha hr
end
end Go.Proofs.YtjnknnakllbaaaaGreat.Gr
