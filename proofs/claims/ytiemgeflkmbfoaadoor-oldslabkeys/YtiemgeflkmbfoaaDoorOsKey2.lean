/-
  The walk of the statement on keys, where both slabs are made.
-/
import Derived.Test.YtiemgeflkmbfoaaDoorOsKeys
import Derived.Deep.DeepCutAuto
namespace Go.Proofs.YtiemgeflkmbfoaaDoor.Os
set_option maxRecDepth 100000
open Go.RowKit
open Ta (sz szs classB classB_iff classB_not sizeOf' slotsOf)
open Bi (sets bt on first setL setB tst hasB u Blk Drawn grown_refl grown_trans grown_below up_alloc up_drew up_trans i64_in ret_i ret_b ent)

theorem len_map (w : World) (b c k : Nat) (es : Array MapEntry) (hb : w.heap[b]? = some (.map es c)) (hs : es.size = k) : (Builtin.len_ #[63] 3 #[.map (some b)]).run Tryd.prog w = .ok (.int .i64 (k : Int)) w := by
  simp [Builtin.len_, run_underlying Tryd.underlying63, Go.MapKept.run_getObj_map hb, Result.andThen, hs, goInt]
theorem map_first (w : World) (b : Nat) (x : BitVec 64) (hb : w.heap[b]? = some (.map #[] 0)) :
    ∃ (w12 w13 : World), (Instr.lookup 63 (.map (some b)) (keyW x) false).run Tryd.prog w = .ok (.int .i64 0) w ∧
      (Instr.mapEntry 63 (.map (some b)) (keyW x)).run Tryd.prog w = .ok (.tuple #[.int .i64 0, .int .i64 0]) w12 ∧
      (Instr.lookup 63 (.map (some b)) (keyW x) false).run Tryd.prog w12 = .ok (.int .i64 0) w12 ∧
      (Instr.entryStore 63 (.map (some b)) (.int .i64 0) (.int .i64 1)).run Tryd.prog w12 = .ok () w13 ∧
      w13.heap[b]? = some (.map #[ent [x] 1 0] 1) ∧ w.grownBy w13 (some b) := by
  have hlt : b < w.heap.size := (Array.getElem?_eq_some_iff.1 hb).1
  have hm := Bi.set_heap w b (.map #[ent [x] 0 0] 1) hlt
  exact ⟨_, _, Bi.look_none w b 0 [x] #[] hb (fun e he => by simp at he), Bi.entry_none w b 0 [x] #[] hb (fun e he => by simp at he), Bi.look_some _ b 1 [x] #[ent [x] 0 0] 0 0 0 hm rfl (fun i e hi hn => by
    rcases i with _ | i
    · exact absurd rfl hn
    · simp at hi), Bi.store_last1 _ b 1 0 [x] 0 1 hm, Bi.set_heap _ b _ (by simpa [Go.ChangeMaps.setBlock] using hlt), grown_trans (Bi.set_grown _ _ _) (Bi.set_grown _ _ _)⟩
theorem map_next (w : World) (b : Nat) (x y : BitVec 64) (hb : w.heap[b]? = some (.map #[ent [x] 1 0] 1)) :
    ∃ (v st : Int) (w12 w13 : World) (es : Array MapEntry) (c : Nat), 0 ≤ v ∧ v ≤ 1 ∧
      (Instr.lookup 63 (.map (some b)) (keyW y) false).run Tryd.prog w = .ok (.int .i64 v) w ∧
      (Instr.mapEntry 63 (.map (some b)) (keyW y)).run Tryd.prog w = .ok (.tuple #[.int .i64 v, .int .i64 st]) w12 ∧
      (Instr.lookup 63 (.map (some b)) (keyW y) false).run Tryd.prog w12 = .ok (.int .i64 v) w12 ∧
      (Instr.entryStore 63 (.map (some b)) (.int .i64 st) (.int .i64 (v + 1))).run Tryd.prog w12 = .ok () w13 ∧
      w13.heap[b]? = some (.map es c) ∧ ((y = x → es.size = 1) ∧ (y ≠ x → es.size = 2)) ∧ w.grownBy w13 (some b) := by
  obtain ⟨v, st, w12, w13, es, c, h0, h1, h2, h3, h4, h5, h6, ⟨h7, h8⟩, h9⟩ := Bi.map_step w b [x] [y] hb
  refine ⟨v, st, w12, w13, es, c, h0, h1, h2, h3, h4, h5, h6, ⟨fun e => h7 (by rw [e]), fun e => h8 (fun e2 => e ?_)⟩, h9⟩
  exact Bi.keyV_inj e2 0 (by omega)
theorem key_dec {x y : BitVec 64} {la lb : List Bool} (hx : Wd x la) (hy : Wd y lb) (hl : la.length = lb.length) (h64 : la.length ≤ 64) : (x == y) = decide (la = lb) := by
  rw [Bool.eq_iff_iff, beq_iff_eq, decide_eq_true_eq]
  constructor
  · intro e; subst e; exact hx.same hy hl h64
  · intro e; subst e; exact hx.one hy
/-- Two slabs of one class, newer than a world. -/
structure Tw (w0 w : World) (s qs gs t qt gt : Nat) (c : Int) (la lb : List Bool) : Prop where
  sa : Sl w s qs gs 0 c la
  sb : Sl w t qt gt 0 c lb
  bel : Below w0.heap.size w0 w
  tb : Tb w
theorem Tw.below {w0 w w' : World} {s qs gs t qt gt : Nat} {c : Int} {la lb : List Bool} (h : Tw w0 w s qs gs t qt gt c la lb) (hb : Below w.heap.size w w') : Tw w0 w' s qs gs t qt gt c la lb := ⟨h.sa.below hb, h.sb.below hb, up_trans h.bel hb, h.tb.below hb⟩
section
variable {w : World} {c : Int} {A B : Option Addr} {na ca nb cb : Nat}
set_option maxHeartbeats 8000000 in
theorem keys_main {a b' : List Int} (hT : Tb w) (hA : In w A na ca a) (hB : In w B nb cb b') (h1 : na ≤ 100) (h2 : nb ≤ 100) (hc : classB c = true) (hf1 : wiB (l0 c) a = true) (hf2 : wiB (l0 c) b' = true) : Calls Tryd.prog 6 #[.int .i64 c, .slice A na ca, .slice B nb cb] w fun e w' => e = .returned (.bool true) ∧ Below w.heap.size w w' := by
  have HAl := Lib.hid (alive_any w hT)
  have hn1 : decide (100 < (na : Int)) = false := by simp; omega
  have hn2 : decide (100 < (nb : Int)) = false := by simp; omega
  have HW1 := Lib.hid (fun (V : World) (hV : Below w.heap.size w V) (g cap : Nat) (hA' : At V.heap.size V (some ⟨g, 0, none⟩) (ints a)) => with_yes (b := 0) (c := c) (some ⟨g, 0, none⟩) na cap a hA' hA.len (by omega) (hT.below hV) base0 hc)
  have HW2 := Lib.hid (fun (V : World) (hV : Below w.heap.size w V) (g cap : Nat) (hA' : At V.heap.size V (some ⟨g, 0, none⟩) (ints b')) => with_yes (b := 0) (c := c) (some ⟨g, 0, none⟩) nb cap b' hA' hB.len (by omega) (hT.below hV) base0 hc)
  have HC1 := Lib.hid (fun (V : World) (hV : Below w.heap.size w V) => copyints_any V A na ca a (hA.up hV) (by omega))
  have HC2 := Lib.hid (fun (V : World) (hV : Below w.heap.size w V) => copyints_any V B nb cb b' (hB.up hV) (by omega))
  obtain ⟨p1, p2, p3⟩ := wi_facts a (l0 c) hf1
  rw [sets_l0, Nat.zero_add, hA.len] at p3
  obtain ⟨la, hla⟩ : ∃ l, wiS (l0 c) a = l := ⟨_, rfl⟩
  obtain ⟨lb, hlb⟩ : ∃ l, wiS (l0 c) b' = l := ⟨_, rfl⟩
  have hlen1 : la.length = nS c := by rw [← hla, wiS_len, l0_len]
  have hlen2 : lb.length = nS c := by rw [← hlb, wiS_len, l0_len]
  rw [hla] at p2 p3
  rw [l0_len] at p2
  have HLA := Lib.hid hla
  have HLB := Lib.hid hlb
  have HF1 := Lib.hid hf1
  have HF2 := Lib.hid hf2
  have HP2 := Lib.hid p2
  have HP3 := Lib.hid p3
  have HL1 := Lib.hid hlen1
  have HL2 := Lib.hid hlen2
  have HIn := Lib.hid hA
  have HC := Lib.hid hc
  have HT := Lib.hid hT
  have HAg := Lib.hid (wi_again hlen1)
  clear hT hA hB h2 hc hf1 hf2 p1 p2 p3 hla hlb hlen1 hlen2
  go_enter Tryd.func6, Tryd.ntmps6
  go_wp2_with fail
  refine HAl.out.mono ?_
  rintro e w1 ⟨rfl, b1⟩
  have B1 := Lib.hid b1
  clear b1
  go_wp2_with fail
  refine (HC1.out _ B1.out).mono ?_
  rintro e w2 ⟨g1, c1, rfl, at1, -, b2⟩
  have B2 := Lib.hid (up_trans B1.out b2)
  have AT1 := Lib.hid at1
  clear b2 at1
  go_wp2_with fail
  refine (HW1.out _ B2.out _ _ AT1.out).mono ?_
  rintro e w3 ⟨b3, h3⟩
  rcases h3 with ⟨_, s, qs, gs, rfl, s3, -, -⟩ | ⟨f1, _⟩
  rotate_left
  · rw [HF1.out] at f1; cases f1
  have B3 := Lib.hid (up_trans B2.out b3)
  have S3 := Lib.hid s3
  clear b3 AT1 s3
  go_wp2_with fail
  refine (HC2.out _ B3.out).mono ?_
  rintro e w4 ⟨g2, c2, rfl, at2, -, b4⟩
  have B4 := Lib.hid (up_trans B3.out b4)
  have S4 := Lib.hid (S3.out.below b4)
  have AT2 := Lib.hid at2
  clear b4 at2
  go_wp2_with fail
  refine (HW2.out _ B4.out _ _ AT2.out).mono ?_
  rintro e w5 ⟨b5, h5⟩
  rcases h5 with ⟨_, t, qt, gt, rfl, s5, -, -⟩ | ⟨f2, _⟩
  rotate_left
  · rw [HF2.out] at f2; cases f2
  have T5 : Hid (Tw w w5 s qs gs t qt gt c la lb) := ⟨by rw [← HLA.out]; exact S4.out.below b5, by rw [← HLB.out]; exact s5, up_trans B4.out b5, HT.out.below (up_trans B4.out b5)⟩
  clear b5 AT2 s5 S3 S4 B1 B2 B3 B4 HW1 HW2 HC1 HC2 HAl
  have hll : Hid (la.length = lb.length ∧ la.length ≤ 64) := ⟨HL1.out.trans HL2.out.symm, T5.out.sa.len_le.2⟩
  obtain ⟨D, hD⟩ : ∃ D, decide (la = lb) = D := ⟨_, rfl⟩
  have HD := Lib.hid hD
  have HD2 : Hid (decide (sets la = sets lb) = D) := by show _ = _; rw [← hD, decide_eq_decide]; exact sets_inj hll.out.1
  have hdd : (D != D) = false := by simp
  have hnn : ((na : Int) != (na : Int)) = false := by simp
  have hsl : Hid ((sets la).length ≤ 4096) := Nat.le_trans (Bi.sets_length_le la) (by have := hll.out.2; omega)
  clear hD
  go_wp2_with fail
  go_region_held3 (fun _ => True) (exact trivial)
    ((first
      | (go_at_call 29; refine (taken_nat TL3.out.sa TL3.out.tb).mono ?_; rw [HP3.out]; rintro e wl4 ⟨g3, cap3, rfl, -, bl4⟩; have TL4 := Lib.hid (TL3.out.below bl4); clear bl4)
      | (go_at_call 17; refine (Bi.same_any (some ⟨g1', 0, none⟩) (some ⟨g2', 0, none⟩) (sets la) (sets lb) cap1 cap2 wl1.heap.size wl2.heap.size wl2 (IA1.out.below bl2.out) IA2.out hsl.out).mono ?_; rw [HD2.out]; rintro e wl3 ⟨rfl, hds⟩; have TL3 := Lib.hid (TL2.out.below hds.below); clear hds)
      | (go_at_call 29; refine (taken_nat TL1.out.sb TL1.out.tb).mono ?_; rintro e wl2 ⟨g2', cap2, rfl, ia2, bl2'⟩; have TL2 := Lib.hid (TL1.out.below bl2'); have bl2 := Lib.hid bl2'; have IA2 := Lib.hid ia2; clear bl2' ia2)
      | (go_at_call 29; refine (taken_nat TK2.out.sa TK2.out.tb).mono ?_; rintro e wl1 ⟨g1', cap1, rfl, ia1, bl1⟩; have TL1 := Lib.hid (TK2.out.below bl1); have IA1 := Lib.hid ia1; clear bl1 ia1)
      | (go_at_call 28; refine (key_any TK1.out.sb).mono ?_; rintro e wk2 ⟨⟨y, rfl, hy⟩, bk2⟩; have TK2 := Lib.hid (TK1.out.below bk2); have hke : ∀ V : World, (binOp .eql 58 (keyW x) (keyW y)).run Tryd.prog V = .ok (.bool D) V := (fun V => by rw [← HD.out, ← key_dec HXW.out hy hll.out.1 hll.out.2]; exact keyw_eql V x y); have hkg : ∀ (V : World) (p q : Operand), (eqGuard .eql 58 p q (keyW x) (keyW y)).run Tryd.prog V = .ok () V := (fun V p q => keyw_guard V p q x y); have HYW := Lib.hid hy; clear bk2 hy)
      | (go_at_call 28; refine (key_any (T5.out.below (Below.refl _ w5).drew).sa).mono ?_; rintro e wk1 ⟨⟨x, rfl, hx⟩, bk1⟩; have TK1 := Lib.hid ((T5.out.below (Below.refl _ w5).drew).below bk1); have HXW := Lib.hid hx; clear bk1 hx)))
  clear T5 TK1 TK2 TL1 TL2 TL3 IA1 IA2 bl2 HXW HYW hke hkg
  go_wp2_with fail
  go_loopw [11] (fun i wr => ∃ k : Nat, k ≤ na ∧ i = .int .i64 k ∧ Tw w wr s qs gs t qt gt c la lb) (fun i _ => na - (intOf i).toNat)
  case atStart => exact ⟨0, by omega, rfl, TL4.out⟩
  case round =>
    obtain ⟨k, hk, rfl, ht⟩ := hrel
    have HTw := Lib.hid ht
    have HIr := Lib.hid (HIn.out.up ht.bel)
    clear ht
    by_cases hlt : k < na
    · have hkl : k < a.length := by rw [HIn.out.len]; exact hlt
      obtain ⟨ab, ao, hae, _, q0⟩ := HIr.out.ia (by omega)
      subst hae
      have q0 := q0 k hkl
      obtain ⟨K, hK, hKn, hKb⟩ := HP2.out (a.getD k 0) (by rw [List.getD_eq_getElem?_getD, List.getElem?_eq_getElem hkl]; exact List.getElem_mem hkl)
      rw [hK] at q0
      have HK : Hid (hasB la.length (K : Int) = true) := Bi.hasB_iff.2 (by rw [HL1.out]; omega)
      obtain ⟨z0, z1, n0, n1, nz, _, _⟩ := cls HC.out
      have h3 : (K : Int) * sizeOf' c ≤ 64 * 512 := Int.mul_le_mul (by omega) z1 (by omega) (by omega)
      have h4 : 0 ≤ (K : Int) * sizeOf' c := Int.mul_nonneg (by omega) (by omega)
      have HAd := Lib.hid (address_any (K : Int) HTw.out.sa HTw.out.tb)
      have hv : adV 0 (sizeOf' c) la.length (K : Int) = 0 + (K : Int) * sizeOf' c := by unfold adV; rw [HK.out, if_pos rfl]
      rw [hv, HK.out] at HAd
      have hg : gvE 0 (sizeOf' c) la (0 + (K : Int) * sizeOf' c) = 0 := by
        unfold gvE gvI
        rw [slot_at (by omega) (by rw [HL1.out]; exact hKn), if_neg (by omega), if_neg (by rw [tst_bt, hKb]; simp)]
      have hi : I64 (0 + (K : Int) * sizeOf' c) := by unfold I64; omega
      obtain ⟨v, hv⟩ : ∃ v, 0 + (K : Int) * sizeOf' c = v := ⟨_, rfl⟩
      rw [hv] at HAd hg hi
      have HG := Lib.hid hg
      have HI := Lib.hid hi
      have j1 : (0 : Int) ≤ (k : Int) := by omega
      have j2 : (k : Int) < (na : Int) := by omega
      have hlt2 : decide ((k : Int) < (na : Int)) = true := by simpa using hlt
      clear hkl hK hKn hKb z0 z1 n0 n1 nz h3 h4 hg hi hv TL4
      go_wp2_with fail
      refine HAd.out.mono ?_
      rintro e w6 ⟨rfl, d6⟩
      have T6 := Lib.hid (HTw.out.below d6.below)
      clear d6 q0 HAd
      go_wp2_with fail
      refine (clone_any T6.out.sa).mono ?_
      rintro e w7 ⟨s2, q2, g2, rfl, c7, hs7, hg7, b7⟩
      have T7 := Lib.hid (T6.out.below b7)
      have C7 := Lib.hid c7
      have HGv := Lib.hid (give_any v HI.out c7 T7.out.tb)
      rw [HG.out] at HGv
      have hb67 := b7.size
      clear c7
      go_wp2_with fail
      refine HGv.out.mono ?_
      rintro e w8 ⟨rfl, h8⟩
      have T8 : Hid (Tw w w8 s qs gs t qt gt c la lb) := T6.out.below (b7.trans (h8.fr.below hs7 hg7 hb67))
      clear h8 b7 HGv C7
      go_wp2_with fail
      go_roundw
      case rel => exact ⟨k + 1, by omega, by go_num, T8.out⟩
      case measure => simp [intOf]; omega
    · obtain rfl : k = na := by omega
      have hlt2 : decide ((k : Int) < (k : Int)) = false := by simp
      clear TL4
      go_wp2_with fail
      refine (taken_any HTw.out.sa HTw.out.tb).mono ?_
      rintro e w6 ⟨A6, c6, rfl, at6, b6⟩
      have T6 := Lib.hid (HTw.out.below b6)
      have AT6 := Lib.hid at6
      have HLn : Hid ((nats (sets la)).length ≤ 1048576) := by show _ ≤ _; unfold nats; rw [List.length_map]; have := hsl.out; omega
      clear b6 at6
      go_wp2_with fail
      refine (with_yes (b := 0) (c := c) A6 _ c6 (nats (sets la)) AT6.out rfl HLn.out T6.out.tb base0 HC.out).mono ?_
      rintro e w7 ⟨b7, h7⟩
      rcases h7 with ⟨_, v, qv, gv, rfl, s7, -, -⟩ | ⟨f7, _⟩
      rotate_left
      · rw [HAg.out.1] at f7; cases f7
      rw [HAg.out.2] at s7
      have T7 := Lib.hid (T6.out.below b7)
      have U7 := Lib.hid s7
      have hmmk := @run_makeMap Tryd.prog
      clear s7 b7 AT6
      go_wp2_with fail
      obtain ⟨w8, hw8⟩ : ∃ w8, w7.alloc (.map #[] 0) = w8 := ⟨_, rfl⟩
      have b8 : Below w7.heap.size w7 w8 := by rw [← hw8]; exact up_alloc (Below.refl _ _) _
      have M8 : w8.heap[w7.heap.size]? = some (.map #[] 0) := by rw [← hw8]; exact heap_alloc_new w7 _
      obtain ⟨m, hm⟩ : ∃ m, w7.heap.size = m := ⟨_, rfl⟩
      rw [hw8, hm]
      rw [hm] at M8
      have hTm : Hid (w.heap.size ≤ m) := by show _ ≤ _; rw [← hm]; exact T7.out.bel.size
      have T8 := Lib.hid (T7.out.below b8)
      have U8 := Lib.hid (U7.out.below b8)
      have HM8 := Lib.hid M8
      clear hw8 hm M8 b8 hmmk
      have hw1 : IntKind.i64.wrap 1 = 1 := by decide
      go_cut [118] (fun _ wx => ∃ x, Wd x la ∧ wx.heap[m]? = some (.map #[ent [x] 1 0] 1) ∧ Tw w wx s qs gs t qt gt c la lb ∧ Sl wx v qv gv 0 c la)
      case first =>
        go_region_law (first | (go_simp; go_at_call 28; refine (key_any (T8.out.below (Below.refl _ w8).drew).sa).mono ?_; rintro e w9 ⟨⟨x, rfl, hx⟩, b9⟩; obtain ⟨w10, w11, hlk, hen, hlk2, hst, hM3, hg13⟩ := map_first w9 m x ((b9.block m (Array.getElem?_eq_some_iff.1 HM8.out).1).trans HM8.out); have HM3 := Lib.hid hM3; have HG13 := Lib.hid hg13; have HX := Lib.hid hx; have HB9 := Lib.hid b9; clear hM3 hg13 hx b9))
        all_goals (go_wp2_with fail; go_meet)
        all_goals
          have b9 : Below w8.heap.size w8 w9 := (Below.refl _ w8).drew.trans HB9.out
          have T9 := T8.out.below b9
          have U9 := U8.out.below b9
          have hmk : kind w9 m = 0 := by unfold kind; rw [(HB9.out.block m (Array.getElem?_eq_some_iff.1 HM8.out).1).trans HM8.out]
          have hf : Fr m m w9 w11 := Fr.grown HG13.out
          exact ⟨x, HX.out, HM3.out, ⟨T9.sa.far hf hmk hmk (by decide) (by decide), T9.sb.far hf hmk hmk (by decide) (by decide), T9.bel.trans (hf.below hTm.out hTm.out T9.bel.size), T9.tb.fr hf (by have := HT.out.lt; have := hTm.out; omega) (by have := HT.out.lt; have := hTm.out; omega)⟩, U9.far hf hmk hmk (by decide) (by decide)⟩
      case rest =>
      obtain ⟨x, hx, M9, T9', U9'⟩ := hcut
      obtain ⟨wd, rfl⟩ : ∃ wd : World, wd = wc := ⟨wc, rfl⟩
      have HX := Lib.hid hx
      have HM9 := Lib.hid M9
      have T9 := Lib.hid T9'
      have U9 := Lib.hid U9'
      clear hx M9 T9' U9' T8 U8 HM8 hw1
      go_upto_region 20 with fail
      go_cut [125] (fun _ wx => ∃ (y : BitVec 64) (es : Array MapEntry) (cl : Nat), Wd y lb ∧ wx.heap[m]? = some (.map es cl) ∧ ((y = x → es.size = 1) ∧ (y ≠ x → es.size = 2)) ∧ Tw w wx s qs gs t qt gt c la lb ∧ Sl wx v qv gv 0 c la)
      case first =>
        go_region_law (first | (go_simp; go_at_call 28; refine (key_any (T9.out.below (Below.refl _ wd).drew).sb).mono ?_; rintro e w9 ⟨⟨y, rfl, hy⟩, b9⟩; obtain ⟨v0, st0, w10, w11, es, cl, hv0, hv1, hlk, hen, hlk2, hst, hM3, hsz3, hg13⟩ := map_next w9 m x y ((b9.block m (Array.getElem?_eq_some_iff.1 HM9.out).1).trans HM9.out); have hwv := i64_in (v0 + 1) (by omega) (by omega); have HM3 := Lib.hid hM3; have HG13 := Lib.hid hg13; have HY := Lib.hid hy; have HB9 := Lib.hid b9; have HSz := Lib.hid hsz3; clear hM3 hg13 hy b9 hsz3))
        all_goals (go_wp2_with fail; go_meet)
        all_goals
          have b9 : Below wd.heap.size wd w9 := (Below.refl _ wd).drew.trans HB9.out
          have T10 := T9.out.below b9
          have U10 := U9.out.below b9
          have hmk : kind w9 m = 0 := by unfold kind; rw [(HB9.out.block m (Array.getElem?_eq_some_iff.1 HM9.out).1).trans HM9.out]
          have hf : Fr m m w9 w11 := Fr.grown HG13.out
          exact ⟨y, es, cl, HY.out, HM3.out, HSz.out, ⟨T10.sa.far hf hmk hmk (by decide) (by decide), T10.sb.far hf hmk hmk (by decide) (by decide), T10.bel.trans (hf.below hTm.out hTm.out T10.bel.size), T10.tb.fr hf (by have := HT.out.lt; have := hTm.out; omega) (by have := HT.out.lt; have := hTm.out; omega)⟩, U10.far hf hmk hmk (by decide) (by decide)⟩
      case rest =>
      obtain ⟨y, es, cl, hy, M10, hsz, T10', U10'⟩ := hcut
      obtain ⟨we, rfl⟩ : ∃ we : World, we = wc := ⟨wc, rfl⟩
      have hxy : (y = x) ↔ D = true := by
        have := key_dec HX.out hy hll.out.1 hll.out.2
        rw [HD.out] at this
        rw [← this, beq_iff_eq]; exact eq_comm
      obtain ⟨L, hL, hLD⟩ : ∃ L : Nat, es.size = L ∧ (((L : Int) == 1) = D) := by
        cases hDv : D with
        | true => rw [hDv] at hxy; exact ⟨1, hsz.1 (hxy.2 rfl), rfl⟩
        | false => rw [hDv] at hxy; exact ⟨2, hsz.2 (fun e => by have := hxy.1 e; cases this), rfl⟩
      have hlen := len_map we m cl L es M10 hL
      have T10 := Lib.hid T10'
      have U10 := Lib.hid U10'
      have b8 : Below we.heap.size we we := Below.refl _ _
      clear hy M10 hsz T10' U10' T9 U9 HM9 hxy hL b8
      go_wp2_with fail
      refine (taken_nat T10.out.sa T10.out.tb).mono ?_
      rw [HP3.out]
      rintro e w11 ⟨g11, c11, rfl, ia11, b11⟩
      have T11 := Lib.hid (T10.out.below b11)
      have U11 := Lib.hid (U10.out.below b11)
      have IA11 := Lib.hid ia11
      clear ia11 b11 hlen
      go_wp2_with fail
      refine (taken_nat T11.out.sb T11.out.tb).mono ?_
      rintro e w12 ⟨g12, c12, rfl, ia12, b12⟩
      have T12 := Lib.hid (T11.out.below b12)
      have U12 := Lib.hid (U11.out.below b12)
      have IA12 := Lib.hid ia12
      have IA11' := Lib.hid (IA11.out.below b12)
      have HS := Lib.hid (Bi.same_any (some ⟨g11, 0, none⟩) (some ⟨g12, 0, none⟩) (sets la) (sets lb) c11 c12 w11.heap.size w12.heap.size w12 IA11'.out ia12 hsl.out)
      rw [HD2.out, HP3.out] at HS
      clear ia12 b12
      go_wp2_with fail
      refine HS.out.mono ?_
      rintro e w13 ⟨rfl, d13⟩
      have T13 := Lib.hid (T12.out.below d13.below)
      have U13 := Lib.hid (U12.out.below d13.below)
      have HK13 := Lib.hid (key_any U13.out)
      have hfr : (fr la : Int) = (la.length : Int) - k := by have := Bi.sets_length_le la; unfold fr; rw [HP3.out]; rw [HP3.out] at this; omega
      have hfw := i64_in ((la.length : Int) - k) (by have := Bi.sets_length_le la; rw [HP3.out] at this; omega) (by have := hll.out.2; omega)
      have HFR := Lib.hid hfr
      obtain ⟨N, hN⟩ : ∃ N, la.length = N := ⟨_, rfl⟩
      rw [hN] at hfw
      have HN := Lib.hid hN
      have hkk : ((N : Int) - k == (N : Int) - k) = true := by simp
      clear d13 HS T12 U12 hfr hN
      go_wp2_with (first
        | (go_at_call 23; refine HSl.out.mono ?_; rintro e w' ⟨rfl, rfl⟩)
        | (go_at_call 25; refine HFr.out.mono ?_; rintro e w16 ⟨rfl, d16⟩; have T16 := Lib.hid (T15.out.below d16.below); have HSl := Lib.hid (slots_any T16.out.sa); rw [HN.out] at HSl; clear d16)
        | (go_at_call 28; refine HK14.out.mono ?_; rintro e w15 ⟨⟨y2, rfl, hy2⟩, b15⟩; obtain rfl := hy2.one HX14.out; have T15 := Lib.hid (T14.out.below b15); have hke : ∀ V : World, (binOp .eql 58 (keyW y2) (keyW y2)).run Tryd.prog V = .ok (.bool true) V := (fun V => (keyw_eql V y2 y2).trans (by simp)); have hkg : ∀ (V : World) (p q : Operand), (eqGuard .eql 58 p q (keyW y2) (keyW y2)).run Tryd.prog V = .ok () V := (fun V p q => keyw_guard V p q y2 y2); have HFr := Lib.hid (free_any (U14.out.below b15)); rw [HFR.out, HN.out] at HFr; clear hy2 b15)
        | (go_at_call 28; refine HK13.out.mono ?_; rintro e w14 ⟨⟨x2, rfl, hx2⟩, b14⟩; have T14 := Lib.hid (T13.out.below b14); have U14 := Lib.hid (U13.out.below b14); have HX14 := Lib.hid hx2; have HK14 := Lib.hid (key_any T14.out.sa); clear hx2 b14))
      go_ret
      exact ⟨rfl, T16.out.bel⟩
theorem law_keys {a b' : List Int} (hT : Tb w) (hA : In w A na ca a) (hB : In w B nb cb b') : Calls Tryd.prog 6 #[.int .i64 c, .slice A na ca, .slice B nb cb] w fun e w' => e = .returned (.bool true) ∧ Below w.heap.size w w' := by
  by_cases h1 : na ≤ 100
  · by_cases h2 : nb ≤ 100
    · cases hc : classB c with
      | false => exact keys_class hT hA hB h1 h2 hc
      | true =>
        cases hf : (wiB (l0 c) a && wiB (l0 c) b') with
        | false => exact keys_form hT hA hB h1 h2 hc hf
        | true =>
          rw [Bool.and_eq_true] at hf
          exact keys_main hT hA hB h1 h2 hc hf.1 hf.2
    · exact many_keys hT (.inr ⟨by simp; omega, by simp; omega⟩)
  · exact many_keys hT (.inl (by simp; omega))
end
end Go.Proofs.YtiemgeflkmbfoaaDoor.Os
