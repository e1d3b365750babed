/-
  The walk of the statement on clones and iterators.
-/
import Derived.Test.YtbgacchbldgaeaaCWalk
namespace Go.Proofs.Ytbgacchbldgaeaa.Cl
open Go.RowKit Go.Maps Go.Shelf

attribute [local go_sem] Oper.semAt_some

set_option maxRecDepth 100000 in
set_option maxHeartbeats 8000000 in
theorem clone_main (A A2 : Option Addr) (l l2 : List Cl) (c c2 : Nat) (w : World) (hcs : CA w.heap.size w A l) (hcs2 : CA w.heap.size w A2 l2) (hl : l.length ≤ 100) (hl2 : l2.length ≤ 100) :
    Calls Try.prog 6 #[.slice A l.length c, .slice A2 l2.length c2] w fun e w' => e = .returned (.bool true) ∧ Below w.heap.size w w' := by
  obtain ⟨N, hN⟩ : ∃ N, l.length = N := ⟨_, rfl⟩
  obtain ⟨N2, hN2⟩ : ∃ N2, l2.length = N2 := ⟨_, rfl⟩
  have HN := Lib.hid hN
  have HN2 := Lib.hid hN2
  have HCs := Lib.hid hcs
  have HCs2 := Lib.hid hcs2
  rw [hN] at hl ⊢
  rw [hN2] at hl2 ⊢
  have HX1 := Lib.hid (B0.made w (.slice A2 N2 c2))
  obtain ⟨w1, hw1⟩ : ∃ w1, (w.alloc (.cells #[.slice A2 N2 c2] 22)).alloc (.cells #[.bool false] 4) = w1 := ⟨_, rfl⟩
  rw [hw1] at HX1
  have hd : decide ((100 : Int) < (N : Int)) = false := by simp; omega
  have hd2 : decide ((100 : Int) < (N2 : Int)) = false := by simp; omega
  clear hcs hcs2 hN hN2
  refine (callsIn_wide (n := 3)).1 ?_
  refine callsIn_of_wp_marks Try.func6 rfl trivial ?_ rfl
  refine wpIn_wide.2 ?_
  simp only [Try.ntmps6, List.size_toArray, List.length_cons, List.length_nil, Nat.reduceAdd, Nat.reduceSub, Array.replicate_succ, Array.replicate_zero, List.push_toArray, List.append_toArray, List.nil_append, List.cons_append]
  go_wp2_with fail
  clear hw1
  refine (alive_any _).mono ?_
  rintro e w2 ⟨rfl, b2⟩
  have HX2 := Lib.hid (HX1.out.below b2)
  have q1 := HX2.out.mo.cell (i := 0)
  simp only [List.getElem?_cons_zero] at q1
  have HNew := Lib.hid (new_any w2)
  clear b2 HX1
  go_wp2_with fail
  refine HNew.out.mono ?_
  rintro e w3 ⟨rfl, t3, b3, s3⟩
  obtain ⟨q, hq⟩ : ∃ q, w2.heap.size + 1 = q := ⟨_, rfl⟩
  obtain ⟨b, hb⟩ : ∃ b, w2.heap.size = b := ⟨_, rfl⟩
  have hx2 := HX2.out.rs.lt
  have hkb : w.heap.size + 2 ≤ b := by omega
  have hsz3 := b3.size
  obtain ⟨W4, hW4⟩ : ∃ W4, ((w3.alloc (.cells #[.pointer (some ⟨q, 0, none⟩)] 28)).alloc (.cells #[.slice none 0 0] 33)).alloc (.cells #[.pointer (some ⟨w3.heap.size + 1, 0, none⟩)] 30) = W4 := ⟨_, rfl⟩
  have up : ∀ (V : World) (o : Obj), Below V.heap.size V (V.alloc o) := fun V o => up_alloc (Below.refl _ _) o
  have hal : Below w3.heap.size w3 W4 := by rw [← hW4]; exact up_alloc (up_alloc (up_alloc (Below.refl _ _) _) _) _
  have HE1 : Hid (E1 w W4 (.slice A2 N2 c2) ⟨w3.heap.size, w3.heap.size + 1 + 1, q, b, w3.heap.size + 1⟩ []) := by
    rw [hq, hb] at t3
    refine ⟨(HX2.out.below b3).below hal, ?_, ?_, t3.below hal, ⟨_, ?_, World.ownsRow_nil _ _ _ _⟩, hkb, by show _ ≤ w3.heap.size + 1; omega⟩
    · rw [← hW4]; exact ((Blk.new w3 [.pointer (some ⟨q, 0, none⟩)] 28).below (up _ _)).below (up _ _)
    · rw [← hW4]
      have := Blk.new ((w3.alloc (.cells #[.pointer (some ⟨q, 0, none⟩)] 28)).alloc (.cells #[.slice none 0 0] 33)) [.pointer (some ⟨w3.heap.size + 1, 0, none⟩)] 30
      rwa [World.size_alloc, World.size_alloc] at this
    · rw [← hW4]
      have := (Blk.new (w3.alloc (.cells #[.pointer (some ⟨q, 0, none⟩)] 28)) [.slice none 0 0] 33).below (up _ (.cells #[.pointer (some ⟨w3.heap.size + 1, 0, none⟩)] 30))
      rwa [World.size_alloc] at this
  rw [hq]
  clear HNew t3 b3 s3 hq hb HX2 hx2 hal hsz3 hkb up q1
  go_wp2_with fail
  obtain ⟨Bt, hBt⟩ : ∃ Bt, w3.heap.size = Bt := ⟨_, rfl⟩
  rw [hBt] at HE1 ⊢
  obtain ⟨Br, hBr⟩ : ∃ Br, Bt + 1 + 1 = Br := ⟨_, rfl⟩
  rw [hBr] at HE1 ⊢
  obtain ⟨P, hP⟩ : ∃ P, Bt + 1 = P := ⟨_, rfl⟩
  rw [hP] at HE1 ⊢
  clear hW4 hBt hBr hP
  go_loopw [7] (fun i wr => ∃ (j : Nat) (L : List Tr), j ≤ N ∧ i = .int .i64 j ∧ E1 w wr (.slice A2 N2 c2) ⟨Bt, Br, q, b, P⟩ L) (fun i _ => N - (intOf i).toNat)
  case atStart => exact ⟨0, [], by omega, rfl, HE1.out⟩
  case round =>
    obtain ⟨j, L, hj, rfl, hm⟩ := hrel
    have HM := Lib.hid hm
    clear hm HE1
    by_cases hlt : j < N
    · have hjl : j < l.length := by rw [HN.out]; exact hlt
      obtain ⟨cb, co, rfl, _, i1, i2, c0, c1, c2, c3, c4, c5, c6⟩ := (HCs.out.below HM.out.bx.bel) j hjl
      obtain ⟨x, hx⟩ : ∃ x, l[j] = x := ⟨_, rfl⟩
      rw [hx] at i1 i2 c0 c1 c2 c3 c4 c5 c6
      obtain ⟨xc, xp, xs, xp2, xs2, xk, xz⟩ := x
      simp only [] at i1 i2 c0 c1 c2 c3 c4 c5 c6
      have HD := Lib.hid (HM.out.below (Below.refl _ wr).drew)
      obtain ⟨v, hrf⟩ := HD.out.rf
      have HRf := Lib.hid hrf
      have HDo := Lib.hid (do_any HD.out.tg hrf xc ⟨xp, xs, xk, xz⟩ xp2 xs2 i1 i2)
      simp only [] at HDo
      have j1 : (0 : Int) ≤ (j : Int) := by omega
      have j2 : (j : Int) < (N : Int) := by omega
      have q1 := HM.out.tb.cell (i := 0)
      have q2 := HM.out.rb.cell (i := 0)
      simp only [List.getElem?_cons_zero] at q1 q2
      clear hx hjl i1 i2 hrf
      go_wp2_with fail
      go_still_tail 6, (by kernel_rfl)
      change wpList _ _ _ _ _ wr.drew
      go_wp2_with fail
      refine HDo.out.mono ?_
      rintro e w5 ⟨rfl, t5, r5, f5⟩
      have HM5 := Lib.hid (HD.out.told HRf.out t5 r5 f5)
      clear t5 r5 f5 HDo c0 c1 c2 c3 c4 c5 c6 q1 q2
      go_wp2_with fail
      go_roundw
      case rel => exact ⟨j + 1, _, by omega, by go_num, HM5.out⟩
      case measure => simp [intOf]; omega
    · obtain rfl : j = N := by omega
      have q1 := HM.out.tb.cell (i := 0)
      simp only [List.getElem?_cons_zero] at q1
      have HWL := Lib.hid HM.out.tg.wf
      have hlen := HWL.out.len
      have HRows := Lib.hid (rows_any HM.out.tg)
      clear hlt hj HCs HN
      go_wp2_with fail
      refine HRows.out.mono ?_
      rintro e w5 ⟨A1, ca1, rfl, at1, b5⟩
      have HA5 := Lib.hid at1
      have al5 := up_alloc (Below.refl w5.heap.size w5) (.cells #[.slice A1 L.length ca1] 31)
      have HM6 := Lib.hid ((HM.out.below b5).below al5)
      have HA6 := Lib.hid (HA5.out.up al5)
      have HBb6 := Lib.hid (Blk.new w5 [.slice A1 L.length ca1] 31)
      have HCl := Lib.hid (clone_any HM6.out.tg)
      have q2 := HM6.out.tb.cell (i := 0)
      simp only [List.getElem?_cons_zero] at q2
      obtain ⟨n, hn⟩ : ∃ n, L.length = n := ⟨_, rfl⟩
      have HLn := Lib.hid hn
      obtain ⟨w6, hw6⟩ : ∃ w6, w5.alloc (.cells #[.slice A1 L.length ca1] 31) = w6 := ⟨_, rfl⟩
      rw [hw6] at HM6 HA6 HBb6 HCl q2
      rw [hn] at hlen hw6 HBb6 ⊢
      obtain ⟨Bb, hBb⟩ : ∃ Bb, w5.heap.size = Bb := ⟨_, rfl⟩
      rw [hBb] at HBb6
      clear at1 b5 al5 HM HRows HA5 hn q1
      go_wp2_with fail
      clear hw6
      refine HCl.out.mono ?_
      rintro e w7 ⟨rfl, tc, b7, s7⟩
      have HM7 := Lib.hid (HM6.out.below b7)
      have hb6 := HM6.out.tg.mp.lt
      have q1 := HM7.out.tb.cell (i := 0)
      simp only [List.getElem?_cons_zero] at q1
      obtain ⟨w8, hw8⟩ : ∃ w8, (w7.alloc (.cells #[] 44)).alloc (.cells #[.slice (some ⟨w7.heap.size, 0, none⟩) 0 0] 31) = w8 := ⟨_, rfl⟩
      have al8 : Below w7.heap.size w7 w8 := by rw [← hw8]; exact up_alloc (up_alloc (Below.refl _ _) _) _
      have hgt : Got w8 (w7.heap.size + 1) w7.heap.size [] w7.heap.size 0 := by
        rw [← hw8]
        refine ⟨?_, ((World.ownsRow_made w7 #[] 0 (Nat.le_refl _) (by decide) rfl).alloc _)⟩
        have := Blk.new (w7.alloc (.cells #[] 44)) [.slice (some ⟨w7.heap.size, 0, none⟩) 0 0] 31
        rwa [World.size_alloc] at this
      have hnum : Nums w ⟨⟨Bt, Br, q, b, P⟩, Bb, A1, ca1, w6.heap.size + 1, w6.heap.size, w7.heap.size⟩ :=
        ⟨HM7.out.kb, HM7.out.kP, hb6, HM7.out.tg.mp.lt, (HM7.out.rf.choose_spec).blk.lt, HM7.out.tg.blk.lt, HM7.out.tb.lt, HM7.out.rb.lt, (HBb6.out.below b7).lt, by show w6.heap.size + 1 < w7.heap.size; omega, by show w6.heap.size < w7.heap.size; omega⟩
      have h8 := HM7.out.below al8
      have hiv : Iv w (.slice A2 N2 c2) ⟨⟨Bt, Br, q, b, P⟩, Bb, A1, ca1, w6.heap.size + 1, w6.heap.size, w7.heap.size⟩ L [] w8 := by
        obtain ⟨v, hr7⟩ := HM7.out.rf
        refine ⟨⟨h8.bx, h8.tb, h8.rb, ?_, (HA6.out.up b7).below al8, tc.below al8⟩, al8.size, _, _, L, v, hgt, h8.tg, hr7.below al8, fun j hj => ?_⟩
        · rw [HLn.out]; exact (HBb6.out.below b7).below al8
        · have := (hr7.own.lt j hj).2; omega
      have HIv := Lib.hid hiv
      have HNum := Lib.hid hnum
      have HAll := Lib.hid (all_any q w8)
      have q2 := hiv.sta.tb.cell (i := 0)
      simp only [List.getElem?_cons_zero] at q2
      have hgl := hgt.box.lt
      have HGe : Hid (gotB (w7.heap.size + 1) w8 = w7.heap.size) := hgt.at
      have hT8 := Lib.hid h8.tg
      obtain ⟨base, hbase⟩ : ∃ base, w7.heap.size = base := ⟨_, rfl⟩
      obtain ⟨bc, hbc⟩ : ∃ bc, w6.heap.size = bc := ⟨_, rfl⟩
      rw [hbase] at HIv HNum hw8 HGe hgl
      rw [hbc] at HIv HNum
      clear tc b7 s7 HM6 HA6 HBb6 HCl HM7 al8 hgt hnum h8 hiv hb6
      go_wp2_with fail
      clear hbase hbc hw8
      refine HAll.out.mono ?_
      rintro e w9 ⟨rfl, h9⟩
      have b9 : Below w8.heap.size w8 w9 := by rw [h9]; exact up_alloc (Below.refl _ _) _
      have x9 : Blk w9 w8.heap.size [.pointer (some ⟨q, 0, none⟩)] 28 := by rw [h9]; exact Blk.new w8 [.pointer (some ⟨q, 0, none⟩)] 28
      have hiv9 := HIv.out.below HNum.out b9
      have hsz9 := b9.size
      have hgot9 : gotB (base + 1) w9 = base := by
        refine Eq.trans ?_ HGe.out
        unfold gotB; rw [cell_same (b9.block (base + 1) hgl)]
      have HStops := Lib.hid (all_stops 2 (by omega) w8.heap.size (base + 1) q b L w9 x9.cell (hT8.out.below b9) (by omega) (by omega))
      have HInv := Lib.hid hiv9
      obtain ⟨B9, hB9⟩ : ∃ B9, w8.heap.size = B9 := ⟨_, rfl⟩
      rw [hB9] at HStops hgl hsz9 ⊢
      clear h9 b9 x9 HAll HIv hiv9 hT8 HGe q2 q1 hB9 hgot9
      go_wp2_with fail
      refine range_law rfl (enters_of Try.func38 (by kernel_rfl) rfl) HStops.out Kp.trans (fun W l o o' h1 h2 h3 h4 => Kp.put o' (by omega) h2 h3 h4) (fun _ => rfl) (Iv w (.slice A2 N2 c2) ⟨⟨Bt, Br, q, b, P⟩, Bb, A1, ca1, bc + 1, bc, base⟩ L) (Iv.own HNum.out (by show base ≤ _; omega)) HInv.out
        (fun x a' W => ∃ B1 B2, Blk W B1 [.int .i64 x.p, .int .i64 x.s] 24 ∧ Blk W B2 [.int .i64 x.k, .int .i64 x.z] 26 ∧ a' = { tmps := #[Value.slice A j c, Value.slice A2 N2 c2, undef, Value.pointer (some ⟨w.heap.size, 0, none⟩), Value.pointer (some ⟨w.heap.size + 1, 0, none⟩), Value.pointer (some ⟨Bt, 0, none⟩), Value.pointer (some ⟨Br, 0, none⟩), Value.int .i64 (j : Int), Value.pointer (some ⟨Bb, 0, none⟩), Value.pointer (some ⟨bc + 1, 0, none⟩), Value.pointer (some ⟨base + 1, 0, none⟩), Value.pointer (some ⟨B1, 0, none⟩), Value.pointer (some ⟨B2, 0, none⟩), Value.bool true, Value.bool false, Value.slice A j c, Value.int .i64 (j : Int), Value.bool false, Value.bool false, Value.slice A2 N2 c2, Value.int .i64 (N2 : Int), Value.bool false, Value.bool false, Value.pointer (some ⟨q, 0, none⟩), Value.agg #[Value.slice none 0 0], Value.pointer (some ⟨P, 0, none⟩), Value.int .i64 (j : Int), Value.slice A j c, Value.int .i64 (j : Int), Value.bool false, u30, u31, u32, u33, u34, u35, u36, u37, u38, Value.pointer (some ⟨q, 0, none⟩), Value.slice A1 n ca1, Value.pointer (some ⟨q, 0, none⟩), Value.pointer (some ⟨bc + 1, 0, none⟩), Value.pointer (some ⟨bc + 1, 0, none⟩), Value.bool false, Value.slice (some ⟨base, 0, none⟩) 0 0, Value.pointer (some ⟨q, 0, none⟩), Value.func (.func 38) #[] #[Value.pointer (some ⟨B9, 0, none⟩)], pv x.p x.s, pv x.k x.z, undef, undef, undef, undef, undef, undef, undef, undef, undef, undef, undef, undef, undef, undef, undef, undef, undef, undef, undef, undef, undef, undef, undef, undef, undef, undef, undef, undef, undef, undef, undef, undef, undef, undef, undef, undef, undef, undef, undef, undef, undef], defers := [] })
        (fun x a' _ W W' row hs hg hr => by obtain ⟨B1, B2, h1, h2, e⟩ := hs; exact ⟨B1, B2, blk_keeps h1 hg hr, blk_keeps h2 hg hr, e⟩) ?assign ?body ?done
      case assign =>
        intro l pre x W R hi hR
        simp only [List.setIfInBounds_toArray, List.set_cons_zero, List.set_cons_succ, List.zip_toArray, List.zip_cons_cons, List.zip_nil_right, List.foldl_toArray, List.foldl_cons, List.foldl_nil]
        have HI := Lib.hid hi
        have HR := Lib.hid hR
        clear hi hR
        obtain ⟨p, s, k, z⟩ := x
        gi_wp2_with fail
        have hb := up_alloc (up_alloc (Below.refl W.heap.size W) (.cells #[.int .i64 p, .int .i64 s] 24)) (.cells #[.int .i64 k, .int .i64 z] 26)
        have y1 := (Blk.new W [.int .i64 p, .int .i64 s] 24).below (up_alloc (Below.refl _ _) (.cells #[.int .i64 k, .int .i64 z] 26))
        have y2 := Blk.new (W.alloc (.cells #[.int .i64 p, .int .i64 s] 24)) [.int .i64 k, .int .i64 z] 26
        rw [World.size_alloc] at y2
        obtain ⟨g, cap, _, _, hgt, _⟩ := HI.out.run
        exact HR.out _ _ ((ko_below hb).from _) (Kp.below hb hgt.box.lt) (HI.out.below HNum.out hb) ⟨W.heap.size, W.heap.size + 1, y1, y2, rfl⟩
      case body =>
        intro l pre x a' W hl hi hax hn
        obtain ⟨B1, B2, hx1, hx2, rfl⟩ := hax
        obtain ⟨p, s, k, z⟩ := x
        have hmx : Try.prog.follows .mixedOrders = true := by kernel_rfl
        have hn' : pre.length < n := by rw [← HLn.out]; exact hn
        obtain ⟨hsta, hsz, g, cap, L1, v, hgt, ht1, hr1, hv1⟩ := hi
        have hsz' : base ≤ W.heap.size := hsz
        have HS := Lib.hid hsta
        have HGt := Lib.hid hgt
        have HT1 := Lib.hid ht1
        have HR1 := Lib.hid hr1
        have HV1 := Lib.hid hv1
        obtain ⟨W3, hW3⟩ : ∃ W3, ((W.alloc (.cells #[.int .i64 p, .int .i64 s] 24)).alloc (.cells #[.int .i64 k, .int .i64 z] 26)).alloc (.cells #[.int .i64 p, .int .i64 s, .int .i64 k, .int .i64 z] 44) = W3 := ⟨_, rfl⟩
        obtain ⟨W4', hW4'⟩ : ∃ W4', W3.alloc (.cells #[.int .i64 p, .int .i64 s, .int .i64 k, .int .i64 z] 44) = W4' := ⟨_, rfl⟩
        have b3 : Below W.heap.size W W3 := by rw [← hW3]; exact up_alloc (up_alloc (up_alloc (Below.refl _ _) _) _) _
        have b4 : Below W.heap.size W W4' := by rw [← hW4']; exact up_alloc b3 _
        obtain ⟨g', cap', w5, hrun, hap⟩ := app_region p s k z hgt.box hgt.own (by omega) hsz' W4'.drew b4.drew W3.heap.size (by rw [← hW4']; exact Blk.new W3 _ 44)
        have HO := Lib.hid (fun V => of_eq p s k z V)
        have c0 : W.cell? ⟨base + 1, 0, none⟩ = some (.slice (some ⟨g, 0, none⟩) pre.length cap) := hgt.box.cell
        have c1 : W3.cell? ⟨base + 1, 0, none⟩ = some (.slice (some ⟨g, 0, none⟩) pre.length cap) := (hgt.box.below b3).cell
        have cc2 : W4'.cell? ⟨base + 1, 0, none⟩ = some (.slice (some ⟨g, 0, none⟩) pre.length cap) := (hgt.box.below b4).cell
        have d0 : W.cell? ⟨B1, 0, none⟩ = some (.int .i64 p) := hx1.cell
        have d1 : W.cell? ⟨B1, 1, none⟩ = some (.int .i64 s) := hx1.cell
        have d2 : W.cell? ⟨B2, 0, none⟩ = some (.int .i64 k) := hx2.cell
        have d3 : W.cell? ⟨B2, 1, none⟩ = some (.int .i64 z) := hx2.cell
        have f0 : w5.cell? ⟨base + 1, 0, none⟩ = some (.slice (some ⟨g, 0, none⟩) pre.length cap) := hap.box.cell
        have f1 := hap.box.frozen 0
        obtain ⟨_, _, n3, n4⟩ := hap.done hgt
        have hiv5 := Iv.app HNum.out hsta hsz hgt ht1 hr1 hv1 hap
        have HK5 : Hid (KeepsFrom w9.heap.size W (w5.setCell ⟨base + 1, 0, none⟩ (.slice (some ⟨g', 0, none⟩) (pre.length + 1) cap')) ∧ Kp (base + 1) w9.heap.size W (w5.setCell ⟨base + 1, 0, none⟩ (.slice (some ⟨g', 0, none⟩) (pre.length + 1) cap'))) := ⟨n3.from _, n4 _ (by show base + 1 < _; omega)⟩
        have HI5 := Lib.hid hiv5
        have e3 : ((W.drew.alloc (.cells #[.int .i64 p, .int .i64 s] 24)).alloc (.cells #[.int .i64 k, .int .i64 z] 26)).alloc (.cells #[.int .i64 p, .int .i64 s, .int .i64 k, .int .i64 z] 44) = W3.drew := by rw [← hW3]; rfl
        clear hgt hap b3 b4 hx1 hx2 n3 n4 hW3 hsta ht1 hr1 hv1 hiv5 hsz
        simp only []
        gi_wp2_with fail
        rename_i KK HKK
        have HFin : Hid (KK { tmps := #[Value.slice A j c, Value.slice A2 N2 c2, undef, Value.pointer (some ⟨w.heap.size, 0, none⟩), Value.pointer (some ⟨w.heap.size + 1, 0, none⟩), Value.pointer (some ⟨Bt, 0, none⟩), Value.pointer (some ⟨Br, 0, none⟩), Value.int .i64 (j : Int), Value.pointer (some ⟨Bb, 0, none⟩), Value.pointer (some ⟨bc + 1, 0, none⟩), Value.pointer (some ⟨base + 1, 0, none⟩), Value.pointer (some ⟨B1, 0, none⟩), Value.pointer (some ⟨B2, 0, none⟩), Value.bool true, Value.bool false, Value.slice A j c, Value.int .i64 (j : Int), Value.bool false, Value.bool false, Value.slice A2 N2 c2, Value.int .i64 (N2 : Int), Value.bool false, Value.bool false, Value.pointer (some ⟨q, 0, none⟩), Value.agg #[Value.slice none 0 0], Value.pointer (some ⟨P, 0, none⟩), Value.int .i64 (j : Int), Value.slice A j c, Value.int .i64 (j : Int), Value.bool false, u30, u31, u32, u33, u34, u35, u36, u37, u38, Value.pointer (some ⟨q, 0, none⟩), Value.slice A1 n ca1, Value.pointer (some ⟨q, 0, none⟩), Value.pointer (some ⟨bc + 1, 0, none⟩), Value.pointer (some ⟨bc + 1, 0, none⟩), Value.bool false, Value.slice (some ⟨base, 0, none⟩) 0 0, Value.pointer (some ⟨q, 0, none⟩), Value.func (.func 38) #[] #[Value.pointer (some ⟨B9, 0, none⟩)], pv p s, pv k z, Value.slice (some ⟨g, 0, none⟩) pre.length cap, pv p s, pv k z, rv p s k z, Value.slice (some ⟨W3.heap.size, 0, none⟩) 1 1, Value.slice (some ⟨g', 0, none⟩) (pre.length + 1) cap', undef, undef, undef, undef, undef, undef, undef, undef, undef, undef, undef, undef, undef, undef, undef, undef, undef, undef, undef, undef, undef, undef, undef, undef, undef, undef, undef, undef, undef, undef, undef, undef, undef, undef, undef], defers := [] } (w5.setCell ⟨base + 1, 0, none⟩ (.slice (some ⟨g', 0, none⟩) (pre.length + 1) cap'))) := by
          refine HKK _ _ ?_
          obtain ⟨WF, hWF⟩ : ∃ WF, w5.setCell ⟨base + 1, 0, none⟩ (.slice (some ⟨g', 0, none⟩) (pre.length + 1) cap') = WF := ⟨_, rfl⟩
          rw [hWF] at HI5 HK5 ⊢
          have hpl : (pre ++ [(⟨p, s, k, z⟩ : Tr)]).length = pre.length + 1 := by simp
          obtain ⟨j0, hj0⟩ : ∃ j0, pre.length = j0 := ⟨_, rfl⟩
          rw [hj0] at hpl hn' ⊢
          obtain ⟨pre1, hpre1⟩ : ∃ pre1, pre ++ [(⟨p, s, k, z⟩ : Tr)] = pre1 := ⟨_, rfl⟩
          rw [hpre1] at HI5 hpl
          have HPre := Lib.hid hpre1
          simp only []
          clear HKK hWF hj0 hpre1 hrun c0 c1 cc2 d0 d1 d2 d3 f0 f1 e3 HS HGt HT1 HR1 HV1 HO
          obtain ⟨hsta, hsz6, g6, cap6, L6, v6, hgt6, ht6, hr6, hv6⟩ := HI5.out
          have hsz6' : base ≤ WF.heap.size := hsz6
          have m0 : WF.cell? ⟨base + 1, 0, none⟩ = some (.slice (some ⟨g6, 0, none⟩) (j0 + 1) cap6) := by rw [← hpl]; exact hgt6.box.cell
          have m1 : WF.cell? ⟨w.heap.size, 0, none⟩ = some (.slice A2 N2 c2) := hsta.bx.mo.cell
          have m2 : WF.cell? ⟨Bt, 0, none⟩ = some (.pointer (some ⟨q, 0, none⟩)) := hsta.tb.cell
          have m3 : WF.cell? ⟨Br, 0, none⟩ = some (.pointer (some ⟨P, 0, none⟩)) := hsta.rb.cell
          have m4 : WF.cell? ⟨Bb, 0, none⟩ = some (.slice A1 n ca1) := by rw [← HLn.out]; exact hsta.bb.cell
          have HBel := Lib.hid hsta.bx.bel
          have u1 : decide ((n : Int) < (j0 : Int) + 1) = false := by simp; omega
          have dr := (Below.refl WF.heap.size WF).drew
          have HSt := Lib.hid (hsta.low HNum.out hsz6 (below_of dr hsz6))
          have HGt6 := Lib.hid (hgt6.below dr)
          have HT6 := Lib.hid (ht6.below dr)
          have HR6 := Lib.hid (hr6.below dr)
          have HV6 := Lib.hid hv6
          clear hsta hsz6 hgt6 ht6 hr6 hv6 dr
          by_cases hmore : j0 + 1 ≤ N2
          · have u2 : decide ((j0 : Int) + 1 ≤ (N2 : Int)) = true := by simp; omega
            have hjl : j0 < l2.length := by rw [HN2.out]; omega
            obtain ⟨cb, co, hA2, _, i1, i2, x0, x1, x2, x3, x4, x5, x6⟩ := (HCs2.out.below HBel.out) j0 hjl
            subst hA2
            obtain ⟨x, hx⟩ : ∃ x, l2[j0] = x := ⟨_, rfl⟩
            rw [hx] at i1 i2 x0 x1 x2 x3 x4 x5 x6
            obtain ⟨xc, xp, xs, xp2, xs2, xk, xz⟩ := x
            simp only [] at i1 i2 x0 x1 x2 x3 x4 x5 x6
            have HDo := Lib.hid (do_any HT6.out HR6.out xc ⟨xp, xs, xk, xz⟩ xp2 xs2 i1 i2)
            simp only [] at HDo
            have j1 : (0 : Int) ≤ (j0 : Int) := by omega
            have j2 : (j0 : Int) < (N2 : Int) := by omega
            have hwr := i64_in (j0 : Int) (by omega) (by omega)
            clear hx hjl i1 i2
            gi_wp2_with fail
            refine round_still_tail round_calls rfl (fun _ => trivial) 8 hmx (by kernel_rfl) (by kernel_rfl) ?_
            simp only [List.take_succ_cons, List.take_zero, List.drop_succ_cons, List.drop_zero]
            repeat still_step
            refine wpStill_nil ?_
            clear x0 x1 x2 x3 x4 x5 x6 m0 m1 m2 m3 m4 u2 j1 j2 hwr
            gi_wp2_with fail
            refine ⟨trivial, ?_⟩
            refine (round_calls HDo.out).mono ?_
            rintro e w6 ⟨rfl, t6, r6, f6⟩
            obtain ⟨hiv', hG', hkf, hkp⟩ := Iv.told HNum.out HSt.out (show base ≤ WF.drew.heap.size from hsz6') HGt6.out HT6.out HR6.out HV6.out t6 r6 f6
            have m0 : w6.cell? ⟨base + 1, 0, none⟩ = some (.slice (some ⟨g6, 0, none⟩) (j0 + 1) cap6) := by rw [← hpl]; exact hG'.box.cell
            have m4 : w6.cell? ⟨Bb, 0, none⟩ = some (.slice A1 n ca1) := by rw [← HLn.out]; exact hiv'.sta.bb.cell
            have hk9 : base ≤ w9.heap.size := by omega
            have HFi : Hid (KeepsFrom w9.heap.size WF w6 ∧ Kp (base + 1) w9.heap.size WF w6 ∧ Iv w (.slice (some ⟨cb, co, none⟩) N2 c2) ⟨⟨Bt, Br, q, b, P⟩, Bb, A1, ca1, bc + 1, bc, base⟩ L pre1 w6) :=
              ⟨((KeepsOthers.drew WF).from _).trans ⟨hkf.size, fun k o hk ho hc => hkf.same k o (Nat.le_trans hk9 hk) ho hc⟩, Kp.trans (⟨.inl rfl, Nat.le_refl _, fun _ _ _ _ _ _ => rfl⟩ : Kp (base + 1) w9.heap.size WF WF.drew) (hkp _ hk9), hiv'⟩
            clear t6 r6 f6 hiv' hG' hkf hkp HDo hk9
            gi_wp2_with fail
            rw [HPre.out]
            exact ⟨HK5.out.1.trans HFi.out.1, Kp.trans HK5.out.2 HFi.out.2.1, HFi.out.2.2⟩
          · have u2 : decide ((j0 : Int) + 1 ≤ (N2 : Int)) = false := by simp; omega
            gi_wp2_with fail
            rw [HPre.out]
            exact ⟨HK5.out.1, HK5.out.2, HI5.out⟩
        refine wpIn_region_any hmx ?_
        change wpAnyIn _ _ _ _ _ _ _ _ _ (World.drew _)
        refine wpAnyIn_ready (rs := [0, 1, 2]) (by kernel_rfl) (by simp) ?_
        refine AllReadyIn.cons rfl (fun K hK => ?_) ?_
        · go_simp
          refine hK _ _ ?_
          clear hK K
          refine wpAnyIn_ready (rs := [1, 2]) (by kernel_rfl) (by simp) ?_
          refine AllReadyIn.cons rfl (fun K hK => ?_) ?_
          · go_simp
            refine hK _ _ ?_
            clear hK K
            refine wpAnyIn_ready (rs := [2]) (by kernel_rfl) (by simp) ?_
            refine AllReadyIn.cons rfl (fun K hK => ?_) ?_
            · go_simp
              refine hK _ _ ?_
              clear hK K
              refine wpAnyIn_ready (rs := [3]) (by kernel_rfl) (by simp) ?_
              refine AllReadyIn.cons rfl (fun K hK => ?_) ?_
              · go_simp
                refine ⟨trivial, ?_⟩
                refine (round_calls (HO.out _)).mono ?_
                rintro e w' ⟨rfl, rfl⟩
                rw [e3]
                refine hK _ _ ?_
                clear hK K
                refine wpAnyIn_ready (rs := [4]) (by kernel_rfl) (by simp) ?_
                refine AllReadyIn.cons rfl (fun K hK => ?_) ?_
                · go_simp
                  refine hK _ _ ?_
                  clear hK K
                  refine wpAnyIn_ready (rs := [5]) (by kernel_rfl) (by simp) ?_
                  refine AllReadyIn.cons rfl (fun K hK => ?_) ?_
                  · refine step_append rfl (.tmp 50) (.tmp 54) rfl rfl rfl (fun _ => trivial) hrun ?_
                    refine hK _ _ ?_
                    clear hK K
                    refine wpAnyIn_ready (rs := [6]) (by kernel_rfl) (by simp) ?_
                    refine AllReadyIn.cons rfl (fun K hK => ?_) ?_
                    · go_simp
                      refine hK _ _ ?_
                      clear hK K
                      refine wpAnyIn_done (by kernel_rfl) ?_ _
                      exact HFin.out
                    exact AllReadyIn.nil
                  exact AllReadyIn.nil
                exact AllReadyIn.nil
              exact AllReadyIn.nil
            exact AllReadyIn.nil
          refine AllReadyIn.cons rfl (fun K hK => ?_) ?_
          · go_simp
            refine hK _ _ ?_
            clear hK K
            refine wpAnyIn_ready (rs := [1]) (by kernel_rfl) (by simp) ?_
            refine AllReadyIn.cons rfl (fun K hK => ?_) ?_
            · go_simp
              refine hK _ _ ?_
              clear hK K
              refine wpAnyIn_ready (rs := [3]) (by kernel_rfl) (by simp) ?_
              refine AllReadyIn.cons rfl (fun K hK => ?_) ?_
              · go_simp
                refine ⟨trivial, ?_⟩
                refine (round_calls (HO.out _)).mono ?_
                rintro e w' ⟨rfl, rfl⟩
                rw [e3]
                refine hK _ _ ?_
                clear hK K
                refine wpAnyIn_ready (rs := [4]) (by kernel_rfl) (by simp) ?_
                refine AllReadyIn.cons rfl (fun K hK => ?_) ?_
                · go_simp
                  refine hK _ _ ?_
                  clear hK K
                  refine wpAnyIn_ready (rs := [5]) (by kernel_rfl) (by simp) ?_
                  refine AllReadyIn.cons rfl (fun K hK => ?_) ?_
                  · refine step_append rfl (.tmp 50) (.tmp 54) rfl rfl rfl (fun _ => trivial) hrun ?_
                    refine hK _ _ ?_
                    clear hK K
                    refine wpAnyIn_ready (rs := [6]) (by kernel_rfl) (by simp) ?_
                    refine AllReadyIn.cons rfl (fun K hK => ?_) ?_
                    · go_simp
                      refine hK _ _ ?_
                      clear hK K
                      refine wpAnyIn_done (by kernel_rfl) ?_ _
                      exact HFin.out
                    exact AllReadyIn.nil
                  exact AllReadyIn.nil
                exact AllReadyIn.nil
              exact AllReadyIn.nil
            exact AllReadyIn.nil
          exact AllReadyIn.nil
        refine AllReadyIn.cons rfl (fun K hK => ?_) ?_
        · go_simp
          refine hK _ _ ?_
          clear hK K
          refine wpAnyIn_ready (rs := [0, 2]) (by kernel_rfl) (by simp) ?_
          refine AllReadyIn.cons rfl (fun K hK => ?_) ?_
          · go_simp
            refine hK _ _ ?_
            clear hK K
            refine wpAnyIn_ready (rs := [2]) (by kernel_rfl) (by simp) ?_
            refine AllReadyIn.cons rfl (fun K hK => ?_) ?_
            · go_simp
              refine hK _ _ ?_
              clear hK K
              refine wpAnyIn_ready (rs := [3]) (by kernel_rfl) (by simp) ?_
              refine AllReadyIn.cons rfl (fun K hK => ?_) ?_
              · go_simp
                refine ⟨trivial, ?_⟩
                refine (round_calls (HO.out _)).mono ?_
                rintro e w' ⟨rfl, rfl⟩
                rw [e3]
                refine hK _ _ ?_
                clear hK K
                refine wpAnyIn_ready (rs := [4]) (by kernel_rfl) (by simp) ?_
                refine AllReadyIn.cons rfl (fun K hK => ?_) ?_
                · go_simp
                  refine hK _ _ ?_
                  clear hK K
                  refine wpAnyIn_ready (rs := [5]) (by kernel_rfl) (by simp) ?_
                  refine AllReadyIn.cons rfl (fun K hK => ?_) ?_
                  · refine step_append rfl (.tmp 50) (.tmp 54) rfl rfl rfl (fun _ => trivial) hrun ?_
                    refine hK _ _ ?_
                    clear hK K
                    refine wpAnyIn_ready (rs := [6]) (by kernel_rfl) (by simp) ?_
                    refine AllReadyIn.cons rfl (fun K hK => ?_) ?_
                    · go_simp
                      refine hK _ _ ?_
                      clear hK K
                      refine wpAnyIn_done (by kernel_rfl) ?_ _
                      exact HFin.out
                    exact AllReadyIn.nil
                  exact AllReadyIn.nil
                exact AllReadyIn.nil
              exact AllReadyIn.nil
            exact AllReadyIn.nil
          refine AllReadyIn.cons rfl (fun K hK => ?_) ?_
          · go_simp
            refine hK _ _ ?_
            clear hK K
            refine wpAnyIn_ready (rs := [0, 3]) (by kernel_rfl) (by simp) ?_
            refine AllReadyIn.cons rfl (fun K hK => ?_) ?_
            · go_simp
              refine hK _ _ ?_
              clear hK K
              refine wpAnyIn_ready (rs := [3]) (by kernel_rfl) (by simp) ?_
              refine AllReadyIn.cons rfl (fun K hK => ?_) ?_
              · go_simp
                refine ⟨trivial, ?_⟩
                refine (round_calls (HO.out _)).mono ?_
                rintro e w' ⟨rfl, rfl⟩
                rw [e3]
                refine hK _ _ ?_
                clear hK K
                refine wpAnyIn_ready (rs := [4]) (by kernel_rfl) (by simp) ?_
                refine AllReadyIn.cons rfl (fun K hK => ?_) ?_
                · go_simp
                  refine hK _ _ ?_
                  clear hK K
                  refine wpAnyIn_ready (rs := [5]) (by kernel_rfl) (by simp) ?_
                  refine AllReadyIn.cons rfl (fun K hK => ?_) ?_
                  · refine step_append rfl (.tmp 50) (.tmp 54) rfl rfl rfl (fun _ => trivial) hrun ?_
                    refine hK _ _ ?_
                    clear hK K
                    refine wpAnyIn_ready (rs := [6]) (by kernel_rfl) (by simp) ?_
                    refine AllReadyIn.cons rfl (fun K hK => ?_) ?_
                    · go_simp
                      refine hK _ _ ?_
                      clear hK K
                      refine wpAnyIn_done (by kernel_rfl) ?_ _
                      exact HFin.out
                    exact AllReadyIn.nil
                  exact AllReadyIn.nil
                exact AllReadyIn.nil
              exact AllReadyIn.nil
            refine AllReadyIn.cons rfl (fun K hK => ?_) ?_
            · go_simp
              refine ⟨trivial, ?_⟩
              refine (round_calls (HO.out _)).mono ?_
              rintro e w' ⟨rfl, rfl⟩
              rw [e3]
              refine hK _ _ ?_
              clear hK K
              refine wpAnyIn_ready (rs := [0, 4]) (by kernel_rfl) (by simp) ?_
              refine AllReadyIn.cons rfl (fun K hK => ?_) ?_
              · go_simp
                refine hK _ _ ?_
                clear hK K
                refine wpAnyIn_ready (rs := [4]) (by kernel_rfl) (by simp) ?_
                refine AllReadyIn.cons rfl (fun K hK => ?_) ?_
                · go_simp
                  refine hK _ _ ?_
                  clear hK K
                  refine wpAnyIn_ready (rs := [5]) (by kernel_rfl) (by simp) ?_
                  refine AllReadyIn.cons rfl (fun K hK => ?_) ?_
                  · refine step_append rfl (.tmp 50) (.tmp 54) rfl rfl rfl (fun _ => trivial) hrun ?_
                    refine hK _ _ ?_
                    clear hK K
                    refine wpAnyIn_ready (rs := [6]) (by kernel_rfl) (by simp) ?_
                    refine AllReadyIn.cons rfl (fun K hK => ?_) ?_
                    · go_simp
                      refine hK _ _ ?_
                      clear hK K
                      refine wpAnyIn_done (by kernel_rfl) ?_ _
                      exact HFin.out
                    exact AllReadyIn.nil
                  exact AllReadyIn.nil
                exact AllReadyIn.nil
              refine AllReadyIn.cons rfl (fun K hK => ?_) ?_
              · go_simp
                refine hK _ _ ?_
                clear hK K
                refine wpAnyIn_ready (rs := [0]) (by kernel_rfl) (by simp) ?_
                refine AllReadyIn.cons rfl (fun K hK => ?_) ?_
                · go_simp
                  refine hK _ _ ?_
                  clear hK K
                  refine wpAnyIn_ready (rs := [5]) (by kernel_rfl) (by simp) ?_
                  refine AllReadyIn.cons rfl (fun K hK => ?_) ?_
                  · refine step_append rfl (.tmp 50) (.tmp 54) rfl rfl rfl (fun _ => trivial) hrun ?_
                    refine hK _ _ ?_
                    clear hK K
                    refine wpAnyIn_ready (rs := [6]) (by kernel_rfl) (by simp) ?_
                    refine AllReadyIn.cons rfl (fun K hK => ?_) ?_
                    · go_simp
                      refine hK _ _ ?_
                      clear hK K
                      refine wpAnyIn_done (by kernel_rfl) ?_ _
                      exact HFin.out
                    exact AllReadyIn.nil
                  exact AllReadyIn.nil
                exact AllReadyIn.nil
              exact AllReadyIn.nil
            exact AllReadyIn.nil
          exact AllReadyIn.nil
        refine AllReadyIn.cons rfl (fun K hK => ?_) ?_
        · go_simp
          refine hK _ _ ?_
          clear hK K
          refine wpAnyIn_ready (rs := [0, 1]) (by kernel_rfl) (by simp) ?_
          refine AllReadyIn.cons rfl (fun K hK => ?_) ?_
          · go_simp
            refine hK _ _ ?_
            clear hK K
            refine wpAnyIn_ready (rs := [1]) (by kernel_rfl) (by simp) ?_
            refine AllReadyIn.cons rfl (fun K hK => ?_) ?_
            · go_simp
              refine hK _ _ ?_
              clear hK K
              refine wpAnyIn_ready (rs := [3]) (by kernel_rfl) (by simp) ?_
              refine AllReadyIn.cons rfl (fun K hK => ?_) ?_
              · go_simp
                refine ⟨trivial, ?_⟩
                refine (round_calls (HO.out _)).mono ?_
                rintro e w' ⟨rfl, rfl⟩
                rw [e3]
                refine hK _ _ ?_
                clear hK K
                refine wpAnyIn_ready (rs := [4]) (by kernel_rfl) (by simp) ?_
                refine AllReadyIn.cons rfl (fun K hK => ?_) ?_
                · go_simp
                  refine hK _ _ ?_
                  clear hK K
                  refine wpAnyIn_ready (rs := [5]) (by kernel_rfl) (by simp) ?_
                  refine AllReadyIn.cons rfl (fun K hK => ?_) ?_
                  · refine step_append rfl (.tmp 50) (.tmp 54) rfl rfl rfl (fun _ => trivial) hrun ?_
                    refine hK _ _ ?_
                    clear hK K
                    refine wpAnyIn_ready (rs := [6]) (by kernel_rfl) (by simp) ?_
                    refine AllReadyIn.cons rfl (fun K hK => ?_) ?_
                    · go_simp
                      refine hK _ _ ?_
                      clear hK K
                      refine wpAnyIn_done (by kernel_rfl) ?_ _
                      exact HFin.out
                    exact AllReadyIn.nil
                  exact AllReadyIn.nil
                exact AllReadyIn.nil
              exact AllReadyIn.nil
            exact AllReadyIn.nil
          refine AllReadyIn.cons rfl (fun K hK => ?_) ?_
          · go_simp
            refine hK _ _ ?_
            clear hK K
            refine wpAnyIn_ready (rs := [0, 3]) (by kernel_rfl) (by simp) ?_
            refine AllReadyIn.cons rfl (fun K hK => ?_) ?_
            · go_simp
              refine hK _ _ ?_
              clear hK K
              refine wpAnyIn_ready (rs := [3]) (by kernel_rfl) (by simp) ?_
              refine AllReadyIn.cons rfl (fun K hK => ?_) ?_
              · go_simp
                refine ⟨trivial, ?_⟩
                refine (round_calls (HO.out _)).mono ?_
                rintro e w' ⟨rfl, rfl⟩
                rw [e3]
                refine hK _ _ ?_
                clear hK K
                refine wpAnyIn_ready (rs := [4]) (by kernel_rfl) (by simp) ?_
                refine AllReadyIn.cons rfl (fun K hK => ?_) ?_
                · go_simp
                  refine hK _ _ ?_
                  clear hK K
                  refine wpAnyIn_ready (rs := [5]) (by kernel_rfl) (by simp) ?_
                  refine AllReadyIn.cons rfl (fun K hK => ?_) ?_
                  · refine step_append rfl (.tmp 50) (.tmp 54) rfl rfl rfl (fun _ => trivial) hrun ?_
                    refine hK _ _ ?_
                    clear hK K
                    refine wpAnyIn_ready (rs := [6]) (by kernel_rfl) (by simp) ?_
                    refine AllReadyIn.cons rfl (fun K hK => ?_) ?_
                    · go_simp
                      refine hK _ _ ?_
                      clear hK K
                      refine wpAnyIn_done (by kernel_rfl) ?_ _
                      exact HFin.out
                    exact AllReadyIn.nil
                  exact AllReadyIn.nil
                exact AllReadyIn.nil
              exact AllReadyIn.nil
            refine AllReadyIn.cons rfl (fun K hK => ?_) ?_
            · go_simp
              refine ⟨trivial, ?_⟩
              refine (round_calls (HO.out _)).mono ?_
              rintro e w' ⟨rfl, rfl⟩
              rw [e3]
              refine hK _ _ ?_
              clear hK K
              refine wpAnyIn_ready (rs := [0, 4]) (by kernel_rfl) (by simp) ?_
              refine AllReadyIn.cons rfl (fun K hK => ?_) ?_
              · go_simp
                refine hK _ _ ?_
                clear hK K
                refine wpAnyIn_ready (rs := [4]) (by kernel_rfl) (by simp) ?_
                refine AllReadyIn.cons rfl (fun K hK => ?_) ?_
                · go_simp
                  refine hK _ _ ?_
                  clear hK K
                  refine wpAnyIn_ready (rs := [5]) (by kernel_rfl) (by simp) ?_
                  refine AllReadyIn.cons rfl (fun K hK => ?_) ?_
                  · refine step_append rfl (.tmp 50) (.tmp 54) rfl rfl rfl (fun _ => trivial) hrun ?_
                    refine hK _ _ ?_
                    clear hK K
                    refine wpAnyIn_ready (rs := [6]) (by kernel_rfl) (by simp) ?_
                    refine AllReadyIn.cons rfl (fun K hK => ?_) ?_
                    · go_simp
                      refine hK _ _ ?_
                      clear hK K
                      refine wpAnyIn_done (by kernel_rfl) ?_ _
                      exact HFin.out
                    exact AllReadyIn.nil
                  exact AllReadyIn.nil
                exact AllReadyIn.nil
              refine AllReadyIn.cons rfl (fun K hK => ?_) ?_
              · go_simp
                refine hK _ _ ?_
                clear hK K
                refine wpAnyIn_ready (rs := [0]) (by kernel_rfl) (by simp) ?_
                refine AllReadyIn.cons rfl (fun K hK => ?_) ?_
                · go_simp
                  refine hK _ _ ?_
                  clear hK K
                  refine wpAnyIn_ready (rs := [5]) (by kernel_rfl) (by simp) ?_
                  refine AllReadyIn.cons rfl (fun K hK => ?_) ?_
                  · refine step_append rfl (.tmp 50) (.tmp 54) rfl rfl rfl (fun _ => trivial) hrun ?_
                    refine hK _ _ ?_
                    clear hK K
                    refine wpAnyIn_ready (rs := [6]) (by kernel_rfl) (by simp) ?_
                    refine AllReadyIn.cons rfl (fun K hK => ?_) ?_
                    · go_simp
                      refine hK _ _ ?_
                      clear hK K
                      refine wpAnyIn_done (by kernel_rfl) ?_ _
                      exact HFin.out
                    exact AllReadyIn.nil
                  exact AllReadyIn.nil
                exact AllReadyIn.nil
              exact AllReadyIn.nil
            exact AllReadyIn.nil
          exact AllReadyIn.nil
        exact AllReadyIn.nil
      case done =>
        intro D ys W hD hS hi hK
        subst hS
        obtain ⟨hsta, hsz, g, cap, _, _, hgt, _⟩ := hi
        have hb1 : w.heap.size + 2 ≤ b := HNum.out.kb
        have hb2 : b < base := HNum.out.lb
        have hDl := (Array.getElem?_eq_some_iff.1 hK).1
        have HKd := Lib.hid hK
        have hD2 : w.heap.size + 2 ≤ D := by omega
        have hszW : base ≤ W.heap.size := hsz
        have HBox := Lib.hid (fun (V : World) (hV : Below W.heap.size W V) => hsta.bx.below hV)
        have HS := Lib.hid (fun (V : World) (hV : Below W.heap.size W V) => (show V.cell? ⟨base + 1, 0, none⟩ = some (.slice (some ⟨g, 0, none⟩) n cap) ∧ V.cell? ⟨Bb, 0, none⟩ = some (.slice A1 n ca1) from
          ⟨by rw [← HLn.out]; exact (hgt.box.below hV).cell, by rw [← HLn.out]; exact (hsta.bb.below hV).cell⟩))
        have HSF := Lib.hid (fun (V : World) (hV : Below W.heap.size W V) => (show (V.setCell ⟨w.heap.size + 1, 0, none⟩ (.bool true)).cell? ⟨base + 1, 0, none⟩ = some (.slice (some ⟨g, 0, none⟩) n cap) ∧ (V.setCell ⟨w.heap.size + 1, 0, none⟩ (.bool true)).cell? ⟨Bb, 0, none⟩ = some (.slice A1 n ca1) from by
          have h1 : Blk V Bb [.slice A1 ys.length ca1] 31 := hsta.bb.below hV
          have h2 := (hsta.bx.below hV).rs
          have h3 := hgt.box.below hV
          refine ⟨(cell_same ((grown_set V (w.heap.size + 1) 0 (.bool true)).block (base + 1) h3.lt (fun e => by have := Option.some.inj e; omega))).trans (HS.out V hV).1, (cell_same ((grown_set V (w.heap.size + 1) 0 (.bool true)).block Bb h1.lt (fun e => ?_))).trans (HS.out V hV).2⟩
          have e' := Option.some.inj e
          unfold Blk at h1 h2
          rw [e', h2] at h1
          cases h1))
        have HGo := Lib.hid (fun (V : World) (hV : Below W.heap.size W V) => ((own_at hgt.own).up hV))
        have HBe := Lib.hid (fun (V : World) (hV : Below W.heap.size W V) => ((hsta.at'.more hszW).up hV))
        have HRows := Lib.hid (fun (V : World) (hV : Below W.heap.size W V) => rows_any (hsta.cl.below hV))
        have HCnt := Lib.hid (fun (V : World) (hV : Below W.heap.size W V) => count_any (hsta.cl.below hV))
        simp only [HLn.out] at HRows HCnt
        have B0' : Hid (Below W.heap.size W W.drew) := (Below.refl _ W).drew
        have S0 := HS.out _ B0'.out
        have hnn : ((n : Int) == (n : Int)) = true := by simp
        clear hsta hgt hK hsz HInv HStops hb1 hb2 hD
        dsimp only
        go_wp2_with fail
        go_region_held3 (fun V => V.cell? ⟨base + 1, 0, none⟩ = some (.slice (some ⟨g, 0, none⟩) n cap) ∧ V.cell? ⟨Bb, 0, none⟩ = some (.slice A1 n ca1))
          (first | exact SF | exact S16 | exact S15 | exact S14 | exact S0)
          ((first
            | (go_at_call 20; refine (samerows_any ys A15 A1 c15 ca1 n n _ AT15.out (HBe.out _ B15.out) (by rw [HLn.out]; omega) HLn.out HLn.out).mono ?_; rintro e w16 ⟨rfl, b16⟩; have B16 : Hid (Below W.heap.size W w16) := up_trans B15.out b16; have S16 := HS.out _ B16.out; have SF := HSF.out _ B16.out; have fz := (HBox.out _ B16.out).rs.frozen 0; have fc := (HBox.out _ B16.out).rs.cell (i := 0); clear b16)
            | (go_at_call 20; refine (samerows_any ys (some ⟨g, 0, none⟩) A1 cap ca1 n n _ (HGo.out _ B0'.out) (HBe.out _ B0'.out) (by rw [HLn.out]; omega) HLn.out HLn.out).mono ?_; rintro e w14 ⟨rfl, b14⟩; have B14 : Hid (Below W.heap.size W w14) := up_trans B0'.out b14; have S14 := HS.out _ B14.out; clear b14)
            | (go_at_call 21; refine (HRows.out _ B14.out).mono ?_; rintro e w15 ⟨A15, c15, rfl, at15, b15⟩; have B15 : Hid (Below W.heap.size W w15) := up_trans B14.out b15; have S15 := HS.out _ B15.out; have AT15 := Lib.hid at15; clear at15 b15)
            | (go_at_call 17; refine (HCnt.out _ B16.out).mono ?_; rintro e w17 ⟨rfl, rfl⟩)))
        go_wp2_with fail
        have hK8 : (w16.setCell ⟨w.heap.size + 1, 0, none⟩ (.bool true)).heap[D]? = some (.deferred (some [])) := ((grown_set w16 (w.heap.size + 1) 0 (.bool true)).block D (Nat.lt_of_lt_of_le hDl B16.out.size) (fun e => by have := Option.some.inj e; omega)).trans ((B16.out.block D hDl).trans HKd.out)
        refine ⟨by simp, .inl ⟨_, _, rfl, run_takeDeferred hK8, ?_⟩⟩
        refine ⟨_, results_bool rfl ((cell_same (World.putObj_heap_other (by omega))).trans ((HBox.out _ B16.out).set true).1), rfl, ?_⟩
        exact ((HBox.out _ B16.out).set true).2.trans ⟨rfl, rfl, rfl, by simp, fun k hk => World.putObj_heap_other (by omega)⟩
theorem clone_law (A A2 : Option Addr) (l l2 : List Cl) (c c2 : Nat) (w : World) (hcs : CA w.heap.size w A l) (hcs2 : CA w.heap.size w A2 l2) :
    Calls Try.prog 6 #[.slice A l.length c, .slice A2 l2.length c2] w fun e w' => e = .returned (.bool true) ∧ Below w.heap.size w w' := by
  by_cases h : 100 < l.length ∨ 100 < l2.length
  · exact great A A2 _ _ c c2 w h
  · exact clone_main A A2 l l2 c c2 w hcs hcs2 (by omega) (by omega)
end Go.Proofs.Ytbgacchbldgaeaa.Cl
