/-
  What the document's ground does when a span is closed or marked: contracts that the claimed proof uses.
-/
import Derived.Test.YtjnknnakllbaaaaGreatGrRefDo
import Derived.StillTailTactics
namespace Go.Proofs.YtjnknnakllbaaaaGreat.Gr
set_option maxRecDepth 100000
open Go.RowKit

section
variable {B P N : Nat} {w w' w2 : World} {x : Rp} {bv : Value} {L L' : List Sp.Rn} {f f' : Ra.Ws} {t t' : Int} {S S' : List Le.Row}
set_option maxHeartbeats 4000000 in
theorem rclose_any (y : Int) (hy : Ra.I64 y) (h : Rg B w P x bv N L f t S) (hi : Inv N L f S) (hs : Ra.St (N : Int) t f) (hS : S.length ≤ 1000) (ht : 0 ≤ t ∧ t < 1099511627776) : Calls Tryz.prog 49 #[.pointer (some ⟨P, 0, none⟩), .int .i64 y] w fun e w' =>
    e = .returned (.tuple #[.int .i64 (closeO L f t S y).v, .int .i64 (closeO L f t S y).e]) ∧ Rg B w' P x bv N (closeO L f t S y).L (closeO L f t S y).f (closeO L f t S y).t (closeO L f t S y).S ∧ Fx x B w w' := by
  have HH := Lib.hid h
  have hN : N ≤ 4096 := by have := hi.n1; omega
  have HLen := Lib.hid (rlen_any y hy h hi)
  by_cases hE : Sp.gi L y < L.length
  · obtain ⟨g1, g2, g3, g4, g5, g6⟩ := hi.gi hE
    have e : closeO L f t S y = ⟨Sp.gvv L y, 0, Sp.gvL L y, Ra.fill f y.toNat (Sp.gvv L y).toNat 0, Ra.nx t, Le.relF (Le.hd S) (Ra.verOf (f y.toNat)) (Sp.gvv L y) :: S⟩ := by unfold closeO; rw [if_pos hE]
    have I1 := Lib.hid (hi.room hE)
    have hX : Ra.wAt N f y = f y.toNat := by unfold Ra.wAt; rw [if_pos (Ra.inB_iff.2 (by omega))]
    obtain ⟨y1, -, y3, -⟩ := hi.word hE
    have hclr : Ra.clrE N f y (Sp.gvv L y) = 0 := by
      unfold Ra.clrE
      rw [if_pos (Ra.inB_iff.2 (by omega)), if_pos (Ra.allB_iff.2 fun i hj => ?_)]
      rw [hi.same hE (by omega) (by omega)]; exact y1
    have HC := Lib.hid hclr
    have HGive := Lib.hid (fun (W : World) (hR : Sp.Rs W x.q x.g N L) => Sp.rgive_any y hR hi.wf hN)
    have hge : Sp.gve L y = 0 := by unfold Sp.gve; rw [if_pos hE]
    rw [hge] at HGive
    have HGet := Lib.hid (Ra.rget_any y h.mp hs)
    rw [hX] at HGet
    have hver := (Ra.part_bd (f y.toNat)).2.1
    have HK : Hid (Le.kindB (Ra.verOf (f y.toNat)) = true) := Le.kindB_iff.2 (by omega)
    have HI := Lib.hid hi
    have HSl := Lib.hid hS
    have HTt := Lib.hid ht
    have hn0 : (Sp.gvv L y == 0) = false := by simp; omega
    have hnn : Hid (0 ≤ Sp.gvv L y) := by show _ ≤ _; omega
    have m2 := h.c2
    rw [e]
    generalize Sp.gvv L y = n at *
    generalize Sp.gvL L y = L2 at *
    generalize f y.toNat = X at *
    clear h e g1 g2 g3 g4 g5 g6 hX hclr hS hE hge hver y1 y3 hy hi hs ht
    go_enter Tryz.func49, Tryz.ntmps49
    go_wp2_with fail
    refine HLen.out.mono ?_
    rintro e w1 ⟨rfl, rfl⟩
    unfold Ra.entV at HGet
    go_wp2_with fail
    refine HGet.out.mono ?_
    rintro e w2 ⟨rfl, b2⟩
    obtain ⟨w3, hw3⟩ : ∃ w3, w2.alloc (.cells #[.int .i64 (Ra.spanOf X), .int .i64 (Ra.verOf X), .int .i64 (Ra.clsOf X), .int .i64 (Ra.staOf X)] 55) = w3 := ⟨_, rfl⟩
    have b3 : Below w.heap.size w w3 := by rw [← hw3]; exact up_alloc b2 _
    have HX3 : Hid (Blk w3 w2.heap.size [.int .i64 (Ra.spanOf X), .int .i64 (Ra.verOf X), .int .i64 (Ra.clsOf X), .int .i64 (Ra.staOf X)] 55) := by rw [← hw3]; exact Blk.new w2 _ 55
    have H3 := Lib.hid (HH.out.below b3)
    have F3 : Hid (Fx x B w w3) := Fx.of b3 HH.out.hB
    have m1 := H3.out.c1
    clear b2 b3 HGet m2 HLen
    go_wp2_with fail
    clear hw3
    refine (HGive.out _ H3.out.sp).mono ?_
    rintro e w4 ⟨rfl, s4, g4⟩
    obtain ⟨x4, f4⟩ := H3.out.spans s4 g4
    have X4 := Lib.hid x4
    have F4 := Lib.hid (F3.out.trans f4)
    have HX4 := Lib.hid (f4.keep _ _ _ HX3.out (by decide) (by decide) (kne (kind_blk HX3.out) H3.out.kg (by decide)) (kne (kind_blk HX3.out) H3.out.km (by decide)) (kne (kind_blk HX3.out) H3.out.kr (by decide)))
    have m2 := x4.c2
    have HClr := Lib.hid (rg_clr x4 hN HTt.out HC.out)
    clear s4 g4 x4 f4 m1 HGive
    go_wp2_with fail
    refine HClr.out.mono ?_
    rintro e w5 ⟨rfl, x5, f5⟩
    have F5 := Lib.hid (F4.out.trans f5)
    have HX5 := Lib.hid (f5.keep _ _ _ HX4.out (by decide) (by decide) (kne (kind_blk HX4.out) X4.out.kg (by decide)) (kne (kind_blk HX4.out) X4.out.km (by decide)) (kne (kind_blk HX4.out) X4.out.kr (by decide)))
    have m3 := x5.c3
    have k1 : w5.cell? ⟨w2.heap.size, 1, none⟩ = some (.int .i64 (Ra.verOf X)) := Sp.Blk.cell HX5.out
    have x6 := x5.below (Below.refl _ w5).drew
    have F6 := Lib.hid (F5.out.trans (Fx.of (Below.refl _ w5).drew x5.hB))
    have HRel := Lib.hid (rg_rel (j := 0) x6 HI.out.bw HSl.out HK.out hnn.out I1.out)
    clear x5 f5 HClr m2 X4 F4 x6
    go_wp2_with fail
    go_still_tail 7, (by kernel_rfl)
    change wpList _ _ _ _ _ w5.drew
    go_wp2_with fail
    refine HRel.out.mono ?_
    rintro e w7 ⟨rfl, x7, f7⟩
    have HF := Lib.hid (And.intro x7 (F6.out.trans f7))
    clear x7 f7 HRel m3 k1
    go_wp2_with fail
    go_ret2
    exact ⟨rfl, HF.out⟩
  · have e : closeO L f t S y = ⟨0, 12, L, f, t, S⟩ := by unfold closeO; rw [if_neg hE]
    have hz : Sp.gvv L y = 0 := by unfold Sp.gvv; rw [if_neg hE]
    rw [e]
    rw [hz] at HLen
    have HF : Hid (Rg B w P x bv N L f t S ∧ Fx x B w w) := ⟨h, Fx.of (Below.refl _ _) h.hB⟩
    clear h e hz hE hS hi hs
    go_enter Tryz.func49, Tryz.ntmps49
    go_wp2_with fail
    refine HLen.out.mono ?_
    rintro e w1 ⟨rfl, rfl⟩
    go_wp2_with fail
    go_ret2
    exact ⟨rfl, HF.out⟩
set_option maxHeartbeats 4000000 in
theorem rmark_any (y v c s : Int) (hy : Ra.I64 y) (h : Rg B w P x bv N L f t S) (hi : Inv N L f S) (hs : Ra.St (N : Int) t f) (hS : S.length ≤ 1000) (ht : 0 ≤ t ∧ t < 1099511627776) : Calls Tryz.prog 50 #[.pointer (some ⟨P, 0, none⟩), .int .i64 y, .int .i64 v, .int .i64 c, .int .i64 s] w fun e w' =>
    e = .returned (.int .i64 (markO L f t S y v c s).e) ∧ Rg B w' P x bv N (markO L f t S y v c s).L (markO L f t S y v c s).f (markO L f t S y v c s).t (markO L f t S y v c s).S ∧ Fx x B w w' := by
  have HH := Lib.hid h
  have hN : N ≤ 4096 := by have := hi.n1; omega
  have HLen := Lib.hid (rlen_any y hy h hi)
  have HF : Hid (Rg B w P x bv N L f t S ∧ Fx x B w w) := ⟨h, Fx.of (Below.refl _ _) h.hB⟩
  by_cases hE : Sp.gi L y < L.length
  · obtain ⟨g1, g2, g3, g4, g5, g6⟩ := hi.gi hE
    have hn0 : (Sp.gvv L y == 0) = false := by simp; omega
    cases hm : mayB v c s with
    | false =>
      have e : markO L f t S y v c s = ⟨0, 11, L, f, t, S⟩ := by unfold markO; rw [if_pos hE, hm]; rfl
      rw [e]
      have hno : v < 0 ∨ 2 < v ∨ c < 0 ∨ 63 < c ∨ s < 0 ∨ 1 < s := by
        have : ¬ (0 ≤ v ∧ v ≤ 2 ∧ 0 ≤ c ∧ c < 64 ∧ 0 ≤ s ∧ s ≤ 1) := fun hc => by rw [mayB_iff.2 hc] at hm; cases hm
        omega
      generalize Sp.gvv L y = n at *
      clear h e hm hE hi hs hS g1 g2 g3 g4 g5 g6
      by_cases h0 : v < 0
      · have d0 : decide (v < 0) = true := by simpa using h0
        go_enter Tryz.func50, Tryz.ntmps50
        go_wp2_with fail
        refine HLen.out.mono ?_
        rintro e w1 ⟨rfl, rfl⟩
        go_wp2_with fail
        go_ret
        exact ⟨rfl, HF.out⟩
      have d0 : decide (v < 0) = false := by simpa using h0
      by_cases h1 : 2 < v
      · have d1 : decide (2 < v) = true := by simpa using h1
        go_enter Tryz.func50, Tryz.ntmps50
        go_wp2_with fail
        refine HLen.out.mono ?_
        rintro e w1 ⟨rfl, rfl⟩
        go_wp2_with fail
        go_ret
        exact ⟨rfl, HF.out⟩
      have d1 : decide (2 < v) = false := by simpa using h1
      by_cases h2 : c < 0
      · have d2 : decide (c < 0) = true := by simpa using h2
        go_enter Tryz.func50, Tryz.ntmps50
        go_wp2_with fail
        refine HLen.out.mono ?_
        rintro e w1 ⟨rfl, rfl⟩
        go_wp2_with fail
        go_ret
        exact ⟨rfl, HF.out⟩
      have d2 : decide (c < 0) = false := by simpa using h2
      by_cases h3 : 63 < c
      · have d3 : decide (63 < c) = true := by simpa using h3
        go_enter Tryz.func50, Tryz.ntmps50
        go_wp2_with fail
        refine HLen.out.mono ?_
        rintro e w1 ⟨rfl, rfl⟩
        go_wp2_with fail
        go_ret
        exact ⟨rfl, HF.out⟩
      have d3 : decide (63 < c) = false := by simpa using h3
      by_cases h4 : s < 0
      · have d4 : decide (s < 0) = true := by simpa using h4
        go_enter Tryz.func50, Tryz.ntmps50
        go_wp2_with fail
        refine HLen.out.mono ?_
        rintro e w1 ⟨rfl, rfl⟩
        go_wp2_with fail
        go_ret
        exact ⟨rfl, HF.out⟩
      have d4 : decide (s < 0) = false := by simpa using h4
      have d5 : decide (1 < s) = true := by simp; omega
      go_enter Tryz.func50, Tryz.ntmps50
      go_wp2_with fail
      refine HLen.out.mono ?_
      rintro e w1 ⟨rfl, rfl⟩
      go_wp2_with fail
      go_ret
      exact ⟨rfl, HF.out⟩
    | true =>
      obtain ⟨v0, v2, c0', c6, s0, s1⟩ := mayB_iff.1 hm
      have d1 : decide (v < 0) = false := by simp; omega
      have d2 : decide (2 < v) = false := by simp; omega
      have d3 : decide (c < 0) = false := by simp; omega
      have d4 : decide (63 < c) = false := by simp; omega
      have d5 : decide (s < 0) = false := by simp; omega
      have d6 : decide (1 < s) = false := by simp; omega
      have e : markO L f t S y v c s = ⟨0, 0, L, Ra.fill f y.toNat (Sp.gvv L y).toNat (Ra.wd y v c s (Ra.nx t)), Ra.nx t, Le.shF (Le.hd S) (Ra.verOf (f y.toNat)) v (Sp.gvv L y) :: S⟩ := by unfold markO; rw [if_pos hE, hm]; rfl
      have I1 := Lib.hid (hi.mark hE (v := v) (c := c) (s := s) (t := Ra.nx t) ⟨v0, v2⟩ ⟨c0', by omega⟩ ⟨s0, s1⟩).1
      have hX : Ra.wAt N f y = f y.toNat := by unfold Ra.wAt; rw [if_pos (Ra.inB_iff.2 (by omega))]
      have hset : Ra.setE N y (Sp.gvv L y) y v c s = 0 := by unfold Ra.setE; rw [if_pos ⟨Ra.inB_iff.2 (by omega), Ra.okB_iff.2 (by omega)⟩]
      have HC := Lib.hid hset
      have HGet := Lib.hid (Ra.rget_any y h.mp hs)
      rw [hX] at HGet
      have hver := (Ra.part_bd (f y.toNat)).2.1
      have HK : Hid (Le.kindB (Ra.verOf (f y.toNat)) = true) := Le.kindB_iff.2 (by omega)
      have HK2 : Hid (Le.kindB v = true) := Le.kindB_iff.2 (by omega)
      have HI := Lib.hid hi
      have HSl := Lib.hid hS
      have HTt := Lib.hid ht
      have hnn : Hid (0 ≤ Sp.gvv L y) := by show _ ≤ _; omega
      have m2 := h.c2
      rw [e]
      generalize Sp.gvv L y = n at *
      generalize f y.toNat = X at *
      clear h e g1 g2 g3 g4 g5 g6 hX hset hS hE hver hy hi hs ht hm v0 v2 c0' c6 s0 s1
      go_enter Tryz.func50, Tryz.ntmps50
      go_wp2_with fail
      refine HLen.out.mono ?_
      rintro e w1 ⟨rfl, rfl⟩
      unfold Ra.entV at HGet
      go_wp2_with fail
      refine HGet.out.mono ?_
      rintro e w2 ⟨rfl, b2⟩
      obtain ⟨w3, hw3⟩ : ∃ w3, w2.alloc (.cells #[.int .i64 (Ra.spanOf X), .int .i64 (Ra.verOf X), .int .i64 (Ra.clsOf X), .int .i64 (Ra.staOf X)] 55) = w3 := ⟨_, rfl⟩
      have b3 : Below w.heap.size w w3 := by rw [← hw3]; exact up_alloc b2 _
      have HX3 : Hid (Blk w3 w2.heap.size [.int .i64 (Ra.spanOf X), .int .i64 (Ra.verOf X), .int .i64 (Ra.clsOf X), .int .i64 (Ra.staOf X)] 55) := by rw [← hw3]; exact Blk.new w2 _ 55
      have H3 := Lib.hid (HH.out.below b3)
      have F3 : Hid (Fx x B w w3) := Fx.of b3 HH.out.hB
      have m1 := H3.out.c2
      have HSet := Lib.hid (rg_set H3.out hN HTt.out HC.out)
      clear b2 b3 HGet m2 HLen
      go_wp2_with fail
      clear hw3
      refine HSet.out.mono ?_
      rintro e w5 ⟨rfl, x5, f5⟩
      have F5 := Lib.hid (F3.out.trans f5)
      have HX5 := Lib.hid (f5.keep _ _ _ HX3.out (by decide) (by decide) (kne (kind_blk HX3.out) H3.out.kg (by decide)) (kne (kind_blk HX3.out) H3.out.km (by decide)) (kne (kind_blk HX3.out) H3.out.kr (by decide)))
      have m3 := x5.c3
      have k1 : w5.cell? ⟨w2.heap.size, 1, none⟩ = some (.int .i64 (Ra.verOf X)) := Sp.Blk.cell HX5.out
      have x6 := x5.below (Below.refl _ w5).drew
      have F6 := Lib.hid (F5.out.trans (Fx.of (Below.refl _ w5).drew x5.hB))
      have HSh := Lib.hid (rg_sh x6 HI.out.bw HSl.out HK.out HK2.out hnn.out I1.out)
      clear x5 f5 HSet m1 x6
      go_wp2_with fail
      go_still_tail 8, (by kernel_rfl)
      change wpList _ _ _ _ _ w5.drew
      go_wp2_with fail
      refine HSh.out.mono ?_
      rintro e w7 ⟨rfl, x7, f7⟩
      have HF7 := Lib.hid (And.intro x7 (F6.out.trans f7))
      clear x7 f7 HSh m3 k1
      go_wp2_with fail
      go_ret
      exact ⟨rfl, HF7.out⟩
  · have e : markO L f t S y v c s = ⟨0, 12, L, f, t, S⟩ := by unfold markO; rw [if_neg hE]
    have hz : Sp.gvv L y = 0 := by unfold Sp.gvv; rw [if_neg hE]
    rw [e]
    rw [hz] at HLen
    clear h e hz hE hS hi hs
    go_enter Tryz.func50, Tryz.ntmps50
    go_wp2_with fail
    refine HLen.out.mono ?_
    rintro e w1 ⟨rfl, rfl⟩
    go_wp2_with fail
    go_ret
    exact ⟨rfl, HF.out⟩
end
end Go.Proofs.YtjnknnakllbaaaaGreat.Gr
