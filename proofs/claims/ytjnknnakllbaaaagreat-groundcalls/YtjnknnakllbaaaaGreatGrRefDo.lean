/-
  What the document's ground does when it is told something: contracts that the claimed proof uses.
-/
import Derived.Test.YtjnknnakllbaaaaGreatGrRefMem
namespace Go.Proofs.YtjnknnakllbaaaaGreat.Gr
set_option maxRecDepth 100000
open Go.RowKit

section
variable {B P N : Nat} {w w' w2 : World} {x : Rp} {bv : Value} {L L' : List Sp.Rn} {f f' : Ra.Ws} {t t' : Int} {S S' : List Le.Row}
theorem rg_set {y k a b c d : Int} (h : Rg B w P x bv N L f t S) (hN : N ≤ 4096) (ht : 0 ≤ t ∧ t < 1099511627776) (he : Ra.setE N y k a b c d = 0) :
    Calls Tryz.prog 79 #[.pointer (some ⟨x.m, 0, none⟩), .int .i64 y, .int .i64 k, .agg #[.int .i64 a, .int .i64 b, .int .i64 c, .int .i64 d]] w fun e w' =>
      e = .returned (.int .i64 0) ∧ Rg B w' P x bv N L (Ra.fill f y.toNat k.toNat (Ra.wd a b c d (Ra.nx t))) (Ra.nx t) S ∧ Fx x B w w' := by
  have HH := Lib.hid h
  have := Ra.rset_any y k a b c d h.mp hN ht.1 ht.2
  rw [he] at this
  refine this.mono ?_
  rintro e w' ⟨rfl, hm, hf⟩
  obtain ⟨h1, h2⟩ := HH.out.map hm hf
  exact ⟨rfl, h1, h2⟩
theorem rg_clr {y k : Int} (h : Rg B w P x bv N L f t S) (hN : N ≤ 4096) (ht : 0 ≤ t ∧ t < 1099511627776) (he : Ra.clrE N f y k = 0) :
    Calls Tryz.prog 82 #[.pointer (some ⟨x.m, 0, none⟩), .int .i64 y, .int .i64 k] w fun e w' =>
      e = .returned (.int .i64 0) ∧ Rg B w' P x bv N L (Ra.fill f y.toNat k.toNat 0) (Ra.nx t) S ∧ Fx x B w w' := by
  have HH := Lib.hid h
  have := Ra.rclr_any y k h.mp hN ht.1 ht.2
  rw [he] at this
  refine this.mono ?_
  rintro e w' ⟨rfl, hm, hf⟩
  obtain ⟨h1, h2⟩ := HH.out.map hm hf
  exact ⟨rfl, h1, h2⟩
theorem rg_res {k j n : Int} (h : Rg B w P x bv N L f t S) (hw : Le.Wf N S) (hS : S.length ≤ 1000) (hk : Le.kindB k = true) (hn : 0 ≤ n) (he : Le.resE N (Le.hd S) k n = 0) :
    Calls Tryz.prog 80 #[.pointer (some ⟨x.k, 0, none⟩), .int .i64 0, .int .i64 k, .int .i64 j, .int .i64 n] w fun e w' => e = .returned (.int .i64 0) ∧ Rg B w' P x bv N L f t (Le.resF (Le.hd S) k n :: S) ∧ Fx x B w w' := by
  have HH := Lib.hid h
  have := Le.rdo_res k j n h.bk hw hS h.hB hk hn
  rw [he] at this
  refine this.mono ?_
  rintro e w' ⟨rfl, hb, hf⟩
  obtain ⟨h1, h2⟩ := HH.out.book hb hf
  exact ⟨rfl, h1, h2⟩
theorem rg_rel {k j n : Int} (h : Rg B w P x bv N L f t S) (hw : Le.Wf N S) (hS : S.length ≤ 1000) (hk : Le.kindB k = true) (hn : 0 ≤ n) (he : Le.relE (Le.hd S) k n = 0) :
    Calls Tryz.prog 80 #[.pointer (some ⟨x.k, 0, none⟩), .int .i64 1, .int .i64 k, .int .i64 j, .int .i64 n] w fun e w' => e = .returned (.int .i64 0) ∧ Rg B w' P x bv N L f t (Le.relF (Le.hd S) k n :: S) ∧ Fx x B w w' := by
  have HH := Lib.hid h
  have := Le.rdo_rel k j n h.bk hw hS h.hB hk hn
  rw [he] at this
  refine this.mono ?_
  rintro e w' ⟨rfl, hb, hf⟩
  obtain ⟨h1, h2⟩ := HH.out.book hb hf
  exact ⟨rfl, h1, h2⟩
theorem rg_sh {k j n : Int} (h : Rg B w P x bv N L f t S) (hw : Le.Wf N S) (hS : S.length ≤ 1000) (hk : Le.kindB k = true) (hj : Le.kindB j = true) (hn : 0 ≤ n) (he : Le.shE (Le.hd S) k j n = 0) :
    Calls Tryz.prog 80 #[.pointer (some ⟨x.k, 0, none⟩), .int .i64 2, .int .i64 k, .int .i64 j, .int .i64 n] w fun e w' => e = .returned (.int .i64 0) ∧ Rg B w' P x bv N L f t (Le.shF (Le.hd S) k j n :: S) ∧ Fx x B w w' := by
  have HH := Lib.hid h
  have := Le.rdo_sh k j n h.bk hw hS h.hB hk hn hj
  rw [he] at this
  refine this.mono ?_
  rintro e w' ⟨rfl, hb, hf⟩
  obtain ⟨h1, h2⟩ := HH.out.book hb hf
  exact ⟨rfl, h1, h2⟩
set_option maxHeartbeats 4000000 in
theorem ropen_any (n a v c : Int) (h : Rg B w P x bv N L f t S) (hi : Inv N L f S) (hS : S.length ≤ 1000) (ht : 0 ≤ t ∧ t < 1099511627776) : Calls Tryz.prog 48 #[.pointer (some ⟨P, 0, none⟩), .int .i64 n, .int .i64 a, .int .i64 v, .int .i64 c] w fun e w' =>
    e = .returned (.tuple #[.int .i64 (openO L f t S n a v c).v, .int .i64 (openO L f t S n a v c).e]) ∧ Rg B w' P x bv N (openO L f t S n a v c).L (openO L f t S n a v c).f (openO L f t S n a v c).t (openO L f t S n a v c).S ∧ Fx x B w w' := by
  have HH := Lib.hid h
  have hN : N ≤ 4096 := by have := hi.n1; omega
  cases hm : mayB v c 0 with
  | false =>
    have e : openO L f t S n a v c = ⟨-1, 11, L, f, t, S⟩ := by unfold openO; rw [hm]; rfl
    rw [e]
    have hno : v < 0 ∨ 2 < v ∨ c < 0 ∨ 63 < c := by
      have : ¬ (0 ≤ v ∧ v ≤ 2 ∧ 0 ≤ c ∧ c < 64 ∧ (0 : Int) ≤ 0 ∧ (0 : Int) ≤ 1) := fun hc => by rw [mayB_iff.2 hc] at hm; cases hm
      omega
    have HF : Hid (Rg B w P x bv N L f t S ∧ Fx x B w w) := ⟨h, Fx.of (Below.refl _ _) h.hB⟩
    clear h e hm hi hS
    by_cases h1 : v < 0
    · have d1 : decide (v < 0) = true := by simpa using h1
      go_enter Tryz.func48, Tryz.ntmps48
      go_wp2_with fail
      go_ret2
      exact ⟨rfl, HF.out⟩
    have d1 : decide (v < 0) = false := by simpa using h1
    by_cases h2 : 2 < v
    · have d2 : decide (2 < v) = true := by simpa using h2
      go_enter Tryz.func48, Tryz.ntmps48
      go_wp2_with fail
      go_ret2
      exact ⟨rfl, HF.out⟩
    have d2 : decide (2 < v) = false := by simpa using h2
    by_cases h3 : c < 0
    · have d3 : decide (c < 0) = true := by simpa using h3
      go_enter Tryz.func48, Tryz.ntmps48
      go_wp2_with fail
      go_ret2
      exact ⟨rfl, HF.out⟩
    have d3 : decide (c < 0) = false := by simpa using h3
    have d4 : decide (63 < c) = true := by simp; omega
    go_enter Tryz.func48, Tryz.ntmps48
    go_wp2_with fail
    go_ret2
    exact ⟨rfl, HF.out⟩
  | true =>
    obtain ⟨v0, v2, c0', c6, _, _⟩ := mayB_iff.1 hm
    have d1 : decide (v < 0) = false := by simp; omega
    have d2 : decide (2 < v) = false := by simp; omega
    have d3 : decide (c < 0) = false := by simp; omega
    have d4 : decide (63 < c) = false := by simp; omega
    have HT := Lib.hid (Sp.rtake_any n a h.sp hi.wf hN)
    have c1 := h.c1
    by_cases hE : Sp.tke L n a = 0
    · obtain ⟨k, hk, hfree, u, m, e1, rfl, hm1, b1, b2, e3⟩ := tk_yes hi hE
      obtain ⟨i1, i2⟩ := hi.take hk hfree (u := u) (n := m) (v := v) (c := c) (t := Ra.nx t) b1 hm1 b2 ⟨v0, v2⟩ ⟨c0', by omega⟩
      have hat := hi.at hk
      have e : openO L f t S m a v c = ⟨u, 0, Sp.takeL L k u m, Ra.fill f u m (Ra.wd u v c 0 (Ra.nx t)), Ra.nx t, Le.resF (Le.hd S) v m :: S⟩ := by
        unfold openO; rw [hm, if_pos rfl, if_pos hE, e1, e3]; rfl
      have hset : Ra.setE N u m u v c 0 = 0 := by unfold Ra.setE; rw [if_pos ⟨Ra.inB_iff.2 (by omega), Ra.okB_iff.2 (by omega)⟩]
      rw [e]
      rw [e1, hE, e3] at HT
      have I1 := Lib.hid i1
      have HI := Lib.hid hi
      have HSE := Lib.hid hset
      have HK : Hid (Le.kindB v = true) := Le.kindB_iff.2 ⟨v0, by omega⟩
      have HSl := Lib.hid hS
      have HTt := Lib.hid ht
      clear h e e1 e3 hm hE hk hfree hm1 b1 b2 i1 i2 hat hset hS v0 v2 c0' c6 hi ht
      generalize Sp.takeL L k u m = L' at *
      go_enter Tryz.func48, Tryz.ntmps48
      go_wp2_with fail
      refine HT.out.mono ?_
      rintro e w2 ⟨rfl, s2, g2⟩
      obtain ⟨x2, f2⟩ := HH.out.spans s2 g2
      have X2 := Lib.hid x2
      have F2 := Lib.hid f2
      have m2 := x2.c2
      have HSet := Lib.hid (rg_set x2 hN HTt.out HSE.out)
      clear s2 g2 x2 f2 HT c1
      go_wp2_with fail
      refine HSet.out.mono ?_
      rintro e w3 ⟨rfl, x3, f3⟩
      have F3 := Lib.hid (F2.out.trans f3)
      have m3 := x3.c3
      have HRes := Lib.hid (rg_res (j := 0) x3 HI.out.bw HSl.out HK.out (by omega) I1.out)
      clear x3 f3 HSet m2 X2 F2
      go_wp2_with fail
      refine HRes.out.mono ?_
      rintro e w4 ⟨rfl, x4, f4⟩
      have X4 := Lib.hid x4
      have F4 := Lib.hid (F3.out.trans f4)
      clear x4 f4 HRes m3
      go_wp2_with fail
      go_ret2
      exact ⟨rfl, X4.out, F4.out⟩
    · have e : openO L f t S n a v c = ⟨-1, Sp.tke L n a, L, f, t, S⟩ := by unfold openO; rw [hm, if_pos rfl, if_neg hE]
      have e3 := tk_no hE
      rw [e]
      rw [e3] at HT
      have hne : (Sp.tke L n a != 0) = true := by simpa using hE
      generalize Sp.tke L n a = E at *
      generalize Sp.tkv L n a = V at *
      clear h e e3 hm hE hS hi
      go_enter Tryz.func48, Tryz.ntmps48
      go_wp2_with fail
      refine HT.out.mono ?_
      rintro e w2 ⟨rfl, s2, g2⟩
      have HF := Lib.hid (HH.out.spans s2 g2)
      clear s2 g2 HT c1
      go_wp2_with fail
      go_ret2
      exact ⟨rfl, HF.out⟩
end
end Go.Proofs.YtjnknnakllbaaaaGreat.Gr
