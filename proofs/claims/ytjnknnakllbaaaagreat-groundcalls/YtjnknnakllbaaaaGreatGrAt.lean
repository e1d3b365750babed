/-
  Entries, spans' lengths and states of the book: contracts that the claimed proofs use.
-/
import Derived.Test.YtjnknnakllbaaaaGreatGrAsk
namespace Go.Proofs.YtjnknnakllbaaaaGreat.Gr
set_option maxRecDepth 100000
open Go.RowKit
section
variable {w w' : World} {q : Nat} {p : Pl} {N t : Int} {L : List Sp.Rn} {f : Ra.Ws} {S : List Le.Row} {bs : List (BitVec 8)}
theorem times_any (g : Le.Row) (hg : Le.okR g) (h : Gm w q p N L f t S bs) : Calls Tryz.prog 29 #[.pointer (some ⟨q, 0, none⟩), Le.rowV g] w fun e w' => e = .returned (.int .i64 (Le.cn S g)) ∧ Below w.heap.size w w' := by
  have hB := up_alloc (Below.refl _ w) (.cells #[.int .i64 (g 0), .int .i64 (g 1), .int .i64 (g 2), .int .i64 (g 3), .int .i64 (g 4), .int .i64 (g 5), .int .i64 (g 6), .int .i64 (g 7)] 24)
  have HH := Lib.hid (h.below hB)
  have HB := Lib.hid hB
  have HK : Hid (Blk (w.alloc (.cells #[.int .i64 (g 0), .int .i64 (g 1), .int .i64 (g 2), .int .i64 (g 3), .int .i64 (g 4), .int .i64 (g 5), .int .i64 (g 6), .int .i64 (g 7)] 24)) w.heap.size [.int .i64 (g 0), .int .i64 (g 1), .int .i64 (g 2), .int .i64 (g 3), .int .i64 (g 4), .int .i64 (g 5), .int .i64 (g 6), .int .i64 (g 7)] 24) := Blk.new w _ 24
  have HG := Lib.hid hg
  unfold Le.rowV Le.rowA
  clear h hB hg
  go_enter Tryz.func29, Tryz.ntmps29
  go_wp2_with fail
  generalize w.alloc (.cells #[.int .i64 (g 0), .int .i64 (g 1), .int .i64 (g 2), .int .i64 (g 3), .int .i64 (g 4), .int .i64 (g 5), .int .i64 (g 6), .int .i64 (g 7)] 24) = w0 at HH HB HK ⊢
  refine region_in (fun W => Below w0.heap.size w0 W) (by kernel_rfl) (by kernel_rfl) (Below.refl _ _).drew ?_
  intro ι ine fw hS hT
  have HS := Lib.hid hS
  have c0 := fun n => (HH.out.below (HS.out n)).gx.cells.2.2.1
  have s0 : ∀ n, (fw n).cell? ⟨w.heap.size, 0, none⟩ = some (.int .i64 (g 0)) := fun n => Sp.Blk.cell (Blk.below HK.out (HS.out n))
  have s1 : ∀ n, (fw n).cell? ⟨w.heap.size, 1, none⟩ = some (.int .i64 (g 1)) := fun n => Sp.Blk.cell (Blk.below HK.out (HS.out n))
  have s2 : ∀ n, (fw n).cell? ⟨w.heap.size, 2, none⟩ = some (.int .i64 (g 2)) := fun n => Sp.Blk.cell (Blk.below HK.out (HS.out n))
  have s3 : ∀ n, (fw n).cell? ⟨w.heap.size, 3, none⟩ = some (.int .i64 (g 3)) := fun n => Sp.Blk.cell (Blk.below HK.out (HS.out n))
  have s4 : ∀ n, (fw n).cell? ⟨w.heap.size, 4, none⟩ = some (.int .i64 (g 4)) := fun n => Sp.Blk.cell (Blk.below HK.out (HS.out n))
  have s5 : ∀ n, (fw n).cell? ⟨w.heap.size, 5, none⟩ = some (.int .i64 (g 5)) := fun n => Sp.Blk.cell (Blk.below HK.out (HS.out n))
  have s6 : ∀ n, (fw n).cell? ⟨w.heap.size, 6, none⟩ = some (.int .i64 (g 6)) := fun n => Sp.Blk.cell (Blk.below HK.out (HS.out n))
  have s7 : ∀ n, (fw n).cell? ⟨w.heap.size, 7, none⟩ = some (.int .i64 (g 7)) := fun n => Sp.Blk.cell (Blk.below HK.out (HS.out n))
  have HC := Lib.hid (fun n => (Le.seen_any (HH.out.below (HS.out n)).gx.led HG.out).mono fun e w' ⟨he, hb⟩ => show _ ∧ ∃ j, w' = fw j from ⟨he, hT w' (up_trans (HS.out n) hb)⟩)
  unfold Le.rowV Le.rowA at HC
  clear hS hT
  repeat (go_big_quiet_step ((go_at_call 62; exact HC.out _)))
  refine wpQuiet_nil ?_
  rintro _ ⟨n1, rfl⟩
  have B1 := Lib.hid (up_trans HB.out (HS.out n1))
  clear s0 s1 s2 s3 s4 s5 s6 s7 HC c0
  go_wp2
  go_ret
  exact ⟨rfl, B1.out⟩
/-- How many pages a span has that begins there. -/
theorem gvv_not (h : Gm w q p N L f t S bs) {x : Int} (hx : ∀ k, k < L.length → (Sp.el L k).p = x → (Sp.el L k).t = false) : Sp.gvv L x = 0 ∧ ¬ Sp.gi L x < L.length := by
  have : ¬ Sp.gi L x < L.length := fun hc => by
    obtain ⟨h1, h2⟩ := Sp.gi_yes hc
    rw [hx _ hc h1] at h2; cases h2
  exact ⟨by unfold Sp.gvv; rw [if_neg this], this⟩
theorem len_any (x : Int) (h : Gm w q p N L f t S bs) : Calls Tryz.prog 18 #[.pointer (some ⟨q, 0, none⟩), .int .i64 x] w fun e w' => e = .returned (.int .i64 (Sp.gvv L x)) ∧ Below w.heap.size w w' := by
  obtain ⟨c0, c1, c2, c3⟩ := h.gx.cells
  by_cases hin : 0 ≤ x ∧ x < N
  · obtain ⟨k, hk, h1, h2⟩ := Sp.chain_find h.inv.wf.chain hin.1 hin.2
    have HF := Lib.hid (Sp.find_yes h.gx.sp h.inv.wf h.inv.n1 hk h1 h2)
    by_cases hc : (Sp.el L k).t = true ∧ (Sp.el L k).p = x
    · have e : Sp.gvv L x = (Sp.el L k).n := by unfold Sp.gvv; rw [Sp.gi_is h.inv.wf hk hc.2 hc.1, if_pos hk]
      rw [e]
      rw [hc.1, hc.2] at HF
      have d1 : (x != x) = false := by simp
      generalize (Sp.el L k).n = m at HF ⊢
      clear h hk h1 h2 hc e hin
      go_enter Tryz.func18, Tryz.ntmps18
      go_wp2_with (go_at_call 54; refine HF.out.mono ?_; rintro e w1 ⟨rfl, b1⟩; have B1 := Lib.hid (up_alloc b1 (.cells #[.int .i64 x, .int .i64 m, .bool true] 107)); clear b1)
      go_ret
      exact ⟨rfl, B1.out⟩
    · have e : Sp.gvv L x = 0 := (gvv_not h (fun j hj hp => by
        cases ht : (Sp.el L j).t with
        | false => rfl
        | true =>
          have hbj := h.inv.at hj
          have := Sp.chain_one h.inv.wf.chain hj hk (x := x) (by omega) (by omega) h1 h2
          subst this
          exact absurd ⟨ht, hp⟩ hc)).1
      rw [e]
      cases ht : (Sp.el L k).t with
      | false =>
        rw [ht] at HF
        generalize (Sp.el L k).n = m at HF ⊢
        generalize (Sp.el L k).p = a at HF ⊢
        clear h hk h1 h2 hc e hin ht
        go_enter Tryz.func18, Tryz.ntmps18
        go_wp2_with (go_at_call 54; refine HF.out.mono ?_; rintro e w1 ⟨rfl, b1⟩; have B1 := Lib.hid (up_alloc b1 (.cells #[.int .i64 a, .int .i64 m, .bool false] 107)); clear b1)
        go_ret
        exact ⟨rfl, B1.out⟩
      | true =>
        have hne : (Sp.el L k).p ≠ x := fun hp => hc ⟨ht, hp⟩
        have d1 : ((Sp.el L k).p != x) = true := by simpa using hne
        rw [ht] at HF
        generalize (Sp.el L k).n = m at HF ⊢
        generalize (Sp.el L k).p = a at HF d1 ⊢
        clear h hk hc e hin ht h1 h2 hne
        go_enter Tryz.func18, Tryz.ntmps18
        go_wp2_with (go_at_call 54; refine HF.out.mono ?_; rintro e w1 ⟨rfl, b1⟩; have B1 := Lib.hid (up_alloc b1 (.cells #[.int .i64 a, .int .i64 m, .bool true] 107)); clear b1)
        go_ret
        exact ⟨rfl, B1.out⟩
  · have HF := Lib.hid (Sp.find_no (x := x) h.gx.sp h.inv.wf h.inv.n1 (by omega))
    have e : Sp.gvv L x = 0 := (gvv_not h (fun j hj hp => by have := h.inv.at hj; omega)).1
    rw [e]
    clear h e hin
    go_enter Tryz.func18, Tryz.ntmps18
    go_wp2_with (go_at_call 54; refine HF.out.mono ?_; rintro e w1 ⟨rfl, b1⟩; have B1 := Lib.hid (up_alloc b1 (.cells #[.int .i64 0, .int .i64 0, .bool false] 107)); clear b1)
    go_ret
    exact ⟨rfl, B1.out⟩
/-- An address's entry. -/
theorem at_any (a : Int) (ha : Ra.I64 a) (h : Gm w q p N L f t S bs) : Calls Tryz.prog 14 #[.pointer (some ⟨q, 0, none⟩), .int .i64 a] w fun e w' =>
    e = .returned (.tuple #[Ra.entV (Ra.wAt N f (a / 256)), .bool (Ra.wAt N f (a / 256) != 0)]) ∧ Below w.heap.size w w' := by
  have B0 := Lib.hid (up_alloc (Below.refl _ w) (.cells #[.int .i64 0, .int .i64 0, .int .i64 0, .int .i64 0] 52))
  have K0 : Hid (Ra.Blk (w.alloc (.cells #[.int .i64 0, .int .i64 0, .int .i64 0, .int .i64 0] 52)) w.heap.size [.int .i64 0, .int .i64 0, .int .i64 0, .int .i64 0] 52) := heap_alloc_last w _
  have h0 := h.below B0.out
  obtain ⟨c0, c1, c2, c3⟩ := h0.gx.cells
  have HG := Lib.hid (Ra.get_any (a / 256) h0.gx.mp.lay h0.gx.mp.st (by have := ha; unfold Ra.I64 at *; omega))
  generalize Ra.wAt N f (a / 256) = X at HG ⊢
  unfold Ra.entV at HG ⊢
  clear h h0 ha
  go_enter Tryz.func14, Tryz.ntmps14
  go_wp2_with fail
  refine HG.out.mono ?_
  rintro e w1 ⟨rfl, b1⟩
  have K1 := Lib.hid (K0.out.below b1 K0.out.lt)
  have B1 := Lib.hid (up_trans B0.out b1)
  clear b1 HG c0 c1 c2 c3
  have d0 : w1.cell? ⟨w.heap.size, 0, none⟩ = some (.int .i64 0) := K1.out.cell
  have d1 : w1.cell? ⟨w.heap.size, 1, none⟩ = some (.int .i64 0) := K1.out.cell
  have d2 : w1.cell? ⟨w.heap.size, 2, none⟩ = some (.int .i64 0) := K1.out.cell
  have d3 : w1.cell? ⟨w.heap.size, 3, none⟩ = some (.int .i64 0) := K1.out.cell
  have f0 := K1.out.frozen 0
  have f1 := K1.out.frozen 1
  have f2 := K1.out.frozen 2
  have f3 := K1.out.frozen 3
  go_wp2_with fail
  have K9 := Lib.hid (Ra.four_set K1.out (.int .i64 (Ra.spanOf X)) (.int .i64 (Ra.verOf X)) (.int .i64 (Ra.clsOf X)) (.int .i64 (Ra.staOf X)))
  have B9 := Lib.hid (Ra.four_below B1.out (Nat.le_refl _) (.int .i64 (Ra.spanOf X)) (.int .i64 (Ra.verOf X)) (.int .i64 (Ra.clsOf X)) (.int .i64 (Ra.staOf X)))
  generalize (((w1.setCell ⟨w.heap.size, 0, none⟩ (.int .i64 (Ra.spanOf X))).setCell ⟨w.heap.size, 1, none⟩ (.int .i64 (Ra.verOf X))).setCell ⟨w.heap.size, 2, none⟩ (.int .i64 (Ra.clsOf X))).setCell ⟨w.heap.size, 3, none⟩ (.int .i64 (Ra.staOf X)) = W9 at K9 B9 ⊢
  have g0 : W9.cell? ⟨w.heap.size, 0, none⟩ = some (.int .i64 (Ra.spanOf X)) := K9.out.cell
  have g1 : W9.cell? ⟨w.heap.size, 1, none⟩ = some (.int .i64 (Ra.verOf X)) := K9.out.cell
  have g2 : W9.cell? ⟨w.heap.size, 2, none⟩ = some (.int .i64 (Ra.clsOf X)) := K9.out.cell
  have g3 : W9.cell? ⟨w.heap.size, 3, none⟩ = some (.int .i64 (Ra.staOf X)) := K9.out.cell
  exact bodyPost_ret (v := .tuple #[.agg #[.int .i64 (Ra.spanOf X), .int .i64 (Ra.verOf X), .int .i64 (Ra.clsOf X), .int .i64 (Ra.staOf X)], .bool (X != 0)]) (by simp [results, Tryz.results14, go_sem, g0, g1, g2, g3]) rfl ⟨rfl, B9.out⟩
end
end Go.Proofs.YtjnknnakllbaaaaGreat.Gr
