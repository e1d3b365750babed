/-
  What Take and Some do: contracts that the claimed proofs use.
-/
import Derived.Test.YtiemgeflkmbfoaaDoorOsNew
namespace Go.Proofs.YtiemgeflkmbfoaaDoor.Os
set_option maxRecDepth 100000
open Go.RowKit
open Ta (sz szs classB classB_iff classB_not sizeOf' slotsOf)
open Bi (sets bt on first setL setB tst hasB u Blk Drawn grown_refl grown_trans grown_below up_alloc up_drew up_trans i64_in ret_i ret_b)

section
variable {w w' : World} {s q g : Nat} {b c : Int} {l : List Bool}
/-- A slab has become another one: its row's words, or the row, are others. -/
def Bec (s g : Nat) (b c : Int) (l : List Bool) (w w' : World) : Prop := ∃ q' g', Sl w' s q' g' b c l ∧ Fr s g w w' ∧ (g' = g ∨ w.heap.size ≤ g')
theorem Bec.same (h : Sl w s q g b c l) (hb : Below w.heap.size w w') : Bec s g b c l w w' := ⟨q, g, h.below hb, Fr.of hb, .inl rfl⟩
theorem Bec.on {w1 : World} {l' : List Bool} (hb : Below w.heap.size w w1) (h : Bec s g b c l' w1 w') : Bec s g b c l' w w' := by
  obtain ⟨q', g', h1, h2, h3⟩ := h
  exact ⟨q', g', h1, (Fr.of hb).trans h2 (.inl rfl), h3.imp_right (fun e => Nat.le_trans hb.size e)⟩
/-- A slab whose row's words have changed. -/
theorem Sl.turned {l' : List Bool} (h : Sl w s q g b c l) (hm : ∃ ws, Bi.Bits w' q g l' ws) (hg : w.grownBy w' (some g)) (hl : l'.length = l.length) : Sl w' s q g b c l' := by
  have hk := h.kinds
  exact ⟨h.blk.far hg (kne hk.1 hk.2.2 (by decide)), hm, h.hb, h.hc, hl.trans h.len, h.pos⟩
theorem first_quiet (h : Sl w s q g b c l) (hT : Tb w) : Calls Tryd.prog 49 #[.pointer (some ⟨q, 0, none⟩), .int .i64 0, .bool false] w fun e w' => e = .returned (.int .i64 (tkI l)) ∧ w = w' := by
  obtain ⟨ws, hm⟩ := h.bits
  exact Bi.first_any q g 0 l ws false w hm hT.bits
set_option maxHeartbeats 1000000 in
theorem take_any (h : Sl w s q g b c l) (hT : Tb w) : Calls Tryd.prog 24 #[.pointer (some ⟨s, 0, none⟩)] w fun e w' => e = .returned (.tuple #[.int .i64 (tkV b (sizeOf' c) l), .int .i64 (tkE l)]) ∧ Bec s g b c (tkL l) w w' := by
  have c2 := h.c2
  have HF := Lib.hid (first_quiet h hT)
  have HA := Lib.hid (address_any (tkI l) h hT)
  have HH := Lib.hid h
  by_cases hk : tkI l < 0
  · obtain ⟨e1, e2, e3, _⟩ := tk_no hk
    have hn : hasB l.length (tkI l) = false := Bi.hasB_not.2 (by omega)
    have hv : adV b (sizeOf' c) l.length (tkI l) = -1 := by unfold adV; rw [hn]; rfl
    rw [hn, hv] at HA
    rw [e1, e2, e3 b]
    clear h hT hk e1 e2 e3 hn hv
    generalize tkI l = k at *
    go_enter Tryd.func24, Tryd.ntmps24
    go_wp2_with (first
      | (go_at_call 49; refine HF.out.mono ?_; rintro e w' ⟨rfl, rfl⟩)
      | (go_at_call 20; refine HA.out.mono ?_; rintro e w1 ⟨rfl, d1⟩; have D1 := Lib.hid d1.below; clear d1))
    go_ret2
    exact ⟨rfl, Bec.same HH.out D1.out⟩
  · obtain ⟨k, e1, e2, e3, _, e4, e5, e6, _⟩ := tk_yes hk
    rw [e1] at HA HF
    have hn : hasB l.length (k : Int) = true := Bi.hasB_iff.2 (by omega)
    have hv : adV b (sizeOf' c) l.length (k : Int) = b + k * sizeOf' c := by unfold adV; rw [hn]; rfl
    rw [hn, hv] at HA
    rw [e4, e5, e6 b]
    have HSet : Hid (∀ V : World, Below w.heap.size w V → Calls Tryd.prog 37 #[.pointer (some ⟨q, 0, none⟩), .int .i64 (k : Int)] V fun e w' => e = .returned (.bool true) ∧ Bec s g b c (l.set k true) w w') := by
      intro V hV
      obtain ⟨ws, hm⟩ := (HH.out.below hV).bits
      have := Bi.set_any q g l ws (k : Int) V hm
      have e7 : setB l (k : Int) true = true := by unfold setB; rw [hn, Int.toNat_natCast]; unfold bt at e3; rw [e3]; rfl
      rw [setL_nat e2, e7] at this
      refine this.mono ?_
      rintro e w2 ⟨rfl, m2, g2⟩
      exact ⟨rfl, Bec.on hV ⟨q, g, (HH.out.below hV).turned m2 g2 (by simp), Fr.grown g2, .inl rfl⟩⟩
    have hlt := HH.out.lt.1
    generalize b + (k : Int) * sizeOf' c = v at *
    clear h hT hk e1 e2 e3 e4 e5 e6 hn hv
    go_enter Tryd.func24, Tryd.ntmps24
    go_wp2_with (first
      | (go_at_call 49; refine HF.out.mono ?_; rintro e w' ⟨rfl, rfl⟩)
      | (go_at_call 20; refine HA.out.mono ?_; rintro e w1 ⟨rfl, d1⟩; have D1 := Lib.hid d1.below; have r1 := (D1.out.cell (p := ⟨s, 2, none⟩) hlt).trans c2; have HS1 := Lib.hid (HSet.out _ D1.out); clear d1 c2)
      | (go_at_call 37; refine HS1.out.mono ?_; rintro e w2 ⟨rfl, h2⟩; have H2 := Lib.hid h2; clear h2))
    go_ret2
    exact ⟨rfl, H2.out⟩
end
end Go.Proofs.YtiemgeflkmbfoaaDoor.Os
