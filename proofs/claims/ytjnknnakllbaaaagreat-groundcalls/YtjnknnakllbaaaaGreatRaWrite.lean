/-
  How words are written, and leaves let go: contracts that the claimed proofs use.
-/
import Derived.Test.YtjnknnakllbaaaaGreatRaA
import Derived.Great.BuildSlice
import Derived.Deep.DeepCutAuto
namespace Go.Proofs.YtjnknnakllbaaaaGreat.Ra
set_option maxRecDepth 100000
open Go.RowKit

theorem zero146 (w : World) : (zeroValue 146).run Tryz.prog w = .ok (.agg (lw (fun _ => 0) 0).toArray) w :=
  (zero_of_info (P := Tryz.prog) (t := 146) (v := .agg (lw (fun _ => 0) 0).toArray) (n := 64) (by kernel_rfl)).1 w
/-- Pages from p on, k of them, lie in this leaf. -/
def tch (p k i : Nat) : Prop := p / 64 ≤ i ∧ i ≤ (p + k - 1) / 64
/-- What writing does to the leaves. -/
structure Grew (p k : Nat) (g g' : Gs) : Prop where
  old : ∀ i, i < 64 → (g i).isSome = true → g' i = g i
  far : ∀ i, i < 64 → (∀ m, p ≤ m → m < p + k → m / 64 ≠ i) → g' i = g i
  near : ∀ m, p ≤ m → m < p + k → (g' (m / 64)).isSome = true
theorem Grew.refl (p : Nat) (g : Gs) : Grew p 0 g g := ⟨fun _ _ _ => rfl, fun _ _ _ => rfl, fun m h1 h2 => by omega⟩
theorem Grew.same {p k m : Nat} {g g' : Gs} (h : Grew p k g g') (hm : m = p + k) (hg : (g' (m / 64)).isSome = true) : Grew p (k + 1) g g' :=
  ⟨h.old, fun i hi hf => h.far i hi (fun m h1 h2 => hf m h1 (by omega)), fun m' h1 h2 => by
    by_cases e : m' = p + k
    · rw [e, ← hm]; exact hg
    · exact h.near m' h1 (by omega)⟩
theorem Grew.on {p k m b : Nat} {g g' : Gs} (h : Grew p k g g') (hm : m = p + k) (hg : g' (m / 64) = none) : Grew p (k + 1) g (upg g' (m / 64) (some b)) :=
  ⟨fun i hi hs => by
    unfold upg
    by_cases e : i = m / 64
    · rw [if_pos e]
      have := h.old i hi hs
      rw [e, hg] at this
      rw [e, ← this] at hs; cases hs
    · rw [if_neg e]; exact h.old i hi hs,
   fun i hi hf => by
    unfold upg
    rw [if_neg (fun e => hf m (by omega) (by omega) e.symm)]
    exact h.far i hi (fun m h1 h2 => hf m h1 (by omega)),
   fun m' h1 h2 => by
    unfold upg
    by_cases e : m' / 64 = m / 64
    · rw [if_pos e]; rfl
    · rw [if_neg e]; exact h.near m' h1 (by by_cases e2 : m' = m
                                            · rw [e2] at e; exact absurd rfl e
                                            · omega)⟩
section
variable {w : World} {q : Nat} {n t : Int} {g : Gs} {f : Ws}
theorem fr_grow (q : Nat) (g : Gs) (w : World) (i : Nat) (v : Value) (o : Obj) : Fr q g w ((w.setCell ⟨q, i, none⟩ v).alloc o) :=
  (Fr.ofq (g := g) (grown_set w q i v)).trans (Fr.of (q := q) (g := g) (up_alloc (Below.refl _ _) o)) (Newer.refl _ _)
theorem write_any (p k : Nat) (x : Int) (h : Lay w q n t g f) (hpk : p + k ≤ 4096) :
    Calls Tryz.prog 99 #[.pointer (some ⟨q, 0, none⟩), .int .i64 p, .int .i64 k, .int .u64 x] w fun e w' => ∃ g', e = .returned (.tuple #[]) ∧ Lay w' q n t g' (fill f p k x) ∧ Grew p k g g' ∧ Newer w.heap.size g g' ∧ Fr q g w w' := by
  have HL0 := Lib.hid h
  clear h
  go_enter Tryz.func99, Tryz.ntmps99
  go_wp2_with fail
  go_loopw [8] (fun a wr => ∃ (j : Nat) (g' : Gs), j ≤ k ∧ a = .int .i64 ((p + j : Nat) : Int) ∧ Lay wr q n t g' (fill f p j x) ∧ Grew p j g g' ∧ Newer w.heap.size g g' ∧ Fr q g w wr) (fun a _ => p + k - (intOf a).toNat)
  case atStart => exact ⟨0, g, by omega, rfl, by rw [fill_zero]; exact HL0.out, Grew.refl p g, Newer.refl _ _, Fr.refl _ _ _⟩
  case round =>
    obtain ⟨j, g', hj, rfl, hl, hgr, hnw, hfr⟩ := hrel
    have HL := Lib.hid hl
    have HG := Lib.hid hgr
    have HN := Lib.hid hnw
    have HF := Lib.hid hfr
    clear hl hgr hnw hfr HL0
    obtain ⟨m, hm⟩ : ∃ m, p + j = m := ⟨_, rfl⟩
    have HM := Lib.hid hm
    rw [hm]
    by_cases hlt : j < k
    · have d : decide ((m : Int) < (p : Int) + (k : Int)) = true := by simp; omega
      have m1 : m < 4096 := by omega
      obtain ⟨i, hi⟩ : ∃ i, m / 64 = i := ⟨_, rfl⟩
      obtain ⟨c, hc⟩ : ∃ c, m % 64 = c := ⟨_, rfl⟩
      have hi64 : i < 64 := by omega
      have hc64 : c < 64 := by omega
      have e1 : (m : Int) / 64 = (i : Int) := by omega
      have e2 : (m : Int) % 64 = (c : Int) := by omega
      have EK : Hid (64 * i + c = p + j) := by show 64 * i + c = p + j; omega
      have HI := Lib.hid hi
      have cp := HL.out.cp hi64
      have fz := HL.out.blk.frozen (2 + i)
      have hq := HL.out.blk.lt
      cases hgi : g' i with
      | none =>
        rw [hgi, ptr_none] at cp
        have HGR := Lib.hid (HL.out.grow hi64 hgi)
        have HNW : Hid (Newer w.heap.size g (upg g' i (some wr.heap.size))) := HN.out.trans (newer_grow w.heap.size wr.heap.size i g' HF.out.size) (Nat.le_refl _)
        have HGW : Hid (Grew p (j + 1) g (upg g' i (some wr.heap.size))) := by
          have := HG.out.on (m := m) (b := wr.heap.size) HM.out.symm (by rw [HI.out]; exact hgi)
          rw [HI.out] at this; exact this
        have HFW : Hid (Fr q g w ((wr.setCell ⟨q, 2 + i, none⟩ (.pointer (some ⟨wr.heap.size, 0, none⟩))).alloc (.cells (lw (fun _ => 0) 0).toArray 146))) := HF.out.trans (fr_grow q g' wr _ _ _) HN.out
        have hb1 : (upg g' i (some wr.heap.size)) i = some wr.heap.size := by unfold upg; rw [if_pos rfl]
        have HB1 := Lib.hid hb1
        clear hgi hm hi hc HI HG HN HF HL hb1
        go_upto_region 5 with (refine wpList_alloc_big rfl 146 rfl (lw (fun _ => 0) 0).toArray zero146 ?_)
        generalize upg g' i (some wr.heap.size) = g2 at HGR HNW HGW HB1
        generalize wr.heap.size = b at *
        generalize (wr.setCell ⟨q, 2 + i, none⟩ (.pointer (some ⟨b, 0, none⟩))).alloc (.cells (lw (fun _ => 0) 0).toArray 146) = W1 at HGR HFW ⊢
        have cp1 := HGR.out.cp hi64
        rw [HB1.out, ptr_some] at cp1
        have cw1 := HGR.out.cw hi64 hc64 HB1.out
        have fz1 := (HGR.out.leaf i b hi64 HB1.out).frozen c
        clear cp fz hq
        generalize fill f p j x (64 * i + c) = y at cw1
        go_wp2
        go_roundw
        case rel =>
          refine ⟨j + 1, g2, by omega, by rw [← HM.out]; go_num, ?_, HGW.out, HNW.out, HFW.out.trans (Fr.ofg (g := g2) (grown_set _ _ _ _) hi64 HB1.out) HNW.out⟩
          have := HGR.out.put hi64 hc64 HB1.out x
          rwa [EK.out, ← fill_succ] at this
        case measure => have := HM.out; simp [intOf]; omega
      | some b =>
        rw [hgi, ptr_some] at cp
        have cw1 := HL.out.cw hi64 hc64 hgi
        have fz1 := (HL.out.leaf i b hi64 hgi).frozen c
        have HGW : Hid (Grew p (j + 1) g g') := HG.out.same (m := m) HM.out.symm (by rw [HI.out, hgi]; rfl)
        have HB1 := Lib.hid hgi
        clear hgi hm hi hc HI
        generalize fill f p j x (64 * i + c) = y at cw1
        go_wp2
        go_roundw
        case rel =>
          refine ⟨j + 1, g', by omega, by rw [← HM.out]; go_num, ?_, HGW.out, HN.out, HF.out.trans (Fr.ofg (g := g') (grown_set _ _ _ _) hi64 HB1.out) HN.out⟩
          have := HL.out.put hi64 hc64 HB1.out x
          rwa [EK.out, ← fill_succ] at this
        case measure => have := HM.out; simp [intOf]; omega
    · obtain rfl : j = k := by omega
      have d : decide ((m : Int) < (p : Int) + (j : Int)) = false := by simp; omega
      clear hm
      go_wp2
      exact bodyPost_end (results_none rfl _ _ _) rfl ⟨g', rfl, HL.out, HG.out, HN.out, HF.out⟩
end
end Go.Proofs.YtjnknnakllbaaaaGreat.Ra
