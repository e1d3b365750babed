/-
  The reference's book, all states in a list: contracts that the claimed proof uses.
-/
import Derived.Test.YtjnknnakllbaaaaGreatLeA
import Derived.Deep.AppendLies
import Derived.Laws.AppendOwnNone
import Derived.Deep.OwnRows
import Derived.Deep.DeepCutAuto
namespace Go.Proofs.YtjnknnakllbaaaaGreat.Le
set_option maxRecDepth 100000
open Go.RowKit Go.Maps

/-! ### The states, the oldest first -/
/-- The state that came as number i. -/
def ato (S : List Row) (i : Nat) : Row := S.getD (S.length - 1 - i) z8
/-- The first i of them, the youngest foremost. -/
def fst' (S : List Row) (i : Nat) : List Row := S.drop (S.length - i)
theorem ato_old (g : Row) {S : List Row} {i : Nat} (h : i < S.length) : ato (g :: S) i = ato S i := by
  unfold ato
  have e : (g :: S).length - 1 - i = (S.length - 1 - i) + 1 := by simp; omega
  rw [e, List.getD_cons_succ]
theorem ato_new (g : Row) (S : List Row) : ato (g :: S) S.length = g := by
  unfold ato
  have e : (g :: S).length - 1 - S.length = 0 := by simp
  rw [e]; rfl
theorem ato_last {S : List Row} (h : S ≠ []) : ato S (S.length - 1) = hd S := by
  cases S with
  | nil => exact absurd rfl h
  | cons g S =>
    have e : (g :: S).length - 1 = S.length := by simp
    rw [e, hd_cons]; exact ato_new g S
theorem ato_mem {S : List Row} {i : Nat} (h : i < S.length) : ato S i ∈ S := by
  unfold ato
  rw [List.getD_eq_getElem?_getD, List.getElem?_eq_getElem (by omega)]
  exact List.getElem_mem _
theorem fst_zero (S : List Row) : fst' S 0 = [] := by simp [fst']
theorem fst_all (S : List Row) : fst' S S.length = S := by simp [fst']
theorem fst_succ {S : List Row} {i : Nat} (h : i < S.length) : fst' S (i + 1) = ato S i :: fst' S i := by
  unfold fst' ato
  have e : S.length - i = S.length - (i + 1) + 1 := by omega
  have e2 : S.length - 1 - i = S.length - (i + 1) := by omega
  rw [e2, e, List.drop_eq_getElem_cons (by omega), List.getD_eq_getElem?_getD, List.getElem?_eq_getElem (by omega)]
  rfl

/-! ### Memory -/
theorem info_parts {t : TypeId} {z : Value} {s b : Nat} (h : (Tryz.prog.info? t).map (fun i => (i.zero, i.size, i.bytes)) = some (some z, s, b)) : ∃ i, Tryz.prog.info? t = some i ∧ i.zero = some z ∧ i.size = s ∧ i.bytes = b := by
  obtain ⟨i, hi, hp⟩ := Option.map_eq_some_iff.1 h
  simp only [Prod.mk.injEq] at hp
  exact ⟨i, hi, hp.1, hp.2.1, hp.2.2⟩
theorem int_parts : (Tryz.prog.info? 3).map (fun i => (i.zero, i.size, i.bytes)) = some (some (.int .i64 0), 1, 8) := by kernel_rfl
theorem slice_parts : (Tryz.prog.info? 58).map (fun i => (i.zero, i.size, i.bytes)) = some (some (.slice none 0 0), 1, 24) := by kernel_rfl
/-- A list of eight numbers. -/
def RowS (B : Nat) (w : World) (v : Value) (f : Row) : Prop :=
  ∃ r c vs, v = .slice (some ⟨r, 0, none⟩) 8 c ∧ B ≤ r ∧ Blk w r vs 3 ∧ ∀ j, j < 8 → vs[j]? = some (.int .i64 (f j))
/-- The reference's book. -/
def Rf (B : Nat) (w : World) (p : Nat) (C : Int) (S : List Row) : Prop :=
  ∃ h cap us, Blk w p [.int .i64 C, .slice (some ⟨h, 0, none⟩) S.length cap] 105 ∧ B ≤ p ∧ w.ownsRow B 58 1 (.slice (some ⟨h, 0, none⟩) S.length cap) S.length us ∧ ∀ i, i < S.length → ∃ v, us[i]? = some v ∧ RowS B w v (ato S i)
/-- What is neither a book of the reference's nor a list of lists lies as it lay; and so does all below B. -/
structure Ft (B : Nat) (w w' : World) : Prop where
  bel : Below B w w'
  keep : ∀ k vs t, Blk w k vs t → t ≠ 105 → t ≠ 58 → Blk w' k vs t
  maps : ∀ (k : Nat) (es : Array MapEntry) (c : Nat), w.heap[k]? = some (.map es c) → w'.heap[k]? = some (.map es c)
section
variable {B : Nat} {w w' w'' : World} {q b p : Nat} {C : Int} {S : List Row} {f : Row}
theorem Ft.refl (B : Nat) (w : World) : Ft B w w := ⟨Below.refl _ _, fun _ _ _ h _ _ => h, fun _ _ _ h => h⟩
theorem Ft.trans (h : Ft B w w') (k : Ft B w' w'') : Ft B w w'' := ⟨h.bel.trans k.bel, fun g vs t hb h1 h2 => k.keep g vs t (h.keep g vs t hb h1 h2) h1 h2, fun g es c hm => k.maps g es c (h.maps g es c hm)⟩
theorem Ft.of (h : Below w.heap.size w w') (hB : B ≤ w.heap.size) : Ft B w w' := ⟨h.mono hB, fun _ _ _ hb _ _ => hb.of (h.block _ hb.lt), fun k _ _ hm => (h.block k (Array.getElem?_eq_some_iff.1 hm).1).trans hm⟩
theorem Ft.map (h : Ft B w w') {b : Nat} (hm : Mp w b S) : Mp w' b S := by
  have hm' := hm
  obtain ⟨_, _, ⟨es, c, hb, _⟩, _⟩ := hm
  exact hm'.of ((h.maps b es c hb).trans hb.symm)
theorem Led.ft (h : Led w q b C S) (k : Ft B w w') : Led w' q b C S := ⟨k.keep _ _ _ h.blk (by decide) (by decide), k.map h.mp⟩
theorem RowS.of {v : Value} (h : RowS B w v f) (hk : ∀ k vs, Blk w k vs 3 → Blk w' k vs 3) : RowS B w' v f := by
  obtain ⟨r, c, vs, e, h2, hb, hv⟩ := h
  exact ⟨r, c, vs, e, h2, hk r vs hb, hv⟩
theorem Blk.ne {g k : Nat} {vs us : List Value} {t s : TypeId} (h : Blk w g vs t) (h' : Blk w k us s) (hne : t ≠ s) : g ≠ k := by
  rintro rfl
  unfold Blk at h h'
  rw [h] at h'
  injection h' with h'
  injection h' with _ h'
  exact hne h'
theorem own_lt {base g cap n : Nat} {e : TypeId} {size : Nat} {xs : List Value} (h : w.ownsRow base e size (.slice (some ⟨g, 0, none⟩) n cap) n xs) : ∃ vs, Blk w g vs e := by
  rcases h.2 with ⟨h', _⟩ | ⟨g', cap', cur, h', _, hb, _⟩
  · simp at h'
  · simp only [Value.slice.injEq, Option.some.injEq, Addr.mk.injEq, and_true, true_and] at h'
    obtain ⟨rfl, rfl⟩ := h'
    exact ⟨cur.toList, by unfold Blk; simpa using hb⟩
theorem Rf.below (h : Rf B w p C S) (hb : Below w.heap.size w w') : Rf B w' p C S := by
  obtain ⟨g, cap, us, h1, h2, h3, h4⟩ := h
  refine ⟨g, cap, us, h1.of (hb.block _ h1.lt), h2, h3.kept (grown_below (r := none) hb) (.inr (by simp [Value.ownBlock])), fun i hi => ?_⟩
  obtain ⟨v, hv, hr⟩ := h4 i hi
  exact ⟨v, hv, hr.of fun k vs hk => hk.of (hb.block _ hk.lt)⟩
/-- The program's book changes: the reference's does not. -/
theorem Rf.far (h : Rf B w p C S) {T : List Row} {D : Int} (hl : Led w q b D T) (hf : Fr q b w w') : Rf B w' p C S := by
  obtain ⟨g, cap, us, h1, h2, h3, h4⟩ := h
  have hm := hl.mp
  obtain ⟨vs, hg⟩ := own_lt h3
  refine ⟨g, cap, us, h1.of (hf.block _ h1.lt (h1.ne hl.blk (by decide)) (hm.ne h1)), h2, ?_, fun i hi => ?_⟩
  · have e := hf.block _ hg.lt (hg.ne hl.blk (by decide)) (hm.ne hg)
    refine ⟨h3.1, ?_⟩
    rcases h3.2 with h' | ⟨g', cap', cur, h', r1, r2, r3⟩
    · exact .inl h'
    · refine .inr ⟨g', cap', cur, h', r1, ?_, r3⟩
      simp only [Value.slice.injEq, Option.some.injEq, Addr.mk.injEq, and_true, true_and] at h'
      obtain ⟨rfl, _⟩ := h'
      exact e.trans r2
  · obtain ⟨v, hv, hr⟩ := h4 i hi
    exact ⟨v, hv, hr.of fun k vs hk => hk.of (hf.block _ hk.lt (hk.ne hl.blk (by decide)) (hm.ne hk))⟩
theorem Rf.drawn (h : Rf B w p C S) (hd : Drawn w w') : Rf B w' p C S := h.below hd.below
/-- What is read of it. -/
theorem Rf.cells (h : Rf B w p C S) : ∃ g cap, w.cell? ⟨p, 0, none⟩ = some (.int .i64 C) ∧ w.cell? ⟨p, 1, none⟩ = some (.slice (some ⟨g, 0, none⟩) S.length cap) ∧
    ∀ i, i < S.length → ∃ r c, w.cell? ⟨g, i, none⟩ = some (.slice (some ⟨r, 0, none⟩) 8 c) ∧ RowS B w (.slice (some ⟨r, 0, none⟩) 8 c) (ato S i) := by
  obtain ⟨g, cap, us, h1, h2, h3, h4⟩ := h
  refine ⟨g, cap, h1.cell, h1.cell, fun i hi => ?_⟩
  obtain ⟨v, hv, hr⟩ := h4 i hi
  have hr' := hr
  obtain ⟨r, c, vs, rfl, _, _, _⟩ := hr
  exact ⟨r, c, by rw [h3.cellAt i (by omega)]; exact hv, hr'⟩
theorem RowS.cell {r c : Nat} (h : RowS B w (.slice (some ⟨r, 0, none⟩) 8 c) f) {j : Nat} (hj : j < 8) : w.cell? ⟨r, j, none⟩ = some (.int .i64 (f j)) := by
  obtain ⟨r', c', vs, e, _, hb, hv⟩ := h
  simp only [Value.slice.injEq, Option.some.injEq, Addr.mk.injEq, and_true, true_and] at e
  obtain ⟨rfl, _⟩ := e
  rw [hb.cell]; exact hv j hj
theorem RowS.lt {r c : Nat} (h : RowS B w (.slice (some ⟨r, 0, none⟩) 8 c) f) : r < w.heap.size := by
  obtain ⟨r', c', vs, e, _, hb, hv⟩ := h
  simp only [Value.slice.injEq, Option.some.injEq, Addr.mk.injEq, and_true, true_and] at e
  obtain ⟨rfl, _⟩ := e
  exact hb.lt
theorem RowS.below {v : Value} (h : RowS B w v f) (hb : Below w.heap.size w w') : RowS B w' v f := h.of fun _ _ hk => hk.of (hb.block _ hk.lt)

/-! ### What is asked -/
theorem now_any (h : Rf B w p C S) (hne : S ≠ []) (hS : S.length ≤ 1000) :
    Calls Tryz.prog 16 #[.pointer (some ⟨p, 0, none⟩)] w fun e w' => ∃ r c, e = .returned (.slice (some ⟨r, 0, none⟩) 8 c) ∧ RowS B w (.slice (some ⟨r, 0, none⟩) 8 c) (hd S) ∧ Drawn w w' := by
  obtain ⟨g, cap, c0, c1, hc⟩ := h.cells
  have hpos : 0 < S.length := List.length_pos_iff.2 hne
  obtain ⟨r, c, cr, hr⟩ := hc (S.length - 1) (by omega)
  rw [ato_last hne] at hr
  have HR := Lib.hid hr
  obtain ⟨N, hN⟩ : ∃ N, S.length = N + 1 := ⟨S.length - 1, by omega⟩
  rw [hN] at c1 cr hS
  rw [Nat.add_sub_cancel] at cr
  have y1 : (0 : Int) ≤ (N : Int) := by omega
  have y2 : (N : Int) < ((N + 1 : Nat) : Int) := by omega
  have hw := i64_in (((N + 1 : Nat) : Int) - 1) (by omega) (by omega)
  have hw2 : ((N + 1 : Nat) : Int) - 1 = N := by omega
  rw [hw2] at hw
  clear hc hr h hN hpos hne
  go_enter Tryz.func16, Tryz.ntmps16
  go_wp2_with fail
  go_quiet (fail)
  go_wp2
  go_ret
  exact ⟨r, c, rfl, HR.out, ⟨_, rfl⟩⟩
theorem sum_any {r c : Nat} (h : RowS B w (.slice (some ⟨r, 0, none⟩) 8 c) f) (hg : Gd C f) (hC : C ≤ 1099511627776) :
    Calls Tryz.prog 111 #[.slice (some ⟨r, 0, none⟩) 8 c] w fun e w' => e = .returned (.int .i64 (tot f)) ∧ w = w' := by
  have HH := Lib.hid h
  have HG := Lib.hid hg
  clear h hg
  go_enter Tryz.func111, Tryz.ntmps111
  go_wp2_with fail
  go_loop [3, 4] (fun t i => ∃ k : Nat, k ≤ 8 ∧ t = .int .i64 (sumTo f k) ∧ i = .int .i64 k) (fun _ i => 8 - (intOf i).toNat)
  case atStart => exact ⟨0, by omega, rfl, rfl⟩
  case round =>
    obtain ⟨k, hk, rfl, rfl⟩ := hrel
    by_cases hlt : k < 8
    · have cK := HH.out.cell hlt
      have s0 := HG.out.sum (k := k) (by omega)
      have s1 := HG.out.sum (k := k + 1) (by omega)
      have e1 : sumTo f (k + 1) = sumTo f k + f k := rfl
      rw [e1] at s1
      have E1 := Lib.hid e1
      have hw := i64_in (sumTo f k + f k) (by omega) (by omega)
      have y1 : (0 : Int) ≤ (k : Int) := by omega
      have y2 : (k : Int) < 8 := by omega
      clear e1
      generalize sumTo f k = s at *
      generalize f k = x at *
      go_wp2
      go_round
      case rel => exact ⟨k + 1, by omega, by rw [E1.out], by go_num⟩
      case measure => simp [intOf]; omega
    · obtain rfl : k = 8 := by omega
      go_wp2
      go_ret
      exact ⟨rfl, rfl⟩
def wh (x : Int) : Int := if x = 0 ∨ x = 1 then x else 2
end
end Go.Proofs.YtjnknnakllbaaaaGreat.Le
