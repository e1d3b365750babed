/-
  The program's book beside the reference's: contracts that the claimed proof uses.
-/
import Derived.Test.YtjbndkbjoefeoaaRefDo
namespace Go.Proofs.Ytjbndkbjoefeoaa
open Go.RowKit Go.Maps

section
variable {B : Nat} {w w' w'' : World} {q b p : Nat} {C : Int} {S T : List Row} {f : Row}
theorem nxt_11 (g : Row) (S : List Row) : nxt 11 g S = S := rfl
theorem rdo_any (x k t n : Int) (h : Rf B w p C S) (hw : Wf C S) (hS : S.length ≤ 1000) (hB : B ≤ w.heap.size) :
    Calls Try.prog 10 #[.pointer (some ⟨p, 0, none⟩), .int .i64 (wh x), .int .i64 k, .int .i64 t, .int .i64 n] w fun e w' => e = .returned (.int .i64 (opE C (hd S) x k t n)) ∧ Rf B w' p C (opS C S x k t n) ∧ Ft B w w' := by
  by_cases hg : kindB k = true ∧ 0 ≤ n
  · obtain ⟨hk, hn⟩ := hg
    by_cases h0 : x = 0
    · subst h0
      exact rdo_res k t n h hw hS hB hk hn
    · by_cases h1 : x = 1
      · subst h1
        exact rdo_rel k t n h hw hS hB hk hn
      · have e0 : wh x = 2 := by unfold wh; rw [if_neg (by omega)]
        have e1 : opE C (hd S) x k t n = shE (hd S) k t n := by unfold opE; rw [if_neg h0, if_neg h1]
        have e2 : opS C S x k t n = nxt (shE (hd S) k t n) (shF (hd S) k t n) S := by unfold opS opE opF; rw [if_neg h0, if_neg h1, if_neg h0, if_neg h1]
        rw [e0, e1, e2]
        cases ht : kindB t with
        | true => exact rdo_sh k t n h hw hS hB hk hn ht
        | false =>
          have e3 : shE (hd S) k t n = 11 := by simp [shE, ht]
          rw [e3, nxt_11]
          have := kindB_not.1 ht
          exact (rdo_bad p 2 k t n w (by omega)).mono fun e w' ⟨he, hw⟩ => by subst hw; exact ⟨he, h, Ft.refl _ _⟩
  · have hbad : (k < 0 ∨ 7 < k) ∨ n < 0 := by
      by_cases hk : kindB k = true
      · exact .inr (Int.not_le.1 fun hn => hg ⟨hk, hn⟩)
      · left
        have := kindB_not.1 (by simpa using hk)
        omega
    have e1 : opE C (hd S) x k t n = 11 := by
      unfold opE resE shE relE
      rw [if_neg hg, if_neg hg]
      simp
    have e2 : opS C S x k t n = S := by unfold opS; rw [e1, nxt_11]
    rw [e1, e2]
    exact (rdo_bad p (wh x) k t n w (by omega)).mono fun e w' ⟨he, hw⟩ => by subst hw; exact ⟨he, h, Ft.refl _ _⟩

/-- Both books, and a row that is asked for. -/
structure Ev (w0 : World) (q b p ga : Nat) (C : Int) (S T : List Row) (ask : Row) (W : World) : Prop where
  one : Led W q b C S
  two : Rf w0.heap.size W p C T
  row : Blk W ga (rowL ask) 24
  bel : Below w0.heap.size w0 W
variable {w0 W W' : World} {ga : Nat} {S' T' : List Row} {ask : Row}
theorem Ev.below (h : Ev w0 q b p ga C S T ask W) (hb : Below W.heap.size W W') : Ev w0 q b p ga C S T ask W' :=
  ⟨h.one.below hb, h.two.below hb, h.row.of (hb.block _ h.row.lt), up_trans h.bel hb⟩
/-- What the program's calls leave alone. -/
theorem Ev.blk (h : Ev w0 q b p ga C S T ask W) (hf : Fr q b W W') {g : Nat} {vs : List Value} {t : TypeId} (hb : Blk W g vs t) (ht : t ≠ 57) : Blk W' g vs t :=
  hb.of (hf.block _ hb.lt (hb.ne h.one.blk ht) (h.one.mp.ne hb))
theorem Ev.turned (h : Ev w0 q b p ga C S T ask W) (hl : Led W' q b C S') (hf : Fr q b W W') (h1 : w0.heap.size ≤ q) (h2 : w0.heap.size ≤ b) : Ev w0 q b p ga C S' T ask W' :=
  ⟨hl, h.two.far h.one hf, h.blk hf h.row (by decide), h.bel.trans (hf.below h1 h2 h.bel.size)⟩
theorem Ev.told (h : Ev w0 q b p ga C S T ask W) (hr : Rf w0.heap.size W' p C T') (hf : Ft w0.heap.size W W') : Ev w0 q b p ga C S T' ask W' :=
  ⟨h.one.ft hf, hr, hf.keep _ _ _ h.row (by decide) (by decide), h.bel.trans hf.bel⟩
/-- The four cells of a call. -/
def cL (x k t n : Int) : List Value := [.int .i64 x, .int .i64 k, .int .i64 t, .int .i64 n]
theorem cL_4 {gc : Nat} {x k t n : Int} (h : Blk W gc (cL x k t n) 34) : W.cell? ⟨gc, 0, none⟩ = some (.int .i64 x) ∧ W.cell? ⟨gc, 1, none⟩ = some (.int .i64 k) ∧ W.cell? ⟨gc, 2, none⟩ = some (.int .i64 t) ∧ W.cell? ⟨gc, 3, none⟩ = some (.int .i64 n) := ⟨h.cell, h.cell, h.cell, h.cell⟩
end
end Go.Proofs.Ytjbndkbjoefeoaa
