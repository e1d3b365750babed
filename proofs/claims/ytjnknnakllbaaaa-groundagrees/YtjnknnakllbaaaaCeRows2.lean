/-
  What Read, Write, Move and Clone do: contracts that the claimed proofs use.
-/
import Derived.Test.YtjnknnakllbaaaaCeLoad
namespace Go.Proofs.Ytjnknnakllbaaaa.Ce
set_option maxRecDepth 100000
open Go.RowKit

def sub (bs : List (BitVec 8)) (s n : Nat) : List (BitVec 8) := (bs.drop s).take n
theorem sub_length {bs : List (BitVec 8)} {s n : Nat} (h : s + n ≤ bs.length) : (sub bs s n).length = n := by simp [sub]; omega
theorem sub_getD {bs : List (BitVec 8)} {s n j : Nat} (hj : j < n) : (sub bs s n).getD j 0#8 = bs.getD (s + j) 0#8 := by
  rw [List.getD_eq_getElem?_getD, List.getD_eq_getElem?_getD, sub, List.getElem?_take, if_pos hj, List.getElem?_drop]
theorem sub_all (bs : List (BitVec 8)) : sub bs 0 bs.length = bs := by simp [sub]
theorem splice_all {α : Type} (L cs : List α) (h : cs.length = L.length) : splice L 0 cs = cs := by simp [splice, h]

/-- What is left behind a call that answers a row of bytes of its own. -/
def Gave (cs : List (BitVec 8)) (w : World) (e : Ending) (w' : World) : Prop :=
  e = .returned (.tuple #[.slice (some ⟨w.heap.size, 0, none⟩) cs.length cs.length, .int .i64 0]) ∧ Row w' w.heap.size cs ∧ Below w.heap.size w w'

theorem cell_alloc {w : World} {p : Addr} (o : Obj) (h : p.block < w.heap.size) : (w.alloc o).cell? p = w.cell? p := ((Below.refl _ w).alloc (Nat.le_refl _) o).cell h
/-- copy into a row that is known whole. -/
theorem copy_run (w : World) (ty : TypeId) (dp sp : Option Addr) (dLen dCap sLen sCap : Nat)
    (g off : Nat) (cur cs : List (BitVec 8)) (hg : Row w g cur) (hn : cs.length = Nat.min sLen dLen)
    (hpos : 0 < cs.length → dp = some ⟨g, off, none⟩ ∧ ∃ sb so, sp = some ⟨sb, so, none⟩ ∧ ∀ j, j < cs.length → w.cell? ⟨sb, so + j, none⟩ = some (.int .u8 (y (cs.getD j 0#8))))
    (hfit : off + cs.length ≤ cur.length) :
    ∃ w', (Builtin.copy_ #[79, 79] ty #[.slice dp dLen dCap, .slice sp sLen sCap]).run Try.prog w = .ok (goInt cs.length) w' ∧ Row w' g (splice cur off cs) ∧ w.grownBy w' (some g) := by
  by_cases h0 : cs.length = 0
  · obtain rfl : cs = [] := List.eq_nil_of_length_eq_zero h0
    exact ⟨w, run_copy_none (P := Try.prog) w 79 79 ty 5 dp sp dLen dCap sLen sCap Try.underlying79 byte_size (by simpa using hn.symm), by rw [splice_nil]; exact hg, grown_refl _ _⟩
  · obtain ⟨rfl, sb, so, rfl, hsrc⟩ := hpos (by omega)
    have hsrc' : ∀ j v, (row cs)[j]? = some v → w.cell? ((⟨sb, so, none⟩ : Addr).add j) = some v := by
      intro j v hv
      have hj : j < cs.length := by
        rcases Nat.lt_or_ge j cs.length with hj | hj
        · exact hj
        · rw [List.getElem?_eq_none (by rw [row_length]; exact hj)] at hv; cases hv
      rw [row_get hj] at hv
      cases hv
      have e : (⟨sb, so, none⟩ : Addr).add j = ⟨sb, so + j, none⟩ := by unfold Addr.add; split <;> simp_all
      rw [e]; exact hsrc j hj
    have hrun := run_copy_row (P := Try.prog) w 79 79 ty 5 g off dLen dCap ⟨sb, so, none⟩ sLen sCap (row cur).toArray 5 (row cs) Try.underlying79 byte_size hg (by rw [row_length]; exact hn) hsrc' (by simpa [row_length] using hfit) (row_one cs)
    rw [row_length] at hrun
    refine ⟨_, hrun, show _ = _ from ?_, ⟨rfl, rfl, rfl, by simp [World.setRow], fun k _ hk => setRow_other w g k _ (fun e => hk (by rw [e]))⟩⟩
    have := setRow_heap w g _ ((row cur).take off ++ row cs ++ (row cur).drop (off + cs.length)).toArray 5 _ hg
    rw [show (row cur).toArray.toList = row cur from rfl, this, ← row_splice, splice, row_length, List.append_assoc]

/-- A row of bytes that came in, or that was answered: nil, or cells one after another. -/
def BS (w : World) (v : Value) (bs : List (BitVec 8)) : Prop :=
  (v = .slice none 0 0 ∧ bs = []) ∨ ∃ b o c, v = .slice (some ⟨b, o, none⟩) bs.length c ∧ bs.length ≤ c ∧ ∀ j, j < bs.length → w.cell? ⟨b, o + j, none⟩ = some (.int .u8 (y (bs.getD j 0#8)))
def Cloned (bs : List (BitVec 8)) (w : World) (e : Ending) (w' : World) : Prop :=
  ∃ p, e = .returned (.pointer (some ⟨p, 0, none⟩)) ∧ w.heap.size ≤ p ∧ Mem w' p w.heap.size bs ∧ Below w.heap.size w w'
end Go.Proofs.Ytjnknnakllbaaaa.Ce
