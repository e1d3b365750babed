/-
  What Read, Write, Move and Clone do: contracts that the claimed proofs use.
-/
import Derived.Test.YtaelfgdiboekpaaDoorCeA
namespace Go.Proofs.YtaelfgdiboekpaaDoor.Ce
set_option maxRecDepth 100000
open Go.RowKit

def sub (bs : List (BitVec 8)) (s n : Nat) : List (BitVec 8) := (bs.drop s).take n
theorem sub_length {bs : List (BitVec 8)} {s n : Nat} (h : s + n ≤ bs.length) : (sub bs s n).length = n := by simp [sub]; omega
theorem sub_getD {bs : List (BitVec 8)} {s n j : Nat} (hj : j < n) : (sub bs s n).getD j 0#8 = bs.getD (s + j) 0#8 := by
  rw [List.getD_eq_getElem?_getD, List.getD_eq_getElem?_getD, sub, List.getElem?_take, if_pos hj, List.getElem?_drop]
theorem sub_all (bs : List (BitVec 8)) : sub bs 0 bs.length = bs := by simp [sub]
theorem splice_all {α : Type} (L cs : List α) (h : cs.length = L.length) : splice L 0 cs = cs := by simp [splice, h]

/-- What is left behind a call that answers a row of bytes of its own. -/
def Gave (cs : List (BitVec 8)) (w : World) (e : Ending) (w' : World) : Prop :=
  e = .returned (.tuple #[.slice (some ⟨w.heap.size, 0, none⟩) cs.length cs.length, .int .i64 0]) ∧ Row w' w.heap.size cs ∧ Below w.heap.size w w'

theorem cell_alloc {w : World} {p : Addr} (o : Obj) (h : p.block < w.heap.size) : (w.alloc o).cell? p = w.cell? p := ((Below.refl _ w).alloc (Nat.le_refl _) o).cell h
/-- copy into a row that is known whole. -/
theorem copy_run (w : World) (ty : TypeId) (dp sp : Option Addr) (dLen dCap sLen sCap : Nat)
    (g off : Nat) (cur cs : List (BitVec 8)) (hg : Row w g cur) (hn : cs.length = Nat.min sLen dLen)
    (hpos : 0 < cs.length → dp = some ⟨g, off, none⟩ ∧ ∃ sb so, sp = some ⟨sb, so, none⟩ ∧ ∀ j, j < cs.length → w.cell? ⟨sb, so + j, none⟩ = some (.int .u8 (y (cs.getD j 0#8))))
    (hfit : off + cs.length ≤ cur.length) :
    ∃ w', (Builtin.copy_ #[45, 45] ty #[.slice dp dLen dCap, .slice sp sLen sCap]).run Tryd.prog w = .ok (goInt cs.length) w' ∧ Row w' g (splice cur off cs) ∧ w.grownBy w' (some g) := by
  by_cases h0 : cs.length = 0
  · obtain rfl : cs = [] := List.eq_nil_of_length_eq_zero h0
    exact ⟨w, run_copy_none (P := Tryd.prog) w 45 45 ty 5 dp sp dLen dCap sLen sCap Tryd.underlying45 byte_size (by simpa using hn.symm), by rw [splice_nil]; exact hg, grown_refl _ _⟩
  · obtain ⟨rfl, sb, so, rfl, hsrc⟩ := hpos (by omega)
    have hsrc' : ∀ j v, (row cs)[j]? = some v → w.cell? ((⟨sb, so, none⟩ : Addr).add j) = some v := by
      intro j v hv
      have hj : j < cs.length := by
        rcases Nat.lt_or_ge j cs.length with hj | hj
        · exact hj
        · rw [List.getElem?_eq_none (by rw [row_length]; exact hj)] at hv; cases hv
      rw [row_get hj] at hv
      cases hv
      have e : (⟨sb, so, none⟩ : Addr).add j = ⟨sb, so + j, none⟩ := by unfold Addr.add; split <;> simp_all
      rw [e]; exact hsrc j hj
    have hrun := run_copy_row (P := Tryd.prog) w 45 45 ty 5 g off dLen dCap ⟨sb, so, none⟩ sLen sCap (row cur).toArray 5 (row cs) Tryd.underlying45 byte_size hg (by rw [row_length]; exact hn) hsrc' (by simpa [row_length] using hfit) (row_one cs)
    rw [row_length] at hrun
    refine ⟨_, hrun, show _ = _ from ?_, ⟨rfl, rfl, rfl, by simp [World.setRow], fun k _ hk => setRow_other w g k _ (fun e => hk (by rw [e]))⟩⟩
    have := setRow_heap w g _ ((row cur).take off ++ row cs ++ (row cur).drop (off + cs.length)).toArray 5 _ hg
    rw [show (row cur).toArray.toList = row cur from rfl, this, ← row_splice, splice, row_length, List.append_assoc]

theorem read_no (q g L : Nat) (s n : Int) (w : World) (hc : w.cell? ⟨q, 0, none⟩ = some (.slice (some ⟨g, 0, none⟩) L L)) (hL : L ≤ 1048576) (hs : s ≤ 9223372036854775807) (hno : hasB L s n = false) :
    Calls Tryd.prog 18 #[.pointer (some ⟨q, 0, none⟩), .int .i64 s, .int .i64 n] w fun e w' => e = .returned (.tuple #[.slice none 0 0, .int .i64 11]) ∧ w = w' := by
  go_enter Tryd.func18, Tryd.ntmps18
  go_wp2_with (go_at_call 61; refine (has_any q g L _ _ _ hc hL hs).mono ?_; rw [hno]; rintro e w' ⟨rfl, rfl⟩)
  go_ret2
  exact ⟨rfl, rfl⟩
theorem read_yes (q g : Nat) (bs : List (BitVec 8)) (s n : Nat) (w : World) (hm : Mem w q g bs) (hh : s + n ≤ bs.length) :
    Calls Tryd.prog 18 #[.pointer (some ⟨q, 0, none⟩), .int .i64 (s : Int), .int .i64 (n : Int)] w (Gave (sub bs s n) w) := by
  have hc := hm.cell
  have hL := hm.2.2
  have HM := Lib.hid hm
  have hb : hasB bs.length s n = true := hasB_iff.2 ⟨by omega, by omega, by omega⟩
  have hq := hm.lt
  have hg := hm.2.1.lt
  clear hm
  obtain ⟨L, hl⟩ : ∃ L, bs.length = L := ⟨_, rfl⟩
  have HL := Lib.hid hl
  rw [hl] at hc hL hb hh
  clear hl
  have hmk := make_bytes n (by omega)
  have hc3 : (w.alloc (.cells (madeCells #[.int .u8 0] n) 5)).cell? ⟨q, 0, none⟩ = some (.slice (some ⟨g, 0, none⟩) L L) := (cell_alloc _ hq).trans hc
  go_enter Tryd.func18, Tryd.ntmps18
  go_wp2_with (go_at_call 61; refine (has_any q g L _ _ _ hc hL (by omega)).mono ?_; rw [hb]; rintro e w' ⟨rfl, rfl⟩)
  · obtain rfl : n = 0 := by omega
    obtain ⟨w2, hr, hrow, hgr⟩ := copy_run (w.alloc (.cells (madeCells #[.int .u8 0] 0) 5)) 3 (some ⟨w.heap.size, 0, none⟩) (some ⟨g, 0, none⟩) 0 0 0 0 w.heap.size 0 _ (sub bs s 0) (Row.made w 0) (by simp [sub]) (by simp [sub]) (by simp [sub])
    rw [hr]
    clear hr
    go_wp2
    go_ret2
    exact ⟨by simp [sub], by rw [splice_all _ _ (by simp [sub])] at hrow; exact hrow, below_grown ((Below.refl _ w).alloc (Nat.le_refl _) _) hgr (by simp) (Nat.le_refl _)⟩
  · obtain ⟨w2, hr, hrow, hgr⟩ := copy_run (w.alloc (.cells (madeCells #[.int .u8 0] n) 5)) 3 (some ⟨w.heap.size, 0, none⟩) (some ⟨g, s, none⟩) n n (L - s) (L - s) w.heap.size 0 _ (sub bs s n) (Row.made w n)
      (by rw [sub_length (by rw [HL.out]; exact hh)]; exact (Nat.min_eq_right (by omega)).symm) 
      (fun _ => ⟨rfl, g, s, rfl, fun j hj => by rw [sub_length (by rw [HL.out]; exact hh)] at hj; rw [sub_getD hj]; exact (cell_alloc _ hg).trans (HM.out.2.1.cell (by rw [HL.out]; omega))⟩)
      (by rw [sub_length (by rw [HL.out]; exact hh)]; simp)
    rw [hr]
    clear hr
    go_wp2
    go_ret2
    have e := sub_length (bs := bs) (s := s) (n := n) (by rw [HL.out]; exact hh)
    exact ⟨by rw [e]; rfl, by rw [splice_all _ _ (by simpa using e)] at hrow; exact hrow, below_grown ((Below.refl _ w).alloc (Nat.le_refl _) _) hgr (by simp) (Nat.le_refl _)⟩

/-- A row of bytes that came in, or that was answered: nil, or cells one after another. -/
def BS (w : World) (v : Value) (bs : List (BitVec 8)) : Prop :=
  (v = .slice none 0 0 ∧ bs = []) ∨ ∃ b o c, v = .slice (some ⟨b, o, none⟩) bs.length c ∧ bs.length ≤ c ∧ ∀ j, j < bs.length → w.cell? ⟨b, o + j, none⟩ = some (.int .u8 (y (bs.getD j 0#8)))
theorem write_no (q g L : Nat) (s : Int) (ao : Option Addr) (n c : Nat) (w : World) (hc : w.cell? ⟨q, 0, none⟩ = some (.slice (some ⟨g, 0, none⟩) L L)) (hL : L ≤ 1048576) (hs : s ≤ 9223372036854775807) (hno : hasB L s n = false) :
    Calls Tryd.prog 67 #[.pointer (some ⟨q, 0, none⟩), .int .i64 s, .slice ao n c] w fun e w' => e = .returned (.int .i64 11) ∧ w = w' := by
  go_enter Tryd.func67, Tryd.ntmps67
  go_wp2_with (go_at_call 61; refine (has_any q g L _ _ _ hc hL hs).mono ?_; rw [hno]; rintro e w' ⟨rfl, rfl⟩)
  go_ret
  exact ⟨rfl, rfl⟩
theorem write_yes (q g : Nat) (bs cs : List (BitVec 8)) (s : Nat) (ao : Option Addr) (c : Nat) (w : World) (hm : Mem w q g bs) (hh : s + cs.length ≤ bs.length)
    (ha : 0 < cs.length → ∃ b o, ao = some ⟨b, o, none⟩ ∧ ∀ j, j < cs.length → w.cell? ⟨b, o + j, none⟩ = some (.int .u8 (y (cs.getD j 0#8)))) :
    Calls Tryd.prog 67 #[.pointer (some ⟨q, 0, none⟩), .int .i64 (s : Int), .slice ao cs.length c] w (Wrote q g (splice bs s cs) 0 w) := by
  have hc := hm.cell
  have hL := hm.2.2
  have HM := Lib.hid hm
  have HA := Lib.hid ha
  have hb : hasB bs.length s cs.length = true := hasB_iff.2 ⟨by omega, by omega, by omega⟩
  clear hm ha
  obtain ⟨L, hl⟩ : ∃ L, bs.length = L := ⟨_, rfl⟩
  have HL := Lib.hid hl
  rw [hl] at hc hL hb hh
  clear hl
  obtain ⟨n, hn⟩ : ∃ n, cs.length = n := ⟨_, rfl⟩
  have HN := Lib.hid hn
  rw [hn] at hb hh ⊢
  clear hn
  go_enter Tryd.func67, Tryd.ntmps67
  go_wp2_with (go_at_call 61; refine (has_any q g L _ _ _ hc hL (by omega)).mono ?_; rw [hb]; rintro e w' ⟨rfl, rfl⟩)
  · obtain rfl : n = 0 := by omega
    obtain ⟨w2, hr, hrow, hgr⟩ := copy_run w 3 (some ⟨g, 0, none⟩) ao 0 0 0 c g s bs cs HM.out.2.1 (by rw [HN.out]; rfl) (by rw [HN.out]; omega) (by rw [HN.out, HL.out]; omega)
    rw [hr]
    clear hr
    go_wp2
    go_ret
    exact ⟨rfl, HM.out.turned hgr hrow (splice_length (by rw [HN.out, HL.out]; omega)), hgr⟩
  · obtain ⟨w2, hr, hrow, hgr⟩ := copy_run w 3 (some ⟨g, s, none⟩) ao (L - s) (L - s) n c g s bs cs HM.out.2.1 (by rw [HN.out]; exact (Nat.min_eq_left (by omega)).symm) (fun hp => ⟨rfl, HA.out hp⟩) (by rw [HN.out, HL.out]; omega)
    rw [hr]
    clear hr
    go_wp2
    go_ret
    exact ⟨rfl, HM.out.turned hgr hrow (splice_length (by rw [HN.out, HL.out]; omega)), hgr⟩

def Cloned (bs : List (BitVec 8)) (w : World) (e : Ending) (w' : World) : Prop :=
  ∃ p, e = .returned (.pointer (some ⟨p, 0, none⟩)) ∧ w.heap.size ≤ p ∧ Mem w' p w.heap.size bs ∧ Below w.heap.size w w'
theorem clone_any (q g : Nat) (bs : List (BitVec 8)) (w : World) (hm : Mem w q g bs) :
    Calls Tryd.prog 25 #[.pointer (some ⟨q, 0, none⟩)] w (Cloned bs w) := by
  have hc := hm.cell
  have hL := hm.2.2
  have HM := Lib.hid hm
  have hq := hm.lt
  have hg := hm.2.1.lt
  clear hm
  obtain ⟨L, hl⟩ : ∃ L, bs.length = L := ⟨_, rfl⟩
  have HL := Lib.hid hl
  rw [hl] at hc hL
  clear hl
  have hmk := make_bytes L (by omega)
  have hc3 : (w.alloc (.cells (madeCells #[.int .u8 0] L) 5)).cell? ⟨q, 0, none⟩ = some (.slice (some ⟨g, 0, none⟩) L L) := (cell_alloc _ hq).trans hc
  go_enter Tryd.func25, Tryd.ntmps25
  go_wp2
  obtain ⟨w2, hr, hrow, hgr⟩ := copy_run (w.alloc (.cells (madeCells #[.int .u8 0] L) 5)) 3 (some ⟨w.heap.size, 0, none⟩) (some ⟨g, 0, none⟩) L L L L w.heap.size 0 _ bs (Row.made w L)
    (by rw [HL.out]; exact (Nat.min_self _).symm) (fun _ => ⟨rfl, g, 0, rfl, fun j hj => by rw [Nat.zero_add]; exact (cell_alloc _ hg).trans (HM.out.2.1.cell hj)⟩) (by rw [HL.out]; simp)
  rw [hr]
  clear hr
  go_wp2
  go_ret
  have hbel := below_grown ((Below.refl _ w).alloc (Nat.le_refl _) _) hgr (by simp) (Nat.le_refl _)
  refine ⟨w2.heap.size, rfl, hbel.size, ⟨?_, ?_, by rw [HL.out]; exact hL⟩, hbel.alloc hbel.size _⟩
  · rw [heap_alloc_new, HL.out]
  · rw [splice_all _ _ (by rw [HL.out]; simp)] at hrow
    exact hrow.of_block (Below.heap_alloc _ _ _ (by have := hgr.size; simp at this; omega))

end Go.Proofs.YtaelfgdiboekpaaDoor.Ce
