/-
  What Words, Key and Clone do: contracts that the claimed proofs use.
-/
import Derived.Test.YtiemgeflkmbfoaaDoorBiSets
import Derived.ChangeKeysEq
import Derived.Laws.StructEq
namespace Go.Proofs.YtiemgeflkmbfoaaDoor.Bi
set_option maxRecDepth 100000
open Go.RowKit

theorem splice_all {α : Type} (L cs : List α) (h : cs.length = L.length) : splice L 0 cs = cs := by simp [splice, h]
theorem splice_nil {α : Type} (L : List α) (off : Nat) : splice L off [] = L := by simp [splice]
theorem wrow_splice (L cs : List (BitVec 64)) (off : Nat) : splice (wrow L) off (wrow cs) = wrow (splice L off cs) := by simp [splice, wrow]
/-- copy into a row that is known whole. -/
theorem copy_run (w : World) (ty : TypeId) (dp sp : Option Addr) (dLen dCap sLen sCap : Nat) (bt' : TypeId)
    (g off : Nat) (cur cs : List (BitVec 64)) (hg : Blk w g (wrow cur) bt') (hn : cs.length = Nat.min sLen dLen)
    (hpos : 0 < cs.length → dp = some ⟨g, off, none⟩ ∧ ∃ sb so, sp = some ⟨sb, so, none⟩ ∧ ∀ j, j < cs.length → w.cell? ⟨sb, so + j, none⟩ = some (.int .u64 (u (cs.getD j 0#64))))
    (hfit : off + cs.length ≤ cur.length) :
    ∃ w', (Builtin.copy_ #[79, 79] ty #[.slice dp dLen dCap, .slice sp sLen sCap]).run Tryd.prog w = .ok (goInt cs.length) w' ∧ Blk w' g (wrow (splice cur off cs)) bt' ∧ w.grownBy w' (some g) := by
  by_cases h0 : cs.length = 0
  · obtain rfl : cs = [] := List.eq_nil_of_length_eq_zero h0
    exact ⟨w, run_copy_none (P := Tryd.prog) w 79 79 ty 56 dp sp dLen dCap sLen sCap Tryd.underlying79 word_size (by simpa using hn.symm), by rw [splice_nil]; exact hg, grown_refl _ _⟩
  · obtain ⟨rfl, sb, so, rfl, hsrc⟩ := hpos (by omega)
    have hsrc' : ∀ j v, (wrow cs)[j]? = some v → w.cell? ((⟨sb, so, none⟩ : Addr).add j) = some v := by
      intro j v hv
      have hj : j < cs.length := by
        rcases Nat.lt_or_ge j cs.length with hj | hj
        · exact hj
        · rw [List.getElem?_eq_none (by rw [wrow_length]; exact hj)] at hv; cases hv
      rw [wrow_get hj] at hv
      cases hv
      have e : (⟨sb, so, none⟩ : Addr).add j = ⟨sb, so + j, none⟩ := by unfold Addr.add; split <;> simp_all
      rw [e]; exact hsrc j hj
    have hrun := run_copy_row (P := Tryd.prog) w 79 79 ty 56 g off dLen dCap ⟨sb, so, none⟩ sLen sCap (wrow cur).toArray bt' (wrow cs) Tryd.underlying79 word_size hg (by rw [wrow_length]; exact hn) hsrc' (by simpa [wrow_length] using hfit) (wrow_one cs)
    rw [wrow_length] at hrun
    refine ⟨_, hrun, show _ = _ from ?_, ⟨rfl, rfl, rfl, by simp [World.setRow], fun k _ hk => setRow_other w g k _ (fun e => hk (by rw [e]))⟩⟩
    have := setRow_heap w g _ ((wrow cur).take off ++ wrow cs ++ (wrow cur).drop (off + cs.length)).toArray bt' _ hg
    rw [show (wrow cur).toArray.toList = wrow cur from rfl, this, ← wrow_splice, splice, wrow_length, List.append_assoc]
theorem step_copy {w : World} {ops : Array Oper} {o : Oper} {a : Act} {K : Act → World → Prop} {Q : Exit → Act → World → Prop} {E : Prop} (hgd : o.guard = none) (d s : Operand)
    (ho : o.op = .call { callee := .builtin .copy, args := #[d, s], argTypes := #[79, 79] })
    (dp sp : Option Addr) (dLen dCap sLen sCap : Nat) (hd : a.eval d = .slice dp dLen dCap) (hs : a.eval s = .slice sp sLen sCap) (bt' : TypeId)
    (g off : Nat) (cur cs : List (BitVec 64)) (hg : Blk w g (wrow cur) bt') (hn : cs.length = Nat.min sLen dLen)
    (hpos : 0 < cs.length → dp = some ⟨g, off, none⟩ ∧ ∃ sb so, sp = some ⟨sb, so, none⟩ ∧ ∀ j, j < cs.length → w.cell? ⟨sb, so + j, none⟩ = some (.int .u64 (u (cs.getD j 0#64))))
    (hfit : off + cs.length ≤ cur.length)
    (h : ∀ w', Hid (Blk w' g (wrow (splice cur off cs)) bt') → Hid (w.grownBy w' (some g)) → K (a.put o.dst (goInt cs.length)) w') :
    if Region.wanted o (yielded ops a.tmps) = true then Oper.wp Tryd.prog o a w K Q else E := by
  rw [if_pos (by simp [Region.wanted, hgd])]
  obtain ⟨w', hr, h1, h2⟩ := copy_run w o.type dp sp dLen dCap sLen sCap bt' g off cur cs hg hn hpos hfit
  unfold Oper.wp
  simp [execOp, ho, resolve, invoke, builtin, hd, hs, hr, Result.andThen]
  exact h _ h1 h2

/-! ### Words -/
def GaveW (ws : List (BitVec 64)) (w : World) (e : Ending) (w' : World) : Prop :=
  e = .returned (.slice (some ⟨w.heap.size, 0, none⟩) ws.length ws.length) ∧ Blk w' w.heap.size (wrow ws) 56 ∧ Below w.heap.size w w'
theorem words_any (q g : Nat) (l : List Bool) (ws : List (BitVec 64)) (w : World) (hm : Bits w q g l ws) :
    Calls Tryd.prog 64 #[.pointer (some ⟨q, 0, none⟩)] w (GaveW ws w) := by
  have hs := hm.words
  have hq := hm.1.lt
  have hg := hm.2.1.lt
  have hL := hm.many.2.1
  have HM := Lib.hid hm
  clear hm
  obtain ⟨L, hl⟩ : ∃ L, ws.length = L := ⟨_, rfl⟩
  have HL := Lib.hid hl
  rw [hl] at hs hL
  clear hl
  have hmk := make_words L (by omega)
  have hc3 : (w.alloc (.cells (madeCells #[.int .u64 0] L) 56)).cell? ⟨q, 1, none⟩ = some (.slice (some ⟨g, 0, none⟩) L L) := (cell_alloc _ hq).trans hs
  go_enter Tryd.func64, Tryd.ntmps64
  go_wp2
  have hmade := Blk.made w (.int .u64 0) L 56
  rw [wrow_none] at hmade
  obtain ⟨w2, hr, hrow, hgr⟩ := copy_run (w.alloc (.cells (madeCells #[.int .u64 0] L) 56)) 3 (some ⟨w.heap.size, 0, none⟩) (some ⟨g, 0, none⟩) L L L L 56 w.heap.size 0 _ ws hmade
    (by rw [HL.out]; exact (Nat.min_self _).symm) (fun _ => ⟨rfl, g, 0, rfl, fun j hj => by rw [Nat.zero_add]; exact (cell_alloc _ hg).trans (HM.out.word hj)⟩) (by rw [HL.out]; simp)
  rw [hr]
  clear hr
  go_wp2
  go_ret
  rw [splice_all _ _ (by rw [HL.out]; simp)] at hrow
  exact ⟨by rw [HL.out]; rfl, hrow, below_grown ((Below.refl _ w).alloc (Nat.le_refl _) _) hgr (by simp) (Nat.le_refl _)⟩
/-! ### Key -/
def keyV (ws : List (BitVec 64)) : Value := .agg #[.int .u64 (u (ws.getD 0 0#64)), .int .u64 (u (ws.getD 1 0#64)), .int .u64 (u (ws.getD 2 0#64)), .int .u64 (u (ws.getD 3 0#64))]
theorem key_splice (ws : List (BitVec 64)) : splice [0#64, 0#64, 0#64, 0#64] 0 (ws.take 4) = [ws.getD 0 0#64, ws.getD 1 0#64, ws.getD 2 0#64, ws.getD 3 0#64] := by
  rcases ws with _ | ⟨a, _ | ⟨b, _ | ⟨c, _ | ⟨d, ws⟩⟩⟩⟩ <;> simp [splice]
theorem key_any (q g : Nat) (l : List Bool) (ws : List (BitVec 64)) (w : World) (hm : Bits w q g l ws) :
    Calls Tryd.prog 51 #[.pointer (some ⟨q, 0, none⟩)] w fun e w' => e = .returned (keyV ws) ∧ Below w.heap.size w w' := by
  have hs := hm.words
  have hq := hm.1.lt
  have hg := hm.2.1.lt
  have hL := hm.many.2.1
  have HM := Lib.hid hm
  clear hm
  obtain ⟨L, hl⟩ : ∃ L, ws.length = L := ⟨_, rfl⟩
  have HL := Lib.hid hl
  rw [hl] at hs hL
  clear hl
  go_enter Tryd.func51, Tryd.ntmps51
  go_wp2_with fail
  have b0 : Below w.heap.size w (w.alloc (.cells #[.int .u64 0, .int .u64 0, .int .u64 0, .int .u64 0] 58)) := up_alloc (Below.refl _ _) _
  have b1 : Below w.heap.size w ((w.alloc (.cells #[.int .u64 0, .int .u64 0, .int .u64 0, .int .u64 0] 58)).alloc (.cells #[.int .u64 0, .int .u64 0, .int .u64 0, .int .u64 0] 58)) := up_alloc b0 _
  have z0 : Blk ((w.alloc (.cells #[.int .u64 0, .int .u64 0, .int .u64 0, .int .u64 0] 58)).alloc (.cells #[.int .u64 0, .int .u64 0, .int .u64 0, .int .u64 0] 58)) w.heap.size (wrow [0#64, 0#64, 0#64, 0#64]) 58 :=
    (show Blk (w.alloc (.cells #[.int .u64 0, .int .u64 0, .int .u64 0, .int .u64 0] 58)) w.heap.size _ 58 from heap_alloc_new w _).of (Below.heap_alloc _ _ _ (by simp))
  have z1 : Blk ((w.alloc (.cells #[.int .u64 0, .int .u64 0, .int .u64 0, .int .u64 0] 58)).alloc (.cells #[.int .u64 0, .int .u64 0, .int .u64 0, .int .u64 0] 58)) (w.heap.size + 1) (wrow [0#64, 0#64, 0#64, 0#64]) 58 := by
    have := heap_alloc_new (w.alloc (.cells #[.int .u64 0, .int .u64 0, .int .u64 0, .int .u64 0] 58)) (.cells #[.int .u64 0, .int .u64 0, .int .u64 0, .int .u64 0] 58)
    simpa [Blk, wrow, u] using this
  have hsz : ((w.alloc (.cells #[.int .u64 0, .int .u64 0, .int .u64 0, .int .u64 0] 58)).alloc (.cells #[.int .u64 0, .int .u64 0, .int .u64 0, .int .u64 0] 58)).heap.size = w.heap.size + 2 := by simp
  generalize (w.alloc (.cells #[.int .u64 0, .int .u64 0, .int .u64 0, .int .u64 0] 58)).alloc (.cells #[.int .u64 0, .int .u64 0, .int .u64 0, .int .u64 0] 58) = W at *
  have hs2 := (b1.cell (p := ⟨q, 1, none⟩) hq).trans hs
  have HZ0 := Lib.hid z0
  have HZ1 := Lib.hid z1
  have HB1 := Lib.hid b1
  have HW : Hid (∀ j, j < ws.length → W.cell? ⟨g, j, none⟩ = some (.int .u64 (u (ws.getD j 0#64)))) := fun j hj => (b1.cell (p := ⟨g, j, none⟩) hg).trans (HM.out.word hj)
  clear b0 b1 z0 z1 hs
  go_region_law (refine step_copy rfl (.tmp 4) (.tmp 8) rfl (some ⟨w.heap.size + 1, 0, none⟩) (some ⟨g, 0, none⟩) 4 4 L L rfl rfl 58 (w.heap.size + 1) 0 [0#64, 0#64, 0#64, 0#64] (ws.take 4) HZ1.out (by rw [List.length_take, HL.out]; exact Nat.min_comm _ _) (fun _ => ⟨rfl, g, 0, rfl, fun j hj => by rw [List.length_take] at hj; rw [Nat.zero_add, List.getD_eq_getElem?_getD, List.getElem?_take, if_pos (by omega), ← List.getD_eq_getElem?_getD]; exact HW.out j (by omega)⟩) (by simp; omega) ?_; intro w4 hrow hgr)
  have hro := hrow.out
  rw [key_splice] at hro
  have hgr2 : W.grownBy w4 (some (w.heap.size + 1)) := grown_trans (grown_drew (grown_refl _ _)) hgr.out
  have hbel := below_grown HB1.out hgr2 (by omega) (by omega)
  have z4 : Blk w4 w.heap.size _ 58 := HZ0.out.far hgr2 (by omega)
  have c0 : w4.cell? ⟨w.heap.size + 1, 0, none⟩ = some (.int .u64 (u (ws.getD 0 0#64))) := hro.cell
  have c1 : w4.cell? ⟨w.heap.size + 1, 1, none⟩ = some (.int .u64 (u (ws.getD 1 0#64))) := hro.cell
  have c2 : w4.cell? ⟨w.heap.size + 1, 2, none⟩ = some (.int .u64 (u (ws.getD 2 0#64))) := hro.cell
  have c3 : w4.cell? ⟨w.heap.size + 1, 3, none⟩ = some (.int .u64 (u (ws.getD 3 0#64))) := hro.cell
  have d0 : w4.cell? ⟨w.heap.size, 0, none⟩ = some (.int .u64 0) := z4.cell
  have d1 : w4.cell? ⟨w.heap.size, 1, none⟩ = some (.int .u64 0) := z4.cell
  have d2 : w4.cell? ⟨w.heap.size, 2, none⟩ = some (.int .u64 0) := z4.cell
  have d3 : w4.cell? ⟨w.heap.size, 3, none⟩ = some (.int .u64 0) := z4.cell
  have HZ4 := Lib.hid z4
  have f0 := z4.frozen 0
  have f1 := z4.frozen 1
  have f2 := z4.frozen 2
  have f3 := z4.frozen 3
  have HBel := Lib.hid hbel
  obtain ⟨k0, e0⟩ : ∃ k, ws.getD 0 0#64 = k := ⟨_, rfl⟩
  rw [e0] at c0
  have HE0 := Lib.hid e0
  obtain ⟨k1, e1⟩ : ∃ k, ws.getD 1 0#64 = k := ⟨_, rfl⟩
  rw [e1] at c1
  have HE1 := Lib.hid e1
  obtain ⟨k2, e2⟩ : ∃ k, ws.getD 2 0#64 = k := ⟨_, rfl⟩
  rw [e2] at c2
  have HE2 := Lib.hid e2
  obtain ⟨k3, e3⟩ : ∃ k, ws.getD 3 0#64 = k := ⟨_, rfl⟩
  rw [e3] at c3
  have HE3 := Lib.hid e3
  clear hrow hgr hro hgr2 z4 hbel e0 e1 e2 e3
  go_wp2
  have hend := (((HZ4.out.set (i := 0) (.int .u64 (u k0))).set (i := 1) (.int .u64 (u k1))).set (i := 2) (.int .u64 (u k2))).set (i := 3) (.int .u64 (u k3))
  refine bodyPost_ret (results_cell_row (P := Tryd.prog) rfl _ _ w.heap.size 58 #[.int .u64 (u k0), .int .u64 (u k1), .int .u64 (u k2), .int .u64 (u k3)] (0, 0) _ rfl hend Tryd.underlying58 rfl (by kernel_rfl)) rfl ?_
  refine ⟨by unfold keyV; rw [HE0.out, HE1.out, HE2.out, HE3.out], ?_⟩
  exact below_grown HBel.out (grown_set (grown_set (grown_set (grown_set (grown_refl w4 (some w.heap.size)))))) HBel.out.size (Nat.le_refl _)

theorem key_eq (w : World) (a0 a1 a2 a3 b0 b1 b2 b3 : Int) :
    (Op.equalIn 10000 58 (.agg #[.int .u64 a0, .int .u64 a1, .int .u64 a2, .int .u64 a3]) (.agg #[.int .u64 b0, .int .u64 b1, .int .u64 b2, .int .u64 b3])).run Tryd.prog w = .ok (a0 == b0 && (a1 == b1 && (a2 == b2 && a3 == b3))) w := by
  obtain ⟨i, hi, _⟩ := Option.map_eq_some_iff.1 word_info
  have hp : Tryd.prog.plainKey 56 = true := by kernel_rfl
  have hc : Tryd.prog.cellsOf 56 = 1 := by kernel_rfl
  rw [show (10000 : Nat) = 9999 + 1 from rfl, run_equalIn_array w 9999 _ _ Tryd.underlying58 hi, hc, show List.range 4 = [0, 1, 2, 3] from rfl]
  have pa : ∀ (xs : Array Value) (j : Nat) (v : Value), xs[j]? = some v → (part 56 xs j).run Tryd.prog w = .ok v w := fun xs j v h => run_part_plain w hp h
  have p0 := fun (c0 c1 c2 c3 : Int) => pa #[.int .u64 c0, .int .u64 c1, .int .u64 c2, .int .u64 c3] 0 (.int .u64 c0) rfl
  have p1 := fun (c0 c1 c2 c3 : Int) => pa #[.int .u64 c0, .int .u64 c1, .int .u64 c2, .int .u64 c3] 1 (.int .u64 c1) rfl
  have p2 := fun (c0 c1 c2 c3 : Int) => pa #[.int .u64 c0, .int .u64 c1, .int .u64 c2, .int .u64 c3] 2 (.int .u64 c2) rfl
  have p3 := fun (c0 c1 c2 c3 : Int) => pa #[.int .u64 c0, .int .u64 c1, .int .u64 c2, .int .u64 c3] 3 (.int .u64 c3) rfl
  have hq := fun (a b : Int) => run_equalIn_int w 9998 56 .u64 .u64 a b Tryd.underlying56
  simp only [Op.eqItems, Nat.mul_one, Sem.run_bind, p0, hq, Result.andThen_ok]
  cases h0 : (a0 == b0)
  · rfl
  · simp only [Bool.not_true, Bool.false_eq_true, if_false, Sem.run_bind, p1, hq, Result.andThen_ok, Bool.true_and]
    cases h1 : (a1 == b1)
    · rfl
    · simp only [Bool.not_true, Bool.false_eq_true, if_false, Sem.run_bind, p2, hq, Result.andThen_ok, Bool.true_and]
      cases h2 : (a2 == b2)
      · rfl
      · simp only [Bool.not_true, Bool.false_eq_true, if_false, Sem.run_bind, p3, hq, Result.andThen_ok, Bool.true_and]
        cases h3 : (a3 == b3) <;> rfl
/-! ### Clone -/
def Cloned (l : List Bool) (ws : List (BitVec 64)) (w : World) (e : Ending) (w' : World) : Prop :=
  ∃ q g, e = .returned (.pointer (some ⟨q, 0, none⟩)) ∧ w.heap.size ≤ q ∧ w.heap.size ≤ g ∧ Bits w' q g l ws ∧ Below w.heap.size w w'
theorem clone_any (q g : Nat) (l : List Bool) (ws : List (BitVec 64)) (w : World) (hm : Bits w q g l ws) :
    Calls Tryd.prog 53 #[.pointer (some ⟨q, 0, none⟩)] w (Cloned l ws w) := by
  have hc := hm.n
  have hq := hm.1.lt
  have HM := Lib.hid hm
  have hL := hm.many.2.1
  clear hm
  obtain ⟨L, hl⟩ : ∃ L, ws.length = L := ⟨_, rfl⟩
  have HL := Lib.hid hl
  obtain ⟨n, hn⟩ : ∃ n, l.length = n := ⟨_, rfl⟩
  have HN := Lib.hid hn
  rw [hn] at hc
  clear hl hn
  have HW : Hid (Calls Tryd.prog 64 #[.pointer (some ⟨q, 0, none⟩)] w.drew fun e w' => e = .returned (.slice (some ⟨w.heap.size, 0, none⟩) L L) ∧ Blk w' w.heap.size (wrow ws) 56 ∧ Below w.heap.size w.drew w') := by
    have := words_any q g l ws w.drew HM.out
    unfold GaveW at this
    rw [HL.out] at this
    exact this
  go_enter Tryd.func53, Tryd.ntmps53
  go_wp2_with fail
  go_region_held3 (fun w' => w'.cell? ⟨q, 0, none⟩ = some (.int .i64 n))
    (first | exact (cell_alloc _ (Nat.lt_of_lt_of_le hq hb2.size)).trans ((hb2.cell (p := ⟨q, 0, none⟩) hq).trans hc) | exact (hb2.cell (p := ⟨q, 0, none⟩) hq).trans hc | exact hc)
    ((go_at_call 64; refine HW.out.mono ?_; rintro e w2 ⟨rfl, hrow, hb2⟩))
  go_wp2
  go_ret
  have hm := HM.out
  have hpos : 1 < w.heap.size := Nat.lt_trans hm.2.2.2.2.1 hq
  have hsz : w.heap.size < w2.heap.size := hrow.lt
  refine ⟨w2.heap.size, w.heap.size, rfl, hb2.size, Nat.le_refl _, ⟨?_, ?_, hm.2.2.1, hm.2.2.2.1, by omega, hpos⟩, (up_alloc ((Below.refl _ w).drew.trans hb2) _)⟩
  · rw [HN.out, HL.out]; exact heap_alloc_new w2 _
  · exact hrow.of (Below.heap_alloc _ _ _ hsz)
end Go.Proofs.YtiemgeflkmbfoaaDoor.Bi
