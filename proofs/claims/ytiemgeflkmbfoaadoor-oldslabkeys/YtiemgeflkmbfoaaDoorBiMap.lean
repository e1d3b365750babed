/-
  A map whose keys are rows' keys, of at most two entries: laws that the claimed proofs use.
-/
import Derived.Test.YtiemgeflkmbfoaaDoorBiWords
import Derived.WideKeyArr
import Derived.WideKeyEntry
namespace Go.Proofs.YtiemgeflkmbfoaaDoor.Bi
set_option maxRecDepth 100000
open Go.RowKit Go.WideMaps Go.MapKept Go.ChangeMaps

theorem u_wf (x : BitVec 64) : (Lit.int .u64 (u x)).wf = true := by
  have := x.isLt
  unfold u Lit.wf
  simp [IntKind.min, IntKind.max, IntKind.signed, IntKind.bits]
  omega
theorem keyLaw : KeyLaw Tryd.prog 58 := ArrKey.law (e := 56) (n := 4) ⟨Tryd.underlying58, by kernel_rfl, by kernel_rfl, by kernel_rfl⟩
theorem key_of (ws : List (BitVec 64)) : ∃ kl, keyOf Tryd.prog 58 (keyV ws) = some kl := by
  have hk : Tryd.prog.keyType 58 = true := by kernel_rfl
  have hc : Tryd.prog.cellsOf 58 = 4 := by kernel_rfl
  have hc1 : Tryd.prog.cellsOf 56 = 1 := by kernel_rfl
  have hs : Tryd.prog.types.size = 103 := by kernel_rfl
  unfold keyOf
  rw [Tryd.underlying58]
  simp only [hk, Bool.true_and, hs]
  have hf : (keyV ws).formed Tryd.prog 58 = true := by
    simp [keyV, Value.formed, Tryd.underlying58, hc]
  rw [if_pos hf]
  unfold keyV
  have hl : ∀ (d : Nat) (x : BitVec 64), Tryd.prog.keyLits (d + 1) 56 [.int .u64 (u x)] = some [.int .u64 (u x)] := fun d x => by
    unfold Program.keyLits
    rw [Tryd.underlying56]
    simp [u_wf]
  have h : Tryd.prog.keyLits (103 + 1) 58 [.int .u64 (u (ws.getD 0 0#64)), .int .u64 (u (ws.getD 1 0#64)), .int .u64 (u (ws.getD 2 0#64)), .int .u64 (u (ws.getD 3 0#64))]
      = some [.int .u64 (u (ws.getD 0 0#64)), .int .u64 (u (ws.getD 1 0#64)), .int .u64 (u (ws.getD 2 0#64)), .int .u64 (u (ws.getD 3 0#64))] := by
    generalize ws.getD 0 0#64 = k0
    generalize ws.getD 1 0#64 = k1
    generalize ws.getD 2 0#64 = k2
    generalize ws.getD 3 0#64 = k3
    unfold Program.keyLits
    rw [Tryd.underlying58]
    simp only [hc, hc1]
    rw [if_pos (by rfl), show List.range 4 = [0, 1, 2, 3] from rfl]
    simp [hl 102]
  exact ⟨_, by rw [show (Value.agg #[.int .u64 (u (ws.getD 0 0#64)), .int .u64 (u (ws.getD 1 0#64)), .int .u64 (u (ws.getD 2 0#64)), .int .u64 (u (ws.getD 3 0#64))]).cells.toList = [.int .u64 (u (ws.getD 0 0#64)), .int .u64 (u (ws.getD 1 0#64)), .int .u64 (u (ws.getD 2 0#64)), .int .u64 (u (ws.getD 3 0#64))] from rfl, h]; rfl⟩
theorem keyV_inj {a b : List (BitVec 64)} (h : keyV a = keyV b) : ∀ i, i < 4 → a.getD i 0#64 = b.getD i 0#64 := by
  unfold keyV at h
  simp only [Value.agg.injEq, Array.mk.injEq, List.cons.injEq, Value.int.injEq, true_and, and_true] at h
  obtain ⟨h0, h1, h2, h3⟩ := h
  intro i hi
  rcases (by omega : i = 0 ∨ i = 1 ∨ i = 2 ∨ i = 3) with rfl | rfl | rfl | rfl
  · exact u_inj h0
  · exact u_inj h1
  · exact u_inj h2
  · exact u_inj h3
def ent (ws : List (BitVec 64)) (v : Int) (c : Nat) : MapEntry := ⟨keyV ws, .int .i64 v, c⟩
theorem find_none (w : World) (x : List (BitVec 64)) (es : List MapEntry) (hes : ∀ e ∈ es, ∃ a v c, e = ent a v c ∧ keyV a ≠ keyV x) :
    (Instr.findKey 58 (keyV x) es).run Tryd.prog w = .ok none w := by
  obtain ⟨kl, hk⟩ := key_of x
  rcases keyLaw.find w hk es (fun e he => by obtain ⟨a, v, c, rfl, _⟩ := hes e he; exact key_of a) with ⟨h, _⟩ | ⟨j, e, _, h2, h3⟩
  · exact h
  · obtain ⟨a, v, c, rfl, hne⟩ := hes e (List.mem_of_getElem? h2)
    exact absurd h3 hne
theorem find_some (w : World) (x : List (BitVec 64)) (es : List MapEntry) (j : Nat) (v : Int) (c : Nat) (hj : es[j]? = some (ent x v c)) (hes : ∀ i e, es[i]? = some e → i ≠ j → ∃ a v c, e = ent a v c ∧ keyV a ≠ keyV x) :
    (Instr.findKey 58 (keyV x) es).run Tryd.prog w = .ok (some (j, .int .i64 v)) w := by
  obtain ⟨kl, hk⟩ := key_of x
  rcases keyLaw.find w hk es (fun e he => by
    obtain ⟨i, hi⟩ := List.getElem?_of_mem he
    by_cases hij : i = j
    · subst hij; rw [hj] at hi; cases hi; exact key_of x
    · obtain ⟨a, v, c, rfl, _⟩ := hes i e hi hij; exact key_of a) with ⟨_, h⟩ | ⟨i, e, h1, h2, h3⟩
  · exact absurd rfl (h _ (List.mem_of_getElem? hj))
  · by_cases hij : i = j
    · subst hij; rw [hj] at h2; cases h2; exact h1
    · obtain ⟨a, v, c, rfl, hne⟩ := hes i e h2 hij
      exact absurd h3 hne
/-- One entry, or none. -/
theorem look_none (w : World) (b c : Nat) (x : List (BitVec 64)) (es : Array MapEntry) (hb : w.heap[b]? = some (.map es c)) (hes : ∀ e ∈ es.toList, ∃ a v c, e = ent a v c ∧ keyV a ≠ keyV x) :
    (Instr.lookup 63 (.map (some b)) (keyV x) false).run Tryd.prog w = .ok (.int .i64 0) w := by
  obtain ⟨kl, hk⟩ := key_of x
  simp [Instr.lookup, run_underlying Tryd.underlying63, MapKept.run_getObj_map hb, keyLaw.check w _ hk, find_none w x _ hes, Result.andThen]
theorem look_some (w : World) (b c : Nat) (x : List (BitVec 64)) (es : Array MapEntry) (j : Nat) (v : Int) (d : Nat) (hb : w.heap[b]? = some (.map es c)) (hj : es.toList[j]? = some (ent x v d)) (hes : ∀ i e, es.toList[i]? = some e → i ≠ j → ∃ a v c, e = ent a v c ∧ keyV a ≠ keyV x) :
    (Instr.lookup 63 (.map (some b)) (keyV x) false).run Tryd.prog w = .ok (.int .i64 v) w := by
  obtain ⟨kl, hk⟩ := key_of x
  simp [Instr.lookup, run_underlying Tryd.underlying63, MapKept.run_getObj_map hb, keyLaw.check w _ hk, find_some w x _ j v d hj hes, Result.andThen]
theorem entry_none (w : World) (b c : Nat) (x : List (BitVec 64)) (es : Array MapEntry) (hb : w.heap[b]? = some (.map es c)) (hes : ∀ e ∈ es.toList, ∃ a v c, e = ent a v c ∧ keyV a ≠ keyV x) :
    (Instr.mapEntry 63 (.map (some b)) (keyV x)).run Tryd.prog w = .ok (.tuple #[.int .i64 0, goInt c]) (setBlock w b (.map (es.push (ent x 0 c)) (c + 1))) := by
  obtain ⟨kl, hk⟩ := key_of x
  simp [Instr.mapEntry, run_underlying Tryd.underlying63, MapKept.run_getObj_map hb, keyLaw.check w false hk, find_none w x _ hes, MapKept.run_setObj_map _ hb, Result.andThen, setBlock, ent]
theorem entry_one (w : World) (b c : Nat) (x : List (BitVec 64)) (v : Int) (d : Nat) (hb : w.heap[b]? = some (.map #[ent x v d] c)) :
    (Instr.mapEntry 63 (.map (some b)) (keyV x)).run Tryd.prog w = .ok (.tuple #[.int .i64 v, goInt d]) (setBlock w b (.map #[ent x v d] c)) := by
  obtain ⟨kl, hk⟩ := key_of x
  have hf := find_some w x [ent x v d] 0 v d rfl (fun i e hi hn => by
    rcases i with _ | i
    · exact absurd rfl hn
    · simp at hi)
  have hk1 : (ent x v d).key = keyV x := rfl
  have hb1 : (ent x v d).born = d := rfl
  simp [Instr.mapEntry, run_underlying Tryd.underlying63, MapKept.run_getObj_map hb, keyLaw.check w false hk, hf, MapKept.run_setObj_map _ hb, Result.andThen, setBlock, keyLaw.stays w hk, hk1, hb1]
  rfl
theorem store_at (w : World) (b c : Nat) (es : Array MapEntry) (j : Nat) (st : Nat) (v : Int) (es' : Array MapEntry) (hb : w.heap[b]? = some (.map es c)) (hj : es.findIdx? (fun e => ((e.born : Nat) : Int) == ((st : Nat) : Int)) = some j)
    (he : es.modify j (fun e => { e with val := .int .i64 v }) = es') :
    (Instr.entryStore 63 (.map (some b)) (goInt st) (.int .i64 v)).run Tryd.prog w = .ok () (setBlock w b (.map es' c)) := by
  simp [Instr.entryStore, MapKept.run_getObj_map hb, asInt, asIntOf, goInt, hj, he, MapKept.run_setObj_map _ hb, Result.andThen, setBlock]
theorem store_last1 (w : World) (b c d : Nat) (x : List (BitVec 64)) (v0 v : Int) (hb : w.heap[b]? = some (.map #[ent x v0 d] c)) :
    (Instr.entryStore 63 (.map (some b)) (goInt d) (.int .i64 v)).run Tryd.prog w = .ok () (setBlock w b (.map #[ent x v d] c)) :=
  store_at w b c _ 0 d v _ hb (by simp [ent]) rfl
theorem store_last2 (w : World) (b c d d0 : Nat) (x y : List (BitVec 64)) (v0 v1 v : Int) (hd : d0 ≠ d) (hb : w.heap[b]? = some (.map #[ent y v1 d0, ent x v0 d] c)) :
    (Instr.entryStore 63 (.map (some b)) (goInt d) (.int .i64 v)).run Tryd.prog w = .ok () (setBlock w b (.map #[ent y v1 d0, ent x v d] c)) :=
  store_at w b c _ 1 d v _ hb (by
    have h1 : ((d0 : Int) == (d : Int)) = false := by simp; omega
    have h2 : ((d : Int) == (d : Int)) = true := by simp
    rw [WideElems.findIdx_arr]
    simp only [List.findIdx?_cons, ent, h1, h2]
    rfl) rfl
theorem set_heap (w : World) (b : Nat) (o : Obj) (h : b < w.heap.size) : (setBlock w b o).heap[b]? = some o := by simp [setBlock, h]
theorem set_grown (w : World) (b : Nat) (o : Obj) : w.grownBy (setBlock w b o) (some b) := by
  refine ⟨rfl, rfl, rfl, by simp [setBlock], fun k _ hk => ?_⟩
  have : b ≠ k := fun e => hk (by rw [e])
  simp [setBlock, this]
/-- A second key is counted: one entry more, or the first one again. -/
theorem map_step (w : World) (b : Nat) (wa wc : List (BitVec 64)) (hb : w.heap[b]? = some (.map #[ent wa 1 0] 1)) :
    ∃ (v st : Int) (w12 w13 : World) (es : Array MapEntry) (c : Nat), 0 ≤ v ∧ v ≤ 1 ∧
      (Instr.lookup 63 (.map (some b)) (keyV wc) false).run Tryd.prog w = .ok (.int .i64 v) w ∧
      (Instr.mapEntry 63 (.map (some b)) (keyV wc)).run Tryd.prog w = .ok (.tuple #[.int .i64 v, .int .i64 st]) w12 ∧
      (Instr.lookup 63 (.map (some b)) (keyV wc) false).run Tryd.prog w12 = .ok (.int .i64 v) w12 ∧
      (Instr.entryStore 63 (.map (some b)) (.int .i64 st) (.int .i64 (v + 1))).run Tryd.prog w12 = .ok () w13 ∧
      w13.heap[b]? = some (.map es c) ∧ ((keyV wc = keyV wa → es.size = 1) ∧ (keyV wc ≠ keyV wa → es.size = 2)) ∧ w.grownBy w13 (some b) := by
  have hlt : b < w.heap.size := (Array.getElem?_eq_some_iff.1 hb).1
  by_cases h : keyV wc = keyV wa
  · have one : ∀ i e, ([ent wa 1 0] : List MapEntry)[i]? = some e → i ≠ 0 → ∃ a v c, e = ent a v c ∧ keyV a ≠ keyV wa := fun i e hi hn => by
      rcases i with _ | i
      · exact absurd rfl hn
      · simp at hi
    have hm := set_heap w b (.map #[ent wa 1 0] 1) hlt
    rw [h]
    refine ⟨1, 0, setBlock w b (.map #[ent wa 1 0] 1), _, #[ent wa 2 0], 1, by omega, by omega, look_some w b 1 wa _ 0 1 0 hb rfl one, entry_one w b 1 wa 1 0 hb, look_some _ b 1 wa _ 0 1 0 hm rfl one, store_last1 _ b 1 0 wa 1 2 hm, set_heap _ b _ (by simpa [setBlock] using hlt), ⟨fun _ => rfl, fun e => absurd rfl e⟩, grown_trans (set_grown _ _ _) (set_grown _ _ _)⟩
  · have none' : ∀ e ∈ (#[ent wa 1 0] : Array MapEntry).toList, ∃ a v c, e = ent a v c ∧ keyV a ≠ keyV wc := fun e he => by
      simp at he
      exact ⟨wa, 1, 0, he, fun e => h e.symm⟩
    have hm := set_heap w b (.map #[ent wa 1 0, ent wc 0 1] 2) hlt
    refine ⟨0, 1, setBlock w b (.map #[ent wa 1 0, ent wc 0 1] 2), _, #[ent wa 1 0, ent wc 1 1], 2, by omega, by omega, look_none w b 1 wc _ hb none', entry_none w b 1 wc _ hb none', look_some _ b 2 wc _ 1 0 1 hm rfl (fun i e hi hn => ?_), store_last2 _ b 2 1 0 wc wa 0 1 1 (by omega) hm, set_heap _ b _ (by simpa [setBlock] using hlt), ⟨fun e => absurd e h, fun _ => rfl⟩, grown_trans (set_grown _ _ _) (set_grown _ _ _)⟩
    rcases i with _ | i
    · simp at hi
      exact ⟨wa, 1, 0, hi.symm, fun e => h e.symm⟩
    · rcases i with _ | i
      · exact absurd rfl hn
      · simp at hi
end Go.Proofs.YtiemgeflkmbfoaaDoor.Bi
