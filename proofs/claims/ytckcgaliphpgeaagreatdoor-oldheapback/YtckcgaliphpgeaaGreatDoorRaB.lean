import Derived.Test.YtckcgaliphpgeaaGreatDoorRaA
import Derived.Great.BuildSlice
import Derived.Deep.DeepCutAuto
/-
  How words are written, and leaves let go: contracts that the claimed proofs use.
-/
namespace Go.Proofs.YtckcgaliphpgeaaGreatDoor.Ra
set_option maxRecDepth 100000
open Go.RowKit

theorem zero212 (w : World) : (zeroValue 212).run Tryz.prog w = .ok (.agg (lw (fun _ => 0) 0).toArray) w :=
  (zero_of_info (P := Tryz.prog) (t := 212) (v := .agg (lw (fun _ => 0) 0).toArray) (n := 64) (by kernel_rfl)).1 w
/-- Pages from p on, k of them, lie in this leaf. -/
def tch (p k i : Nat) : Prop := p / 64 ≤ i ∧ i ≤ (p + k - 1) / 64
/-- What writing does to the leaves. -/
structure Grew (p k : Nat) (g g' : Gs) : Prop where
  old : ∀ i, i < 64 → (g i).isSome = true → g' i = g i
  far : ∀ i, i < 64 → (∀ m, p ≤ m → m < p + k → m / 64 ≠ i) → g' i = g i
  near : ∀ m, p ≤ m → m < p + k → (g' (m / 64)).isSome = true
theorem Grew.refl (p : Nat) (g : Gs) : Grew p 0 g g := ⟨fun _ _ _ => rfl, fun _ _ _ => rfl, fun m h1 h2 => by omega⟩
theorem Grew.same {p k m : Nat} {g g' : Gs} (h : Grew p k g g') (hm : m = p + k) (hg : (g' (m / 64)).isSome = true) : Grew p (k + 1) g g' :=
  ⟨h.old, fun i hi hf => h.far i hi (fun m h1 h2 => hf m h1 (by omega)), fun m' h1 h2 => by
    by_cases e : m' = p + k
    · rw [e, ← hm]; exact hg
    · exact h.near m' h1 (by omega)⟩
theorem Grew.on {p k m b : Nat} {g g' : Gs} (h : Grew p k g g') (hm : m = p + k) (hg : g' (m / 64) = none) : Grew p (k + 1) g (upg g' (m / 64) (some b)) :=
  ⟨fun i hi hs => by
    unfold upg
    by_cases e : i = m / 64
    · rw [if_pos e]
      have := h.old i hi hs
      rw [e, hg] at this
      rw [e, ← this] at hs; cases hs
    · rw [if_neg e]; exact h.old i hi hs,
   fun i hi hf => by
    unfold upg
    rw [if_neg (fun e => hf m (by omega) (by omega) e.symm)]
    exact h.far i hi (fun m h1 h2 => hf m h1 (by omega)),
   fun m' h1 h2 => by
    unfold upg
    by_cases e : m' / 64 = m / 64
    · rw [if_pos e]; rfl
    · rw [if_neg e]; exact h.near m' h1 (by by_cases e2 : m' = m
                                            · rw [e2] at e; exact absurd rfl e
                                            · omega)⟩
section
variable {w : World} {q : Nat} {n t : Int} {g : Gs} {f : Ws}
theorem fr_grow (q : Nat) (g : Gs) (w : World) (i : Nat) (v : Value) (o : Obj) : Fr q g w ((w.setCell ⟨q, i, none⟩ v).alloc o) :=
  (Fr.ofq (g := g) (grown_set w q i v)).trans (Fr.of (q := q) (g := g) (up_alloc (Below.refl _ _) o)) (Newer.refl _ _)
theorem write_any (p k : Nat) (x : Int) (h : Lay w q n t g f) (hpk : p + k ≤ 4096) :
    Calls Tryz.prog 129 #[.pointer (some ⟨q, 0, none⟩), .int .i64 p, .int .i64 k, .int .u64 x] w fun e w' => ∃ g', e = .returned (.tuple #[]) ∧ Lay w' q n t g' (fill f p k x) ∧ Grew p k g g' ∧ Newer w.heap.size g g' ∧ Fr q g w w' := by
  have HL0 := Lib.hid h
  clear h
  go_enter Tryz.func129, Tryz.ntmps129
  go_wp2_with fail
  go_loopw [8] (fun a wr => ∃ (j : Nat) (g' : Gs), j ≤ k ∧ a = .int .i64 ((p + j : Nat) : Int) ∧ Lay wr q n t g' (fill f p j x) ∧ Grew p j g g' ∧ Newer w.heap.size g g' ∧ Fr q g w wr) (fun a _ => p + k - (intOf a).toNat)
  case atStart => exact ⟨0, g, by omega, rfl, by rw [fill_zero]; exact HL0.out, Grew.refl p g, Newer.refl _ _, Fr.refl _ _ _⟩
  case round =>
    obtain ⟨j, g', hj, rfl, hl, hgr, hnw, hfr⟩ := hrel
    have HL := Lib.hid hl
    have HG := Lib.hid hgr
    have HN := Lib.hid hnw
    have HF := Lib.hid hfr
    clear hl hgr hnw hfr HL0
    obtain ⟨m, hm⟩ : ∃ m, p + j = m := ⟨_, rfl⟩
    have HM := Lib.hid hm
    rw [hm]
    by_cases hlt : j < k
    · have d : decide ((m : Int) < (p : Int) + (k : Int)) = true := by simp; omega
      have m1 : m < 4096 := by omega
      obtain ⟨i, hi⟩ : ∃ i, m / 64 = i := ⟨_, rfl⟩
      obtain ⟨c, hc⟩ : ∃ c, m % 64 = c := ⟨_, rfl⟩
      have hi64 : i < 64 := by omega
      have hc64 : c < 64 := by omega
      have e1 : (m : Int) / 64 = (i : Int) := by omega
      have e2 : (m : Int) % 64 = (c : Int) := by omega
      have EK : Hid (64 * i + c = p + j) := by show 64 * i + c = p + j; omega
      have HI := Lib.hid hi
      have cp := HL.out.cp hi64
      have fz := HL.out.blk.frozen (2 + i)
      have hq := HL.out.blk.lt
      cases hgi : g' i with
      | none =>
        rw [hgi, ptr_none] at cp
        have HGR := Lib.hid (HL.out.grow hi64 hgi)
        have HNW : Hid (Newer w.heap.size g (upg g' i (some wr.heap.size))) := HN.out.trans (newer_grow w.heap.size wr.heap.size i g' HF.out.size) (Nat.le_refl _)
        have HGW : Hid (Grew p (j + 1) g (upg g' i (some wr.heap.size))) := by
          have := HG.out.on (m := m) (b := wr.heap.size) HM.out.symm (by rw [HI.out]; exact hgi)
          rw [HI.out] at this; exact this
        have HFW : Hid (Fr q g w ((wr.setCell ⟨q, 2 + i, none⟩ (.pointer (some ⟨wr.heap.size, 0, none⟩))).alloc (.cells (lw (fun _ => 0) 0).toArray 212))) := HF.out.trans (fr_grow q g' wr _ _ _) HN.out
        have hb1 : (upg g' i (some wr.heap.size)) i = some wr.heap.size := by unfold upg; rw [if_pos rfl]
        have HB1 := Lib.hid hb1
        clear hgi hm hi hc HI HG HN HF HL hb1
        go_upto_region 5 with (refine wpList_alloc_big rfl 212 rfl (lw (fun _ => 0) 0).toArray zero212 ?_)
        generalize upg g' i (some wr.heap.size) = g2 at HGR HNW HGW HB1
        generalize wr.heap.size = b at *
        generalize (wr.setCell ⟨q, 2 + i, none⟩ (.pointer (some ⟨b, 0, none⟩))).alloc (.cells (lw (fun _ => 0) 0).toArray 212) = W1 at HGR HFW ⊢
        have cp1 := HGR.out.cp hi64
        rw [HB1.out, ptr_some] at cp1
        have cw1 := HGR.out.cw hi64 hc64 HB1.out
        have fz1 := (HGR.out.leaf i b hi64 HB1.out).frozen c
        clear cp fz hq
        generalize fill f p j x (64 * i + c) = y at cw1
        go_wp2
        go_roundw
        case rel =>
          refine ⟨j + 1, g2, by omega, by rw [← HM.out]; go_num, ?_, HGW.out, HNW.out, HFW.out.trans (Fr.ofg (g := g2) (grown_set _ _ _ _) hi64 HB1.out) HNW.out⟩
          have := HGR.out.put hi64 hc64 HB1.out x
          rwa [EK.out, ← fill_succ] at this
        case measure => have := HM.out; simp [intOf]; omega
      | some b =>
        rw [hgi, ptr_some] at cp
        have cw1 := HL.out.cw hi64 hc64 hgi
        have fz1 := (HL.out.leaf i b hi64 hgi).frozen c
        have HGW : Hid (Grew p (j + 1) g g') := HG.out.same (m := m) HM.out.symm (by rw [HI.out, hgi]; rfl)
        have HB1 := Lib.hid hgi
        clear hgi hm hi hc HI
        generalize fill f p j x (64 * i + c) = y at cw1
        go_wp2
        go_roundw
        case rel =>
          refine ⟨j + 1, g', by omega, by rw [← HM.out]; go_num, ?_, HGW.out, HN.out, HF.out.trans (Fr.ofg (g := g') (grown_set _ _ _ _) hi64 HB1.out) HN.out⟩
          have := HL.out.put hi64 hc64 HB1.out x
          rwa [EK.out, ← fill_succ] at this
        case measure => have := HM.out; simp [intOf]; omega
    · obtain rfl : j = k := by omega
      have d : decide ((m : Int) < (p : Int) + (j : Int)) = false := by simp; omega
      clear hm
      go_wp2
      exact bodyPost_end (results_none rfl _ _ _) rfl ⟨g', rfl, HL.out, HG.out, HN.out, HF.out⟩
end
end Go.Proofs.YtckcgaliphpgeaaGreatDoor.Ra

/-
  How leaves without an entry are let go: contracts that the claimed proofs use.
-/
namespace Go.Proofs.YtckcgaliphpgeaaGreatDoor.Ra
set_option maxRecDepth 100000
open Go.RowKit

theorem u64_info : ∃ i, Tryz.prog.info? 144 = some i := by
  have : (Tryz.prog.info? 144).isSome = true := by kernel_rfl
  exact Option.isSome_iff_exists.1 this
theorem items_run (f : Ws) (i : Nat) (w : World) : ∀ is : List Nat, (∀ j ∈ is, j < 64) →
    (Op.eqItems 9999 144 1 (lw f i).toArray (lw (fun _ => 0) 0).toArray is).run Tryz.prog w = .ok (is.all fun j => f (64 * i + j) == 0) w
  | [], _ => rfl
  | j :: is, h => by
    have hp : Tryz.prog.plainKey 144 = true := by kernel_rfl
    have hj := h j (List.mem_cons_self ..)
    have p1 : (part 144 (lw f i).toArray j).run Tryz.prog w = .ok (.int .u64 (f (64 * i + j))) w := run_part_plain w hp (by rw [List.getElem?_toArray]; exact lw_at f i hj)
    have p2 : (part 144 (lw (fun _ => 0) 0).toArray j).run Tryz.prog w = .ok (.int .u64 0) w := run_part_plain w hp (by rw [List.getElem?_toArray]; exact lw_at _ 0 hj)
    have hq := run_equalIn_int w 9998 144 .u64 .u64 (f (64 * i + j)) 0 Tryz.underlying144
    have ih := items_run f i w is (fun k hk => h k (List.mem_cons_of_mem _ hk))
    simp only [Op.eqItems, Nat.mul_one, Sem.run_bind, p1, p2, hq, Result.andThen_ok, List.all_cons]
    cases hb : (f (64 * i + j) == 0)
    · rfl
    · simp only [Bool.not_true, Bool.false_eq_true, if_false, Bool.true_and]
      exact ih
theorem lw_eql (f : Ws) (i : Nat) (w : World) : (Op.equalIn 10000 212 (.agg (lw f i).toArray) (.agg (lw (fun _ => 0) 0).toArray)).run Tryz.prog w = .ok (!lfB f i) w := by
  obtain ⟨inf, hi⟩ := u64_info
  have hc : Tryz.prog.cellsOf 144 = 1 := by kernel_rfl
  rw [show (10000 : Nat) = 9999 + 1 from rfl, run_equalIn_array w 9999 _ _ Tryz.underlying212 hi, hc, items_run f i w _ (fun j hj => by simpa using hj)]
  have : ((List.range 64).all fun j => f (64 * i + j) == 0) = !lfB f i := by
    unfold lfB
    rw [List.not_any_eq_all_not]
    congr 1
    funext j
    simp [bne]
  rw [this]
theorem lw_info (f : Ws) (i : Nat) : (Tryz.prog.info? 212).map (·.size) = some (lw f i).toArray.size := by rw [List.size_toArray, lw_len]; kernel_rfl

theorem lw_eql' (f : Ws) (i : Nat) (w : World) : (Op.equalIn 10000 212 (.agg (lw f i).toArray) (.agg #[.int .u64 0, .int .u64 0, .int .u64 0, .int .u64 0, .int .u64 0, .int .u64 0, .int .u64 0, .int .u64 0, .int .u64 0, .int .u64 0, .int .u64 0, .int .u64 0, .int .u64 0, .int .u64 0, .int .u64 0, .int .u64 0, .int .u64 0, .int .u64 0, .int .u64 0, .int .u64 0, .int .u64 0, .int .u64 0, .int .u64 0, .int .u64 0, .int .u64 0, .int .u64 0, .int .u64 0, .int .u64 0, .int .u64 0, .int .u64 0, .int .u64 0, .int .u64 0, .int .u64 0, .int .u64 0, .int .u64 0, .int .u64 0, .int .u64 0, .int .u64 0, .int .u64 0, .int .u64 0, .int .u64 0, .int .u64 0, .int .u64 0, .int .u64 0, .int .u64 0, .int .u64 0, .int .u64 0, .int .u64 0, .int .u64 0, .int .u64 0, .int .u64 0, .int .u64 0, .int .u64 0, .int .u64 0, .int .u64 0, .int .u64 0, .int .u64 0, .int .u64 0, .int .u64 0, .int .u64 0, .int .u64 0, .int .u64 0, .int .u64 0, .int .u64 0])).run Tryz.prog w = .ok (!lfB f i) w := lw_eql f i w
/-- What letting go does to the leaves from a to b. -/
structure Shed (a b : Nat) (g g' : Gs) (f : Ws) : Prop where
  far : ∀ i, i < 64 → ¬ (a ≤ i ∧ i < b) → g' i = g i
  near : ∀ i, i < 64 → a ≤ i → i < b → (g' i).isSome = lfB f i
section
variable {w : World} {q : Nat} {n t : Int} {g : Gs} {f : Ws}
theorem drop_any (p k : Nat) (h : Lay w q n t g f) (hpk : p + k ≤ 4096) (hk : 1 ≤ k) (hs : ∀ i, p / 64 ≤ i → i ≤ (p + k - 1) / 64 → (g i).isSome = true) :
    Calls Tryz.prog 132 #[.pointer (some ⟨q, 0, none⟩), .int .i64 p, .int .i64 k] w fun e w' => ∃ g', e = .returned (.tuple #[]) ∧ Lay w' q n t g' f ∧ Shed (p / 64) ((p + k - 1) / 64 + 1) g g' f ∧ Newer w.heap.size g g' ∧ Fr q g w w' := by
  have HL0 := Lib.hid h
  obtain ⟨A, hA⟩ : ∃ A, p / 64 = A := ⟨_, rfl⟩
  obtain ⟨B, hB⟩ : ∃ B, (p + k - 1) / 64 = B := ⟨_, rfl⟩
  rw [hA, hB]
  rw [hA, hB] at hs
  have HS := Lib.hid hs
  have e1 : (p : Int) / 64 = (A : Int) := by omega
  have e2 : ((p : Int) + (k : Int) - 1) / 64 = (B : Int) := by omega
  have ab : A ≤ B := by omega
  have b1 : B < 64 := by omega
  clear h hs hA hB
  go_enter Tryz.func132, Tryz.ntmps132
  go_wp2_with fail
  go_loopw [6] (fun a wr => ∃ (i : Nat) (g' : Gs), A ≤ i ∧ i ≤ B + 1 ∧ a = .int .i64 (i : Int) ∧ Lay wr q n t g' f ∧ Shed A i g g' f ∧ Newer w.heap.size g g' ∧ Fr q g w wr) (fun a _ => B + 1 - (intOf a).toNat)
  case atStart => exact ⟨A, g, by omega, by omega, rfl, HL0.out, ⟨fun _ _ _ => rfl, fun i _ h1 h2 => by omega⟩, Newer.refl _ _, Fr.refl _ _ _⟩
  case round =>
    obtain ⟨i, g', i0, i1, rfl, hl, hsh, hnw, hfr⟩ := hrel
    have HL := Lib.hid hl
    have HD := Lib.hid hsh
    have HN := Lib.hid hnw
    have HF := Lib.hid hfr
    clear hl hsh hnw hfr HL0
    by_cases hlt : i ≤ B
    · have d : decide ((i : Int) ≤ (B : Int)) = true := by simp; omega
      have hi64 : i < 64 := by omega
      have hgs : (g' i).isSome = true := by rw [HD.out.far i hi64 (by omega)]; exact HS.out i i0 hlt
      obtain ⟨b, hgi⟩ := Option.isSome_iff_exists.1 hgs
      have cp := HL.out.cp hi64
      rw [hgi, ptr_some] at cp
      have fz := HL.out.blk.frozen (2 + i)
      have HLF := Lib.hid (HL.out.leaf i b hi64 hgi)
      have hq := lw_eql' f i wr
      cases hlf : lfB f i with
      | false =>
        rw [hlf] at hq
        have HX := Lib.hid hlf
        have HGI := Lib.hid hgi
        clear hgs hgi hlf
        go_wp2_with (refine wpList_load_row rfl 212 (.tmp 24) rfl b rfl 212 (lw f i).toArray (0, 0) _ HLF.out Tryz.underlying212 rfl (lw_info f i) ?_)
        go_roundw
        case rel =>
          refine ⟨i + 1, upg g' i none, by omega, by omega, by go_num, HL.out.drop HX.out, ⟨fun j hj hn => ?_, fun j hj h1 h2 => ?_⟩, HN.out.trans (newer_drop w.heap.size i g') (Nat.le_refl _), HF.out.trans (Fr.ofq (g := g') (grown_set _ _ _ _)) HN.out⟩
          · unfold upg; rw [if_neg (by omega)]; exact HD.out.far j hj (by omega)
          · unfold upg
            by_cases e : j = i
            · rw [if_pos e, e, HX.out]; rfl
            · rw [if_neg e]; exact HD.out.near j hj h1 (by omega)
        case measure => simp [intOf]; omega
      | true =>
        rw [hlf] at hq
        have HX := Lib.hid hlf
        have HGS := Lib.hid hgs
        clear hgs hgi hlf
        go_wp2_with (refine wpList_load_row rfl 212 (.tmp 24) rfl b rfl 212 (lw f i).toArray (0, 0) _ HLF.out Tryz.underlying212 rfl (lw_info f i) ?_)
        go_roundw
        case rel =>
          refine ⟨i + 1, g', by omega, by omega, by go_num, HL.out, ⟨fun j hj hn => HD.out.far j hj (by omega), fun j hj h1 h2 => ?_⟩, HN.out, HF.out⟩
          by_cases e : j = i
          · rw [e, HX.out]; exact HGS.out
          · exact HD.out.near j hj h1 (by omega)
        case measure => simp [intOf]; omega
    · obtain rfl : i = B + 1 := by omega
      have d : decide (((B + 1 : Nat) : Int) ≤ (B : Int)) = false := by simp; omega
      go_wp2
      exact bodyPost_end (results_none rfl _ _ _) rfl ⟨g', rfl, HL.out, HD.out, HN.out, HF.out⟩
end
end Go.Proofs.YtckcgaliphpgeaaGreatDoor.Ra

/-
  What makes and changes a map of pages: contracts that the claimed proofs use.
-/
namespace Go.Proofs.YtckcgaliphpgeaaGreatDoor.Ra
set_option maxRecDepth 100000
open Go.RowKit

/-- A map of pages: its memory, its leaves, its numbers. -/
structure Mp (w : World) (q : Nat) (n t : Int) (g : Gs) (f : Ws) : Prop where
  lay : Lay w q n t g f
  kept : Kept g f
  st : St n t f
theorem Mp.below {w w' : World} {q : Nat} {n t : Int} {g : Gs} {f : Ws} (h : Mp w q n t g f) (hb : Below w.heap.size w w') : Mp w' q n t g f := ⟨h.lay.below hb, h.kept, h.st⟩
def nt (E t : Int) : Int := if E = 0 then nx t else t
def nf (E : Int) (f' f : Ws) : Ws := if E = 0 then f' else f

/-! ### Leaves behind a change -/
theorem lfB_far {f : Ws} {p k i : Nat} {x : Int} (h : ∀ m, p ≤ m → m < p + k → m / 64 ≠ i) : lfB (fill f p k x) i = lfB f i := by
  have : ∀ j, j < 64 → fill f p k x (64 * i + j) = f (64 * i + j) := fun j hj => by
    unfold fill; rw [if_neg (fun hh => h _ hh.1 hh.2 (by omega))]
  cases hb : lfB f i
  · exact lfB_no.2 (fun j hj => by rw [this j hj]; exact lfB_no.1 hb j hj)
  · obtain ⟨j, hj, hn⟩ := lfB_iff.1 hb
    exact lfB_iff.2 ⟨j, hj, by rw [this j hj]; exact hn⟩
theorem kept_set {g g' : Gs} {f : Ws} {p k : Nat} {x : Int} (h : Kept g f) (hg : Grew p k g g') (hx : x ≠ 0) : Kept g' (fill f p k x) := fun i hi => by
  by_cases hh : ∀ m, p ≤ m → m < p + k → m / 64 ≠ i
  · rw [hg.far i hi hh, lfB_far hh]; exact h i hi
  · have ⟨m, h1, h2, h3⟩ : ∃ m, p ≤ m ∧ m < p + k ∧ m / 64 = i := by
      apply Classical.byContradiction; intro hc; exact hh (fun m a b c => hc ⟨m, a, b, c⟩)
    rw [← h3, hg.near m h1 h2]
    exact (lfB_iff.2 ⟨m % 64, by omega, by rw [show 64 * (m / 64) + m % 64 = m by omega]; unfold fill; rw [if_pos ⟨h1, h2⟩]; exact hx⟩).symm
theorem kept_clr {g g1 g2 : Gs} {f : Ws} {p k : Nat} (h : Kept g f) (hk : 1 ≤ k) (hg : Grew p k g g1) (hs : Shed (p / 64) ((p + k - 1) / 64 + 1) g1 g2 (fill f p k 0)) : Kept g2 (fill f p k 0) := fun i hi => by
  by_cases hh : p / 64 ≤ i ∧ i < (p + k - 1) / 64 + 1
  · exact hs.near i hi hh.1 hh.2
  · have hf : ∀ m, p ≤ m → m < p + k → m / 64 ≠ i := fun m h1 h2 => by omega
    rw [hs.far i hi hh, hg.far i hi hf, lfB_far hf]; exact h i hi
theorem grew_near {g g1 : Gs} {p k i : Nat} (hg : Grew p k g g1) (hk : 1 ≤ k) (h1 : p / 64 ≤ i) (h2 : i ≤ (p + k - 1) / 64) : (g1 i).isSome = true := by
  have := hg.near (max p (64 * i)) (by omega) (by omega)
  rwa [show max p (64 * i) / 64 = i by omega] at this

/-! ### Set -/
section
variable {w : World} {q : Nat} {n t : Int} {g : Gs} {f : Ws}
theorem set_any (p k a b c d : Int) (h : Mp w q n t g f) (ip : I64 p) (ia : I64 a) (ib : I64 b) (ic : I64 c) (id : I64 d) :
    Calls Tryz.prog 83 #[.pointer (some ⟨q, 0, none⟩), .int .i64 p, .int .i64 k, .agg #[.int .i64 a, .int .i64 b, .int .i64 c, .int .i64 d]] w fun e w' =>
      ∃ g', e = .returned (.int .i64 (setE n p k a b c d)) ∧ Mp w' q n (nt (setE n p k a b c d) t) g' (nf (setE n p k a b c d) (setF t f p k a b c d) f) ∧ Newer w.heap.size g g' ∧ Fr q g w w' := by
  have B0 := Lib.hid (up_alloc (Below.refl _ w) (.cells #[.int .i64 a, .int .i64 b, .int .i64 c, .int .i64 d] 44))
  have K0 : Hid (Blk (w.alloc (.cells #[.int .i64 a, .int .i64 b, .int .i64 c, .int .i64 d] 44)) w.heap.size [.int .i64 a, .int .i64 b, .int .i64 c, .int .i64 d] 44) := heap_alloc_last w _
  have HM := Lib.hid h
  have HM0 := Lib.hid (h.below B0.out)
  obtain ⟨x0, x1⟩ := nx_bd t
  have HWO := Lib.hid (fun W => wordOf_any a b c d (nx t) W ia ib ic id x0 x1)
  have HIP := Lib.hid ip
  clear h ip ia ib ic id
  cases hok : okB a b c d with
  | false =>
    have e : setE n p k a b c d = 11 := by unfold setE; rw [hok]; simp
    have e2 : wordV a b c d (nx t) = .tuple #[.int .u64 0, .bool false] := by unfold wordV; rw [hok]; rfl
    rw [e]
    rw [e2] at HWO
    clear e e2 hok
    go_enter Tryz.func83, Tryz.ntmps83
    go_wp2_with fail
    generalize w.alloc (.cells #[.int .i64 a, .int .i64 b, .int .i64 c, .int .i64 d] 44) = W0 at B0 K0 HM0 ⊢
    refine (next_any HM0.out.lay HM0.out.st).mono ?_
    rintro e w1 ⟨rfl, rfl⟩
    have c0 : W0.cell? ⟨w.heap.size, 0, none⟩ = some (.int .i64 a) := K0.out.cell
    have c1 : W0.cell? ⟨w.heap.size, 1, none⟩ = some (.int .i64 b) := K0.out.cell
    have c2 : W0.cell? ⟨w.heap.size, 2, none⟩ = some (.int .i64 c) := K0.out.cell
    have c3 : W0.cell? ⟨w.heap.size, 3, none⟩ = some (.int .i64 d) := K0.out.cell
    go_wp2_with fail
    refine (HWO.out _).mono ?_
    rintro e w2 ⟨rfl, b2⟩
    have B2 := Lib.hid (up_trans B0.out b2)
    clear b2
    go_wp2
    go_ret
    exact ⟨g, rfl, HM.out.below B2.out, Newer.refl _ _, Fr.of B2.out⟩
  | true =>
    have e2 : wordV a b c d (nx t) = .tuple #[.int .u64 (wd a b c d (nx t)), .bool true] := by unfold wordV; rw [hok]; rfl
    rw [e2] at HWO
    obtain ⟨wb, wn, _⟩ := wd_bd hok x0 x1
    clear e2
    cases hin : inB n p k with
    | false =>
      have e : setE n p k a b c d = 11 := by unfold setE; rw [hin]; simp
      rw [e]
      clear e hok wb wn
      generalize wd a b c d (nx t) = X at HWO
      go_enter Tryz.func83, Tryz.ntmps83
      go_wp2_with fail
      generalize w.alloc (.cells #[.int .i64 a, .int .i64 b, .int .i64 c, .int .i64 d] 44) = W0 at B0 K0 HM0 ⊢
      refine (next_any HM0.out.lay HM0.out.st).mono ?_
      rintro e w1 ⟨rfl, rfl⟩
      have c0 : W0.cell? ⟨w.heap.size, 0, none⟩ = some (.int .i64 a) := K0.out.cell
      have c1 : W0.cell? ⟨w.heap.size, 1, none⟩ = some (.int .i64 b) := K0.out.cell
      have c2 : W0.cell? ⟨w.heap.size, 2, none⟩ = some (.int .i64 c) := K0.out.cell
      have c3 : W0.cell? ⟨w.heap.size, 3, none⟩ = some (.int .i64 d) := K0.out.cell
      go_wp2_with fail
      refine (HWO.out _).mono ?_
      rintro e w2 ⟨rfl, b2⟩
      have B2 := Lib.hid (up_trans B0.out b2)
      have HM2 := Lib.hid (HM.out.below B2.out)
      clear b2 c0 c1 c2 c3
      go_wp2_with fail
      refine (has_any p k HM2.out.lay HM2.out.st HIP.out).mono ?_
      rw [hin]
      rintro e w3 ⟨rfl, rfl⟩
      go_wp2
      go_ret
      exact ⟨g, rfl, HM2.out, Newer.refl _ _, Fr.of B2.out⟩
    | true =>
      have e : setE n p k a b c d = 0 := by unfold setE; rw [hin, hok]; simp
      have HST := Lib.hid (HM.out.st.set e)
      have e3 : nt 0 t = nx t := rfl
      have e4 : nf 0 (setF t f p k a b c d) f = setF t f p k a b c d := rfl
      rw [e, e3, e4]
      obtain ⟨k1, p0, k2⟩ := inB_iff.1 hin
      have n1 := HM.out.st.n1
      obtain ⟨P, rfl⟩ : ∃ P : Nat, p = (P : Int) := ⟨p.toNat, by omega⟩
      obtain ⟨K, rfl⟩ : ∃ K : Nat, k = (K : Int) := ⟨k.toNat, by omega⟩
      unfold setF at HST ⊢
      simp only [Int.toNat_natCast] at HST ⊢
      have hPK : P + K ≤ 4096 := by omega
      clear e e3 e4 hok wb
      generalize wd a b c d (nx t) = X at HWO HST wn ⊢
      have HWN := Lib.hid wn
      clear wn
      go_enter Tryz.func83, Tryz.ntmps83
      go_wp2_with fail
      generalize w.alloc (.cells #[.int .i64 a, .int .i64 b, .int .i64 c, .int .i64 d] 44) = W0 at B0 K0 HM0 ⊢
      refine (next_any HM0.out.lay HM0.out.st).mono ?_
      rintro e w1 ⟨rfl, rfl⟩
      have c0 : W0.cell? ⟨w.heap.size, 0, none⟩ = some (.int .i64 a) := K0.out.cell
      have c1 : W0.cell? ⟨w.heap.size, 1, none⟩ = some (.int .i64 b) := K0.out.cell
      have c2 : W0.cell? ⟨w.heap.size, 2, none⟩ = some (.int .i64 c) := K0.out.cell
      have c3 : W0.cell? ⟨w.heap.size, 3, none⟩ = some (.int .i64 d) := K0.out.cell
      go_wp2_with fail
      refine (HWO.out _).mono ?_
      rintro e w2 ⟨rfl, b2⟩
      have B2 := Lib.hid (up_trans B0.out b2)
      have HM2 := Lib.hid (HM.out.below B2.out)
      clear b2 c0 c1 c2 c3
      go_wp2_with fail
      refine (has_any (P : Int) (K : Int) HM2.out.lay HM2.out.st HIP.out).mono ?_
      rw [hin]
      rintro e w3 ⟨rfl, rfl⟩
      go_wp2_with fail
      refine (write_any P K X HM2.out.lay hPK).mono ?_
      rintro e w4 ⟨g', rfl, l4, gr4, n4, f4⟩
      have c1 := l4.c1
      have fz := l4.blk.frozen 1
      have L4 := Lib.hid l4
      have G4 := Lib.hid gr4
      have N4 : Hid (Newer w.heap.size g g') := (Newer.refl w.heap.size g).trans n4 B2.out.size
      have F4 : Hid (Fr q g w w4) := (Fr.of (q := q) (g := g) B2.out).trans f4 (Newer.refl _ _)
      clear l4 gr4 n4 f4
      go_wp2
      go_ret
      exact ⟨g', rfl, ⟨L4.out.stamp _, kept_set HM.out.kept G4.out HWN.out, HST.out⟩, N4.out, F4.out.trans (Fr.ofq (g := g') (grown_set _ _ _ _)) N4.out⟩
theorem clr_any (p k : Int) (h : Mp w q n t g f) (ip : I64 p) :
    Calls Tryz.prog 86 #[.pointer (some ⟨q, 0, none⟩), .int .i64 p, .int .i64 k] w fun e w' =>
      ∃ g', e = .returned (.int .i64 (clrE n f p k)) ∧ Mp w' q n (nt (clrE n f p k) t) g' (nf (clrE n f p k) (clrF f p k) f) ∧ Newer w.heap.size g g' ∧ Fr q g w w' := by
  have HM := Lib.hid h
  have HHA := Lib.hid (has_any p k h.lay h.st ip)
  clear ip
  cases hin : inB n p k with
  | false =>
    have e : clrE n f p k = 11 := by unfold clrE; rw [hin]; rfl
    rw [e]
    rw [hin] at HHA
    clear e h hin
    go_enter Tryz.func86, Tryz.ntmps86
    go_wp2_with (go_at_call 128; refine HHA.out.mono ?_; rintro e w' ⟨rfl, rfl⟩)
    go_ret
    exact ⟨g, rfl, HM.out, Newer.refl _ _, Fr.refl _ _ _⟩
  | true =>
    have e : clrE n f p k = if allB f p.toNat k.toNat = true then 0 else 16 := by unfold clrE; rw [hin]; rfl
    rw [e]
    rw [hin] at HHA
    obtain ⟨k1, p0, k2⟩ := inB_iff.1 hin
    have n1 := h.st.n1
    obtain ⟨P, rfl⟩ : ∃ P : Nat, p = (P : Int) := ⟨p.toNat, by omega⟩
    obtain ⟨K, rfl⟩ : ∃ K : Nat, k = (K : Int) := ⟨k.toNat, by omega⟩
    have HST := Lib.hid (h.st.clr (p := (P : Int)) (k := (K : Int)))
    unfold clrF at HST ⊢
    simp only [Int.toNat_natCast] at HST ⊢
    have hPK : P + K ≤ 4096 := by omega
    have hK1 : 1 ≤ K := by omega
    obtain ⟨N, hN⟩ : ∃ N : Nat, n = (N : Int) := ⟨n.toNat, by omega⟩
    have hPN : P + K ≤ N := by omega
    have HNN := Lib.hid hN
    have HW : Hid (∀ m : Nat, m < N → Calls Tryz.prog 91 #[.pointer (some ⟨q, 0, none⟩), .int .i64 (m : Int)] w fun e w' => e = .returned (.int .u64 (f m)) ∧ w = w') := fun m hm => by
      have := word_any (m : Int) h.lay h.st ⟨by omega, by omega⟩
      rwa [wAt_in (by omega)] at this
    obtain ⟨E, hE⟩ : ∃ E : Int, (if allB f P K = true then 0 else 16) = E := ⟨_, rfl⟩
    rw [hE]
    have HE := Lib.hid hE
    clear e h hin hN k2 n1 p0 k1 hE
    go_enter Tryz.func86, Tryz.ntmps86
    go_wp2_with (go_at_call 128; refine HHA.out.mono ?_; rintro e w' ⟨rfl, rfl⟩)
    go_loop [7] (fun a => ∃ j : Nat, j ≤ K ∧ a = .int .i64 ((P + j : Nat) : Int) ∧ allB f P j = true) (fun a => P + K - (intOf a).toNat)
    case atStart => exact ⟨0, by omega, rfl, rfl⟩
    case round =>
      obtain ⟨j, hj, rfl, hall⟩ := hrel
      have HA := Lib.hid hall
      clear hall
      obtain ⟨m, hm⟩ : ∃ m, P + j = m := ⟨_, rfl⟩
      have HMM := Lib.hid hm
      rw [hm]
      by_cases hlt : j < K
      · have d : decide ((m : Int) < (P : Int) + (K : Int)) = true := by simp; omega
        have HW1 := Lib.hid (HW.out m (by omega))
        have m1 : m < 4096 := by omega
        have hs : allB f P (j + 1) = (allB f P j && (f (P + j) != 0)) := rfl
        rw [HA.out, hm] at hs
        have HS := Lib.hid hs
        obtain ⟨x, hx⟩ : ∃ x, f m = x := ⟨_, rfl⟩
        rw [hx] at HW1 HS
        have HX := Lib.hid hx
        clear hm hs hx
        by_cases h0 : x = 0
        · have e : allB f P K = false := allB_no hlt (by rw [HMM.out, HX.out, h0])
          subst h0
          obtain rfl : E = 16 := by rw [← HE.out, e]; rfl
          clear e
          go_wp2_with (go_at_call 91; refine HW1.out.mono ?_; rintro e w' ⟨rfl, rfl⟩)
          go_ret
          exact ⟨g, rfl, HM.out, Newer.refl _ _, Fr.refl _ _ _⟩
        · have d2 : (x == 0) = false := by simpa using h0
          have d3 : (x != 0) = true := by simpa using h0
          rw [d3] at HS
          clear d3 h0
          go_wp2_with (go_at_call 91; refine HW1.out.mono ?_; rintro e w' ⟨rfl, rfl⟩)
          go_round
          case rel => exact ⟨j + 1, by omega, by rw [← HMM.out]; go_num, by rw [HS.out]; rfl⟩
          case measure => have := HMM.out; simp [intOf]; omega
      · obtain rfl : j = K := by omega
        have d : decide ((m : Int) < (P : Int) + (j : Int)) = false := by simp; omega
        obtain rfl : E = 0 := by rw [← HE.out, HA.out]; rfl
        clear hm
        go_wp2_with fail
        refine (write_any P j 0 HM.out.lay hPK).mono ?_
        rintro e w4 ⟨g1, rfl, l4, gr4, n4, f4⟩
        have L4 := Lib.hid l4
        have G4 := Lib.hid gr4
        have N4 := Lib.hid n4
        have F4 := Lib.hid f4
        clear l4 gr4 n4 f4
        go_wp2_with fail
        refine (drop_any P j L4.out hPK hK1 (fun i h1 h2 => grew_near G4.out hK1 h1 h2)).mono ?_
        rintro e w5 ⟨g2, rfl, l5, s5, n5, f5⟩
        have c1 := l5.c1
        have fz := l5.blk.frozen 1
        have L5 := Lib.hid l5
        have S5 := Lib.hid s5
        have N5 : Hid (Newer w.heap.size g g2) := N4.out.trans n5 F4.out.size
        have F5 : Hid (Fr q g w w5) := F4.out.trans f5 N4.out
        have HNX := Lib.hid (next_any l5 ⟨HM.out.st.n0, HM.out.st.n1, HM.out.st.t0, HM.out.st.t1, HST.out.wb, HST.out.out⟩)
        clear l5 s5 n5 f5
        go_wp2_with (go_at_call 126; refine HNX.out.mono ?_; rintro e w' ⟨rfl, rfl⟩)
        go_ret
        exact ⟨g2, rfl, ⟨L5.out.stamp _, kept_clr HM.out.kept hK1 G4.out S5.out, HST.out⟩, N5.out, F5.out.trans (Fr.ofq (g := g2) (grown_set _ _ _ _)) N5.out⟩
end
end Go.Proofs.YtckcgaliphpgeaaGreatDoor.Ra

/-
  How a map of pages is made, and copied: contracts that the claimed proofs use.
-/
namespace Go.Proofs.YtckcgaliphpgeaaGreatDoor.Ra
set_option maxRecDepth 100000
open Go.RowKit

theorem new_no (n : Int) (w : World) (h : ¬ (0 ≤ n ∧ n ≤ 4096)) : Calls Tryz.prog 72 #[.int .i64 n] w fun e w' => e = .returned (.tuple #[.pointer none, .int .i64 11]) ∧ w = w' := by
  by_cases h0 : n < 0
  · have d0 : decide (n < 0) = true := by simpa using h0
    go_enter Tryz.func72, Tryz.ntmps72
    go_wp2
    go_ret2
    exact ⟨rfl, rfl⟩
  · have d0 : decide (n < 0) = false := by simpa using h0
    have d1 : decide (4096 < n) = true := by simp; omega
    clear h
    go_enter Tryz.func72, Tryz.ntmps72
    go_wp2
    go_ret2
    exact ⟨rfl, rfl⟩
def g0 : Gs := fun _ => none
def f0 : Ws := fun _ => 0
theorem lay_new {w : World} {q : Nat} {n : Int} (h : Blk w q (mc n 0 g0) 171) : Lay w q n 0 g0 f0 := ⟨h, fun _ _ _ e => (by cases e), fun _ _ _ _ _ => rfl, fun _ _ _ _ _ e => (by cases e)⟩
theorem kept_new : Kept g0 f0 := fun _ _ => (lfB_no.2 (fun _ _ => rfl)).symm
theorem zero171 (w : World) : (zeroValue 171).run Tryz.prog w = .ok (.agg (mc 0 0 g0).toArray) w :=
  (zero_of_info (P := Tryz.prog) (t := 171) (v := .agg (mc 0 0 g0).toArray) (n := 66) (by kernel_rfl)).1 w
theorem zero_new : ∃ Z : Array Value, (∀ w, (zeroValue 171).run Tryz.prog w = .ok (.agg Z) w) ∧ (¬ Z = #[]) ∧ ∀ n : Int, Z.setIfInBounds 0 (.int .i64 n) = (mc n 0 g0).toArray :=
  ⟨(mc 0 0 g0).toArray, zero171, fun h => (by have := congrArg Array.size h; rw [List.size_toArray] at this; cases this), fun _ => rfl⟩
theorem new_yes (n : Int) (w : World) (h0 : 0 ≤ n) (h1 : n ≤ 4096) :
    Calls Tryz.prog 72 #[.int .i64 n] w fun e w' => e = .returned (.tuple #[.pointer (some ⟨w.heap.size, 0, none⟩), .int .i64 0]) ∧ Mp w' w.heap.size n 0 g0 f0 ∧ Below w.heap.size w w' := by
  have d0 : decide (n < 0) = false := by simpa using h0
  have d1 : decide (4096 < n) = false := by simpa using h1
  have HK : Hid (Blk (w.alloc (.cells (mc n 0 g0).toArray 171)) w.heap.size (mc n 0 g0) 171) := heap_alloc_last w _
  have HB := Lib.hid (up_alloc (Below.refl _ w) (.cells (mc n 0 g0).toArray 171))
  have HS := Lib.hid (St.new h0 h1)
  obtain ⟨Z, hz, hne, hset⟩ := zero_new
  have hs := hset n
  clear hset
  go_enter Tryz.func72, Tryz.ntmps72
  go_wp2
  go_ret2
  exact ⟨rfl, ⟨lay_new HK.out, kept_new, HS.out⟩, HB.out⟩

/-! ### Clone -/
theorem mc_len (n t : Int) (g : Gs) : (mc n t g).length = 66 := by unfold mc; simp [ps_len]
theorem mc_info (n t : Int) (g : Gs) : (Tryz.prog.info? 171).map (·.size) = some (mc n t g).toArray.size := by rw [List.size_toArray, mc_len]; kernel_rfl
theorem mc_one (n t : Int) (g : Gs) : (mc n t g).toArray.all (·.oneCell') = true := all_oneCell_toArray fun v hv => by
  unfold mc at hv
  rcases List.mem_cons.1 hv with rfl | hv
  · rfl
  · rcases List.mem_cons.1 hv with rfl | hv
    · rfl
    · unfold ps at hv
      obtain ⟨i, _, rfl⟩ := List.mem_map.1 hv
      rfl
theorem lw_one (f : Ws) (i : Nat) : (lw f i).toArray.all (·.oneCell') = true := all_oneCell_toArray fun v hv => by
  unfold lw at hv
  obtain ⟨i, _, rfl⟩ := List.mem_map.1 hv
  rfl
/-- A copy at c, of which the first k leaves are its own. -/
structure Half (wr : World) (B c : Nat) (n t : Int) (g h : Gs) (f : Ws) (k : Nat) : Prop where
  blk : Blk wr c (mc n t h) 171
  todo : ∀ i, k ≤ i → i < 64 → h i = g i
  done : ∀ i b, i < k → h i = some b → B ≤ b ∧ Blk wr b (lw f i) 212
  same : ∀ i, i < k → (h i).isSome = (g i).isSome
  one : ∀ i j b, i < k → j < k → h i = some b → h j = some b → i = j
theorem Half.skip {wr : World} {B c : Nat} {n t : Int} {g h : Gs} {f : Ws} {k : Nat} (H : Half wr B c n t g h f k) (hk : k < 64) (hg : g k = none) : Half wr B c n t g h f (k + 1) := by
  have hn : h k = none := by rw [H.todo k (Nat.le_refl _) hk, hg]
  refine ⟨H.blk, fun i h1 h2 => H.todo i (by omega) h2, fun i b hi e => ?_, fun i hi => ?_, fun i j b hi hj e e' => ?_⟩
  · by_cases ek : i = k
    · rw [ek, hn] at e; cases e
    · exact H.done i b (by omega) e
  · by_cases ek : i = k
    · rw [ek, hn, hg]
    · exact H.same i (by omega)
  · by_cases ek : i = k
    · rw [ek, hn] at e; cases e
    · by_cases ek' : j = k
      · rw [ek', hn] at e'; cases e'
      · exact H.one i j b (by omega) (by omega) e e'
theorem Half.took {wr : World} {B c : Nat} {n t : Int} {g h : Gs} {f : Ws} {k b : Nat} (H : Half wr B c n t g h f k) (hk : k < 64) (hg : g k = some b) (hB : B ≤ wr.heap.size) :
    Half ((wr.setCell ⟨c, 2 + k, .none⟩ (.pointer (some ⟨wr.heap.size, 0, .none⟩))).alloc (.cells (lw f k).toArray 212)) B c n t g (upg h k (some wr.heap.size)) f (k + 1) := by
  have hsz : (wr.setCell ⟨c, 2 + k, .none⟩ (.pointer (.some ⟨wr.heap.size, 0, .none⟩))).heap.size = wr.heap.size := by simp [World.setCell]
  have hnew : Blk ((wr.setCell ⟨c, 2 + k, .none⟩ (.pointer (.some ⟨wr.heap.size, 0, .none⟩))).alloc (.cells (lw f k).toArray 212)) wr.heap.size (lw f k) 212 := by
    have := heap_alloc_last (wr.setCell ⟨c, 2 + k, .none⟩ (.pointer (.some ⟨wr.heap.size, 0, .none⟩))) (.cells (lw f k).toArray 212)
    rwa [hsz] at this
  refine ⟨?_, fun i h1 h2 => ?_, fun i b hi e => ?_, fun i hi => ?_, fun i j b hi hj e e' => ?_⟩
  · have := (H.blk.set (i := 2 + k) (ptr (.some wr.heap.size))).alloc (.cells (lw f k).toArray 212)
    rwa [mc_set] at this
  · unfold upg; rw [if_neg (by omega)]; exact H.todo i (by omega) h2
  · unfold upg at e
    by_cases ek : i = k
    · rw [if_pos ek] at e; obtain rfl := Option.some.inj e; subst ek; exact ⟨hB, hnew⟩
    · rw [if_neg ek] at e
      obtain ⟨h1, h2⟩ := H.done i b (by omega) e
      exact ⟨h1, (h2.far _ (h2.ne H.blk (by decide)).symm).alloc _⟩
  · unfold upg
    by_cases ek : i = k
    · rw [if_pos ek, ek, hg]; rfl
    · rw [if_neg ek]; exact H.same i (by omega)
  · unfold upg at e e'
    by_cases ek : i = k
    · by_cases ek' : j = k
      · omega
      · rw [if_pos ek] at e; rw [if_neg ek'] at e'
        obtain rfl := Option.some.inj e
        have := (H.done j _ (by omega) e').2.lt; omega
    · rw [if_neg ek] at e
      by_cases ek' : j = k
      · rw [if_pos ek'] at e'
        obtain rfl := Option.some.inj e'
        have := (H.done i _ (by omega) e).2.lt; omega
      · rw [if_neg ek'] at e'; exact H.one i j b (by omega) (by omega) e e'
theorem Half.lay {wr : World} {B c : Nat} {n t : Int} {g h : Gs} {f : Ws} (H : Half wr B c n t g h f 64) (hz : ∀ i, i < 64 → g i = .none → ∀ j, j < 64 → f (64 * i + j) = 0) : Lay wr c n t h f :=
  ⟨H.blk, fun i b hi e => (H.done i b hi e).2, fun i hi e => hz i hi (by have := H.same i hi; rw [e] at this; cases hg : g i with
    | none => rfl
    | some b => rw [hg] at this; cases this), H.one⟩
section
variable {w : World} {q : Nat} {n t : Int} {g : Gs} {f : Ws}
end
end Go.Proofs.YtckcgaliphpgeaaGreatDoor.Ra
