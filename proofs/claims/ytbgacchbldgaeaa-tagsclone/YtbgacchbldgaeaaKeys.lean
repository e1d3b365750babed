/-
  The library's iterator of a map's keys, and the list that is made of it: contracts that the claimed proofs use.
-/
import Derived.Test.YtbgacchbldgaeaaTells
import Derived.RangeFuncNested
import Derived.RangeFuncBox
import Derived.RangeFuncBound
import Derived.RangeFuncCalls
import Derived.RangeFuncLeaves
import Derived.Shelf.Abstract
import Derived.Shelf.RegionOpen
import Derived.OwnWalkIn
import Derived.TacticsInMore
import Derived.LoopNIn
import Derived.LoopIn
namespace Go.Proofs.Ytbgacchbldgaeaa
open Go.RowKit Go.Maps Go.Shelf

attribute [local go_sem] Oper.semAt_some

/-- How a row is handed to a loop's body as a place. -/
abbrev encP (r : Tr) : Array Value := #[pv r.p r.s]
theorem rg_iter {w : World} {b r : Nat} {L T : List Tr} (h : Rg w b r L T) : ∃ o : Obj, w.heap[r]? = some o ∧ o.isWalk = true := by
  obtain ⟨D, left, cnt, ⟨es, clock, since, seen, c0, hb, F, hs, hD, hi, rest⟩, _⟩ := h
  exact ⟨_, hi, rfl⟩
/-- What holds between rounds within the keys' iterator. -/
structure Kw (W : World) (b r : Nat) (L A T : List Tr) : Prop where
  rg : Rg W b r L T
  perm : (A ++ T).Perm L
  ord : T.Pairwise ltR
  sub : ∀ x ∈ T, x ∈ L
theorem Kw.step {W W' : World} {b r : Nat} {L A T : List Tr} {x : Tr} (h : Kw W b r L A T) (hx : x ∈ T) (hr : Rg W' b r L (del T x.p x.s)) : Kw W' b r L (A ++ [x]) (del T x.p x.s) := by
  refine ⟨hr, ?_, h.ord.sublist List.filter_sublist, fun y hy => h.sub y (mem_del.1 hy).1⟩
  have h1 := perm_del h.ord hx
  rw [List.append_assoc]
  exact (List.Perm.append_left A h1.symm).trans h.perm
set_option maxRecDepth 100000 in
set_option maxHeartbeats 4000000 in
theorem keys_stops (n : Nat) (hn : 1 ≤ n) (Bm b : Nat) (L : List Tr) (w : World) (hm : w.cell? ⟨Bm, 0, none⟩ = some (.map (some b))) (hmp : Mp w b L) (hw : Wf L) :
    SeqStopsK Fence.wide n Try.prog 47 #[.pointer (some ⟨Bm, 0, none⟩)] encP KeepsWalks (fun ys => ys.Perm L) (fun _ => True) L.length w := fun l J Jx W hW hJ hJx hY h0 => by
  have c1 := (hW.cell (p := ⟨Bm, 0, none⟩) (World.block_lt_of_cell? w _ hm)).trans hm
  have HM := Lib.hid (hmp.below hW)
  have HW := Lib.hid hw
  have HY := Lib.hid hY
  have HJ := Lib.hid hJ
  have H0 := Lib.hid h0
  clear hm hmp hw hY hJ h0 hW hJx
  refine callsIn_of_wp Try.func47 rfl trivial ?_ rfl
  simp only [Try.ntmps47, List.size_toArray, List.length_cons, List.length_nil, Nat.reduceAdd, Nat.reduceSub, Array.replicate_succ, Array.replicate_zero, List.push_toArray, List.append_toArray, List.nil_append, List.cons_append]
  gi_wp2_with (first
    | (gi_at_range; refine in_range _ rfl _ rfl rfl HM.out ?_; intro w0 hr0 hb0 hs0)
    | gi_in)
  go_frame
  gi_loopw [3] (fun _ wr => ∃ A T, Kw wr b W.heap.size L A T ∧ J A wr) (fun _ wr => wr.rangeLeft b W.heap.size)
  case atStart => exact ⟨[], L, ⟨hr0.out, List.Perm.refl _, HW.out.ord, fun _ hx => hx⟩, HJ.out [] W w0 none H0.out (grown_below hb0.out) (fun r e => by cases e)⟩
  case round =>
    obtain ⟨A, T, hk, hjs⟩ := hrel
    have HK := Lib.hid hk
    have HJs := Lib.hid hjs
    clear hk hjs
    gi_wp2_with (first
      | (gi_at_next; refine in_next _ rfl _ rfl rfl HK.out.rg HW.out HK.out.sub ?_ ?_)
      | gi_in)
    · intro h0
      gi_wp2_with fail
      go_end0
      have hp : A.Perm L := by have := HK.out.perm; rw [h0.out, List.append_nil] at this; exact this
      exact ⟨⟨_, rfl⟩, .inl ⟨A, hp, HJs.out⟩⟩
    · intro x w2 hx hr2 hlt hg2 hs2 hen
      have hj2 : J A w2 := HJ.out A wr w2 (some W.heap.size) HJs.out hg2.out (fun r e => by cases e; exact ⟨Nat.le_refl _, rg_iter HK.out.rg⟩)
      have HK2 := Lib.hid (HK.out.step hx.out hr2.out)
      have hal : A.length < L.length := by
        have h1 := HK.out.perm.length_eq
        have h2 : 0 < T.length := List.length_pos_of_mem hx.out
        rw [List.length_append] at h1
        omega
      have hj3 : J A (w2.alloc (.cells #[.int .i64 x.p, .int .i64 x.s] 24)) := HJ.out A w2 _ none hj2 (grown_below (up_alloc (Below.refl _ _) _)) (fun r e => by cases e)
      have HY1 := Lib.hid (HY.out A x (w2.alloc (.cells #[.int .i64 x.p, .int .i64 x.s] 24)) hj3 hal)
      have hgt := Lib.hid (hr2.out.below (up_alloc (Below.refl _ w2) (.cells #[.int .i64 x.p, .int .i64 x.s] 24)))
      clear hr2 hg2 hs2 hj2 hj3
      obtain ⟨p, s, k, z⟩ := x
      simp only [] at HY1 hgt hen
      obtain ⟨fn, tmps, assign, body, hy, hR⟩ := HY1.out
      have HR := Lib.hid hR
      clear hR HY1
      gi_wp2_with fail
      refine HR.out.mono ?_
      rintro e W3 (⟨rfl, hJ3, hk3⟩ | ⟨rfl, hJx3⟩)
      · have HJ3 := Lib.hid hJ3
        have HG3 := Lib.hid (hgt.out.1.walks hk3)
        have HL3 : Hid (W3.rangeLeft b W.heap.size < wr.rangeLeft b W.heap.size) := by
          show _ < _
          rw [HG3.out.2, hgt.out.2]; exact hlt.out
        clear hJ3 hk3 hy HR hgt
        gi_wp2_with fail
        go_roundw
        case rel => exact ⟨A ++ [⟨p, s, k, z⟩], del T p s, ⟨HG3.out.1, HK2.out.perm, HK2.out.ord, HK2.out.sub⟩, HJ3.out⟩
        case measure => exact HL3.out
      · have HJx3 := Lib.hid hJx3
        clear hJx3 hy HR hgt
        gi_wp2_with fail
        refine bodyPost_ret (results_none rfl _ _ _) rfl ?_
        exact ⟨⟨_, rfl⟩, .inr ⟨_, trivial, HJx3.out⟩⟩

/-! ### A range over an iterator -/
/-- The law of a range over an iterator of rows, at the fence that lets all by; no round leaves early. -/
theorem range_law {g : Operand} {ps : Array Tmp} {assign body : Code} {Q : Exit → Act → World → Prop} {a : Act} {w : World} {gf : Nat} {lb : Array Value} (hg : a.eval g = .func (.func gf) #[] lb)
    (eg : ∀ args w, (callFunc gf args).run Try.prog w = .ok (.enter gf args) w) {encs : Tr → Array Value} {K : World → World → Prop} {S Sp : List Tr → Prop} {N : Nat}
    (hseq : SeqStopsK Fence.wide 2 Try.prog gf lb encs K S Sp N w) (hKt : ∀ {A B C : World}, K A B → K B C → K A C)
    (hKb : ∀ (W : World) (l : Nat) (o o' : Obj), w.heap.size ≤ l → W.heap[l]? = some o → o.isCells = false → o.isWalk = false → K W (W.putObj l o')) (hps : ∀ x, (encs x).size = ps.size)
    (I : List Tr → World → Prop) (hI : OwnFrom w.heap.size I) (h0 : I [] w) (Ax : Tr → Act → World → Prop) (hAx : ∀ x a', OwnFrom w.heap.size (fun (_ : Unit) W => Ax x a' W))
    (hassign : ∀ (l : Nat) (pre : List Tr) (x : Tr) (W : World) (R : Act → World → Prop), I pre W → (∀ a' W', KeepsFrom w.heap.size W W' → K W W' → I pre W' → Ax x a' W' → R a' W') →
      assign.wpIn (Fence.wide.inRound l) 1 Try.prog (Exit.then R (fun _ _ _ => False)) { tmps := (ps.zip (encs x)).foldl (fun t (p, v) => t.setIfInBounds p v) a.tmps, defers := [] } W)
    (hbody : ∀ (l : Nat) (pre : List Tr) (x : Tr) (a' : Act) (W : World), w.heap.size ≤ l → I pre W → Ax x a' W → pre.length < N → body.wpIn (Fence.wide.inRound l) 1 Try.prog (ownPostG w.heap.size K I (fun _ _ _ => False) (pre ++ [x]) W) a' W)
    (hdone : ∀ (D : Nat) (xs : List Tr) (W : World), w.heap.size ≤ D → S xs → I xs W → W.heap[D]? = some (.deferred (some [])) → Q .normal { a with defers := { target := .collected D, args := #[] } :: a.defers } W) :
    (Code.rangeFunc g ps assign body).wp Try.prog Q a w :=
  wpIn_wide.1 (wpIn_rangeFunc_ownH (F := Fence.wide) (n := 3) rfl (by omega) hg trivial eg hseq (fun h k => hKt h k) hKb (Below.refl _ _) hps I (fun _ _ _ => False) hI (fun _ _ _ _ _ hs _ _ => hs) h0 Ax hAx
    hassign (fun l pre x a' W hl _ hi hx hn => hbody l pre x a' W hl hi hx hn) hdone (fun _ _ _ _ _ _ h _ => h.elim))
/-- A change of cells alone. -/
theorem ko_grown {W W' : World} {row : Option Nat} (hg : W.grownBy W' row) (hr : ∀ j, row = some j → ∃ cs t fr, W.heap[j]? = some (.cells cs t fr)) : KeepsOthers W W' := by
  refine ⟨hg.size, fun k o hk ho => ?_⟩
  refine (hg.block k (Array.getElem?_eq_some_iff.1 hk).1 (fun e => ?_)).trans hk
  obtain ⟨cs, t, fr, hc⟩ := hr k e.symm
  rw [hk] at hc; cases hc; cases ho
theorem ko_below {W W' : World} (hb : Below W.heap.size W W') : KeepsOthers W W' := ko_grown (row := none) (grown_below hb) (fun _ e => by cases e)
theorem ko_walks {W W' : World} (h : KeepsOthers W W') : KeepsWalks W W' := ⟨h.size, fun k o hk ho => h.same k o hk (by cases o <;> first | rfl | cases ho)⟩
theorem blk_keeps {W W' : World} {B : Nat} {row : Option Nat} {g : Nat} {vs : List Value} {t : TypeId} (h : Blk W g vs t) (hg : W.grownBy W' row) (hr : ∀ r, row = some r → B ≤ r ∧ ∃ o : Obj, W.heap[r]? = some o ∧ o.isCells = false) : Blk W' g vs t := by
  refine h.of (hg.block g h.lt (fun e => ?_))
  obtain ⟨_, o, ho, hc⟩ := hr g e.symm
  unfold Blk at h; rw [h] at ho; cases ho; cases hc
theorem own_keeps {W W' : World} {B base k : Nat} {e : TypeId} {sz : Nat} {v : Value} {xs : List Value} {row : Option Nat} (h : W.ownsRow base e sz v k xs) (hg : W.grownBy W' row) (hr : ∀ r, row = some r → B ≤ r ∧ ∃ o : Obj, W.heap[r]? = some o ∧ o.isCells = false) : W'.ownsRow base e sz v k xs := by
  refine own_of h (fun j hj => ?_)
  obtain ⟨cur, hc⟩ := own_cells h hj
  refine hg.block j (Array.getElem?_eq_some_iff.1 hc).1 (fun e => ?_)
  obtain ⟨_, o, ho, hn⟩ := hr j e.symm
  rw [hc] at ho; cases ho; cases hn
/-- What holds between two rounds of the loop that appends. -/
structure Ai (w : World) (pre : List Tr) (W : World) : Prop where
  box : ∃ v, Blk W w.heap.size [v] 38 ∧ Ps W (w.heap.size + 1) v (pre.map plc)
  bel : Below w.heap.size w W
theorem Ai.own {w : World} {B : Nat} (hB : w.heap.size ≤ B) : OwnFrom B (Ai w) := by
  intro pre W W' row hs hg hr
  obtain ⟨⟨v, h1, h2⟩, h3⟩ := hs
  exact ⟨⟨v, blk_keeps h1 hg hr, own_keeps h2 hg hr⟩, h3.grown hg h3.size (fun r e => Nat.le_trans hB (hr r e).1)⟩
theorem Ai.below {w W W' : World} {pre : List Tr} (h : Ai w pre W) (hb : Below W.heap.size W W') : Ai w pre W' := by
  obtain ⟨⟨v, h1, h2⟩, h3⟩ := h
  exact ⟨⟨v, h1.below hb, own_below h2 hb⟩, up_trans h3 hb⟩
set_option maxRecDepth 100000 in
set_option maxHeartbeats 4000000 in
theorem appseq_any (Bm b : Nat) (L : List Tr) (w : World) (hm : w.cell? ⟨Bm, 0, none⟩ = some (.map (some b))) (hmp : Mp w b L) (hw : Wf L) :
    Calls Try.prog 59 #[.slice none 0 0, .func (.func 47) #[] #[.pointer (some ⟨Bm, 0, none⟩)]] w fun e w' => ∃ (v : Value) (ys : List Tr), e = .returned v ∧ ys.Perm L ∧ Ps w' (w.heap.size + 1) v (ys.map plc) ∧ Below w.heap.size w w' := by
  have hal := up_alloc (Below.refl w.heap.size w) (.cells #[.slice none 0 0] 38)
  have HStops := Lib.hid (keys_stops 2 (by omega) Bm b L (w.alloc (.cells #[.slice none 0 0] 38)) ((hal.cell (p := ⟨Bm, 0, none⟩) (World.block_lt_of_cell? w _ hm)).trans hm) (hmp.below hal) hw)
  have HInv : Hid (Ai w [] (w.alloc (.cells #[.slice none 0 0] 38))) := ⟨⟨_, Blk.new w [.slice none 0 0] 38, World.ownsRow_nil _ _ _ _⟩, hal⟩
  have hlen := hw.len
  clear hm hmp hw hal
  refine (callsIn_wide (n := 3)).1 ?_
  refine callsIn_of_wp_marks Try.func59 rfl trivial ?_ rfl
  refine wpIn_wide.2 ?_
  simp only [Try.ntmps59, List.size_toArray, List.length_cons, List.length_nil, Nat.reduceAdd, Nat.reduceSub, Array.replicate_succ, Array.replicate_zero, List.push_toArray, List.append_toArray, List.nil_append, List.cons_append]
  go_wp2_with fail
  obtain ⟨W0, hW0⟩ : ∃ W0, w.alloc (.cells #[.slice none 0 0] 38) = W0 := ⟨_, rfl⟩
  have hs0 : w.heap.size < W0.heap.size := by rw [← hW0]; simp
  rw [hW0] at HStops HInv ⊢
  clear hW0
  refine range_law rfl (enters_of Try.func47 (by kernel_rfl) rfl) HStops.out KeepsWalks.trans (fun W l o o' _ h2 _ h4 => KeepsWalks.putObj o' h2 h4) (fun _ => rfl) (Ai w) (Ai.own (by omega)) HInv.out
    (fun x a' W => ∃ B, Blk W B [.int .i64 x.p, .int .i64 x.s] 24 ∧ a' = { tmps := #[.slice none 0 0, .func (.func 47) #[] #[.pointer (some ⟨Bm, 0, none⟩)], .pointer (some ⟨w.heap.size, 0, none⟩), undef, .slice none 0 0, .pointer (some ⟨B, 0, none⟩), .func (.func 47) #[] #[.pointer (some ⟨Bm, 0, none⟩)], pv x.p x.s, undef, undef, undef, undef, undef], defers := [] })
    (fun x a' _ W W' row hs hg hr => by obtain ⟨B, hB, e⟩ := hs; exact ⟨B, blk_keeps hB hg hr, e⟩) ?assign ?body ?done
  case assign =>
    intro l pre x W R hi hR
    simp only [List.setIfInBounds_toArray, List.set_cons_zero, List.set_cons_succ, List.zip_toArray, List.zip_cons_cons, List.zip_nil_right, List.foldl_toArray, List.foldl_cons, List.foldl_nil]
    have HI := Lib.hid hi
    have HR := Lib.hid hR
    clear hi hR
    obtain ⟨p, s, k, z⟩ := x
    gi_wp2_with fail
    have hb := up_alloc (Below.refl W.heap.size W) (.cells #[.int .i64 p, .int .i64 s] 24)
    exact HR.out _ _ ((ko_below hb).from _) (ko_walks (ko_below hb)) (HI.out.below hb) ⟨W.heap.size, Blk.new W [.int .i64 p, .int .i64 s] 24, rfl⟩
  case body =>
    intro l pre x a' W hl hi hax hn
    obtain ⟨B, hB, rfl⟩ := hax
    obtain ⟨⟨v, hx, hps⟩, hbel⟩ := hi
    have HX := Lib.hid hx
    have HPs := Lib.hid hps
    have HBel := Lib.hid hbel
    obtain ⟨p, s, k, z⟩ := x
    have c0 : W.cell? ⟨w.heap.size, 0, none⟩ = some v := hx.cell
    have c1 : W.cell? ⟨B, 0, none⟩ = some (.int .i64 p) := hB.cell
    have c2 : W.cell? ⟨B, 1, none⟩ = some (.int .i64 s) := hB.cell
    have hpl : (pre.map plc).length ≤ 524288 := by rw [List.length_map]; omega
    have hvs : ∀ j, v.ownBlock = some j → w.heap.size + 1 ≤ j := fun j hj => (hps.lt j hj).1
    have hbs := hbel.size
    clear hx hps hbel hB
    gi_wp2_with (gi_at_builtin; refine in_app_law el24 rfl _ _ rfl rfl (HPs.out.alloc _) rfl (Blk.new W [.int .i64 p, .int .i64 s] 24) rfl (by simp [Value.oneCell']) (by omega) (by rw [World.size_alloc]; have := HX.out.lt; omega) ?_; intro g' cap' w1 ho1 hg1 _; have hx1 : Blk w1 w.heap.size [v] 38 := (HX.out.below (up_alloc (Below.refl _ _) _)).of (hg1.out.block _ (by rw [World.size_alloc]; have := HX.out.lt; omega) (fun e => by have := hvs _ e.symm; omega)); have d0 : w1.cell? ⟨w.heap.size, 0, none⟩ = some v := hx1.cell; have d1 := hx1.frozen 0; have HX1 := Lib.hid hx1; clear hx1)
    have k1 := ko_below (up_alloc (Below.refl W.heap.size W) (.cells #[.int .i64 p, .int .i64 s] 24))
    have k2 := ko_grown hg1.out (fun j hj => by obtain ⟨cur, hc⟩ := own_cells (HPs.out.alloc (.cells #[.int .i64 p, .int .i64 s] 24)) hj; exact ⟨_, _, _, hc⟩)
    have k3 := ko_grown (grown_set w1 w.heap.size 0 (.slice (some ⟨g', 0, none⟩) ((pre.map plc).length + 1) cap')) (fun j hj => by cases hj; exact ⟨_, _, _, HX1.out⟩)
    have k4 := (k1.trans k2).trans k3
    have b1 : Below w.heap.size w w1 := (up_alloc HBel.out _).grown hg1.out (up_alloc HBel.out _).size (fun j hj => by have := hvs j hj; omega)
    have ho2 := ho1.out.kept (grown_set w1 w.heap.size 0 (.slice (some ⟨g', 0, none⟩) ((pre.map plc).length + 1) cap')) (.inr (by have := (ho1.out.lt g' rfl).1; simp [Value.ownBlock]; omega))
    have hfin : Ai w (pre ++ [⟨p, s, k, z⟩]) (w1.setCell ⟨w.heap.size, 0, none⟩ (.slice (some ⟨g', 0, none⟩) ((pre.map plc).length + 1) cap')) := by
      refine ⟨⟨_, HX1.out.set _, ?_⟩, grown_new b1 (grown_set ..) (Nat.le_refl _)⟩
      show World.ownsRow _ _ _ _ _ _ _
      have e : (pre ++ [(⟨p, s, k, z⟩ : Tr)]).map plc = pre.map plc ++ [(p, s)] := by simp [plc]
      rw [e, flat_snoc, List.length_append]
      exact ho2
    simp only [List.length_map] at k4 hfin
    exact ⟨k4.from _, ko_walks k4, hfin⟩
  case done =>
    intro D ys W hD hS hi hK
    obtain ⟨⟨v, hx, hps⟩, hbel⟩ := hi
    have HX := Lib.hid hx
    have HPs := Lib.hid hps
    have HBel := Lib.hid hbel
    have HKd := Lib.hid hK
    have c0 : W.cell? ⟨w.heap.size, 0, none⟩ = some v := hx.cell
    clear hx hps hbel hK
    dsimp only
    go_wp2_with fail
    refine ⟨by simp, .inl ⟨_, _, rfl, run_takeDeferred HKd.out, ?_⟩⟩
    refine ⟨_, results_tmp rfl _ _ _, v, ys, rfl, hS, ?_, ?_⟩
    · refine own_of HPs.out (fun j hj => World.putObj_heap_other (fun e => ?_))
      obtain ⟨cur, hc⟩ := own_cells HPs.out hj
      rw [e, HKd.out] at hc; cases hc
    · exact HBel.out.trans ⟨rfl, rfl, rfl, by simp, fun k hk => World.putObj_heap_other (by omega)⟩
set_option maxHeartbeats 2000000 in
theorem collect_any (Bm b : Nat) (L : List Tr) (w : World) (hm : w.cell? ⟨Bm, 0, none⟩ = some (.map (some b))) (hmp : Mp w b L) (hw : Wf L) :
    Calls Try.prog 46 #[.func (.func 47) #[] #[.pointer (some ⟨Bm, 0, none⟩)]] w fun e w' => ∃ (v : Value) (ys : List Tr), e = .returned v ∧ ys.Perm L ∧ Ps w' (w.heap.size + 1) v (ys.map plc) ∧ Below w.heap.size w w' := by
  have HA := Lib.hid (appseq_any Bm b L w hm hmp hw)
  clear hm hmp hw
  go_enter Try.func46, Try.ntmps46
  go_wp2_with fail
  refine HA.out.mono ?_
  rintro e w2 ⟨v, ys, rfl, h1, h2, h3⟩
  have H := Lib.hid (And.intro h1 (And.intro h2 h3))
  clear h1 h2 h3 HA
  go_wp2_with fail
  go_ret
  exact ⟨v, ys, rfl, H.out.1, H.out.2.1, H.out.2.2⟩
set_option maxHeartbeats 2000000 in
theorem sorted_any (Bm b : Nat) (L : List Tr) (w : World) (hm : w.cell? ⟨Bm, 0, none⟩ = some (.map (some b))) (hmp : Mp w b L) (hw : Wf L) :
    Calls Try.prog 39 #[.func (.func 47) #[] #[.pointer (some ⟨Bm, 0, none⟩)], .func (.func 33) #[] #[]] w fun e w' => ∃ v, e = .returned v ∧ Ps w' (w.heap.size + 1) v (L.map plc) ∧ Below w.heap.size w w' := by
  have HA := Lib.hid (collect_any Bm b L w hm hmp hw)
  have HW := Lib.hid hw
  clear hm hmp hw
  go_enter Try.func39, Try.ntmps39
  go_wp2_with fail
  refine HA.out.mono ?_
  rintro e w2 ⟨v, ys, rfl, h1, h2, h3⟩
  have HS := Lib.hid (sort_own h2 (h1.map plc) HW.out.ord (by rw [List.length_map, h1.length_eq]; exact HW.out.len))
  have HB := Lib.hid h3
  have HL := Lib.hid h2.lt
  clear h1 h2 h3 HA
  go_wp2_with fail
  refine HS.out.mono ?_
  rintro e w3 ⟨rfl, hp3, hg3⟩
  have HP3 := Lib.hid hp3
  have HG3 := Lib.hid hg3
  clear hp3 hg3 HS
  go_wp2_with fail
  go_ret
  exact ⟨v, rfl, HP3.out, HB.out.grown HG3.out HB.out.size (fun k e => by have := (HL.out k e).1; omega)⟩
theorem keysof_any (b : Nat) (w : World) : Calls Try.prog 40 #[.map (some b)] w fun e w' => e = .returned (.func (.func 47) #[] #[.pointer (some ⟨w.heap.size, 0, none⟩)]) ∧ w' = w.alloc (.cells #[.map (some b)] 64) := by
  go_enter Try.func40, Try.ntmps40
  go_wp2_with fail
  go_ret
  exact ⟨rfl, rfl⟩
theorem all_any (q : Nat) (w : World) : Calls Try.prog 28 #[.pointer (some ⟨q, 0, none⟩)] w fun e w' => e = .returned (.func (.func 38) #[] #[.pointer (some ⟨w.heap.size, 0, none⟩)]) ∧ w' = w.alloc (.cells #[.pointer (some ⟨q, 0, none⟩)] 28) := by
  go_enter Try.func28, Try.ntmps28
  go_wp2_with fail
  go_ret
  exact ⟨rfl, rfl⟩
end Go.Proofs.Ytbgacchbldgaeaa
