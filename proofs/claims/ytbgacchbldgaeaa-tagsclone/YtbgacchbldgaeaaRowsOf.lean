/-
  All places and their tags as rows: a contract that the claimed proofs use.
-/
import Derived.Test.YtbgacchbldgaeaaIter
namespace Go.Proofs.Ytbgacchbldgaeaa
open Go.RowKit Go.Maps Go.Shelf

attribute [local go_sem] Oper.semAt_some

abbrev rv (p s k z : Int) : Value := .agg #[.int .i64 p, .int .i64 s, .int .i64 k, .int .i64 z]
set_option maxHeartbeats 2000000 in
theorem of_eq (p s k z : Int) (W : World) : Calls Try.prog 13 #[pv p s, pv k z] W fun e w' => e = .returned (rv p s k z) ∧ w' = ((W.alloc (.cells #[.int .i64 p, .int .i64 s] 24)).alloc (.cells #[.int .i64 k, .int .i64 z] 26)).alloc (.cells #[.int .i64 p, .int .i64 s, .int .i64 k, .int .i64 z] 44) := by
  obtain ⟨w1, hw1⟩ : ∃ w1, (W.alloc (.cells #[.int .i64 p, .int .i64 s] 24)).alloc (.cells #[.int .i64 k, .int .i64 z] 26) = w1 := ⟨_, rfl⟩
  have hx : Blk w1 W.heap.size [.int .i64 p, .int .i64 s] 24 := by rw [← hw1]; exact (Blk.new W [.int .i64 p, .int .i64 s] 24).below (up_alloc (Below.refl _ _) _)
  have hy : Blk w1 (W.heap.size + 1) [.int .i64 k, .int .i64 z] 26 := by rw [← hw1]; have := Blk.new (W.alloc (.cells #[.int .i64 p, .int .i64 s] 24)) [.int .i64 k, .int .i64 z] 26; rwa [World.size_alloc] at this
  have b2 : Below w1.heap.size w1 (w1.alloc (.cells #[.int .i64 0, .int .i64 0, .int .i64 0, .int .i64 0] 44)) := up_alloc (Below.refl _ _) _
  have c0 : (w1.alloc (.cells #[.int .i64 0, .int .i64 0, .int .i64 0, .int .i64 0] 44)).cell? ⟨W.heap.size, 0, none⟩ = some (.int .i64 p) := (hx.below b2).cell
  have c1 : (w1.alloc (.cells #[.int .i64 0, .int .i64 0, .int .i64 0, .int .i64 0] 44)).cell? ⟨W.heap.size, 1, none⟩ = some (.int .i64 s) := (hx.below b2).cell
  have c2 : (w1.alloc (.cells #[.int .i64 0, .int .i64 0, .int .i64 0, .int .i64 0] 44)).cell? ⟨W.heap.size + 1, 0, none⟩ = some (.int .i64 k) := (hy.below b2).cell
  have c3 : (w1.alloc (.cells #[.int .i64 0, .int .i64 0, .int .i64 0, .int .i64 0] 44)).cell? ⟨W.heap.size + 1, 1, none⟩ = some (.int .i64 z) := (hy.below b2).cell
  have HW := Lib.hid hw1
  have HL : Hid (Blk (w1.alloc (.cells #[.int .i64 p, .int .i64 s, .int .i64 k, .int .i64 z] 44)) w1.heap.size [.int .i64 p, .int .i64 s, .int .i64 k, .int .i64 z] 44) := Blk.new w1 _ 44
  clear hx hy b2
  go_enter Try.func13, Try.ntmps13
  go_wp2_with fail
  have g0 : (w1.alloc (.cells #[.int .i64 p, .int .i64 s, .int .i64 k, .int .i64 z] 44)).cell? ⟨w1.heap.size, 0, none⟩ = some (.int .i64 p) := HL.out.cell
  have g1 : (w1.alloc (.cells #[.int .i64 p, .int .i64 s, .int .i64 k, .int .i64 z] 44)).cell? ⟨w1.heap.size, 1, none⟩ = some (.int .i64 s) := HL.out.cell
  have g2 : (w1.alloc (.cells #[.int .i64 p, .int .i64 s, .int .i64 k, .int .i64 z] 44)).cell? ⟨w1.heap.size, 2, none⟩ = some (.int .i64 k) := HL.out.cell
  have g3 : (w1.alloc (.cells #[.int .i64 p, .int .i64 s, .int .i64 k, .int .i64 z] 44)).cell? ⟨w1.heap.size, 3, none⟩ = some (.int .i64 z) := HL.out.cell
  exact bodyPost_ret (v := rv p s k z) (by simp [results, Try.results13, go_sem, g0, g1, g2, g3]) rfl ⟨rfl, by rw [HW.out]⟩
/-- One row more is appended: what a round's statement leaves. -/
structure Apd (W : World) (base Bg g n cap : Nat) (pre : List Tr) (x : Tr) (g' cap' : Nat) (w5 : World) : Prop where
  own : w5.ownsRow base 44 4 (.slice (some ⟨g', 0, none⟩) (n + 1) cap') (n + 1) (flat4 (pre ++ [x]))
  box : Blk w5 Bg [.slice (some ⟨g, 0, none⟩) n cap] 31
  fr : W.grownBy w5 (some g)
  new : g' = g ∨ W.heap.size ≤ g'
theorem app_region {W : World} {base Bg g n cap : Nat} {pre : List Tr} (p s k z : Int) (hx : Blk W Bg [.slice (some ⟨g, 0, none⟩) n cap] 31) (ho : W.ownsRow base 44 4 (.slice (some ⟨g, 0, none⟩) n cap) n (flat4 pre)) (hn : n ≤ 1048576) (hbase : base ≤ W.heap.size) (W4 : World) (hb4 : Below W.heap.size W W4) (m : Nat) (hm : Blk W4 m (row4 ⟨p, s, k, z⟩) 44) :
    ∃ g' cap' w5, (Builtin.append_ #[31, 31] 31 #[.slice (some ⟨g, 0, none⟩) n cap, .slice (some ⟨m, 0, none⟩) 1 1]).run Try.prog W4 = .ok (.slice (some ⟨g', 0, none⟩) (n + 1) cap') w5 ∧ Apd W base Bg g n cap pre ⟨p, s, k, z⟩ g' cap' w5 := by
  obtain ⟨i, zz, hi, hz, hs1, hb1, hzs⟩ := el44.info
  have ho4 := own_below ho hb4
  have hsz := hb4.size
  obtain ⟨v', w5, hr, h2, h3, _, h5⟩ := run_append_own_at (P := Try.prog) W4 base 31 31 44 i zz 4 32 el44.u hi hz hs1 hb1 hzs (by omega) _ n _ ho4 ⟨m, 0, none⟩ 1 1 (row4 ⟨p, s, k, z⟩) rfl (World.news_of_block (cs := (row4 ⟨p, s, k, z⟩).toArray) hm) (by simp [row4, Value.oneCell']) (by simp only [maxLen]; omega) (by omega) (by omega)
  obtain ⟨g', cap', rfl⟩ := own_some h2
  have hgb : Bg ≠ g := fun e => by
    obtain ⟨cur, hc⟩ := own_cells ho (j := g) rfl
    unfold Blk at hx
    rw [e, hc] at hx; cases hx
  refine ⟨g', cap', w5, hr, ⟨by rw [flat4_snoc]; exact h2, (hx.below hb4).of (h3.block Bg (by have := hx.lt; omega) (fun e => hgb (by simpa [Value.ownBlock] using e))), grown_trans (grown_below hb4) h3, ?_⟩⟩
  rcases h5 with h5 | h5
  · left; simpa [Value.ownBlock] using h5
  · right; have : g' = W4.heap.size := by simpa [Value.ownBlock] using h5
    omega
/-- The rows that were told so far, in their box. -/
structure Got (W : World) (Bg base : Nat) (pre : List Tr) (g cap : Nat) : Prop where
  box : Blk W Bg [.slice (some ⟨g, 0, none⟩) pre.length cap] 31
  own : W.ownsRow base 44 4 (.slice (some ⟨g, 0, none⟩) pre.length cap) pre.length (flat4 pre)
theorem Got.below {W W' : World} {Bg base : Nat} {pre : List Tr} {g cap : Nat} (h : Got W Bg base pre g cap) (hb : Below W.heap.size W W') : Got W' Bg base pre g cap := ⟨h.box.below hb, own_below h.own hb⟩
theorem Got.keeps {W W' : World} {B Bg base : Nat} {pre : List Tr} {g cap : Nat} {row : Option Nat} (h : Got W Bg base pre g cap) (hg : W.grownBy W' row) (hr : ∀ r, row = some r → B ≤ r ∧ ∃ o : Obj, W.heap[r]? = some o ∧ o.isCells = false) : Got W' Bg base pre g cap := ⟨blk_keeps h.box hg hr, own_keeps h.own hg hr⟩
theorem Got.at {W : World} {Bg base : Nat} {pre : List Tr} {g cap : Nat} (h : Got W Bg base pre g cap) : gotB Bg W = g := by unfold gotB; rw [h.box.cell]; rfl
theorem Got.ge {W : World} {Bg base : Nat} {pre : List Tr} {g cap : Nat} (h : Got W Bg base pre g cap) : base ≤ g ∧ g < W.heap.size := h.own.lt g rfl
theorem Got.ne {W : World} {Bg base : Nat} {pre : List Tr} {g cap : Nat} (h : Got W Bg base pre g cap) : Bg ≠ g := fun e => by
  obtain ⟨cur, hc⟩ := own_cells h.own (j := g) rfl
  have hx := h.box
  unfold Blk at hx
  rw [e, hc] at hx; cases hx
/-- What a round's statement that appends has done. -/
theorem Apd.done {W : World} {base Bg g cap : Nat} {pre : List Tr} {x : Tr} {g' cap' : Nat} {w5 : World} (h : Apd W base Bg g pre.length cap pre x g' cap' w5) (hg : Got W Bg base pre g cap) :
    Got (w5.setCell ⟨Bg, 0, none⟩ (.slice (some ⟨g', 0, none⟩) (pre.length + 1) cap')) Bg base (pre ++ [x]) g' cap' ∧
    Fr g Bg W (w5.setCell ⟨Bg, 0, none⟩ (.slice (some ⟨g', 0, none⟩) (pre.length + 1) cap')) ∧
    KeepsOthers W (w5.setCell ⟨Bg, 0, none⟩ (.slice (some ⟨g', 0, none⟩) (pre.length + 1) cap')) ∧
    ∀ n1, Bg < n1 → Kp Bg n1 W (w5.setCell ⟨Bg, 0, none⟩ (.slice (some ⟨g', 0, none⟩) (pre.length + 1) cap')) := by
  have hne : g' ≠ Bg := by
    rcases h.new with e | e
    · rw [e]; exact fun e => hg.ne e.symm
    · have := hg.box.lt; omega
  have hgs := grown_set w5 Bg 0 (.slice (some ⟨g', 0, none⟩) (pre.length + 1) cap')
  have hbx : Blk (w5.setCell ⟨Bg, 0, none⟩ (.slice (some ⟨g', 0, none⟩) (pre.length + 1) cap')) Bg [.slice (some ⟨g', 0, none⟩) (pre.length + 1) cap'] 31 := h.box.set _
  have hG : Got (w5.setCell ⟨Bg, 0, none⟩ (.slice (some ⟨g', 0, none⟩) (pre.length + 1) cap')) Bg base (pre ++ [x]) g' cap' := by
    have hl : (pre ++ [x]).length = pre.length + 1 := by simp
    refine ⟨by rw [hl]; exact hbx, ?_⟩
    rw [hl]
    exact h.own.kept hgs (.inr (by simpa [Value.ownBlock] using hne))
  have hfr : Fr g Bg W (w5.setCell ⟨Bg, 0, none⟩ (.slice (some ⟨g', 0, none⟩) (pre.length + 1) cap')) := (Fr.ofq h.fr).trans (Fr.ofg hgs)
  refine ⟨hG, hfr, ?_, fun n1 hn1 => ⟨?_, hfr.size, fun b o hb hc _ hne2 => hfr.block b (Array.getElem?_eq_some_iff.1 hc).1 (by rw [hg.at] at hne2; exact hne2) (by omega)⟩⟩
  · exact (ko_grown h.fr (fun j hj => by cases hj; obtain ⟨cur, hc⟩ := own_cells hg.own (j := g) rfl; exact ⟨_, _, _, hc⟩)).trans (ko_grown hgs (fun j hj => by cases hj; exact ⟨_, _, _, h.box⟩))
  · rw [hG.at, hg.at]; exact h.new
/-- An append within a statement that draws its order, within a round. -/
theorem step_append {F : Fence} {nF : Nat} {o : Oper} {a : Act} {w w' : World} {K : Act → World → Prop} {Q : Exit → Act → World → Prop} {ys : Nat → Option Bool} {v u r : Value} {q : Prop} (hg : o.guard = none) (s x : Operand)
    (hop : o.op = .call { callee := .builtin .append, args := #[s, x], argTypes := #[31, 31] }) (hs : a.eval s = v) (hx : a.eval x = u) (hfn : ∀ f, F.fn f) (hrun : (Builtin.append_ #[31, 31] o.type #[v, u]).run Try.prog w = .ok r w')
    (h : K (a.put o.dst r) w') : if Region.wanted o ys = true then o.wpIn F nF Try.prog a w K Q else q := by
  rw [if_pos (by simp [Region.wanted, hg])]
  unfold Oper.wpIn
  refine ⟨fun f _ => hfn f, ?_⟩
  rw [Oper.semAt_plain _ _ _ (fun c e => by rw [hop] at e; cases e)]
  unfold execOp
  simp only [hop, resolve, invoke, builtin, Sem.run_bind, Sem.run_pure, Result.andThen_ok, List.map_toArray, List.map_cons, List.map_nil, hs, hx, hrun]
  exact h
/-- What holds between two rounds of the loop that makes rows. -/
structure Ri (w : World) (pre : List Tr) (W : World) : Prop where
  got : ∃ g cap, Got W (w.heap.size + 1) w.heap.size pre g cap
  bel : Below w.heap.size w W
theorem Ri.own {w : World} {B : Nat} (hB : w.heap.size ≤ B) : OwnFrom B (Ri w) := by
  intro pre W W' row hs hg hr
  obtain ⟨⟨g, cap, h1⟩, h3⟩ := hs
  exact ⟨⟨g, cap, h1.keeps hg hr⟩, h3.grown hg h3.size (fun r e => Nat.le_trans hB (hr r e).1)⟩
theorem Ri.below {w W W' : World} {pre : List Tr} (h : Ri w pre W) (hb : Below W.heap.size W W') : Ri w pre W' := by
  obtain ⟨⟨g, cap, h1⟩, h3⟩ := h
  exact ⟨⟨g, cap, h1.below hb⟩, up_trans h3 hb⟩
set_option maxRecDepth 100000 in
set_option maxHeartbeats 4000000 in
theorem rows_any {q b : Nat} {L : List Tr} {w : World} (h : Tg w q b L) : Calls Try.prog 21 #[.pointer (some ⟨q, 0, none⟩)] w fun e w' => ∃ A c, e = .returned (.slice A L.length c) ∧ At w'.heap.size w' A (flat4 L) ∧ Below w.heap.size w w' := by
  obtain ⟨w1, hw1⟩ : ∃ w1, (w.alloc (.cells #[] 44)).alloc (.cells #[.slice (some ⟨w.heap.size, 0, none⟩) 0 0] 31) = w1 := ⟨_, rfl⟩
  have b1 : Below w.heap.size w w1 := by rw [← hw1]; exact up_alloc (up_alloc (Below.refl _ _) _) _
  have hgt : Got w1 (w.heap.size + 1) w.heap.size [] w.heap.size 0 := by
    rw [← hw1]
    refine ⟨?_, ((World.ownsRow_made w #[] 0 (Nat.le_refl _) (by decide) rfl).alloc _)⟩
    have := Blk.new (w.alloc (.cells #[] 44)) [.slice (some ⟨w.heap.size, 0, none⟩) 0 0] 31
    rwa [World.size_alloc] at this
  have HT := Lib.hid (h.below b1)
  have HB1 := Lib.hid b1
  have HG := Lib.hid hgt
  have hlen := h.wf.len
  have HA := Lib.hid (all_any q w1)
  clear h b1 hgt
  refine (callsIn_wide (n := 3)).1 ?_
  refine callsIn_of_wp_marks Try.func21 rfl trivial ?_ rfl
  refine wpIn_wide.2 ?_
  simp only [Try.ntmps21, List.size_toArray, List.length_cons, List.length_nil, Nat.reduceAdd, Nat.reduceSub, Array.replicate_succ, Array.replicate_zero, List.push_toArray, List.append_toArray, List.nil_append, List.cons_append]
  go_wp2_with fail
  clear hw1
  refine HA.out.mono ?_
  rintro e w2 ⟨rfl, h2⟩
  have b2 : Below w1.heap.size w1 w2 := by rw [h2]; exact up_alloc (Below.refl _ _) _
  have x2 : Blk w2 w1.heap.size [.pointer (some ⟨q, 0, none⟩)] 28 := by rw [h2]; exact Blk.new w1 [.pointer (some ⟨q, 0, none⟩)] 28
  have hG2 := HG.out.below b2
  have hlt2 := hG2.box.lt
  have HStops := Lib.hid (all_stops 2 (by omega) w1.heap.size (w.heap.size + 1) q b L w2 x2.cell (HT.out.below b2) hlt2 (by rw [hG2.at]; omega))
  have HInv : Hid (Ri w [] w2) := ⟨⟨_, _, hG2⟩, up_trans HB1.out b2⟩
  clear h2 b2 x2 hG2 HA
  go_wp2_with fail
  refine range_law rfl (enters_of Try.func38 (by kernel_rfl) rfl) HStops.out Kp.trans (fun W l o o' h1 h2 h3 h4 => Kp.put o' (by omega) h2 h3 h4) (fun _ => rfl) (Ri w) (Ri.own (by omega)) HInv.out
    (fun x a' W => ∃ B1 B2, Blk W B1 [.int .i64 x.p, .int .i64 x.s] 24 ∧ Blk W B2 [.int .i64 x.k, .int .i64 x.z] 26 ∧ a' = { tmps := #[.pointer (some ⟨q, 0, none⟩), undef, .slice none 0 0, .pointer (some ⟨w.heap.size + 1, 0, none⟩), .pointer (some ⟨B1, 0, none⟩), .pointer (some ⟨B2, 0, none⟩), .slice (some ⟨w.heap.size, 0, none⟩) 0 0, .pointer (some ⟨q, 0, none⟩), .func (.func 38) #[] #[.pointer (some ⟨w1.heap.size, 0, none⟩)], pv x.p x.s, pv x.k x.z, undef, undef, undef, undef, undef, undef, undef], defers := [] })
    (fun x a' _ W W' row hs hg hr => by obtain ⟨B1, B2, h1, h2, e⟩ := hs; exact ⟨B1, B2, blk_keeps h1 hg hr, blk_keeps h2 hg hr, e⟩) ?assign ?body ?done
  case assign =>
    intro l pre x W R hi hR
    simp only [List.setIfInBounds_toArray, List.set_cons_zero, List.set_cons_succ, List.zip_toArray, List.zip_cons_cons, List.zip_nil_right, List.foldl_toArray, List.foldl_cons, List.foldl_nil]
    have HI := Lib.hid hi
    have HR := Lib.hid hR
    clear hi hR
    obtain ⟨p, s, k, z⟩ := x
    gi_wp2_with fail
    have hb := up_alloc (up_alloc (Below.refl W.heap.size W) (.cells #[.int .i64 p, .int .i64 s] 24)) (.cells #[.int .i64 k, .int .i64 z] 26)
    have y1 := (Blk.new W [.int .i64 p, .int .i64 s] 24).below (up_alloc (Below.refl _ _) (.cells #[.int .i64 k, .int .i64 z] 26))
    have y2 := Blk.new (W.alloc (.cells #[.int .i64 p, .int .i64 s] 24)) [.int .i64 k, .int .i64 z] 26
    rw [World.size_alloc] at y2
    obtain ⟨g, cap, hgt⟩ := HI.out.got
    exact HR.out _ _ ((ko_below hb).from _) (Kp.below hb hgt.box.lt) (HI.out.below hb) ⟨W.heap.size, W.heap.size + 1, y1, y2, rfl⟩
  case body =>
    intro l pre x a' W hl hi hax hn
    obtain ⟨B1, B2, hx1, hx2, rfl⟩ := hax
    obtain ⟨⟨g, cap, hgt⟩, hbel⟩ := hi
    obtain ⟨p, s, k, z⟩ := x
    have hmx : Try.prog.follows .mixedOrders = true := by kernel_rfl
    have HGt := Lib.hid hgt
    have HBel := Lib.hid hbel
    have hbs := hbel.size
    obtain ⟨W3, hW3⟩ : ∃ W3, ((W.alloc (.cells #[.int .i64 p, .int .i64 s] 24)).alloc (.cells #[.int .i64 k, .int .i64 z] 26)).alloc (.cells #[.int .i64 p, .int .i64 s, .int .i64 k, .int .i64 z] 44) = W3 := ⟨_, rfl⟩
    obtain ⟨W4, hW4⟩ : ∃ W4, W3.alloc (.cells #[.int .i64 p, .int .i64 s, .int .i64 k, .int .i64 z] 44) = W4 := ⟨_, rfl⟩
    have b3 : Below W.heap.size W W3 := by rw [← hW3]; exact up_alloc (up_alloc (up_alloc (Below.refl _ _) _) _) _
    have b4 : Below W.heap.size W W4 := by rw [← hW4]; exact up_alloc b3 _
    obtain ⟨g', cap', w5, hrun, hap⟩ := app_region p s k z hgt.box hgt.own (by omega) (by omega) W4.drew b4.drew W3.heap.size (by rw [← hW4]; exact Blk.new W3 _ 44)
    have HAp := Lib.hid hap
    have HO := Lib.hid (fun V => of_eq p s k z V)
    have c0 : W.cell? ⟨w.heap.size + 1, 0, none⟩ = some (.slice (some ⟨g, 0, none⟩) pre.length cap) := hgt.box.cell
    have c1 : W3.cell? ⟨w.heap.size + 1, 0, none⟩ = some (.slice (some ⟨g, 0, none⟩) pre.length cap) := (hgt.box.below b3).cell
    have c2 : W4.cell? ⟨w.heap.size + 1, 0, none⟩ = some (.slice (some ⟨g, 0, none⟩) pre.length cap) := (hgt.box.below b4).cell
    have d0 : W.cell? ⟨B1, 0, none⟩ = some (.int .i64 p) := hx1.cell
    have d1 : W.cell? ⟨B1, 1, none⟩ = some (.int .i64 s) := hx1.cell
    have d2 : W.cell? ⟨B2, 0, none⟩ = some (.int .i64 k) := hx2.cell
    have d3 : W.cell? ⟨B2, 1, none⟩ = some (.int .i64 z) := hx2.cell
    have f0 : w5.cell? ⟨w.heap.size + 1, 0, none⟩ = some (.slice (some ⟨g, 0, none⟩) pre.length cap) := hap.box.cell
    have f1 := hap.box.frozen 0
    obtain ⟨n1, n2, n3, n4⟩ := hap.done hgt
    have hfin : Ri w (pre ++ [⟨p, s, k, z⟩]) (w5.setCell ⟨w.heap.size + 1, 0, none⟩ (.slice (some ⟨g', 0, none⟩) (pre.length + 1) cap')) :=
      ⟨⟨_, _, n1⟩, hbel.trans (n2.below hgt.ge.1 (by omega) hbs)⟩
    have HFin := Lib.hid (And.intro (n3.from w2.heap.size) (And.intro (n4 w2.heap.size (by omega)) hfin))
    have e3 : ((W.drew.alloc (.cells #[.int .i64 p, .int .i64 s] 24)).alloc (.cells #[.int .i64 k, .int .i64 z] 26)).alloc (.cells #[.int .i64 p, .int .i64 s, .int .i64 k, .int .i64 z] 44) = W3.drew := by rw [← hW3]; rfl
    clear hgt hbel hap b3 b4 hx1 hx2 n1 n2 n3 n4 hfin hW3
    gi_wp2_with fail
    refine wpIn_region_any hmx ?_
    change wpAnyIn _ _ _ _ _ _ _ _ _ (World.drew _)
    refine wpAnyIn_ready (rs := [0, 1, 2]) (by kernel_rfl) (by simp) ?_
    refine AllReadyIn.cons rfl (fun K hK => ?_) ?_
    · go_simp
      refine hK _ _ ?_
      clear hK K
      refine wpAnyIn_ready (rs := [1, 2]) (by kernel_rfl) (by simp) ?_
      refine AllReadyIn.cons rfl (fun K hK => ?_) ?_
      · go_simp
        refine hK _ _ ?_
        clear hK K
        refine wpAnyIn_ready (rs := [2]) (by kernel_rfl) (by simp) ?_
        refine AllReadyIn.cons rfl (fun K hK => ?_) ?_
        · go_simp
          refine hK _ _ ?_
          clear hK K
          refine wpAnyIn_ready (rs := [3]) (by kernel_rfl) (by simp) ?_
          refine AllReadyIn.cons rfl (fun K hK => ?_) ?_
          · go_simp
            refine ⟨trivial, ?_⟩
            refine (round_calls (HO.out _)).mono ?_
            rintro e w' ⟨rfl, rfl⟩
            rw [e3]
            refine hK _ _ ?_
            clear hK K
            refine wpAnyIn_ready (rs := [4]) (by kernel_rfl) (by simp) ?_
            refine AllReadyIn.cons rfl (fun K hK => ?_) ?_
            · go_simp
              refine hK _ _ ?_
              clear hK K
              refine wpAnyIn_ready (rs := [5]) (by kernel_rfl) (by simp) ?_
              refine AllReadyIn.cons rfl (fun K hK => ?_) ?_
              · refine step_append rfl (.tmp 11) (.tmp 15) rfl rfl rfl (fun _ => trivial) hrun ?_
                refine hK _ _ ?_
                clear hK K
                refine wpAnyIn_ready (rs := [6]) (by kernel_rfl) (by simp) ?_
                refine AllReadyIn.cons rfl (fun K hK => ?_) ?_
                · go_simp
                  refine hK _ _ ?_
                  clear hK K
                  refine wpAnyIn_done (by kernel_rfl) ?_ _
                  exact HFin.out
                exact AllReadyIn.nil
              exact AllReadyIn.nil
            exact AllReadyIn.nil
          exact AllReadyIn.nil
        exact AllReadyIn.nil
      refine AllReadyIn.cons rfl (fun K hK => ?_) ?_
      · go_simp
        refine hK _ _ ?_
        clear hK K
        refine wpAnyIn_ready (rs := [1]) (by kernel_rfl) (by simp) ?_
        refine AllReadyIn.cons rfl (fun K hK => ?_) ?_
        · go_simp
          refine hK _ _ ?_
          clear hK K
          refine wpAnyIn_ready (rs := [3]) (by kernel_rfl) (by simp) ?_
          refine AllReadyIn.cons rfl (fun K hK => ?_) ?_
          · go_simp
            refine ⟨trivial, ?_⟩
            refine (round_calls (HO.out _)).mono ?_
            rintro e w' ⟨rfl, rfl⟩
            rw [e3]
            refine hK _ _ ?_
            clear hK K
            refine wpAnyIn_ready (rs := [4]) (by kernel_rfl) (by simp) ?_
            refine AllReadyIn.cons rfl (fun K hK => ?_) ?_
            · go_simp
              refine hK _ _ ?_
              clear hK K
              refine wpAnyIn_ready (rs := [5]) (by kernel_rfl) (by simp) ?_
              refine AllReadyIn.cons rfl (fun K hK => ?_) ?_
              · refine step_append rfl (.tmp 11) (.tmp 15) rfl rfl rfl (fun _ => trivial) hrun ?_
                refine hK _ _ ?_
                clear hK K
                refine wpAnyIn_ready (rs := [6]) (by kernel_rfl) (by simp) ?_
                refine AllReadyIn.cons rfl (fun K hK => ?_) ?_
                · go_simp
                  refine hK _ _ ?_
                  clear hK K
                  refine wpAnyIn_done (by kernel_rfl) ?_ _
                  exact HFin.out
                exact AllReadyIn.nil
              exact AllReadyIn.nil
            exact AllReadyIn.nil
          exact AllReadyIn.nil
        exact AllReadyIn.nil
      exact AllReadyIn.nil
    refine AllReadyIn.cons rfl (fun K hK => ?_) ?_
    · go_simp
      refine hK _ _ ?_
      clear hK K
      refine wpAnyIn_ready (rs := [0, 2]) (by kernel_rfl) (by simp) ?_
      refine AllReadyIn.cons rfl (fun K hK => ?_) ?_
      · go_simp
        refine hK _ _ ?_
        clear hK K
        refine wpAnyIn_ready (rs := [2]) (by kernel_rfl) (by simp) ?_
        refine AllReadyIn.cons rfl (fun K hK => ?_) ?_
        · go_simp
          refine hK _ _ ?_
          clear hK K
          refine wpAnyIn_ready (rs := [3]) (by kernel_rfl) (by simp) ?_
          refine AllReadyIn.cons rfl (fun K hK => ?_) ?_
          · go_simp
            refine ⟨trivial, ?_⟩
            refine (round_calls (HO.out _)).mono ?_
            rintro e w' ⟨rfl, rfl⟩
            rw [e3]
            refine hK _ _ ?_
            clear hK K
            refine wpAnyIn_ready (rs := [4]) (by kernel_rfl) (by simp) ?_
            refine AllReadyIn.cons rfl (fun K hK => ?_) ?_
            · go_simp
              refine hK _ _ ?_
              clear hK K
              refine wpAnyIn_ready (rs := [5]) (by kernel_rfl) (by simp) ?_
              refine AllReadyIn.cons rfl (fun K hK => ?_) ?_
              · refine step_append rfl (.tmp 11) (.tmp 15) rfl rfl rfl (fun _ => trivial) hrun ?_
                refine hK _ _ ?_
                clear hK K
                refine wpAnyIn_ready (rs := [6]) (by kernel_rfl) (by simp) ?_
                refine AllReadyIn.cons rfl (fun K hK => ?_) ?_
                · go_simp
                  refine hK _ _ ?_
                  clear hK K
                  refine wpAnyIn_done (by kernel_rfl) ?_ _
                  exact HFin.out
                exact AllReadyIn.nil
              exact AllReadyIn.nil
            exact AllReadyIn.nil
          exact AllReadyIn.nil
        exact AllReadyIn.nil
      refine AllReadyIn.cons rfl (fun K hK => ?_) ?_
      · go_simp
        refine hK _ _ ?_
        clear hK K
        refine wpAnyIn_ready (rs := [0, 3]) (by kernel_rfl) (by simp) ?_
        refine AllReadyIn.cons rfl (fun K hK => ?_) ?_
        · go_simp
          refine hK _ _ ?_
          clear hK K
          refine wpAnyIn_ready (rs := [3]) (by kernel_rfl) (by simp) ?_
          refine AllReadyIn.cons rfl (fun K hK => ?_) ?_
          · go_simp
            refine ⟨trivial, ?_⟩
            refine (round_calls (HO.out _)).mono ?_
            rintro e w' ⟨rfl, rfl⟩
            rw [e3]
            refine hK _ _ ?_
            clear hK K
            refine wpAnyIn_ready (rs := [4]) (by kernel_rfl) (by simp) ?_
            refine AllReadyIn.cons rfl (fun K hK => ?_) ?_
            · go_simp
              refine hK _ _ ?_
              clear hK K
              refine wpAnyIn_ready (rs := [5]) (by kernel_rfl) (by simp) ?_
              refine AllReadyIn.cons rfl (fun K hK => ?_) ?_
              · refine step_append rfl (.tmp 11) (.tmp 15) rfl rfl rfl (fun _ => trivial) hrun ?_
                refine hK _ _ ?_
                clear hK K
                refine wpAnyIn_ready (rs := [6]) (by kernel_rfl) (by simp) ?_
                refine AllReadyIn.cons rfl (fun K hK => ?_) ?_
                · go_simp
                  refine hK _ _ ?_
                  clear hK K
                  refine wpAnyIn_done (by kernel_rfl) ?_ _
                  exact HFin.out
                exact AllReadyIn.nil
              exact AllReadyIn.nil
            exact AllReadyIn.nil
          exact AllReadyIn.nil
        refine AllReadyIn.cons rfl (fun K hK => ?_) ?_
        · go_simp
          refine ⟨trivial, ?_⟩
          refine (round_calls (HO.out _)).mono ?_
          rintro e w' ⟨rfl, rfl⟩
          rw [e3]
          refine hK _ _ ?_
          clear hK K
          refine wpAnyIn_ready (rs := [0, 4]) (by kernel_rfl) (by simp) ?_
          refine AllReadyIn.cons rfl (fun K hK => ?_) ?_
          · go_simp
            refine hK _ _ ?_
            clear hK K
            refine wpAnyIn_ready (rs := [4]) (by kernel_rfl) (by simp) ?_
            refine AllReadyIn.cons rfl (fun K hK => ?_) ?_
            · go_simp
              refine hK _ _ ?_
              clear hK K
              refine wpAnyIn_ready (rs := [5]) (by kernel_rfl) (by simp) ?_
              refine AllReadyIn.cons rfl (fun K hK => ?_) ?_
              · refine step_append rfl (.tmp 11) (.tmp 15) rfl rfl rfl (fun _ => trivial) hrun ?_
                refine hK _ _ ?_
                clear hK K
                refine wpAnyIn_ready (rs := [6]) (by kernel_rfl) (by simp) ?_
                refine AllReadyIn.cons rfl (fun K hK => ?_) ?_
                · go_simp
                  refine hK _ _ ?_
                  clear hK K
                  refine wpAnyIn_done (by kernel_rfl) ?_ _
                  exact HFin.out
                exact AllReadyIn.nil
              exact AllReadyIn.nil
            exact AllReadyIn.nil
          refine AllReadyIn.cons rfl (fun K hK => ?_) ?_
          · go_simp
            refine hK _ _ ?_
            clear hK K
            refine wpAnyIn_ready (rs := [0]) (by kernel_rfl) (by simp) ?_
            refine AllReadyIn.cons rfl (fun K hK => ?_) ?_
            · go_simp
              refine hK _ _ ?_
              clear hK K
              refine wpAnyIn_ready (rs := [5]) (by kernel_rfl) (by simp) ?_
              refine AllReadyIn.cons rfl (fun K hK => ?_) ?_
              · refine step_append rfl (.tmp 11) (.tmp 15) rfl rfl rfl (fun _ => trivial) hrun ?_
                refine hK _ _ ?_
                clear hK K
                refine wpAnyIn_ready (rs := [6]) (by kernel_rfl) (by simp) ?_
                refine AllReadyIn.cons rfl (fun K hK => ?_) ?_
                · go_simp
                  refine hK _ _ ?_
                  clear hK K
                  refine wpAnyIn_done (by kernel_rfl) ?_ _
                  exact HFin.out
                exact AllReadyIn.nil
              exact AllReadyIn.nil
            exact AllReadyIn.nil
          exact AllReadyIn.nil
        exact AllReadyIn.nil
      exact AllReadyIn.nil
    refine AllReadyIn.cons rfl (fun K hK => ?_) ?_
    · go_simp
      refine hK _ _ ?_
      clear hK K
      refine wpAnyIn_ready (rs := [0, 1]) (by kernel_rfl) (by simp) ?_
      refine AllReadyIn.cons rfl (fun K hK => ?_) ?_
      · go_simp
        refine hK _ _ ?_
        clear hK K
        refine wpAnyIn_ready (rs := [1]) (by kernel_rfl) (by simp) ?_
        refine AllReadyIn.cons rfl (fun K hK => ?_) ?_
        · go_simp
          refine hK _ _ ?_
          clear hK K
          refine wpAnyIn_ready (rs := [3]) (by kernel_rfl) (by simp) ?_
          refine AllReadyIn.cons rfl (fun K hK => ?_) ?_
          · go_simp
            refine ⟨trivial, ?_⟩
            refine (round_calls (HO.out _)).mono ?_
            rintro e w' ⟨rfl, rfl⟩
            rw [e3]
            refine hK _ _ ?_
            clear hK K
            refine wpAnyIn_ready (rs := [4]) (by kernel_rfl) (by simp) ?_
            refine AllReadyIn.cons rfl (fun K hK => ?_) ?_
            · go_simp
              refine hK _ _ ?_
              clear hK K
              refine wpAnyIn_ready (rs := [5]) (by kernel_rfl) (by simp) ?_
              refine AllReadyIn.cons rfl (fun K hK => ?_) ?_
              · refine step_append rfl (.tmp 11) (.tmp 15) rfl rfl rfl (fun _ => trivial) hrun ?_
                refine hK _ _ ?_
                clear hK K
                refine wpAnyIn_ready (rs := [6]) (by kernel_rfl) (by simp) ?_
                refine AllReadyIn.cons rfl (fun K hK => ?_) ?_
                · go_simp
                  refine hK _ _ ?_
                  clear hK K
                  refine wpAnyIn_done (by kernel_rfl) ?_ _
                  exact HFin.out
                exact AllReadyIn.nil
              exact AllReadyIn.nil
            exact AllReadyIn.nil
          exact AllReadyIn.nil
        exact AllReadyIn.nil
      refine AllReadyIn.cons rfl (fun K hK => ?_) ?_
      · go_simp
        refine hK _ _ ?_
        clear hK K
        refine wpAnyIn_ready (rs := [0, 3]) (by kernel_rfl) (by simp) ?_
        refine AllReadyIn.cons rfl (fun K hK => ?_) ?_
        · go_simp
          refine hK _ _ ?_
          clear hK K
          refine wpAnyIn_ready (rs := [3]) (by kernel_rfl) (by simp) ?_
          refine AllReadyIn.cons rfl (fun K hK => ?_) ?_
          · go_simp
            refine ⟨trivial, ?_⟩
            refine (round_calls (HO.out _)).mono ?_
            rintro e w' ⟨rfl, rfl⟩
            rw [e3]
            refine hK _ _ ?_
            clear hK K
            refine wpAnyIn_ready (rs := [4]) (by kernel_rfl) (by simp) ?_
            refine AllReadyIn.cons rfl (fun K hK => ?_) ?_
            · go_simp
              refine hK _ _ ?_
              clear hK K
              refine wpAnyIn_ready (rs := [5]) (by kernel_rfl) (by simp) ?_
              refine AllReadyIn.cons rfl (fun K hK => ?_) ?_
              · refine step_append rfl (.tmp 11) (.tmp 15) rfl rfl rfl (fun _ => trivial) hrun ?_
                refine hK _ _ ?_
                clear hK K
                refine wpAnyIn_ready (rs := [6]) (by kernel_rfl) (by simp) ?_
                refine AllReadyIn.cons rfl (fun K hK => ?_) ?_
                · go_simp
                  refine hK _ _ ?_
                  clear hK K
                  refine wpAnyIn_done (by kernel_rfl) ?_ _
                  exact HFin.out
                exact AllReadyIn.nil
              exact AllReadyIn.nil
            exact AllReadyIn.nil
          exact AllReadyIn.nil
        refine AllReadyIn.cons rfl (fun K hK => ?_) ?_
        · go_simp
          refine ⟨trivial, ?_⟩
          refine (round_calls (HO.out _)).mono ?_
          rintro e w' ⟨rfl, rfl⟩
          rw [e3]
          refine hK _ _ ?_
          clear hK K
          refine wpAnyIn_ready (rs := [0, 4]) (by kernel_rfl) (by simp) ?_
          refine AllReadyIn.cons rfl (fun K hK => ?_) ?_
          · go_simp
            refine hK _ _ ?_
            clear hK K
            refine wpAnyIn_ready (rs := [4]) (by kernel_rfl) (by simp) ?_
            refine AllReadyIn.cons rfl (fun K hK => ?_) ?_
            · go_simp
              refine hK _ _ ?_
              clear hK K
              refine wpAnyIn_ready (rs := [5]) (by kernel_rfl) (by simp) ?_
              refine AllReadyIn.cons rfl (fun K hK => ?_) ?_
              · refine step_append rfl (.tmp 11) (.tmp 15) rfl rfl rfl (fun _ => trivial) hrun ?_
                refine hK _ _ ?_
                clear hK K
                refine wpAnyIn_ready (rs := [6]) (by kernel_rfl) (by simp) ?_
                refine AllReadyIn.cons rfl (fun K hK => ?_) ?_
                · go_simp
                  refine hK _ _ ?_
                  clear hK K
                  refine wpAnyIn_done (by kernel_rfl) ?_ _
                  exact HFin.out
                exact AllReadyIn.nil
              exact AllReadyIn.nil
            exact AllReadyIn.nil
          refine AllReadyIn.cons rfl (fun K hK => ?_) ?_
          · go_simp
            refine hK _ _ ?_
            clear hK K
            refine wpAnyIn_ready (rs := [0]) (by kernel_rfl) (by simp) ?_
            refine AllReadyIn.cons rfl (fun K hK => ?_) ?_
            · go_simp
              refine hK _ _ ?_
              clear hK K
              refine wpAnyIn_ready (rs := [5]) (by kernel_rfl) (by simp) ?_
              refine AllReadyIn.cons rfl (fun K hK => ?_) ?_
              · refine step_append rfl (.tmp 11) (.tmp 15) rfl rfl rfl (fun _ => trivial) hrun ?_
                refine hK _ _ ?_
                clear hK K
                refine wpAnyIn_ready (rs := [6]) (by kernel_rfl) (by simp) ?_
                refine AllReadyIn.cons rfl (fun K hK => ?_) ?_
                · go_simp
                  refine hK _ _ ?_
                  clear hK K
                  refine wpAnyIn_done (by kernel_rfl) ?_ _
                  exact HFin.out
                exact AllReadyIn.nil
              exact AllReadyIn.nil
            exact AllReadyIn.nil
          exact AllReadyIn.nil
        exact AllReadyIn.nil
      exact AllReadyIn.nil
    exact AllReadyIn.nil
  case done =>
    intro D ys W hD hS hi hK
    subst hS
    obtain ⟨⟨g, cap, hgt⟩, hbel⟩ := hi
    have HGt := Lib.hid hgt
    have HBel := Lib.hid hbel
    have HKd := Lib.hid hK
    have c0 : W.cell? ⟨w.heap.size + 1, 0, none⟩ = some (.slice (some ⟨g, 0, none⟩) ys.length cap) := hgt.box.cell
    have hDl := (Array.getElem?_eq_some_iff.1 hK).1
    clear hgt hbel hK
    dsimp only
    go_wp2_with fail
    refine ⟨by simp, .inl ⟨_, _, rfl, run_takeDeferred HKd.out, ?_⟩⟩
    have hp : Below w2.heap.size W (W.putObj D (.deferred none)) := ⟨rfl, rfl, rfl, by simp, fun k hk => World.putObj_heap_other (by omega)⟩
    refine ⟨_, results_tmp rfl _ _ _, _, _, rfl, ?_, ?_⟩
    · refine own_at (own_of HGt.out.own (fun j hj => World.putObj_heap_other (fun e => ?_)))
      obtain ⟨cur, hc⟩ := own_cells HGt.out.own hj
      rw [e, HKd.out] at hc; cases hc
    · exact HBel.out.trans ⟨rfl, rfl, rfl, by simp, fun k hk => World.putObj_heap_other (by have := HBel.out.size; omega)⟩
end Go.Proofs.Ytbgacchbldgaeaa
