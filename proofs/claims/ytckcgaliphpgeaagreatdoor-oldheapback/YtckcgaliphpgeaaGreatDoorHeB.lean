import Derived.Test.YtckcgaliphpgeaaGreatDoorHePages
import Derived.Test.YtckcgaliphpgeaaGreatDoorRiB
import Derived.Test.YtckcgaliphpgeaaGreatDoorOsA
import Derived.Test.YtckcgaliphpgeaaGreatDoorGrNew
import Derived.StillTailTactics
import Derived.RangeFuncNested
import Derived.RangeFuncBox
import Derived.RangeFuncBound
import Derived.RangeFuncCalls
import Derived.RangeFuncLeaves
import Derived.Shelf.Abstract
import Derived.Shelf.RegionOpen
import Derived.OwnWalkIn
import Derived.TacticsInMore
import Derived.LoopNIn
import Derived.LoopIn
import Derived.BigQuiet
import Derived.Deep.QuietTactic
/-
  What a heap asks of classes and lists: contracts that the claimed proofs use.
-/
namespace Go.Proofs.YtckcgaliphpgeaaGreatDoor.He
set_option maxRecDepth 100000
open Go.RowKit
open Ta (sizeOf' classB)
open Bi (Drawn ret_i ret_b up_alloc up_drew up_trans)

theorem ret_i' {a b : Int} (h : a = b) : Ending.returned (.int .i64 a) = .returned (.int .i64 b) := by rw [h]
/-- A list's number among those of all classes, or none. -/
def ringI (c l : Int) : Int := if classB c = true ∧ 0 ≤ l ∧ l ≤ 3 then 4 * c + l else -1
theorem ringI_nat {c l : Nat} (hc : c < 16) (hl : l ≤ 3) : ringI c l = ((4 * c + l : Nat) : Int) := by
  unfold ringI
  rw [if_pos ⟨Ta.classB_iff.2 (by omega), by omega, by omega⟩]
  omega
theorem isClass_any (c : Int) (w : World) (hT : Ta.Tab w) : Calls Tryz.prog 65 #[.int .i64 c] w fun e w' => e = .returned (.bool (classB c)) ∧ w = w' := by
  have HS := Lib.hid (Ta.size_any c w hT)
  have HE : Hid ((sizeOf' c != 0) = classB c) := by
    show _ = _
    cases hc : classB c with
    | true => have := (Os.cls hc).1; rw [bne_iff_ne]; omega
    | false => rw [Ta.sizeOf_no hc]; rfl
  generalize sizeOf' c = z at HS HE
  clear hT
  go_enter Tryz.func65, Tryz.ntmps65
  go_wp2_with (go_at_call 53; refine HS.out.mono ?_; rintro e w' ⟨rfl, rfl⟩)
  go_ret
  exact ⟨ret_b HE.out, rfl⟩
theorem ringOf_any (c l : Int) (w : World) (hT : Ta.Tab w) : Calls Tryz.prog 42 #[.int .i64 c, .int .i64 l] w fun e w' => e = .returned (.int .i64 (ringI c l)) ∧ w = w' := by
  have HC := Lib.hid (isClass_any c w hT)
  clear hT
  cases hc : classB c with
  | false =>
    have e : ringI c l = -1 := by unfold ringI; rw [if_neg (by rw [hc]; simp)]
    rw [e]
    rw [hc] at HC
    clear hc e
    go_enter Tryz.func42, Tryz.ntmps42
    go_wp2_with (go_at_call 65; refine HC.out.mono ?_; rintro e w' ⟨rfl, rfl⟩)
    go_ret
    exact ⟨rfl, rfl⟩
  | true =>
    obtain ⟨c0, c1⟩ := Ta.classB_iff.1 hc
    rw [hc] at HC
    by_cases h0 : l < 0
    · have e : ringI c l = -1 := by unfold ringI; rw [if_neg (by omega)]
      have d0 : decide (l < 0) = true := by simpa using h0
      rw [e]
      clear hc e
      go_enter Tryz.func42, Tryz.ntmps42
      go_wp2_with (go_at_call 65; refine HC.out.mono ?_; rintro e w' ⟨rfl, rfl⟩)
      go_ret
      exact ⟨rfl, rfl⟩
    · have d0 : decide (l < 0) = false := by simpa using h0
      by_cases h3 : 3 < l
      · have e : ringI c l = -1 := by unfold ringI; rw [if_neg (by omega)]
        have d1 : decide (3 < l) = true := by simpa using h3
        rw [e]
        clear hc e
        go_enter Tryz.func42, Tryz.ntmps42
        go_wp2_with (go_at_call 65; refine HC.out.mono ?_; rintro e w' ⟨rfl, rfl⟩)
        go_ret
        exact ⟨rfl, rfl⟩
      · have e : ringI c l = 4 * c + l := by unfold ringI; rw [if_pos ⟨hc, by omega, by omega⟩]
        have d1 : decide (3 < l) = false := by simpa using h3
        rw [e]
        have w1 : IntKind.i64.wrap (c * 4) = c * 4 := Bi.i64_in _ (by omega) (by omega)
        have w2 : IntKind.i64.wrap (c * 4 + l) = c * 4 + l := Bi.i64_in _ (by omega) (by omega)
        clear hc e
        go_enter Tryz.func42, Tryz.ntmps42
        go_wp2_with (go_at_call 65; refine HC.out.mono ?_; rintro e w' ⟨rfl, rfl⟩)
        go_ret
        exact ⟨ret_i' (by omega), rfl⟩
section
variable {w w' : World} {s q g : Nat} {b c : Int} {l : List Bool}
theorem pageOf_any {p : Nat} (h : Os.Sl w s q g (256 * p) c l) : Calls Tryz.prog 69 #[.pointer (some ⟨s, 0, none⟩)] w fun e w' => e = .returned (.int .i64 (p : Int)) ∧ w = w' := by
  have HB := Lib.hid (Os.base_any h)
  have hb := Os.baseB_iff.1 h.hb
  have w1 : (256 * (p : Int)).tdiv 256 = p := Int.mul_tdiv_cancel_left _ (by omega)
  obtain ⟨z, hz⟩ : ∃ z, 256 * (p : Int) = z := ⟨_, rfl⟩
  rw [hz] at HB w1
  have w2 : IntKind.i64.wrap (p : Int) = p := Bi.i64_in _ (by omega) (by omega)
  clear h hb hz
  go_enter Tryz.func69, Tryz.ntmps69
  go_wp2_with (go_at_call 15; refine HB.out.mono ?_; rintro e w' ⟨rfl, rfl⟩)
  go_ret
  exact ⟨rfl, rfl⟩
theorem listOf_any (h : Os.Sl w s q g b c l) : Calls Tryz.prog 106 #[.pointer (some ⟨s, 0, none⟩)] w fun e w' => e = .returned (.int .i64 (lst l : Nat)) ∧ Drawn w w' := by
  have HS := Lib.hid (Os.state_any h)
  have h2 := h.len_le.1
  clear h
  unfold Os.stI at HS
  unfold lst
  by_cases h0 : Os.fr l = l.length
  · rw [if_pos h0] at HS ⊢
    clear h0 h2
    go_enter Tryz.func106, Tryz.ntmps106
    go_wp2_with (go_at_call 56; refine HS.out.mono ?_; rintro e w1 ⟨rfl, hd⟩; have HD := Lib.hid hd; clear hd)
    go_ret
    exact ⟨rfl, HD.out⟩
  · rw [if_neg h0] at HS ⊢
    by_cases h1 : Os.fr l = 0
    · rw [if_pos h1] at HS ⊢
      clear h0 h1 h2
      go_enter Tryz.func106, Tryz.ntmps106
      go_wp2_with (go_at_call 56; refine HS.out.mono ?_; rintro e w1 ⟨rfl, hd⟩; have HD := Lib.hid hd; clear hd)
      go_ret
      exact ⟨rfl, HD.out⟩
    · rw [if_neg h1] at HS ⊢
      clear h0 h1 h2
      go_enter Tryz.func106, Tryz.ntmps106
      go_wp2_with (go_at_call 56; refine HS.out.mono ?_; rintro e w1 ⟨rfl, hd⟩; have HD := Lib.hid hd; clear hd)
      go_ret
      exact ⟨rfl, HD.out⟩
end
end Go.Proofs.YtckcgaliphpgeaaGreatDoor.He

/-
  The pages of a list: the contract that the claimed proofs use.
-/
namespace Go.Proofs.YtckcgaliphpgeaaGreatDoor.He
set_option maxRecDepth 100000
open Go.RowKit Go.Shelf
open Ta (sizeOf' classB)
open Bi (Drawn ret_i ret_b up_alloc up_drew up_trans)
open Ri (of of_nat)

attribute [local go_sem] Oper.semAt_some

/-- An append within a round. -/
theorem in_app {F : Fence} {nF : Nat} {t e : TypeId} {sz byt base k : Nat} {v : Value} {xs news : List Value} {W : World} (E : Os.El t e sz byt) {ops : Array Oper} {rest : List Oper} {o : Oper} {a : Act} {Q : Exit → Act → World → Prop} (hgd : o.guard = none) (s x : Operand)
    (ho : o.op = .call { callee := .builtin .append, args := #[s, x], argTypes := #[t, t] }) {n : Nat} (hs : a.eval s = v) (hown : W.ownsRow base e sz v k xs)
    (hx : a.eval x = .slice (some ⟨n, 0, none⟩) 1 1) (hn : W.heap[n]? = some (.cells news.toArray e (0, 0))) (hl : news.length = sz) (h1 : ∀ u ∈ news, u.oneCell' = true) (hk : k ≤ 1048576) (hbase : base ≤ W.heap.size)
    (h : ∀ g' cap' w', Hid (w'.ownsRow base e sz (.slice (some ⟨g', 0, none⟩) (k + 1) cap') (k + 1) (xs ++ news)) → Hid (W.grownBy w' v.ownBlock) → Hid (v.ownBlock = some g' ∨ g' = W.heap.size) →
      wpListIn F nF Tryz.prog ops Q rest (a.put o.dst (.slice (some ⟨g', 0, none⟩) (k + 1) cap')) w') : wpListIn F nF Tryz.prog ops Q (o :: rest) a W := by
  obtain ⟨i, z, hi, hz, hs1, hb1, hzs⟩ := E.info
  have hby := E.le
  refine wpListIn_append_own_at W hgd s x t ho base e i z sz byt E.u hi hz hs1 hb1 hzs E.pos v k xs hs hown ⟨n, 0, none⟩ 1 1 news hx (by omega) (World.news_of_block (cs := news.toArray) hn) h1 (by simp only [maxLen]; omega)
    (by have := Nat.mul_le_mul (by omega : k + 1 ≤ 1048577) hby; omega) hbase ?_
  intro v' w' h2 h3 _ h5
  obtain ⟨g', cap', rfl⟩ := Os.own_some h2
  refine h g' cap' w' h2 h3 ?_
  rcases h5 with h5 | h5
  · exact .inl h5.symm
  · exact .inr (by simpa [Value.ownBlock] using h5)
theorem cell_same {W W' : World} {b i : Nat} (h : W'.heap[b]? = W.heap[b]?) : W'.cell? ⟨b, i, none⟩ = W.cell? ⟨b, i, none⟩ := by unfold World.cell?; simp only [h]
/-- The block of the slice that a box holds. -/
def gotB (Bg : Nat) (W : World) : Nat := match W.cell? ⟨Bg, 0, none⟩ with
  | some (.slice (some a) _ _) => a.block
  | _ => 0
/-- What a round keeps: cells, but for those of the slice in the box. -/
structure Kp (Bg n1 : Nat) (W W' : World) : Prop where
  got : gotB Bg W' = gotB Bg W ∨ W.heap.size ≤ gotB Bg W'
  size : W.heap.size ≤ W'.heap.size
  block : ∀ (b : Nat) (cs : Array Value) (t : TypeId) (fr : Nat × Nat), n1 ≤ b → W.heap[b]? = some (.cells cs t fr) → b ≠ gotB Bg W → W'.heap[b]? = W.heap[b]?
theorem Kp.trans {Bg n1 : Nat} {A B C : World} (h : Kp Bg n1 A B) (k : Kp Bg n1 B C) : Kp Bg n1 A C := by
  refine ⟨?_, Nat.le_trans h.size k.size, fun b cs t fr hb hc hne => ?_⟩
  · rcases k.got with e | e
    · rw [e]; exact h.got
    · right; exact Nat.le_trans h.size e
  · have e1 := h.block b cs t fr hb hc hne
    have hne2 : b ≠ gotB Bg B := by
      rcases h.got with e | e
      · rw [e]; exact hne
      · have := (Array.getElem?_eq_some_iff.1 hc).1; omega
    exact (k.block b cs t fr hb (e1.trans hc) hne2).trans e1
theorem Kp.put {Bg n1 : Nat} {W : World} {l : Nat} {o : Obj} (o' : Obj) (hl : Bg < l) (ho : W.heap[l]? = some o) (hc : o.isCells = false) : Kp Bg n1 W (W.putObj l o') := by
  have e : ∀ b, b ≠ l → (W.putObj l o').heap[b]? = W.heap[b]? := fun b hb => World.putObj_heap_other hb
  refine ⟨.inl ?_, by simp, fun b cs t fr _ hcs _ => e b (fun h => ?_)⟩
  · unfold gotB; rw [cell_same (e Bg (by omega))]
  · subst h; rw [ho] at hcs; cases hcs; cases hc
theorem cells_of {W : World} {b i : Nat} {v : Value} (h : W.cell? ⟨b, i, none⟩ = some v) : ∃ cs t fr, W.heap[b]? = some (.cells cs t fr) := by
  unfold World.cell? at h
  cases hb : W.heap[b]? with
  | none => simp [hb] at h
  | some o =>
    cases o with
    | cells cs t fr => exact ⟨cs, t, fr, rfl⟩
    | _ => simp [hb] at h
theorem grown_none {a b : World} (h : Below a.heap.size a b) : a.grownBy b none := ⟨h.os, h.tape, h.output, h.size, fun k hk _ => h.block k hk⟩
set_option maxHeartbeats 2000000 in
theorem each_stops (n : Nat) (hn : 1 ≤ n) (Br Bl Bg : Nat) (p : Ri.Pl) (L : Nat → List Nat) (i : Int) (w : World) (hBr : w.cell? ⟨Br, 0, none⟩ = some (.pointer (some ⟨p.q, 0, none⟩))) (hBl : w.cell? ⟨Bl, 0, none⟩ = some (.int .i64 i)) (hr : Ri.Ring w p L)
    (hBg : Bg < w.heap.size) (hgot : gotB Bg w < w.heap.size) :
    SeqStopsK Fence.wide n Tryz.prog 88 #[.pointer (some ⟨Br, 0, none⟩), .pointer (some ⟨Bl, 0, none⟩)] (fun x : Nat => #[Value.int .i64 (x : Int)]) (Kp Bg w.heap.size) (fun ys => ys = of L i) (fun pre => pre <+: of L i) (of L i).length w := fun l J Jx W hW hJ hJx hY h0 => by
  have g1 := (hW.cell (p := ⟨Br, 0, none⟩) (World.block_lt_of_cell? w _ hBr)).trans hBr
  have g2 := (hW.cell (p := ⟨Bl, 0, none⟩) (World.block_lt_of_cell? w _ hBl)).trans hBl
  have HAll := Lib.hid (Ri.all_r (i := i) (hr.below hW))
  have hle : (of L i).length ≤ 4096 := by have := Ri.of_len hr.good i; have := hr.ok.n1; omega
  have hgW : gotB Bg W = gotB Bg w := by unfold gotB; rw [cell_same (hW.block Bg hBg)]
  have hsz := hW.size
  generalize of L i = xs at HAll hY hle ⊢
  obtain ⟨N, hN⟩ : ∃ N, xs.length = N := ⟨_, rfl⟩
  have HN := Lib.hid hN
  rw [hN] at hY hle
  have HY := Lib.hid hY
  clear hN hY hr hBr hBl
  refine callsIn_of_wp Tryz.func88 rfl trivial ?_ rfl
  simp only [Tryz.ntmps88, List.size_toArray, List.length_cons, List.length_nil, Nat.reduceAdd, Nat.reduceSub, Array.replicate_succ, Array.replicate_zero, List.push_toArray, List.append_toArray, List.nil_append, List.cons_append]
  gi_wp2_with fail
  refine ⟨trivial, ?_⟩
  refine (callsIn_wide.2 HAll.out).mono ?_
  rintro e w2 ⟨gl, cap, rfl, hgl, ia, b2⟩
  rw [HN.out]
  have HJ2 : Hid (J [] w2) := hJ [] W w2 none h0 (grown_none b2) (fun r e => by cases e)
  have HIA := Lib.hid ia
  have HGot : Hid (gotB Bg w2 < gl) := by
    have : gotB Bg w2 = gotB Bg W := by unfold gotB; rw [cell_same (b2.block Bg (by omega))]
    show _ < _
    omega
  have hgw : w.heap.size ≤ gl := by omega
  clear ia b2 HAll g1 g2 h0 hgW hgl
  gi_wp2_with fail
  gi_loopw [10] (fun i wr => ∃ k : Nat, k ≤ N ∧ i = .int .i64 k ∧ J (xs.take k) wr ∧ wr.heap[gl]? = w2.heap[gl]? ∧ gotB Bg wr ≠ gl ∧ w2.heap.size ≤ wr.heap.size) (fun i _ => N - (intOf i).toNat)
  case atStart => exact ⟨0, Nat.zero_le _, rfl, HJ2.out, rfl, by have := HGot.out; omega, Nat.le_refl _⟩
  case round =>
    obtain ⟨k, hk, rfl, hJs, hsame, hne, hs2⟩ := hrel
    have HJs := Lib.hid hJs
    have HSame := Lib.hid hsame
    have HNe := Lib.hid hne
    clear hJs hsame hne
    by_cases hlt : k < N
    · have hkl : k < xs.length := by rw [HN.out]; exact hlt
      obtain ⟨b, o, e, hbl, hc⟩ := HIA.out (by omega)
      cases e
      have q1 : wr.cell? ⟨gl, k, none⟩ = some (.int .i64 ((xs[k] : Nat) : Int)) := by
        have := hc k hkl
        rw [Nat.zero_add, List.getD_eq_getElem?_getD, List.getElem?_eq_getElem hkl] at this
        exact (cell_same HSame.out).trans this
      obtain ⟨cs, t, fr, hcells⟩ := cells_of q1
      have HCells := Lib.hid hcells
      have HE2 : Hid (xs.take (k + 1) = xs.take k ++ [xs[k]]) := by show _ = _; rw [List.take_succ_eq_append_getElem hkl]
      have hY1 := HY.out (xs.take k) xs[k] wr HJs.out (by rw [List.length_take, HN.out]; omega)
      obtain ⟨X, hX⟩ : ∃ X, xs[k] = X := ⟨_, rfl⟩
      rw [hX] at q1 hY1 HE2
      have j1 : (0 : Int) ≤ (k : Int) := by omega
      have j2 : (k : Int) < (N : Int) := by omega
      clear hc hX hkl hcells
      obtain ⟨fn, tmps, assign, body, hy, hR⟩ := hY1
      gi_wp2
      refine hR.mono ?_
      rintro e W3 (⟨rfl, hJ3, hk3⟩ | ⟨rfl, hJx3⟩)
      · have HJ3 := Lib.hid hJ3
        have HK3 := Lib.hid hk3
        clear hJ3 hk3 hy hR
        gi_wp2
        go_roundw
        case rel =>
          refine ⟨k + 1, by omega, by go_num, by rw [HE2.out]; exact HJ3.out, (HK3.out.block gl cs t fr hgw HCells.out (fun h => HNe.out h.symm)).trans HSame.out, ?_, Nat.le_trans hs2 HK3.out.size⟩
          rcases HK3.out.got with e | e
          · rw [e]; exact HNe.out
          · have := (Array.getElem?_eq_some_iff.1 HCells.out).1; omega
        case measure => simp [intOf]; omega
      · gi_wp2
        refine bodyPost_ret (results_none rfl _ _ _) rfl ?_
        exact ⟨⟨_, rfl⟩, .inr ⟨xs.take (k + 1), List.take_prefix _ _, by rw [HE2.out]; exact hJx3⟩⟩
    · obtain rfl : k = N := by omega
      gi_wp2
      go_end0
      have e3 : xs.take k = xs := List.take_of_length_le (by rw [HN.out]; omega)
      rw [e3] at HJs
      exact ⟨⟨_, rfl⟩, .inl ⟨_, rfl, HJs.out⟩⟩
theorem each_any (q : Nat) (i : Int) (w : World) : Calls Tryz.prog 41 #[.pointer (some ⟨q, 0, none⟩), .int .i64 i] w fun e w' => e = .returned (.func (.func 88) #[] #[.pointer (some ⟨w.heap.size, 0, none⟩), .pointer (some ⟨w.heap.size + 1, 0, none⟩)]) ∧ w' = (w.alloc (.cells #[.pointer (some ⟨q, 0, none⟩)] 80)).alloc (.cells #[.int .i64 i] 3) := by
  go_enter Tryz.func41, Tryz.ntmps41
  go_wp2_with fail
  go_ret
  exact ⟨by simp, rfl⟩
/-! ### A range over an iterator -/
/-- The law of a range over the iterator, at the fence that lets all by; no round leaves early. -/
theorem range_law {g : Operand} {ps : Array Tmp} {assign body : Code} {Q : Exit → Act → World → Prop} {a : Act} {w : World} {gf : Nat} {lb : Array Value} (hg : a.eval g = .func (.func gf) #[] lb)
    (eg : ∀ args w, (callFunc gf args).run Tryz.prog w = .ok (.enter gf args) w) {encs : Nat → Array Value} {K : World → World → Prop} {S Sp : List Nat → Prop} {N : Nat}
    (hseq : SeqStopsK Fence.wide 2 Tryz.prog gf lb encs K S Sp N w) (hKt : ∀ {A B C : World}, K A B → K B C → K A C)
    (hKb : ∀ (W : World) (l : Nat) (o o' : Obj), w.heap.size ≤ l → W.heap[l]? = some o → o.isCells = false → o.isWalk = false → K W (W.putObj l o')) (hps : ∀ x, (encs x).size = ps.size)
    (I : List Nat → World → Prop) (hI : OwnFrom w.heap.size I) (h0 : I [] w) (Ax : Nat → Act → World → Prop) (hAx : ∀ x a', OwnFrom w.heap.size (fun (_ : Unit) W => Ax x a' W))
    (hassign : ∀ (l : Nat) (pre : List Nat) (x : Nat) (W : World) (R : Act → World → Prop), I pre W → (∀ a' W', KeepsFrom w.heap.size W W' → K W W' → I pre W' → Ax x a' W' → R a' W') →
      assign.wpIn (Fence.wide.inRound l) 1 Tryz.prog (Exit.then R (fun _ _ _ => False)) { tmps := (ps.zip (encs x)).foldl (fun t (p, v) => t.setIfInBounds p v) a.tmps, defers := [] } W)
    (hbody : ∀ (l : Nat) (pre : List Nat) (x : Nat) (a' : Act) (W : World), w.heap.size ≤ l → I pre W → Ax x a' W → pre.length < N → body.wpIn (Fence.wide.inRound l) 1 Tryz.prog (ownPostG w.heap.size K I (fun _ _ _ => False) (pre ++ [x]) W) a' W)
    (hdone : ∀ (D : Nat) (xs : List Nat) (W : World), w.heap.size ≤ D → S xs → I xs W → W.heap[D]? = some (.deferred (some [])) → Q .normal { a with defers := { target := .collected D, args := #[] } :: a.defers } W) :
    (Code.rangeFunc g ps assign body).wp Tryz.prog Q a w :=
  wpIn_wide.1 (wpIn_rangeFunc_ownH (F := Fence.wide) (n := 3) rfl (by omega) hg trivial eg hseq (fun h k => hKt h k) hKb (Below.refl _ _) hps I (fun _ _ _ => False) hI (fun _ _ _ _ _ hs _ _ => hs) h0 Ax hAx
    hassign (fun l pre x a' W hl _ hi hx hn => hbody l pre x a' W hl hi hx hn) hdone (fun _ _ _ _ _ _ h _ => h.elim))
theorem ko_grown {W W' : World} {row : Option Nat} (hg : W.grownBy W' row) (hr : ∀ j, row = some j → ∃ cs t fr, W.heap[j]? = some (.cells cs t fr)) : KeepsOthers W W' := by
  refine ⟨hg.size, fun k o hk ho => ?_⟩
  refine (hg.block k (Array.getElem?_eq_some_iff.1 hk).1 (fun e => ?_)).trans hk
  obtain ⟨cs, t, fr, hc⟩ := hr k e.symm
  rw [hk] at hc; cases hc; cases ho
theorem ko_below {W W' : World} (hb : Below W.heap.size W W') : KeepsOthers W W' := ko_grown (row := none) (Bi.grown_below hb) (fun _ e => by cases e)
theorem blk_keeps {W W' : World} {B : Nat} {row : Option Nat} {g : Nat} {vs : List Value} {t : TypeId} (h : Bi.Blk W g vs t) (hg : W.grownBy W' row) (hr : ∀ r, row = some r → B ≤ r ∧ ∃ o : Obj, W.heap[r]? = some o ∧ o.isCells = false) : Bi.Blk W' g vs t := by
  refine h.of (hg.block g h.lt (fun e => ?_))
  obtain ⟨_, o, ho, hc⟩ := hr g e.symm
  unfold Bi.Blk at h; rw [h] at ho; cases ho; cases hc
theorem own_keeps {W W' : World} {B base k : Nat} {e : TypeId} {sz : Nat} {v : Value} {xs : List Value} {row : Option Nat} (h : W.ownsRow base e sz v k xs) (hg : W.grownBy W' row) (hr : ∀ r, row = some r → B ≤ r ∧ ∃ o : Obj, W.heap[r]? = some o ∧ o.isCells = false) : W'.ownsRow base e sz v k xs := by
  refine Os.own_of h (fun j hj => ?_)
  obtain ⟨cur, hc⟩ := Os.own_cells h hj
  refine hg.block j (Array.getElem?_eq_some_iff.1 hc).1 (fun e => ?_)
  obtain ⟨_, o, ho, hn⟩ := hr j e.symm
  rw [hc] at ho; cases ho; cases hn
/-- What holds between two rounds of List's loop. -/
structure Ai (w : World) (pre : List Nat) (W : World) : Prop where
  box : ∃ v, Bi.Blk W w.heap.size [v] 29 ∧ W.ownsRow (w.heap.size + 1) 3 1 v pre.length (Os.ints (nats pre))
  bel : Below w.heap.size w W
theorem Ai.own {w : World} {B : Nat} (hB : w.heap.size ≤ B) : OwnFrom B (Ai w) := by
  intro pre W W' row hs hg hr
  obtain ⟨⟨v, h1, h2⟩, h3⟩ := hs
  exact ⟨⟨v, blk_keeps h1 hg hr, own_keeps h2 hg hr⟩, h3.grown hg h3.size (fun r e => Nat.le_trans hB (hr r e).1)⟩
theorem Ai.below {w W W' : World} {pre : List Nat} (h : Ai w pre W) (hb : Below W.heap.size W W') : Ai w pre W' := by
  obtain ⟨⟨v, h1, h2⟩, h3⟩ := h
  exact ⟨⟨v, h1.below hb, Os.own_below h2 hb⟩, up_trans h3 hb⟩
end Go.Proofs.YtckcgaliphpgeaaGreatDoor.He

/-
  A list's pages as a heap tells them: the contract that the claimed proofs use.
-/
namespace Go.Proofs.YtckcgaliphpgeaaGreatDoor.He
set_option maxRecDepth 100000
open Go.RowKit Go.Shelf
open Ta (sizeOf' classB)
open Bi (Drawn ret_i ret_b up_alloc up_drew up_trans)
open Ri (of of_nat)

attribute [local go_sem] Oper.semAt_some

theorem ints_snoc (pre : List Nat) (x : Nat) : Os.ints (nats (pre ++ [x])) = Os.ints (nats pre) ++ [.int .i64 (x : Int)] := by simp [Os.ints, nats]
set_option maxHeartbeats 4000000 in
theorem list_own (h : Nat) (r : Ri.Pl) (R : Nat → List Nat) (c l : Int) (w : World) (hc : w.cell? ⟨h, 2, none⟩ = some (.pointer (some ⟨r.q, 0, none⟩))) (hr : Ri.Ring w r R) (hT : Ta.Tab w) :
    Calls Tryz.prog 11 #[.pointer (some ⟨h, 0, none⟩), .int .i64 c, .int .i64 l] w fun e w' => ∃ v, e = .returned v ∧ w'.ownsRow (w.heap.size + 1) 3 1 v (of R (ringI c l)).length (Os.ints (nats (of R (ringI c l)))) ∧ Below w.heap.size w w' := by
  have hal := up_alloc (Below.refl w.heap.size w) (.cells #[.slice none 0 0] 29)
  obtain ⟨W0, hW0⟩ : ∃ W0, w.alloc (.cells #[.slice none 0 0] 29) = W0 := ⟨_, rfl⟩
  have K0 : Bi.Blk W0 w.heap.size [.slice none 0 0] 29 := by rw [← hW0]; exact Gr.Blk.new w [.slice none 0 0] 29
  rw [hW0] at hal
  have hs0 : w.heap.size < W0.heap.size := K0.lt
  have HR := Lib.hid (fun a => hr.below (hal.trans ((up_drew (Below.refl W0.heap.size W0) a).mono (by omega))))
  have HO := Lib.hid (fun a => ringOf_any c l (W0.drewN a) (hT.below (hal.trans ((up_drew (Below.refl W0.heap.size W0) a).mono (by omega)))))
  have hc0 : ∀ a, (W0.drewN a).cell? ⟨h, 2, none⟩ = some (.pointer (some ⟨r.q, 0, none⟩)) := fun a => ((hal.trans ((up_drew (Below.refl W0.heap.size W0) a).mono (by omega))).cell (p := ⟨h, 2, none⟩) (World.block_lt_of_cell? w _ hc)).trans hc
  have HC := Lib.hid (hc0 1)
  have HB0 := Lib.hid hal
  have HK0 := Lib.hid K0
  generalize ringI c l = i at HO ⊢
  clear hc hr hT hal K0 hc0
  refine (callsIn_wide (n := 3)).1 ?_
  refine callsIn_of_wp_marks Tryz.func11 rfl trivial ?_ rfl
  refine wpIn_wide.2 ?_
  simp only [Tryz.ntmps11, List.size_toArray, List.length_cons, List.length_nil, Nat.reduceAdd, Nat.reduceSub, Array.replicate_succ, Array.replicate_zero, List.push_toArray, List.append_toArray, List.nil_append, List.cons_append]
  go_wp2_with fail
  clear hW0
  have c1 : W0.drew.cell? ⟨h, 2, none⟩ = some (.pointer (some ⟨r.q, 0, none⟩)) := HC.out
  refine wp_region_still_tail 7 (by kernel_rfl) (by kernel_rfl) ?_
  simp only [List.take_succ_cons, List.take_zero, List.drop_succ_cons, List.drop_zero]
  iterate 6 still_step
  still_call ((HO.out 1).mono (fun e w' h => ⟨h.1, h.2.symm⟩))
  refine wpStill_nil ?_
  change wpList _ _ _ _ _ W0.drew
  go_wp2_with fail
  refine (each_any r.q i _).mono ?_
  rintro e w2 ⟨rfl, hw2⟩
  have b2 : Below W0.heap.size W0 w2 := by rw [hw2]; exact up_alloc (up_alloc (Below.refl _ W0).drew _) _
  have BX1 : w2.cell? ⟨W0.drew.heap.size, 0, none⟩ = some (.pointer (some ⟨r.q, 0, none⟩)) := by
    have k := (Gr.Blk.new W0.drew [.pointer (some ⟨r.q, 0, none⟩)] 80).below (up_alloc (Below.refl _ _) (.cells #[.int .i64 i] 3))
    rw [hw2]; exact Bi.Blk.cell k
  have BX2 : w2.cell? ⟨W0.drew.heap.size + 1, 0, none⟩ = some (.int .i64 i) := by
    have k := Gr.Blk.new (W0.drew.alloc (.cells #[.pointer (some ⟨r.q, 0, none⟩)] 80)) [.int .i64 i] 3
    rw [World.size_alloc] at k
    rw [hw2]; exact Bi.Blk.cell k
  have K2 := HK0.out.below b2
  have hs2 : W0.heap.size ≤ w2.heap.size := b2.size
  have hgot : gotB w.heap.size w2 = 0 := by unfold gotB; rw [Bi.Blk.cell K2]; rfl
  have HStops := Lib.hid (each_stops 2 (by omega) W0.drew.heap.size (W0.drew.heap.size + 1) w.heap.size r R i w2 BX1 BX2 ((HR.out 0).below b2) (by omega) (by rw [hgot]; omega))
  have HInv : Hid (Ai w [] w2) := ⟨⟨_, K2, World.ownsRow_nil _ _ _ _⟩, HB0.out.trans (b2.mono (by omega))⟩
  have hle : (of R i).length ≤ 4096 := by have := Ri.of_len (HR.out 0).good i; have := (HR.out 0).ok.n1; omega
  have hws : w.heap.size < w2.heap.size := by omega
  clear hw2 b2 BX1 BX2 K2 hgot HR HO HC HB0 HK0 c1 hs2 hs0
  generalize W0.drew.heap.size = B1 at HStops ⊢
  go_wp2_with fail
  refine range_law rfl (enters_of Tryz.func88 (by kernel_rfl) rfl) HStops.out Kp.trans (fun W l o o' h1 h2 h3 _ => Kp.put o' (by omega) h2 h3) (fun _ => rfl) (Ai w) (Ai.own (by omega)) HInv.out
    (fun x a' _ => a' = { tmps := #[.pointer (some ⟨h, 0, none⟩), .int .i64 c, .int .i64 l, undef, undef, undef, .slice none 0 0, .pointer (some ⟨w.heap.size, 0, none⟩), .int .i64 x, .pointer (some ⟨h, 0, none⟩), .pointer (some ⟨h, 0, none⟩), .pointer (some ⟨h, 2, none⟩), .pointer (some ⟨r.q, 0, none⟩), .int .i64 c, .int .i64 l, .int .i64 i, .func (.func 88) #[] #[.pointer (some ⟨B1, 0, none⟩), .pointer (some ⟨B1 + 1, 0, none⟩)], .int .i64 x, undef, undef, undef, undef, undef], defers := [] })
    (fun x a' _ W W' row hs _ _ => hs) ?assign ?body ?done
  case assign =>
    intro l' pre x W R' hi hR
    simp only [List.setIfInBounds_toArray, List.set_cons_zero, List.set_cons_succ, List.zip_toArray, List.zip_cons_cons, List.zip_nil_right, List.foldl_toArray, List.foldl_cons, List.foldl_nil]
    have HI := Lib.hid hi
    have HRR := Lib.hid hR
    clear hi hR
    gi_wp2_with fail
    exact HRR.out _ _ ((ko_below (Below.refl _ W)).from _) ⟨.inl rfl, Nat.le_refl _, fun _ _ _ _ _ _ _ => rfl⟩ HI.out rfl
  case body =>
    intro l' pre x a' W hl hi hax hn
    subst hax
    obtain ⟨⟨v, hx, hps⟩, hbel⟩ := hi
    have HX := Lib.hid hx
    have HPs := Lib.hid hps
    have HBel := Lib.hid hbel
    have c0 : W.cell? ⟨w.heap.size, 0, none⟩ = some v := hx.cell
    have hpl : pre.length ≤ 4096 := by omega
    have hvs : ∀ j, v.ownBlock = some j → w.heap.size + 1 ≤ j ∧ j < W.heap.size := fun j hj => ⟨Ri.own_base hps j hj, (by obtain ⟨cur, hc⟩ := Os.own_cells hps hj; exact (Array.getElem?_eq_some_iff.1 hc).1)⟩
    have hbs := hbel.size
    have hxl := hx.lt
    have HGb : Hid (gotB w.heap.size W = v.ownBlock.getD 0) := by
      obtain ⟨A0, cp0, hv0⟩ := Os.own_form hps
      show _ = _
      unfold gotB; rw [c0, hv0]
      cases A0 with
      | none => rfl
      | some a => rfl
    clear hx hps hbel
    gi_wp2_with (gi_at_builtin; refine in_app Os.el3 rfl _ _ rfl rfl (HPs.out.alloc _) rfl (Gr.Blk.new W [.int .i64 (x : Int)] 3) rfl (by simp [Value.oneCell']) (by omega) (by rw [World.size_alloc]; omega) ?_; intro g' cap' w1 ho1 hg1 hnew; have hx1 : Bi.Blk w1 w.heap.size [v] 29 := (HX.out.below (up_alloc (Below.refl _ _) _)).of (hg1.out.block _ (by rw [World.size_alloc]; omega) (fun e => by have := (hvs _ e.symm).1; omega)); have d0 : w1.cell? ⟨w.heap.size, 0, none⟩ = some v := hx1.cell; have d1 := hx1.frozen 0; have HX1 := Lib.hid hx1; clear hx1)
    have k1 := ko_below (up_alloc (Below.refl W.heap.size W) (.cells #[.int .i64 (x : Int)] 3))
    have k2 := ko_grown hg1.out (fun j hj => by obtain ⟨cur, hc⟩ := Os.own_cells (HPs.out.alloc (.cells #[.int .i64 (x : Int)] 3)) hj; exact ⟨_, _, _, hc⟩)
    have k3 := ko_grown (Sp.grown_set w1 w.heap.size 0 (.slice (some ⟨g', 0, none⟩) (pre.length + 1) cap')) (fun j hj => by cases hj; exact ⟨_, _, _, HX1.out⟩)
    have k4 := (k1.trans k2).trans k3
    have b1 : Below w.heap.size w w1 := (up_alloc HBel.out _).grown hg1.out (up_alloc HBel.out _).size (fun j hj => by have := (hvs j hj).1; omega)
    have ho2 := ho1.out.kept (Sp.grown_set w1 w.heap.size 0 (.slice (some ⟨g', 0, none⟩) (pre.length + 1) cap')) (.inr (by have := Ri.own_base ho1.out g' rfl; simp [Value.ownBlock]; omega))
    have sz1 : W.heap.size + 1 ≤ w1.heap.size := by have := hg1.out.size; rw [World.size_alloc] at this; exact this
    have hgg : gotB w.heap.size (w1.setCell ⟨w.heap.size, 0, none⟩ (.slice (some ⟨g', 0, none⟩) (pre.length + 1) cap')) = g' := by
      unfold gotB; rw [Bi.Blk.cell (HX1.out.set _)]; rfl
    have hkp : Kp w.heap.size w2.heap.size W (w1.setCell ⟨w.heap.size, 0, none⟩ (.slice (some ⟨g', 0, none⟩) (pre.length + 1) cap')) := by
      refine ⟨?_, by rw [Ri.set_size]; omega, fun b cs t fr hb hcb hne => ?_⟩
      · rw [hgg, HGb.out]
        rcases hnew.out with e | e
        · have e : v.ownBlock = some g' := e
          rw [e]; exact .inl rfl
        · right; rw [e, World.size_alloc]; omega
      · rw [Ri.set_far _ (by omega)]
        have hbl := (Array.getElem?_eq_some_iff.1 hcb).1
        rw [hg1.out.block b (by rw [World.size_alloc]; omega) (fun e => hne (by have e : v.ownBlock = some b := e.symm; rw [HGb.out, e]; rfl))]
        exact Below.heap_alloc _ _ b hbl
    have hfin : Ai w (pre ++ [x]) (w1.setCell ⟨w.heap.size, 0, none⟩ (.slice (some ⟨g', 0, none⟩) (pre.length + 1) cap')) := by
      refine ⟨⟨_, HX1.out.set _, ?_⟩, b1.setCell (p := ⟨w.heap.size, 0, none⟩) (Nat.le_refl _) _⟩
      rw [ints_snoc, List.length_append]
      exact ho2
    exact ⟨k4.from _, hkp, hfin⟩
  case done =>
    intro D ys W hD hS hi hK
    subst hS
    obtain ⟨⟨v, hx, hps⟩, hbel⟩ := hi
    have HX := Lib.hid hx
    have HPs := Lib.hid hps
    have HBel := Lib.hid hbel
    have HKd := Lib.hid hK
    have c0 : W.cell? ⟨w.heap.size, 0, none⟩ = some v := hx.cell
    clear hx hps hbel hK
    dsimp only
    go_wp2_with fail
    refine ⟨by simp, .inl ⟨_, _, rfl, run_takeDeferred HKd.out, ?_⟩⟩
    refine ⟨_, results_tmp rfl _ _ _, v, rfl, ?_, ?_⟩
    · refine Os.own_of HPs.out (fun j hj => World.putObj_heap_other (fun e => ?_))
      obtain ⟨cur, hc⟩ := Os.own_cells HPs.out hj
      rw [e, HKd.out] at hc; cases hc
    · exact HBel.out.trans ⟨rfl, rfl, rfl, by simp, fun k hk => World.putObj_heap_other (by omega)⟩
end Go.Proofs.YtckcgaliphpgeaaGreatDoor.He
