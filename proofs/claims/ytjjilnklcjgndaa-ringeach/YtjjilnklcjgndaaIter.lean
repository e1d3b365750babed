/-
  What the iterator that Each answers does, whatever the loop's body does to the lists: a contract that the claimed proofs use.
-/
import Derived.Test.YtjjilnklcjgndaaClone
import Derived.Test.YtjjilnklcjgndaaCount
import Derived.RangeFuncNested
import Derived.RangeFuncBox
import Derived.RangeFuncBound
import Derived.RangeFuncCalls
import Derived.RangeFuncLeaves
import Derived.Shelf.Abstract
import Derived.Shelf.RegionOpen
import Derived.OwnWalkIn
import Derived.TacticsInMore
import Derived.LoopNIn
import Derived.LoopIn
namespace Go.Proofs.Ytjjilnklcjgndaa
open Go.RowKit Go.Shelf

attribute [local go_sem] Oper.semAt_some

/-- The block of the slice that a box holds. -/
def gotB (Bg : Nat) (W : World) : Nat := match W.cell? ⟨Bg, 0, none⟩ with
  | some (.slice (some a) _ _) => a.block
  | _ => 0
/-- What a round keeps: cells, but for those of the slice in the box. -/
structure Kp (Bg n1 : Nat) (W W' : World) : Prop where
  got : gotB Bg W' = gotB Bg W ∨ W.heap.size ≤ gotB Bg W'
  size : W.heap.size ≤ W'.heap.size
  block : ∀ (b : Nat) (cs : Array Value) (t : TypeId) (fr : Nat × Nat), n1 ≤ b → W.heap[b]? = some (.cells cs t fr) → b ≠ gotB Bg W → W'.heap[b]? = W.heap[b]?
theorem Kp.trans {Bg n1 : Nat} {A B C : World} (h : Kp Bg n1 A B) (k : Kp Bg n1 B C) : Kp Bg n1 A C := by
  refine ⟨?_, Nat.le_trans h.size k.size, fun b cs t fr hb hc hne => ?_⟩
  · rcases k.got with e | e
    · rw [e]; exact h.got
    · right; exact Nat.le_trans h.size e
  · have e1 := h.block b cs t fr hb hc hne
    have hne2 : b ≠ gotB Bg B := by
      rcases h.got with e | e
      · rw [e]; exact hne
      · have := (Array.getElem?_eq_some_iff.1 hc).1; omega
    exact (k.block b cs t fr hb (e1.trans hc) hne2).trans e1
theorem Kp.put {Bg n1 : Nat} {W : World} {l : Nat} {o : Obj} (o' : Obj) (hl : Bg < l) (ho : W.heap[l]? = some o) (hc : o.isCells = false) : Kp Bg n1 W (W.putObj l o') := by
  have e : ∀ b, b ≠ l → (W.putObj l o').heap[b]? = W.heap[b]? := fun b hb => World.putObj_heap_other hb
  refine ⟨.inl ?_, by simp, fun b cs t fr _ hcs _ => e b (fun h => ?_)⟩
  · unfold gotB; rw [cell_same (e Bg (by omega))]
  · subst h; rw [ho] at hcs; cases hcs; cases hc
theorem cells_of {W : World} {b i : Nat} {v : Value} (h : W.cell? ⟨b, i, none⟩ = some v) : ∃ cs t fr, W.heap[b]? = some (.cells cs t fr) := by
  unfold World.cell? at h
  cases hb : W.heap[b]? with
  | none => simp [hb] at h
  | some o =>
    cases o with
    | cells cs t fr => exact ⟨cs, t, fr, rfl⟩
    | _ => simp [hb] at h
theorem grown_none {a b : World} (h : Below a.heap.size a b) : a.grownBy b none := ⟨h.os, h.tape, h.output, h.size, fun k hk _ => h.block k hk⟩
set_option maxRecDepth 100000 in
set_option maxHeartbeats 2000000 in
theorem each_stops (n : Nat) (hn : 1 ≤ n) (Br Bl Bg : Nat) (p : Pl) (L : Nat → List Nat) (i : Int) (w : World) (hBr : w.cell? ⟨Br, 0, none⟩ = some (.pointer (some ⟨p.q, 0, none⟩))) (hBl : w.cell? ⟨Bl, 0, none⟩ = some (.int .i64 i)) (hr : Ring w p L)
    (hBg : Bg < w.heap.size) (hgot : gotB Bg w < w.heap.size) :
    SeqStopsK Fence.wide n Try.prog 32 #[.pointer (some ⟨Br, 0, none⟩), .pointer (some ⟨Bl, 0, none⟩)] (fun x : Nat => #[Value.int .i64 (x : Int)]) (Kp Bg w.heap.size) (fun ys => ys = of L i) (fun pre => pre <+: of L i) (of L i).length w := fun l J Jx W hW hJ hJx hY h0 => by
  have g1 := (hW.cell (p := ⟨Br, 0, none⟩) (World.block_lt_of_cell? w _ hBr)).trans hBr
  have g2 := (hW.cell (p := ⟨Bl, 0, none⟩) (World.block_lt_of_cell? w _ hBl)).trans hBl
  have HAll := Lib.hid (all_r (i := i) (hr.below hW))
  have hle : (of L i).length ≤ 4096 := by have := of_len hr.good i; have := hr.ok.n1; omega
  have hgW : gotB Bg W = gotB Bg w := by unfold gotB; rw [cell_same (hW.block Bg hBg)]
  have hsz := hW.size
  generalize of L i = xs at HAll hY hle ⊢
  obtain ⟨N, hN⟩ : ∃ N, xs.length = N := ⟨_, rfl⟩
  have HN := Lib.hid hN
  rw [hN] at hY hle
  have HY := Lib.hid hY
  clear hN hY hr hBr hBl
  refine callsIn_of_wp Try.func32 rfl trivial ?_ rfl
  simp only [Try.ntmps32, List.size_toArray, List.length_cons, List.length_nil, Nat.reduceAdd, Nat.reduceSub, Array.replicate_succ, Array.replicate_zero, List.push_toArray, List.append_toArray, List.nil_append, List.cons_append]
  gi_wp2_with fail
  refine ⟨trivial, ?_⟩
  refine (callsIn_wide.2 HAll.out).mono ?_
  rintro e w2 ⟨gl, cap, rfl, hgl, ia, b2⟩
  rw [HN.out]
  have HJ2 : Hid (J [] w2) := hJ [] W w2 none h0 (grown_none b2) (fun r e => by cases e)
  have HIA := Lib.hid ia
  have HGot : Hid (gotB Bg w2 < gl) := by
    have : gotB Bg w2 = gotB Bg W := by unfold gotB; rw [cell_same (b2.block Bg (by omega))]
    show _ < _
    omega
  have hgw : w.heap.size ≤ gl := by omega
  clear ia b2 HAll g1 g2 h0 hgW hgl
  gi_wp2_with fail
  gi_loopw [10] (fun i wr => ∃ k : Nat, k ≤ N ∧ i = .int .i64 k ∧ J (xs.take k) wr ∧ wr.heap[gl]? = w2.heap[gl]? ∧ gotB Bg wr ≠ gl ∧ w2.heap.size ≤ wr.heap.size) (fun i _ => N - (intOf i).toNat)
  case atStart => exact ⟨0, Nat.zero_le _, rfl, HJ2.out, rfl, by have := HGot.out; omega, Nat.le_refl _⟩
  case round =>
    obtain ⟨k, hk, rfl, hJs, hsame, hne, hs2⟩ := hrel
    have HJs := Lib.hid hJs
    have HSame := Lib.hid hsame
    have HNe := Lib.hid hne
    clear hJs hsame hne
    by_cases hlt : k < N
    · have hkl : k < xs.length := by rw [HN.out]; exact hlt
      obtain ⟨b, o, e, hbl, hc⟩ := HIA.out (by omega)
      cases e
      have q1 : wr.cell? ⟨gl, k, none⟩ = some (.int .i64 ((xs[k] : Nat) : Int)) := by
        have := hc k hkl
        rw [Nat.zero_add, List.getD_eq_getElem?_getD, List.getElem?_eq_getElem hkl] at this
        exact (cell_same HSame.out).trans this
      obtain ⟨cs, t, fr, hcells⟩ := cells_of q1
      have HCells := Lib.hid hcells
      have HE2 : Hid (xs.take (k + 1) = xs.take k ++ [xs[k]]) := by show _ = _; rw [List.take_succ_eq_append_getElem hkl]
      have hY1 := HY.out (xs.take k) xs[k] wr HJs.out (by rw [List.length_take, HN.out]; omega)
      obtain ⟨X, hX⟩ : ∃ X, xs[k] = X := ⟨_, rfl⟩
      rw [hX] at q1 hY1 HE2
      have j1 : (0 : Int) ≤ (k : Int) := by omega
      have j2 : (k : Int) < (N : Int) := by omega
      clear hc hX hkl hcells
      obtain ⟨fn, tmps, assign, body, hy, hR⟩ := hY1
      gi_wp2
      refine hR.mono ?_
      rintro e W3 (⟨rfl, hJ3, hk3⟩ | ⟨rfl, hJx3⟩)
      · have HJ3 := Lib.hid hJ3
        have HK3 := Lib.hid hk3
        clear hJ3 hk3 hy hR
        gi_wp2
        go_roundw
        case rel =>
          refine ⟨k + 1, by omega, by go_num, by rw [HE2.out]; exact HJ3.out, (HK3.out.block gl cs t fr hgw HCells.out (fun h => HNe.out h.symm)).trans HSame.out, ?_, Nat.le_trans hs2 HK3.out.size⟩
          rcases HK3.out.got with e | e
          · rw [e]; exact HNe.out
          · have := (Array.getElem?_eq_some_iff.1 HCells.out).1; omega
        case measure => simp [intOf]; omega
      · gi_wp2
        refine bodyPost_ret (results_none rfl _ _ _) rfl ?_
        exact ⟨⟨_, rfl⟩, .inr ⟨xs.take (k + 1), List.take_prefix _ _, by rw [HE2.out]; exact hJx3⟩⟩
    · obtain rfl : k = N := by omega
      gi_wp2
      go_end0
      have e3 : xs.take k = xs := List.take_of_length_le (by rw [HN.out]; omega)
      rw [e3] at HJs
      exact ⟨⟨_, rfl⟩, .inl ⟨_, rfl, HJs.out⟩⟩
end Go.Proofs.Ytjjilnklcjgndaa
