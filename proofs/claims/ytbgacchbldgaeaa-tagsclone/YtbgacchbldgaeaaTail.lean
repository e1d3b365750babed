/-
  A statement that draws its order within an iterator or a loop over one: all its operations but the last ones only read. Laws that the claimed proofs use.
-/
import Derived.Test.YtbgacchbldgaeaaKeys
import Derived.StillTailTactics
import Derived.OrdersIn
namespace Go.Proofs.Ytbgacchbldgaeaa
open Go.RowKit Go.Maps Go.Shelf

attribute [local go_sem] Oper.semAt_some

section
variable {P : Program} {ops : Array Oper} {md : Region.Mode} {w : World} {F : Fence} {nF : Nat}
/-- No operation of these is a defer statement. -/
def plainOps (ops : Array Oper) : Bool := ops.all fun o => match o.op with
  | .defer _ => false
  | _ => true
theorem plain_at_op {i : Nat} {o : Oper} (h : plainOps ops = true) (hi : ops[i]? = some o) : ∀ c, o.op ≠ .defer c := by
  intro c hc
  obtain ⟨hlt, he⟩ := Array.getElem?_eq_some_iff.1 hi
  have := Array.all_eq_true.1 h i hlt
  rw [he, hc] at this
  cases this
theorem still_in (HF : ∀ {n : Nat} {f : FuncId} {args : Array Value} {w : World} {R : Ending → World → Prop}, Calls P f args w R → CallsIn F n P f args w R) (hd : F.depth = none) (hfn : ∀ f, F.fn f) {o : Oper} {a : Act} {K : Act → Prop} {K' : Act → World → Prop} {Q' : Exit → Act → World → Prop} (hnd : ∀ c, o.op ≠ .defer c) (h : ∀ a, K a → K' a w) (hh : o.still P a w K) : o.wpIn F nF P a w K' Q' := by
  unfold Oper.still at hh
  unfold Oper.wpIn
  refine ⟨fun f _ => hfn f, ?_⟩
  rw [Oper.semAt_plain _ _ _ hnd]
  generalize (execOp a.eval o).run P w = r at *
  cases r with
  | ok x w' =>
    cases x <;> simp only [Oper.stillUpon] at hh <;> simp only [Oper.uponIn]
    case enter f args =>
      obtain ⟨rfl, v, hc, hn⟩ := hh
      exact ⟨fun h => (by rw [hd] at h; cases h), HF (hc.mono fun e w'' ⟨he, hw⟩ => by subst he; subst hw; exact h _ hn)⟩
    all_goals (obtain ⟨rfl, h2⟩ := hh; exact h _ h2)
  | halt x w' => simp only [Oper.stillUpon] at hh
theorem opIn_of_stOp (HF : ∀ {n : Nat} {f : FuncId} {args : Array Value} {w : World} {R : Ending → World → Prop}, Calls P f args w R → CallsIn F n P f args w R) (hd : F.depth = none) (hfn : ∀ f, F.fn f) {i : Nat} {a : Act} {K : Act → Prop} {K' : Act → World → Prop} {Q' : Exit → Act → World → Prop} (hp : plainOps ops = true) (h : ∀ a, K a → K' a w) (hh : stOp P ops w i K a) : wpOpIn F nF P ops Q' i K' a w := by
  unfold stOp at hh
  unfold wpOpIn
  split
  · rename_i ho; simp only [ho] at hh; exact h _ hh
  · rename_i o ho
    simp only [ho] at hh
    split
    · rename_i hw; simp only [hw, if_true] at hh; exact still_in HF hd hfn (plain_at_op hp ho) h hh
    · rename_i hw; simp only [hw] at hh; exact ⟨fun f _ => hfn f, h _ hh⟩
theorem anyIn_of_head (HF : ∀ {n : Nat} {f : FuncId} {args : Array Value} {w : World} {R : Ending → World → Prop}, Calls P f args w R → CallsIn F n P f args w R) (hd : F.depth = none) (hfn : ∀ f, F.fn f) {n g : Nat} {L : Array Bool → Act → Prop} {Q' : Exit → Act → World → Prop} (hp : plainOps ops = true) (hL : ∀ listed a, L listed a → wpAnyIn F nF P md ops Q' g listed a w) :
    ∀ (f : Nat) (listed : Array Bool) (a : Act), wpAnyL P md ops w n L f listed a → wpAnyIn F nF P md ops Q' (f + g) listed a w
  | 0, listed, a, h => by rw [Nat.zero_add]; exact hL _ _ h
  | f + 1, listed, a, h => by
    rw [show f + 1 + g = (f + g) + 1 by omega]
    exact ⟨fun h0 => absurd h0 h.1, fun i hi => opIn_of_stOp HF hd hfn hp (fun a' h' => anyIn_of_head HF hd hfn hp hL f _ a' h') (h.2 i hi).2⟩
theorem anyIn_of_seq {Q' : Exit → Act → World → Prop} : ∀ (l : List Oper) (k : Nat) (listed : Array Bool) (a : Act) (w : World), (∀ j, l[j]? = ops[k + j]?) →
    Region.seqB md ops l.length k listed = true → wpListIn F nF P ops Q' l a w → wpAnyIn F nF P md ops Q' l.length listed a w
  | [], _, _, _, _, _, hB, h => ⟨by simpa [Region.seqB] using hB, h⟩
  | o :: l, k, listed, a, w, hl, hB, h => by
    have h0 : ops[k]? = some o := by simpa using (hl 0).symm
    simp only [List.length_cons, Region.seqB, Bool.and_eq_true, decide_eq_true_eq] at hB
    refine ⟨fun h1 => (by rw [hB.1] at h1; cases h1), fun i hi => ?_⟩
    rw [hB.1] at hi
    have hik : i = k := by simpa using hi
    subst hik
    have hw : wpOpIn F nF P ops Q' i (wpListIn F nF P ops Q' l) a w := by unfold wpOpIn; simp only [h0]; exact h
    exact wpOpIn_mono (fun a' w' h' => anyIn_of_seq l (i + 1) _ a' w' (fun j => by have := hl (j + 1); simpa [Nat.add_assoc, Nat.add_comm 1 j] using this) hB.2 h') hw
/-- All but the last operations of a statement only read: one walk, in the text's order, within a round. -/
theorem round_still_tail (HF : ∀ {n : Nat} {f : FuncId} {args : Array Value} {w : World} {R : Ending → World → Prop}, Calls P f args w R → CallsIn F n P f args w R) (hd : F.depth = none) (hfn : ∀ f, F.fn f) {id : Nat} {Q : Exit → Act → World → Prop} {a : Act} {w : World} {ol : List Oper} (n : Nat) (hm : P.follows .mixedOrders = true) (hp : plainOps ol.toArray = true) (hB : Region.lexTailB .any ol.toArray n = true)
    (h : wpStill P ol.toArray w.drew (fun a' => wpListIn F nF P ol.toArray Q (ol.drop n) a' w.drew) (ol.take n) a) : (Code.region id ol.toArray true).wpIn F nF P Q a w := by
  simp only [Region.lexTailB, Bool.and_eq_true, decide_eq_true_eq] at hB
  obtain ⟨⟨⟨⟨hsel, hn⟩, hs⟩, hc⟩, hlex⟩ := hB
  have hn' : n < ol.length := by simpa using hn
  have htl : (ol.take n).length = n := by simp; omega
  have hdl : (ol.drop n).length = ol.toArray.size - n := by simp
  have inv0 : HeadInv .any ol.toArray n (Array.replicate ol.toArray.size false) :=
    ⟨by simp, fun j oj _ hl => (by rw [getD_replicate_false] at hl; cases hl), fun t _ ht => getD_in (by simpa using ht) (getD_replicate_false _ _)⟩
  have H := wpAnyL_lex (md := .any) (g := ol.toArray.size - n) hsel hs hc hn (ol.take n) 0 _ a (fun j hj => by
    have hj' : j < n := by rw [htl] at hj; exact hj
    simp [hj']) (by simpa using htl) inv0 (by rw [htl]; exact hlex) h
  refine wpIn_region_any hm ?_
  have := anyIn_of_head HF hd hfn (nF := nF) (Q' := Q) (g := ol.toArray.size - n) hp (fun listed a' hL => by
    have := anyIn_of_seq (F := F) (nF := nF) (md := .any) (Q' := Q) (ol.drop n) n listed a' w.drew (fun j => by simp [List.getElem?_drop]) (by rw [hdl]; exact hL.1) hL.2
    rwa [hdl] at this) _ _ _ H
  rw [htl, show n + (ol.toArray.size - n) = ol.toArray.size by omega] at this
  exact this
end

theorem wide_calls {n : Nat} {f : FuncId} {args : Array Value} {w : World} {R : Ending → World → Prop} (h : Calls Try.prog f args w R) : CallsIn Fence.wide n Try.prog f args w R := callsIn_wide.2 h
theorem round_calls {l n : Nat} {f : FuncId} {args : Array Value} {w : World} {R : Ending → World → Prop} (h : Calls Try.prog f args w R) : CallsIn (Fence.wide.inRound l) n Try.prog f args w R := CallsIn.inRound l (callsIn_wide.2 h)
/-- The block of the slice that a box holds. -/
def gotB (Bg : Nat) (W : World) : Nat := match W.cell? ⟨Bg, 0, none⟩ with
  | some (.slice (some a) _ _) => a.block
  | _ => 0
/-- What a round keeps: cells and maps, but for the cells of the slice in the box. -/
structure Kp (Bg n1 : Nat) (W W' : World) : Prop where
  got : gotB Bg W' = gotB Bg W ∨ W.heap.size ≤ gotB Bg W'
  size : W.heap.size ≤ W'.heap.size
  block : ∀ (b : Nat) (o : Obj), n1 ≤ b → W.heap[b]? = some o → (o.isCells || o.isWalk) = true → b ≠ gotB Bg W → W'.heap[b]? = W.heap[b]?
theorem Kp.trans {Bg n1 : Nat} {A B C : World} (h : Kp Bg n1 A B) (k : Kp Bg n1 B C) : Kp Bg n1 A C := by
  refine ⟨?_, Nat.le_trans h.size k.size, fun b o hb hc hk hne => ?_⟩
  · rcases k.got with e | e
    · rw [e]; exact h.got
    · right; exact Nat.le_trans h.size e
  · have e1 := h.block b o hb hc hk hne
    have hne2 : b ≠ gotB Bg B := by
      rcases h.got with e | e
      · rw [e]; exact hne
      · have := (Array.getElem?_eq_some_iff.1 hc).1; omega
    exact (k.block b o hb (e1.trans hc) hk hne2).trans e1
theorem Kp.put {Bg n1 : Nat} {W : World} {l : Nat} {o : Obj} (o' : Obj) (hl : Bg < l) (ho : W.heap[l]? = some o) (hc : o.isCells = false) (hw : o.isWalk = false) : Kp Bg n1 W (W.putObj l o') := by
  have e : ∀ b, b ≠ l → (W.putObj l o').heap[b]? = W.heap[b]? := fun b hb => World.putObj_heap_other hb
  refine ⟨.inl ?_, by simp, fun b o2 _ hcs hk _ => e b (fun h => ?_)⟩
  · unfold gotB; rw [cell_same (e Bg (by omega))]
  · subst h; rw [ho] at hcs; cases hcs; rw [hc, hw] at hk; cases hk
theorem Kp.below {Bg n1 : Nat} {W W' : World} (hb : Below W.heap.size W W') (hg : Bg < W.heap.size) : Kp Bg n1 W W' :=
  ⟨.inl (by unfold gotB; rw [cell_same (hb.block Bg hg)]), hb.size, fun b o _ hc _ _ => hb.block b (Array.getElem?_eq_some_iff.1 hc).1⟩
end Go.Proofs.Ytbgacchbldgaeaa
