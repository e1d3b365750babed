/-
  Slots are taken of a heap: the contract that the claimed proofs use.
-/
import Derived.Test.YtckcgaliphpgeaaGreatDoorHeTaken
import Derived.Test.YtckcgaliphpgeaaGreatDoorHeCount
namespace Go.Proofs.YtckcgaliphpgeaaGreatDoor.He
set_option maxRecDepth 100000
open Go.RowKit
open Ta (sizeOf' classB)
open Bi (Drawn ret_i ret_b up_alloc up_drew up_trans tst sets)
open Ri (of of_nat up up_at up_far lenOf)
open Gr (kind kind_of kne)

section
variable {w w' : World} {P : Pl} {σ : St} {bs : List (BitVec 8)}
theorem Hm.own_lt (h : Hm w P σ bs) {k : Nat} (ho : Own P σ.U k) : k < w.heap.size := by
  rcases ho with e | e | e | ⟨p, s, hp, e⟩
  · exact (h.gm.gx.own e).1
  · rw [e]; exact h.mp.lt
  · exact ring_lt h.ring e.2
  · rcases e with e | e
    · rw [e]; exact (h.sll hp).1
    · rw [e]; exact (h.sll hp).2.2
theorem Left.trans {σ1 σ2 : St} {w1 : World} {P1 : Pl} (hP : P1.h = P.h) (hq : P1.q = P.q) (hA : ∀ x, x ∈ σ.O → (P1.A x).s = (P.A x).s) (hO : σ1.O = σ.O) (hf : Fh P σ.U w w1) (hn : Nw w.heap.size P σ.U P1 σ1.U) (k : Left P1 σ1 bs σ2 w1 w') : Left P σ bs σ2 w w' :=
  Left.trans' hP hq hO hA hf hn k
/-- A list of one's own that no call of the heap changes. -/
structure Mine (P : Pl) (U : Nat → Option Sb) (W : World) (B : Nat) (v : Value) (o : List Int) : Prop where
  row : W.ownsRow B 3 1 v o.length (Os.ints o)
  off : ∀ g, v.ownBlock = some g → ¬ Own P U g
theorem Mine.lt {P : Pl} {U : Nat → Option Sb} {W : World} {B : Nat} {v : Value} {o : List Int} (h : Mine P U W B v o) {g : Nat} (hg : v.ownBlock = some g) : B ≤ g ∧ g < W.heap.size :=
  ⟨Ri.own_base h.row g hg, by obtain ⟨cur, hc⟩ := Os.own_cells h.row hg; exact (Array.getElem?_eq_some_iff.1 hc).1⟩
theorem Mine.left {P P' : Pl} {U U' : Nat → Option Sb} {W W' : World} {B : Nat} {v : Value} {o : List Int} (h : Mine P U W B v o) (hf : Fh P U W W') (hn : Nw W.heap.size P U P' U') : Mine P' U' W' B v o :=
  ⟨Os.own_of h.row (fun j hj => hf.block j (h.lt hj).2 (h.off j hj)), fun g hg ho => by
    rcases hn g ho with e | e
    · exact h.off g hg e
    · have := (h.lt hg).2; omega⟩
theorem Mine.below {P : Pl} {U : Nat → Option Sb} {W W' : World} {B : Nat} {v : Value} {o : List Int} (h : Mine P U W B v o) (hb : Below W.heap.size W W') : Mine P U W' B v o := ⟨Os.own_below h.row hb, h.off⟩
theorem Mine.made (h : Hm w P σ bs) (x : Int) {B : Nat} (hB : B ≤ w.heap.size) : Mine P σ.U (w.alloc (.cells #[.int .i64 x] 3)) B (.slice (some ⟨w.heap.size, 0, none⟩) 1 1) [x] := by
  refine ⟨⟨rfl, .inr ⟨w.heap.size, 1, #[.int .i64 x], rfl, hB, heap_alloc_last w _, Nat.le_refl _, by simp only [maxLen]; omega, rfl, rfl⟩⟩, fun g hg ho => ?_⟩
  have := h.own_lt ho
  have hg : w.heap.size = g := Option.some.inj hg
  omega
theorem Mine.nil (P : Pl) (U : Nat → Option Sb) (W : World) (B : Nat) : Mine P U W B (.slice none 0 0) [] := ⟨World.ownsRow_nil _ _ _ _, fun _ h => by cases h⟩
/-- A heap, and a list of one's own grew. -/
theorem Hm.grown (h : Hm w P σ bs) {g : Option Nat} (hg : w.grownBy w' g) (ho : ∀ k, g = some k → ¬ Own P σ.U k ∧ kind w k = 3 ∧ 1 < k) : Hm w' P σ bs := by
  have kk : ∀ k t, kind w k = t → t ≠ 3 → k < w.heap.size → w'.heap[k]? = w.heap[k]? := fun k t hk ht hl => hg.block k hl (fun e => ht (hk.symm.trans (ho k e.symm).2.1))
  have ow : ∀ k, Own P σ.U k → w'.heap[k]? = w.heap[k]? := fun k hk => hg.block k (h.own_lt hk) (fun e => (ho k e.symm).1 hk)
  obtain ⟨a1, a2, a3, a4, a5⟩ := h.kinds
  refine ⟨h.blk.of (kk _ _ a1 (by decide) h.blk.lt), ⟨h.gm.gx.of (fun k hk hr => ?_), h.gm.inv, h.gm.len⟩, ring_of h.ring hg.size (fun k k1 k2 => ow k (.inr (.inr (.inl ⟨k1, k2⟩)))), h.rn, h.rm, h.mp.of (ow _ (.inr (.inl rfl))), fun p s hp => ?_, h.aps, h.bne, tb_of h.tb (hg.block 0 (by have := h.tb.lt; omega) (fun e => by have := (ho 0 e.symm).2.2; omega)) (hg.block 1 h.tb.lt (fun e => by have := (ho 1 e.symm).2.2; omega)), h.lo, h.ob, h.b1⟩
  · rcases hr with rfl | hr | rfl | rfl
    · exact kk _ _ a2 (by decide) hk
    · exact ow k (.inl hr)
    · exact kk _ _ a4 (by decide) hk
    · exact kk _ _ a5 (by decide) hk
  · exact (h.sl p s hp).of (ow _ (.inr (.inr (.inr ⟨p, s, hp, .inl rfl⟩)))) (kk _ _ (h.slk hp).2.1 (by decide) (h.sll hp).2.1) (ow _ (.inr (.inr (.inr ⟨p, s, hp, .inr rfl⟩))))
theorem Mine.kind {P : Pl} {U : Nat → Option Sb} {W : World} {B : Nat} {v : Value} {o : List Int} (h : Mine P U W B v o) {g : Nat} (hg : v.ownBlock = some g) : Gr.kind W g = 3 := by
  obtain ⟨cur, hc⟩ := Os.own_cells h.row hg; exact kind_of hc
/-- What a row of Takes answers and leaves, by what is done so far. -/
structure Sofar (σ : St) (c : Int) (o : List Int) (σ' : St) : Prop where
  eq : ∀ m, someGo σ c (o.length + m) = (o ++ (someGo σ' c m).1, (someGo σ' c m).2)
  hi : HI σ'
  n : σ'.N = σ.N
  out : σ'.O = σ.O
  tot : tot σ'.U σ.N = tot σ.U σ.N + o.length
  s : σ'.S.length ≤ σ.S.length + o.length
theorem Sofar.start (h : HI σ) (c : Int) : Sofar σ c [] σ := ⟨fun m => by simp, h, rfl, rfl, rfl, Nat.le_refl _⟩
theorem Sofar.step {c : Int} {o : List Int} {σ' : St} (h : Sofar σ c o σ') (he : (takeO σ' c).e = 0) : Sofar σ c (o ++ [(takeO σ' c).v]) (takeO σ' c).σ := by
  obtain ⟨n1, n2⟩ := take_N σ' c
  have ht := take_tot h.hi he
  rw [h.n] at ht
  have hS := take_S σ' c
  refine ⟨fun m => ?_, take_keep h.hi c, n1.trans h.n, n2.trans h.out, ?_, ?_⟩
  · have := h.eq (m + 1)
    rw [show (o ++ [(takeO σ' c).v]).length + m = o.length + (m + 1) by simp; omega, this]
    have e : someGo σ' c (m + 1) = ((takeO σ' c).v :: (someGo (takeO σ' c).σ c m).1, (someGo (takeO σ' c).σ c m).2) := by
      rw [someGo, if_pos he]
    rw [e]; simp
  · rw [ht, h.tot]; simp; omega
  · have := h.s; simp; omega
theorem Sofar.len {c : Int} {o : List Int} {σ' : St} (h : Sofar σ c o σ') : o.length ≤ 64 * σ.N := by
  have := h.hi.tot_le
  rw [h.n, h.tot] at this
  omega
theorem Sofar.stop {c : Int} {o : List Int} {σ' : St} (h : Sofar σ c o σ') (he : (takeO σ' c).e ≠ 0) {n : Nat} (hn : o.length < n) : someGo σ c n = (o, (takeO σ' c).σ) := by
  have := h.eq (n - o.length)
  rw [show o.length + (n - o.length) = n by omega] at this
  rw [this, show n - o.length = (n - o.length - 1) + 1 by omega, someGo, if_neg he]
  simp
theorem Sofar.done {c : Int} {o : List Int} {σ' : St} (h : Sofar σ c o σ') : someGo σ c o.length = (o, σ') := by
  have := h.eq 0
  rw [Nat.add_zero] at this
  rw [this]; simp [someGo]
set_option maxHeartbeats 8000000 in
theorem some_any (h : Hm w P σ bs) (hi : HI σ) (c n : Int) (hn : n ≤ 9223372036854775807) (hS : σ.S.length ≤ 900000000000) : Calls Tryz.prog 38 #[.pointer (some ⟨P.h, 0, none⟩), .int .i64 c, .int .i64 n] w fun e w' =>
    ∃ A cp, e = .returned (.tuple #[.slice A (someO σ c n).l.length cp, .int .i64 (someO σ c n).e]) ∧ Os.At w'.heap.size w' A (Os.ints (someO σ c n).l) ∧ Left P σ bs (someO σ c n).σ w w' := by
  have HH := Lib.hid h
  have HI' := Lib.hid hi
  have hN := h.hN
  by_cases hn1 : n < 1
  · have e : someO σ c n = ⟨[], 11, σ⟩ := by unfold someO; rw [if_pos hn1]
    have d : decide (n < 1) = true := by simpa using hn1
    rw [e]
    clear h hi hS hn1 e
    dsimp only
    go_enter Tryz.func38, Tryz.ntmps38
    go_wp2_with fail
    go_ret2
    exact ⟨none, 0, rfl, fun h => by simp [Os.ints] at h, Left.refl HH.out (Below.refl _ _)⟩
  · have d : decide (n < 1) = false := by simpa using hn1
    have HT := Lib.hid (take_any h hi c (by omega))
    by_cases he : (takeO σ c).e ≠ 0
    · have e : someO σ c n = ⟨[], (takeO σ c).e, (takeO σ c).σ⟩ := by unfold someO; rw [if_neg hn1, if_pos he]
      rw [e]
      dsimp only
      obtain ⟨E, hE⟩ : ∃ E, (takeO σ c).e = E := ⟨_, rfl⟩
      rw [hE] at HT he ⊢
      have dE : (E != 0) = true := by simpa using he
      clear h hi hS hn1 e hE he
      go_enter Tryz.func38, Tryz.ntmps38
      go_wp2_with fail
      refine HT.out.mono ?_
      rintro e w1 ⟨rfl, hl⟩
      have L := Lib.hid hl
      clear hl HT
      go_wp2_with fail
      go_ret2
      exact ⟨none, 0, rfl, fun h => by simp [Os.ints] at h, L.out⟩
    · have he : (takeO σ c).e = 0 := by omega
      have e : someO σ c n = ⟨(someGo σ c n.toNat).1, 0, (someGo σ c n.toNat).2⟩ := by unfold someO; rw [if_neg hn1, if_neg (by simpa using he)]
      rw [e]
      dsimp only
      have HSt := Lib.hid ((Sofar.start hi c).step he)
      rw [he] at HT
      obtain ⟨v0, hv0⟩ : ∃ v0, (takeO σ c).v = v0 := ⟨_, rfl⟩
      rw [hv0] at HT
      rw [List.nil_append, hv0] at HSt
      have hn2 : Hid (1 ≤ n) := by show 1 ≤ n; omega
      clear h hi hn1 e he hv0
      go_enter Tryz.func38, Tryz.ntmps38
      go_wp2_with fail
      refine HT.out.mono ?_
      rintro e w1 ⟨rfl, P1, p1, p2, p3, p4, p5, p6⟩
      have M1 := Lib.hid (Mine.made p4 v0 (B := w.heap.size) p5.size)
      have HH1 := Lib.hid (p4.below (up_alloc (Below.refl _ w1) (.cells #[.int .i64 v0] 3)))
      have F1 := Lib.hid (p5.trans (Fh.of (P := P1) (U := (takeO σ c).σ.U) (up_alloc (Below.refl _ w1) (.cells #[.int .i64 v0] 3))) p6)
      have N1 := Lib.hid p6
      have A1 := Lib.hid p3
      have P12 := Lib.hid (And.intro p1 p2)
      clear p1 p2 p3 p4 p5 p6 HT
      go_wp2_with fail
      go_loopw [10] (fun v wr => ∃ (o : List Int) (P' : Pl) (σ' : St), 1 ≤ o.length ∧ (o.length : Int) ≤ n ∧ Mine P' σ'.U wr w.heap.size v o ∧ Sofar σ c o σ' ∧ P'.h = P.h ∧ P'.q = P.q ∧ (∀ x, x ∈ σ.O → (P'.A x).s = (P.A x).s) ∧ Hm wr P' σ' bs ∧ Fh P σ.U w wr ∧ Nw w.heap.size P σ.U P' σ'.U) (fun v _ => n.toNat - lenOf v)
      case atStart => exact ⟨[v0], P1, _, by simp, hn2.out, M1.out, HSt.out, P12.out.1, P12.out.2, A1.out, HH1.out, F1.out, N1.out⟩
      case round =>
        obtain ⟨o, P', σ', ho1, hon, hm, hs, q1, q2, q3, q4, q5, q6⟩ := hrel
        obtain ⟨Av, cv, rfl⟩ := Os.own_form hm.row
        have HM := Lib.hid hm
        have HSo := Lib.hid hs
        have Q12 := Lib.hid (And.intro q1 q2)
        have Q3 := Lib.hid q3
        have Q4 := Lib.hid q4
        have Q5 := Lib.hid q5
        have Q6 := Lib.hid q6
        have hol := hs.len
        clear hm hs q2 q3 q4 q5 q6
        by_cases hlt : (o.length : Int) < n
        · have dl : decide ((o.length : Int) < n) = true := by simpa using hlt
          have HT := Lib.hid (take_any Q4.out HSo.out.hi c (by have := HSo.out.s; omega))
          rw [q1] at HT
          by_cases he : (takeO σ' c).e = 0
          · rw [he] at HT
            have HE := Lib.hid (HSo.out.step he)
            obtain ⟨v1, hv1⟩ : ∃ v1, (takeO σ' c).v = v1 := ⟨_, rfl⟩
            rw [hv1] at HT HE
            obtain ⟨σ2, hσ2⟩ : ∃ σ2, (takeO σ' c).σ = σ2 := ⟨_, rfl⟩
            rw [hσ2] at HT HE
            have HO2 : Hid (σ'.O = σ.O) := HSo.out.out
            clear he hv1 hσ2 q1 HSo
            go_wp2_with fail
            refine HT.out.mono ?_
            rintro e w2 ⟨rfl, P2, p1, p2, p3, p4, p5, p6⟩
            have HM2 := Lib.hid (HM.out.left p5 p6)
            have R1 := Lib.hid p4
            have R2 := Lib.hid (Q5.out.trans p5 Q6.out)
            have R3 := Lib.hid (Q6.out.trans p6 Q5.out.size)
            have R4 : Hid (P2.h = P.h ∧ P2.q = P.q ∧ (∀ x, x ∈ σ.O → (P2.A x).s = (P.A x).s)) := ⟨p1.trans Q12.out.1, p2.trans Q12.out.2, fun x hx => (p3 x (by rw [HO2.out]; exact hx)).trans (Q3.out x hx)⟩
            have hsz := R2.out.size
            clear p1 p2 p3 p4 p5 p6 HT HM Q4 Q5 Q6 Q12 Q3
            go_wp2_with (at_builtin; refine Os.app_law (base := w.heap.size) Os.el3 rfl _ _ rfl rfl (Os.own_below HM2.out.row (up_alloc (Below.refl _ _) _)) rfl (show (w2.alloc (.cells #[.int .i64 v1] 3)).heap[w2.heap.size]? = some (.cells [Value.int .i64 v1].toArray 3 (0, 0)) from heap_alloc_last w2 _) rfl (by simp [Value.oneCell']) (by omega) (by rw [World.size_alloc]; omega) ?_; intro g' cap' wa hoa hga hgw)
            have HA : Hm (w2.alloc (.cells #[.int .i64 v1] 3)) P2 σ2 bs := R1.out.below (up_alloc (Below.refl _ _) _)
            have MA := HM2.out.below (up_alloc (Below.refl _ w2) (.cells #[.int .i64 v1] 3))
            have HF : Hm wa P2 σ2 bs := HA.grown hga.out (fun k hk => ⟨MA.off k hk, MA.kind hk, by have := (MA.lt hk).1; have := HH.out.tb.lt; omega⟩)
            have FF : Fh P σ.U w wa := ⟨hga.out.os.trans R2.out.os, hga.out.tape.trans R2.out.tape, hga.out.output.trans R2.out.output, by have := hga.out.size; rw [World.size_alloc] at this; omega, fun k hk hno => by
              rw [hga.out.block k (by rw [World.size_alloc]; omega) (fun e => by have := (MA.lt e.symm).1; omega), Below.heap_alloc _ _ k (by omega)]
              exact R2.out.block k hk hno⟩
            have MF : Mine P2 σ2.U wa w.heap.size (.slice (some ⟨g', 0, none⟩) (o.length + 1) cap') (o ++ [v1]) := by
              refine ⟨?_, fun g hg ho => ?_⟩
              · rw [Os.ints_snoc, List.length_append]; exact hoa.out
              · have hg : g' = g := Option.some.inj hg
                subst hg
                rcases hgw.out with e | e
                · exact MA.off g' e ho
                · have := HA.own_lt ho; omega
            have hle2 := HE.out.len
            have FIN := Lib.hid (And.intro MF (And.intro HF FF))
            clear MF HF FF MA HA hoa hga hgw R1 R2 HM2
            go_roundw
            case rel => exact ⟨o ++ [v1], P2, σ2, by simp, by simp; omega, FIN.out.1, HE.out, R4.out.1, R4.out.2.1, R4.out.2.2, FIN.out.2.1, FIN.out.2.2, R3.out⟩
            case measure => simp [lenOf]; omega
          · obtain ⟨E, hE⟩ : ∃ E, (takeO σ' c).e = E := ⟨_, rfl⟩
            have HSp := Lib.hid (HSo.out.stop he (n := n.toNat) (by omega))
            rw [hE] at HT he
            have dE : (E != 0) = true := by simpa using he
            have HO2 : Hid (σ'.O = σ.O) := HSo.out.out
            obtain ⟨σ2, hσ2⟩ : ∃ σ2, (takeO σ' c).σ = σ2 := ⟨_, rfl⟩
            rw [hσ2] at HT HSp
            clear he hE hσ2 q1 HSo
            go_wp2_with fail
            refine HT.out.mono ?_
            rintro e w2 ⟨rfl, P2, p1, p2, p3, p4, p5, p6⟩
            have HM2 := Lib.hid (HM.out.left p5 p6)
            have L2 : Hid (Left P σ bs σ2 w w2) := ⟨P2, p1.trans Q12.out.1, p2.trans Q12.out.2, fun x hx => (p3 x (by rw [HO2.out]; exact hx)).trans (Q3.out x hx), p4, Q5.out.trans p5 Q6.out, Q6.out.trans p6 Q5.out.size⟩
            clear p1 p2 p3 p4 p5 p6 HT HM Q4 Q5 Q6 Q12 Q3
            go_wp2_with fail
            go_ret2
            refine ⟨Av, cv, ?_, ?_, ?_⟩
            · rw [HSp.out]; rfl
            · rw [HSp.out]; exact Os.own_at HM2.out.row
            · rw [HSp.out]; exact L2.out
        · have dl : decide ((o.length : Int) < n) = false := by simpa using hlt
          have en : n.toNat = o.length := by omega
          have HSp := Lib.hid HSo.out.done
          have L2 : Hid (Left P σ bs σ' w wr) := ⟨P', Q12.out.1, Q12.out.2, Q3.out, Q4.out, Q5.out, Q6.out⟩
          have EN := Lib.hid en
          clear en hlt q1 HSo
          go_wp2_with fail
          go_ret2
          refine ⟨Av, cv, ?_, ?_, ?_⟩
          · rw [EN.out, HSp.out]; rfl
          · rw [EN.out, HSp.out]; exact Os.own_at HM.out.row
          · rw [EN.out, HSp.out]; exact L2.out
end
end Go.Proofs.YtckcgaliphpgeaaGreatDoor.He
