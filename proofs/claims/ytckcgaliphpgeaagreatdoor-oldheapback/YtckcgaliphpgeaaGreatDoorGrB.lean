import Derived.Test.YtckcgaliphpgeaaGreatDoorGrA
import Derived.Test.YtckcgaliphpgeaaGreatDoorSpEach
/-
  What is asked of a ground: contracts that the claimed proofs use.
-/
namespace Go.Proofs.YtckcgaliphpgeaaGreatDoor.Gr
set_option maxRecDepth 100000
open Go.RowKit

/-- A region that draws its order, whose operations read what is the same in every world of a class, and whose calls leave worlds of it. -/
theorem region_in {id : Nat} {Q : Exit → Act → World → Prop} {a : Act} {w : World} {l : List Oper} (S : World → Prop) (hm : Tryz.prog.follows .mixedOrders = true) (hB : Region.lexB .any l.toArray = true) (hS : S w.drew)
    (h : ∀ (ι : Type) (_ : Nonempty ι) (f : ι → World), (∀ n, S (f n)) → (∀ W, S W → ∃ n, W = f n) → wpQuiet Tryz.prog l.toArray (fun w' => ∃ n, w' = f n) (fun a' => ∀ w', (∃ n, w' = f n) → Q .normal a' w') l a) :
    (Code.region id l.toArray true).wp Tryz.prog Q a w :=
  wp_region_quiet (C := fun w' => ∃ n : {W // S W}, w' = n.1) hm hB ⟨⟨w.drew, hS⟩, rfl⟩ (by simpa using h {W // S W} ⟨⟨w.drew, hS⟩⟩ Subtype.val (fun n => n.2) (fun W hW => ⟨⟨W, hW⟩, rfl⟩))
def mayB (v c s : Int) : Bool := decide (0 ≤ v) && (decide (v ≤ 2) && (decide (0 ≤ c) && (decide (c < 64) && (decide (0 ≤ s) && decide (s ≤ 1)))))
theorem mayB_iff {v c s : Int} : mayB v c s = true ↔ 0 ≤ v ∧ v ≤ 2 ∧ 0 ≤ c ∧ c < 64 ∧ 0 ≤ s ∧ s ≤ 1 := by simp [mayB]
theorem may_any (v c s : Int) (w : World) : Calls Tryz.prog 81 #[.int .i64 v, .int .i64 c, .int .i64 s] w fun e w' => e = .returned (.bool (mayB v c s)) ∧ w = w' := by
  obtain ⟨B, hB⟩ : ∃ B, mayB v c s = B := ⟨_, rfl⟩
  have HB := Lib.hid hB
  rw [hB]
  unfold mayB at hB
  cases h0 : decide (0 ≤ v) with
  | false =>
    rw [h0] at hB
    obtain rfl : B = false := by simpa using hB.symm
    clear hB HB
    go_enter Tryz.func81, Tryz.ntmps81
    go_wp2
    go_ret
    exact ⟨rfl, rfl⟩
  | true =>
    cases h1 : decide (v ≤ 2) with
    | false =>
      rw [h0, h1] at hB
      obtain rfl : B = false := by simpa using hB.symm
      clear hB HB
      go_enter Tryz.func81, Tryz.ntmps81
      go_wp2
      go_ret
      exact ⟨rfl, rfl⟩
    | true =>
      cases h2 : decide (0 ≤ c) with
      | false =>
        rw [h0, h1, h2] at hB
        obtain rfl : B = false := by simpa using hB.symm
        clear hB HB
        go_enter Tryz.func81, Tryz.ntmps81
        go_wp2
        go_ret
        exact ⟨rfl, rfl⟩
      | true =>
        cases h3 : decide (c < 64) with
        | false =>
          rw [h0, h1, h2, h3] at hB
          obtain rfl : B = false := by simpa using hB.symm
          clear hB HB
          go_enter Tryz.func81, Tryz.ntmps81
          go_wp2
          go_ret
          exact ⟨rfl, rfl⟩
        | true =>
          cases h4 : decide (0 ≤ s) with
          | false =>
            rw [h0, h1, h2, h3, h4] at hB
            obtain rfl : B = false := by simpa using hB.symm
            clear hB HB
            go_enter Tryz.func81, Tryz.ntmps81
            go_wp2
            go_ret
            exact ⟨rfl, rfl⟩
          | true =>
            rw [h0, h1, h2, h3, h4] at hB
            obtain rfl : B = decide (s ≤ 1) := by simpa using hB.symm
            clear hB HB
            go_enter Tryz.func81, Tryz.ntmps81
            go_wp2
            go_ret
            exact ⟨rfl, rfl⟩
section
variable {w w' : World} {q : Nat} {p : Pl} {N t : Int} {L : List Sp.Rn} {f : Ra.Ws} {S : List Le.Row} {bs : List (BitVec 8)}
theorem held_any (k : Int) (h : Gm w q p N L f t S bs) : Calls Tryz.prog 20 #[.pointer (some ⟨q, 0, none⟩), .int .i64 k] w fun e w' => e = .returned (.int .i64 (Le.heldOf (Le.hd S) k)) ∧ w = w' := by
  obtain ⟨c0, c1, c2, c3⟩ := h.gx.cells
  have HS := Lib.hid (Le.held_any k h.gx.led.blk)
  clear h
  go_enter Tryz.func20, Tryz.ntmps20
  go_wp2_with (go_at_call 51; refine HS.out.mono ?_; rintro e w1 ⟨rfl, rfl⟩)
  go_ret
  exact ⟨rfl, rfl⟩
theorem clen_any (h : Gm w q p N L f t S bs) : Calls Tryz.prog 120 #[.pointer (some ⟨p.qc, 0, none⟩)] w fun e w' => e = .returned (.int .i64 (256 * N)) ∧ w = w' := by
  have := Ce.len_any p.qc p.gc bs.length w h.gx.mem.cell
  rwa [h.len] at this
theorem pages_any (h : Gm w q p N L f t S bs) : Calls Tryz.prog 79 #[.pointer (some ⟨q, 0, none⟩)] w fun e w' => e = .returned (.int .i64 N) ∧ w = w' := by
  obtain ⟨c0, c1, c2, c3⟩ := h.gx.cells
  have HS := Lib.hid (clen_any h)
  have h0 := h.inv.n0
  have h1 := h.inv.n1
  have e1 : (256 * N).tdiv 256 = N := by rw [Int.tdiv_eq_ediv_of_nonneg (by omega)]; omega
  have e2 : (256 * N) / 256 = N := by omega
  clear h
  go_enter Tryz.func79, Tryz.ntmps79
  go_wp2_with (go_at_call 120; refine HS.out.mono ?_; rintro e w1 ⟨rfl, rfl⟩)
  go_ret
  exact ⟨rfl, rfl⟩
theorem free_any (h : Gm w q p N L f t S bs) : Calls Tryz.prog 24 #[.pointer (some ⟨q, 0, none⟩)] w fun e w' => e = .returned (.int .i64 (Sp.fsum L)) ∧ Below w.heap.size w w' := by
  obtain ⟨c0, c1, c2, c3⟩ := h.gx.cells
  have HS := Lib.hid (Sp.sum_any h.gx.sp h.inv.wf h.inv.n1)
  clear h
  go_enter Tryz.func24, Tryz.ntmps24
  go_wp2_with (go_at_call 61; refine HS.out.mono ?_; rintro e w1 ⟨rfl, b1⟩)
  go_ret
  exact ⟨rfl, b1⟩
def canB (L : List Sp.Rn) (n a : Int) : Bool := Sp.askB n a && Sp.bst n a L L.length != -1
end
end Go.Proofs.YtckcgaliphpgeaaGreatDoor.Gr

/-
  Entries, spans' lengths and states of the book: contracts that the claimed proofs use.
-/
namespace Go.Proofs.YtckcgaliphpgeaaGreatDoor.Gr
set_option maxRecDepth 100000
open Go.RowKit
section
variable {w w' : World} {q : Nat} {p : Pl} {N t : Int} {L : List Sp.Rn} {f : Ra.Ws} {S : List Le.Row} {bs : List (BitVec 8)}
/-- How many pages a span has that begins there. -/
theorem gvv_not (h : Gm w q p N L f t S bs) {x : Int} (hx : ∀ k, k < L.length → (Sp.el L k).p = x → (Sp.el L k).t = false) : Sp.gvv L x = 0 ∧ ¬ Sp.gi L x < L.length := by
  have : ¬ Sp.gi L x < L.length := fun hc => by
    obtain ⟨h1, h2⟩ := Sp.gi_yes hc
    rw [hx _ hc h1] at h2; cases h2
  exact ⟨by unfold Sp.gvv; rw [if_neg this], this⟩
theorem len_any (x : Int) (h : Gm w q p N L f t S bs) : Calls Tryz.prog 28 #[.pointer (some ⟨q, 0, none⟩), .int .i64 x] w fun e w' => e = .returned (.int .i64 (Sp.gvv L x)) ∧ Below w.heap.size w w' := by
  obtain ⟨c0, c1, c2, c3⟩ := h.gx.cells
  by_cases hin : 0 ≤ x ∧ x < N
  · obtain ⟨k, hk, h1, h2⟩ := Sp.chain_find h.inv.wf.chain hin.1 hin.2
    have HF := Lib.hid (Sp.find_yes h.gx.sp h.inv.wf h.inv.n1 hk h1 h2)
    by_cases hc : (Sp.el L k).t = true ∧ (Sp.el L k).p = x
    · have e : Sp.gvv L x = (Sp.el L k).n := by unfold Sp.gvv; rw [Sp.gi_is h.inv.wf hk hc.2 hc.1, if_pos hk]
      rw [e]
      rw [hc.1, hc.2] at HF
      have d1 : (x != x) = false := by simp
      generalize (Sp.el L k).n = m at HF ⊢
      clear h hk h1 h2 hc e hin
      go_enter Tryz.func28, Tryz.ntmps28
      go_wp2_with (go_at_call 64; refine HF.out.mono ?_; rintro e w1 ⟨rfl, b1⟩; have B1 := Lib.hid (up_alloc b1 (.cells #[.int .i64 x, .int .i64 m, .bool true] 108)); clear b1)
      go_ret
      exact ⟨rfl, B1.out⟩
    · have e : Sp.gvv L x = 0 := (gvv_not h (fun j hj hp => by
        cases ht : (Sp.el L j).t with
        | false => rfl
        | true =>
          have hbj := h.inv.at hj
          have := Sp.chain_one h.inv.wf.chain hj hk (x := x) (by omega) (by omega) h1 h2
          subst this
          exact absurd ⟨ht, hp⟩ hc)).1
      rw [e]
      cases ht : (Sp.el L k).t with
      | false =>
        rw [ht] at HF
        generalize (Sp.el L k).n = m at HF ⊢
        generalize (Sp.el L k).p = a at HF ⊢
        clear h hk h1 h2 hc e hin ht
        go_enter Tryz.func28, Tryz.ntmps28
        go_wp2_with (go_at_call 64; refine HF.out.mono ?_; rintro e w1 ⟨rfl, b1⟩; have B1 := Lib.hid (up_alloc b1 (.cells #[.int .i64 a, .int .i64 m, .bool false] 108)); clear b1)
        go_ret
        exact ⟨rfl, B1.out⟩
      | true =>
        have hne : (Sp.el L k).p ≠ x := fun hp => hc ⟨ht, hp⟩
        have d1 : ((Sp.el L k).p != x) = true := by simpa using hne
        rw [ht] at HF
        generalize (Sp.el L k).n = m at HF ⊢
        generalize (Sp.el L k).p = a at HF d1 ⊢
        clear h hk hc e hin ht h1 h2 hne
        go_enter Tryz.func28, Tryz.ntmps28
        go_wp2_with (go_at_call 64; refine HF.out.mono ?_; rintro e w1 ⟨rfl, b1⟩; have B1 := Lib.hid (up_alloc b1 (.cells #[.int .i64 a, .int .i64 m, .bool true] 108)); clear b1)
        go_ret
        exact ⟨rfl, B1.out⟩
  · have HF := Lib.hid (Sp.find_no (x := x) h.gx.sp h.inv.wf h.inv.n1 (by omega))
    have e : Sp.gvv L x = 0 := (gvv_not h (fun j hj hp => by have := h.inv.at hj; omega)).1
    rw [e]
    clear h e hin
    go_enter Tryz.func28, Tryz.ntmps28
    go_wp2_with (go_at_call 64; refine HF.out.mono ?_; rintro e w1 ⟨rfl, b1⟩; have B1 := Lib.hid (up_alloc b1 (.cells #[.int .i64 0, .int .i64 0, .bool false] 108)); clear b1)
    go_ret
    exact ⟨rfl, B1.out⟩
/-- An address's entry. -/
theorem at_any (a : Int) (ha : Ra.I64 a) (h : Gm w q p N L f t S bs) : Calls Tryz.prog 13 #[.pointer (some ⟨q, 0, none⟩), .int .i64 a] w fun e w' =>
    e = .returned (.tuple #[Ra.entV (Ra.wAt N f (a / 256)), .bool (Ra.wAt N f (a / 256) != 0)]) ∧ Below w.heap.size w w' := by
  have B0 := Lib.hid (up_alloc (Below.refl _ w) (.cells #[.int .i64 0, .int .i64 0, .int .i64 0, .int .i64 0] 44))
  have K0 : Hid (Ra.Blk (w.alloc (.cells #[.int .i64 0, .int .i64 0, .int .i64 0, .int .i64 0] 44)) w.heap.size [.int .i64 0, .int .i64 0, .int .i64 0, .int .i64 0] 44) := heap_alloc_last w _
  have h0 := h.below B0.out
  obtain ⟨c0, c1, c2, c3⟩ := h0.gx.cells
  have HG := Lib.hid (Ra.get_any (a / 256) h0.gx.mp.lay h0.gx.mp.st (by have := ha; unfold Ra.I64 at *; omega))
  generalize Ra.wAt N f (a / 256) = X at HG ⊢
  unfold Ra.entV at HG ⊢
  clear h h0 ha
  go_enter Tryz.func13, Tryz.ntmps13
  go_wp2_with fail
  refine HG.out.mono ?_
  rintro e w1 ⟨rfl, b1⟩
  have K1 := Lib.hid (K0.out.below b1 K0.out.lt)
  have B1 := Lib.hid (up_trans B0.out b1)
  clear b1 HG c0 c1 c2 c3
  have d0 : w1.cell? ⟨w.heap.size, 0, none⟩ = some (.int .i64 0) := K1.out.cell
  have d1 : w1.cell? ⟨w.heap.size, 1, none⟩ = some (.int .i64 0) := K1.out.cell
  have d2 : w1.cell? ⟨w.heap.size, 2, none⟩ = some (.int .i64 0) := K1.out.cell
  have d3 : w1.cell? ⟨w.heap.size, 3, none⟩ = some (.int .i64 0) := K1.out.cell
  have f0 := K1.out.frozen 0
  have f1 := K1.out.frozen 1
  have f2 := K1.out.frozen 2
  have f3 := K1.out.frozen 3
  go_wp2_with fail
  have K9 := Lib.hid (Ra.four_set K1.out (.int .i64 (Ra.spanOf X)) (.int .i64 (Ra.verOf X)) (.int .i64 (Ra.clsOf X)) (.int .i64 (Ra.staOf X)))
  have B9 := Lib.hid (Ra.four_below B1.out (Nat.le_refl _) (.int .i64 (Ra.spanOf X)) (.int .i64 (Ra.verOf X)) (.int .i64 (Ra.clsOf X)) (.int .i64 (Ra.staOf X)))
  generalize (((w1.setCell ⟨w.heap.size, 0, none⟩ (.int .i64 (Ra.spanOf X))).setCell ⟨w.heap.size, 1, none⟩ (.int .i64 (Ra.verOf X))).setCell ⟨w.heap.size, 2, none⟩ (.int .i64 (Ra.clsOf X))).setCell ⟨w.heap.size, 3, none⟩ (.int .i64 (Ra.staOf X)) = W9 at K9 B9 ⊢
  have g0 : W9.cell? ⟨w.heap.size, 0, none⟩ = some (.int .i64 (Ra.spanOf X)) := K9.out.cell
  have g1 : W9.cell? ⟨w.heap.size, 1, none⟩ = some (.int .i64 (Ra.verOf X)) := K9.out.cell
  have g2 : W9.cell? ⟨w.heap.size, 2, none⟩ = some (.int .i64 (Ra.clsOf X)) := K9.out.cell
  have g3 : W9.cell? ⟨w.heap.size, 3, none⟩ = some (.int .i64 (Ra.staOf X)) := K9.out.cell
  exact bodyPost_ret (v := .tuple #[.agg #[.int .i64 (Ra.spanOf X), .int .i64 (Ra.verOf X), .int .i64 (Ra.clsOf X), .int .i64 (Ra.staOf X)], .bool (X != 0)]) (by simp [results, Tryz.results13, go_sem, g0, g1, g2, g3]) rfl ⟨rfl, B9.out⟩
end
end Go.Proofs.YtckcgaliphpgeaaGreatDoor.Gr

/-
  What changes a ground: contracts that the claimed proofs use.
-/
namespace Go.Proofs.YtckcgaliphpgeaaGreatDoor.Gr
set_option maxRecDepth 100000
open Go.RowKit
/-- What a call answers and leaves: spans, words, stamp, states. -/
structure Out where
  v : Int
  e : Int
  L : List Sp.Rn
  f : Ra.Ws
  t : Int
  S : List Le.Row
def same (v e : Int) (L : List Sp.Rn) (f : Ra.Ws) (t : Int) (S : List Le.Row) : Out := ⟨v, e, L, f, t, S⟩
def openO (L : List Sp.Rn) (f : Ra.Ws) (t : Int) (S : List Le.Row) (n a v c : Int) : Out :=
  if mayB v c 0 = true then
    (if Sp.tke L n a = 0 then ⟨Sp.tkv L n a, 0, Sp.tkL L n a, Ra.fill f (Sp.tkv L n a).toNat n.toNat (Ra.wd (Sp.tkv L n a) v c 0 (Ra.nx t)), Ra.nx t, Le.resF (Le.hd S) v n :: S⟩
      else ⟨-1, Sp.tke L n a, L, f, t, S⟩)
    else ⟨-1, 11, L, f, t, S⟩
def closeO (L : List Sp.Rn) (f : Ra.Ws) (t : Int) (S : List Le.Row) (x : Int) : Out :=
  if Sp.gi L x < L.length then ⟨Sp.gvv L x, 0, Sp.gvL L x, Ra.fill f x.toNat (Sp.gvv L x).toNat 0, Ra.nx t, Le.relF (Le.hd S) (Ra.verOf (f x.toNat)) (Sp.gvv L x) :: S⟩
  else ⟨0, 12, L, f, t, S⟩
def markO (L : List Sp.Rn) (f : Ra.Ws) (t : Int) (S : List Le.Row) (x v c s : Int) : Out :=
  if Sp.gi L x < L.length then
    (if mayB v c s = true then ⟨0, 0, L, Ra.fill f x.toNat (Sp.gvv L x).toNat (Ra.wd x v c s (Ra.nx t)), Ra.nx t, Le.shF (Le.hd S) (Ra.verOf (f x.toNat)) v (Sp.gvv L x) :: S⟩ else ⟨0, 11, L, f, t, S⟩)
  else ⟨0, 12, L, f, t, S⟩
section
variable {w w' : World} {q : Nat} {p : Pl} {N t : Int} {L : List Sp.Rn} {f : Ra.Ws} {S : List Le.Row} {bs : List (BitVec 8)}
/-- A ground that became another one. -/
def Bec (q : Nat) (p : Pl) (N : Int) (bs : List (BitVec 8)) (o : Out) (w w' : World) : Prop := ∃ g m, Gm w' q (p.put g m) N o.L o.f o.t o.S bs ∧ Fe p w w' ∧ Nw w.heap.size p (p.put g m)
theorem Bec.same (h : Gm w q p N L f t S bs) (hb : Below w.heap.size w w') {v e : Int} : Bec q p N bs ⟨v, e, L, f, t, S⟩ w w' :=
  ⟨p.gs, p.gm, h.below hb, Fe.of hb, Nw.refl _ _⟩
/-- What is taken lies in a free run. -/
theorem tk_yes (hi : Inv N L f S) {n a : Int} (h : Sp.tke L n a = 0) : ∃ k, k < L.length ∧ (Sp.el L k).t = false ∧ ∃ u m : Nat, Sp.tkv L n a = u ∧ n = m ∧ 1 ≤ m ∧ (Sp.el L k).p ≤ u ∧ (u : Int) + m ≤ (Sp.el L k).p + (Sp.el L k).n ∧ Sp.tkL L n a = Sp.takeL L k u m := by
  unfold Sp.tke at h
  split at h
  · rename_i hask
    split at h
    · omega
    · rename_i hb
      obtain ⟨h1, h2, h3⟩ := Sp.askB_parts hask
      rcases Sp.bst_is n a L L.length with ⟨e, _⟩ | ⟨k, e, hk, hf⟩
      · exact absurd e hb
      · obtain ⟨f1, f2⟩ := Sp.fit_parts hf
        have hat := hi.at hk
        have ha1 : 1 ≤ a := by obtain ⟨k', hk', rfl⟩ := Sp.powB_iff.1 h3; exact (Sp.pow_bd hk').1
        have hup := Sp.up_spec (Sp.el L k).p ha1
        have eu : Sp.tkv L n a = Sp.up (Sp.el L k).p a := by unfold Sp.tkv; rw [if_pos hask, if_neg hb, e]; rfl
        have eL : Sp.tkL L n a = Sp.takeL L k (Sp.up (Sp.el L k).p a) n := by unfold Sp.tkL; rw [if_pos hask, if_neg hb, e]; rfl
        refine ⟨k, hk, f1, (Sp.up (Sp.el L k).p a).toNat, n.toNat, by omega, by omega, by omega, by omega, by omega, ?_⟩
        rw [eL, show ((Sp.up (Sp.el L k).p a).toNat : Int) = Sp.up (Sp.el L k).p a by omega, show (n.toNat : Int) = n by omega]
  · omega
theorem tk_no {n a : Int} (h : Sp.tke L n a ≠ 0) : Sp.tkL L n a = L := by
  unfold Sp.tke at h; unfold Sp.tkL
  split
  · rename_i h1
    rw [if_pos h1] at h
    split
    · rfl
    · rename_i h2; rw [if_neg h2] at h; exact absurd rfl h
  · rfl
/-! ### The parts' calls -/
theorem gx_set {x k a b c d : Int} (h : Gx w q p N L f t S bs) (he : Ra.setE N x k a b c d = 0) (ix : Ra.I64 x) (ia : Ra.I64 a) (ib : Ra.I64 b) (ic : Ra.I64 c) (id : Ra.I64 d) :
    Calls Tryz.prog 83 #[.pointer (some ⟨p.qm, 0, none⟩), .int .i64 x, .int .i64 k, .agg #[.int .i64 a, .int .i64 b, .int .i64 c, .int .i64 d]] w fun e w' =>
      ∃ m', e = .returned (.int .i64 0) ∧ Gx w' q (p.put p.gs m') N L (Ra.fill f x.toNat k.toNat (Ra.wd a b c d (Ra.nx t))) (Ra.nx t) S bs ∧ Fe p w w' ∧ Nw w.heap.size p (p.put p.gs m') := by
  have HH := Lib.hid h
  have := Ra.set_any x k a b c d h.mp ix ia ib ic id
  rw [he] at this
  refine this.mono ?_
  rintro e w' ⟨m', rfl, hm, hn, hf⟩
  exact ⟨m', rfl, HH.out.radix hm hf, Fe.ra hf, Nw.put (.inl rfl) hn⟩
theorem gx_clr {x k : Int} (h : Gx w q p N L f t S bs) (he : Ra.clrE N f x k = 0) (ix : Ra.I64 x) :
    Calls Tryz.prog 86 #[.pointer (some ⟨p.qm, 0, none⟩), .int .i64 x, .int .i64 k] w fun e w' =>
      ∃ m', e = .returned (.int .i64 0) ∧ Gx w' q (p.put p.gs m') N L (Ra.fill f x.toNat k.toNat 0) (Ra.nx t) S bs ∧ Fe p w w' ∧ Nw w.heap.size p (p.put p.gs m') := by
  have HH := Lib.hid h
  have := Ra.clr_any x k h.mp ix
  rw [he] at this
  refine this.mono ?_
  rintro e w' ⟨m', rfl, hm, hn, hf⟩
  exact ⟨m', rfl, HH.out.radix hm hf, Fe.ra hf, Nw.put (.inl rfl) hn⟩
theorem gx_res {k n : Int} (h : Gx w q p N L f t S bs) (hw : Le.Wf N S) (hS : S.length ≤ 1000000000000) (he : Le.resE N (Le.hd S) k n = 0) :
    Calls Tryz.prog 84 #[.pointer (some ⟨p.ql, 0, none⟩), .int .i64 k, .int .i64 n] w fun e w' => e = .returned (.int .i64 0) ∧ Gx w' q p N L f t (Le.resF (Le.hd S) k n :: S) bs ∧ Fe p w w' := by
  have HH := Lib.hid h
  have := Le.res_any k n h.led hw hS
  rw [he] at this
  refine this.mono ?_
  rintro e w' ⟨rfl, hl, hf⟩
  exact ⟨rfl, HH.out.book hl hf, Fe.le hf⟩
theorem gx_rel {k n : Int} (h : Gx w q p N L f t S bs) (hw : Le.Wf N S) (hS : S.length ≤ 1000000000000) (he : Le.relE (Le.hd S) k n = 0) :
    Calls Tryz.prog 87 #[.pointer (some ⟨p.ql, 0, none⟩), .int .i64 k, .int .i64 n] w fun e w' => e = .returned (.int .i64 0) ∧ Gx w' q p N L f t (Le.relF (Le.hd S) k n :: S) bs ∧ Fe p w w' := by
  have HH := Lib.hid h
  have := Le.rel_any k n h.led hw hS
  rw [he] at this
  refine this.mono ?_
  rintro e w' ⟨rfl, hl, hf⟩
  exact ⟨rfl, HH.out.book hl hf, Fe.le hf⟩
theorem gx_sh {k j n : Int} (h : Gx w q p N L f t S bs) (hw : Le.Wf N S) (hS : S.length ≤ 1000000000000) (he : Le.shE (Le.hd S) k j n = 0) :
    Calls Tryz.prog 147 #[.pointer (some ⟨p.ql, 0, none⟩), .int .i64 k, .int .i64 j, .int .i64 n] w fun e w' => e = .returned (.int .i64 0) ∧ Gx w' q p N L f t (Le.shF (Le.hd S) k j n :: S) bs ∧ Fe p w w' := by
  have HH := Lib.hid h
  have := Le.sh_any k j n h.led hw hS
  rw [he] at this
  refine this.mono ?_
  rintro e w' ⟨rfl, hl, hf⟩
  exact ⟨rfl, HH.out.book hl hf, Fe.le hf⟩
theorem open_any (n a v c : Int) (h : Gm w q p N L f t S bs) (hS : S.length ≤ 1000000000000) : Calls Tryz.prog 39 #[.pointer (some ⟨q, 0, none⟩), .int .i64 n, .int .i64 a, .int .i64 v, .int .i64 c] w fun e w' =>
    e = .returned (.tuple #[.int .i64 (openO L f t S n a v c).v, .int .i64 (openO L f t S n a v c).e]) ∧ Bec q p N bs (openO L f t S n a v c) w w' := by
  have HM := Lib.hid (fun W => may_any v c 0 W)
  have HH := Lib.hid h
  obtain ⟨c0, c1, c2, c3⟩ := h.gx.cells
  cases hm : mayB v c 0 with
  | false =>
    have e : openO L f t S n a v c = ⟨-1, 11, L, f, t, S⟩ := by unfold openO; rw [hm]; rfl
    rw [e]
    rw [hm] at HM
    clear h e hm hS
    go_enter Tryz.func39, Tryz.ntmps39
    go_wp2_with (go_at_call 81; refine (HM.out _).mono ?_; rintro e w1 ⟨rfl, rfl⟩)
    go_ret2
    exact ⟨rfl, Bec.same HH.out (Below.refl _ _)⟩
  | true =>
    have HT := Lib.hid (Sp.taken_any n a h.gx.sp h.inv.wf h.inv.n1)
    obtain ⟨v0, v2, c0', c6, _, _⟩ := mayB_iff.1 hm
    rw [hm] at HM
    by_cases hE : Sp.tke L n a = 0
    · obtain ⟨k, hk, hfree, u, m, e1, rfl, hm1, b1, b2, e3⟩ := tk_yes h.inv hE
      obtain ⟨i1, i2⟩ := h.inv.take hk hfree (u := u) (n := m) (v := v) (c := c) (t := Ra.nx t) b1 hm1 b2 ⟨v0, v2⟩ ⟨c0', by omega⟩
      have hat := h.inv.at hk
      have hN := h.inv.n1
      have e : openO L f t S m a v c = ⟨u, 0, Sp.takeL L k u m, Ra.fill f u m (Ra.wd u v c 0 (Ra.nx t)), Ra.nx t, Le.resF (Le.hd S) v m :: S⟩ := by
        unfold openO; rw [hm, if_pos rfl, if_pos hE, e1, e3]; rfl
      have hset : Ra.setE N u m u v c 0 = 0 := by unfold Ra.setE; rw [if_pos ⟨Ra.inB_iff.2 (by omega), Ra.okB_iff.2 (by omega)⟩]
      rw [e]
      rw [e1, hE, e3] at HT
      have I1 := Lib.hid i1
      have I2 := Lib.hid i2
      have HSE := Lib.hid hset
      have i64u : Ra.I64 (u : Int) := by unfold Ra.I64; omega
      have i64v : Ra.I64 v := by unfold Ra.I64; omega
      have i64c : Ra.I64 c := by unfold Ra.I64; omega
      have HI : Hid (Ra.I64 (u : Int) ∧ Ra.I64 v ∧ Ra.I64 c ∧ Ra.I64 0) := ⟨i64u, i64v, i64c, by unfold Ra.I64; omega⟩
      have HSl := Lib.hid hS
      clear h e e1 e3 hm hE hk hfree hm1 b1 b2 i1 i2 hat hN hset hS i64u i64v i64c v0 v2 c0' c6
      generalize Sp.takeL L k u m = L' at *
      go_enter Tryz.func39, Tryz.ntmps39
      go_wp2_with (go_at_call 81; refine (HM.out _).mono ?_; rintro e w1 ⟨rfl, rfl⟩)
      refine HT.out.mono ?_
      rintro e w2 ⟨rfl, g', s2, f2, o2⟩
      have X2 : Hid (Gx w2 q (p.put g' p.gm) N L' f t S bs) := HH.out.gx.spans s2 f2
      have F2 : Hid (Fe p w w2) := Fe.sp f2
      have N2 : Hid (Nw w.heap.size p (p.put g' p.gm)) := Nw.put o2 (Ra.Newer.refl _ _)
      have d1 : w2.cell? ⟨q, 1, none⟩ = some (.pointer (some ⟨p.qm, 0, none⟩)) := X2.out.cells.2.1
      have d2 : w2.cell? ⟨q, 2, none⟩ = some (.pointer (some ⟨p.ql, 0, none⟩)) := X2.out.cells.2.2.1
      have HSet : Hid (Calls Tryz.prog 83 #[.pointer (some ⟨p.qm, 0, none⟩), .int .i64 u, .int .i64 m, .agg #[.int .i64 u, .int .i64 v, .int .i64 c, .int .i64 0]] w2 fun e w' =>
          ∃ m', e = .returned (.int .i64 0) ∧ Gx w' q ((p.put g' p.gm).put g' m') N L' (Ra.fill f u m (Ra.wd u v c 0 (Ra.nx t))) (Ra.nx t) S bs ∧ Fe (p.put g' p.gm) w2 w' ∧ Nw w2.heap.size (p.put g' p.gm) ((p.put g' p.gm).put g' m')) :=
        gx_set X2.out HSE.out HI.out.1 HI.out.1 HI.out.2.1 HI.out.2.2.1 HI.out.2.2.2
      clear s2 f2 o2 c0 c1 c2 c3 HT
      go_wp2_with fail
      refine HSet.out.mono ?_
      rintro e w3 ⟨m', rfl, x3, f3, n3⟩
      have X3 := Lib.hid x3
      have F3 := Lib.hid (F2.out.trans f3 N2.out)
      have N3 := Lib.hid (N2.out.trans n3 F2.out.size)
      have d3 : w3.cell? ⟨q, 2, none⟩ = some (.pointer (some ⟨p.ql, 0, none⟩)) := x3.cells.2.2.1
      have HRes : Hid (Calls Tryz.prog 84 #[.pointer (some ⟨p.ql, 0, none⟩), .int .i64 v, .int .i64 m] w3 fun e w' => e = .returned (.int .i64 0) ∧ Gx w' q ((p.put g' p.gm).put g' m') N L' (Ra.fill f u m (Ra.wd u v c 0 (Ra.nx t))) (Ra.nx t) (Le.resF (Le.hd S) v m :: S) bs ∧ Fe ((p.put g' p.gm).put g' m') w3 w') :=
        gx_res x3 HH.out.inv.bw HSl.out I1.out
      clear x3 f3 n3 HSet d1 d2
      go_wp2_with fail
      refine HRes.out.mono ?_
      rintro e w4 ⟨rfl, x4, f4⟩
      have X4 := Lib.hid x4
      have F4 := Lib.hid (F3.out.trans f4 N3.out)
      clear x4 f4 HRes d3
      go_wp2_with fail
      go_ret2
      exact ⟨rfl, g', m', ⟨X4.out, I2.out, HH.out.len⟩, F4.out, N3.out⟩
    · have e : openO L f t S n a v c = ⟨-1, Sp.tke L n a, L, f, t, S⟩ := by unfold openO; rw [hm, if_pos rfl, if_neg hE]
      have e3 := tk_no hE
      rw [e]
      rw [e3] at HT
      have hne : (Sp.tke L n a != 0) = true := by simpa using hE
      generalize Sp.tke L n a = E at *
      clear h e e3 hm hE hS
      go_enter Tryz.func39, Tryz.ntmps39
      go_wp2_with (go_at_call 81; refine (HM.out _).mono ?_; rintro e w1 ⟨rfl, rfl⟩)
      refine HT.out.mono ?_
      rintro e w2 ⟨rfl, g', s2, f2, o2⟩
      have X2 : Hid (Gx w2 q (p.put g' p.gm) N L f t S bs) := HH.out.gx.spans s2 f2
      have F2 : Hid (Fe p w w2) := Fe.sp f2
      have N2 : Hid (Nw w.heap.size p (p.put g' p.gm)) := Nw.put o2 (Ra.Newer.refl _ _)
      clear s2 f2 o2 c0 c1 c2 c3 HT
      go_wp2_with fail
      go_ret2
      exact ⟨rfl, g', p.gm, ⟨X2.out, HH.out.inv, HH.out.len⟩, F2.out, N2.out⟩
theorem close_any (x : Int) (h : Gm w q p N L f t S bs) (hS : S.length ≤ 1000000000000) : Calls Tryz.prog 40 #[.pointer (some ⟨q, 0, none⟩), .int .i64 x] w fun e w' =>
    e = .returned (.tuple #[.int .i64 (closeO L f t S x).v, .int .i64 (closeO L f t S x).e]) ∧ Bec q p N bs (closeO L f t S x) w w' := by
  have HH := Lib.hid h
  obtain ⟨c0, c1, c2, c3⟩ := h.gx.cells
  by_cases hE : Sp.gi L x < L.length
  · obtain ⟨g1, g2, g3, g4, g5, g6⟩ := h.inv.gi hE
    have hN := h.inv.n1
    have hGv : Hid (Calls Tryz.prog 85 #[.pointer (some ⟨p.qs, 0, none⟩), .int .i64 x] w fun e w' => e = .returned (.tuple #[.int .i64 (Sp.gvv L x), .int .i64 0]) ∧ Sp.Sp w' p.qs p.gs (Sp.gvL L x) ∧ Sp.Fr p.qs p.gs w w') := by
      have := Sp.give_yes h.gx.sp h.inv.wf h.inv.n1 hE g1 g2
      rw [g6] at this
      have e : Sp.gvL L x = Sp.giveL L (Sp.gi L x) := by unfold Sp.gvL; rw [if_pos hE]
      rw [e]; exact this
    have e : closeO L f t S x = ⟨Sp.gvv L x, 0, Sp.gvL L x, Ra.fill f x.toNat (Sp.gvv L x).toNat 0, Ra.nx t, Le.relF (Le.hd S) (Ra.verOf (f x.toNat)) (Sp.gvv L x) :: S⟩ := by unfold closeO; rw [if_pos hE]
    have hrel := h.inv.room hE
    have I1 := Lib.hid hrel
    have I2 := Lib.hid (h.inv.give hE)
    have hi64 : Ra.I64 x := by unfold Ra.I64; omega
    have HI := Lib.hid hi64
    have hX : Ra.wAt N f x = f x.toNat := by unfold Ra.wAt; rw [if_pos (Ra.inB_iff.2 (by omega))]
    obtain ⟨y1, _, _, _⟩ := h.inv.word hE
    have hclr : Ra.clrE N f x (Sp.gvv L x) = 0 := by
      unfold Ra.clrE
      rw [if_pos (Ra.inB_iff.2 (by omega)), if_pos (Ra.allB_iff.2 fun i hi => ?_)]
      rw [h.inv.same hE (by omega) (by omega)]; exact y1
    have HC := Lib.hid hclr
    have HX := Lib.hid hX
    have HSl := Lib.hid hS
    rw [e]
    obtain ⟨X, hXX⟩ : ∃ X, f x.toNat = X := ⟨_, rfl⟩
    have HXX := Lib.hid hXX
    rw [hXX] at I1 I2 HX ⊢
    have HNz : Hid (X ≠ 0) := by rw [hXX] at y1; exact y1
    clear h e g1 g2 g3 g4 g5 g6 hN hrel hi64 hX hclr hS hXX y1 hE
    generalize Sp.gvv L x = n at *
    generalize Sp.gvL L x = L' at *
    go_enter Tryz.func40, Tryz.ntmps40
    go_wp2_with fail
    refine hGv.out.mono ?_
    rintro e w2 ⟨rfl, s2, f2⟩
    have X2 : Hid (Gx w2 q (p.put p.gs p.gm) N L' f t S bs) := HH.out.gx.spans s2 f2
    have F2 : Hid (Fe p w w2) := Fe.sp f2
    have d1 : w2.cell? ⟨q, 1, none⟩ = some (.pointer (some ⟨p.qm, 0, none⟩)) := X2.out.cells.2.1
    have HGet : Hid (Calls Tryz.prog 44 #[.pointer (some ⟨p.qm, 0, none⟩), .int .i64 x] w2 fun e w' => e = .returned (.tuple #[Ra.entV X, .bool (X != 0)]) ∧ Below w2.heap.size w2 w') := by
      have := Ra.get_any x X2.out.mp.lay X2.out.mp.st HI.out
      rw [HX.out] at this; exact this
    unfold Ra.entV at HGet
    clear s2 f2 c0 c1 c2 c3 hGv
    go_wp2_with fail
    refine HGet.out.mono ?_
    rintro e w3 ⟨rfl, b3⟩
    obtain ⟨w4, hw4⟩ : ∃ w4, w3.alloc (.cells #[.int .i64 (Ra.spanOf X), .int .i64 (Ra.verOf X), .int .i64 (Ra.clsOf X), .int .i64 (Ra.staOf X)] 44) = w4 := ⟨_, rfl⟩
    have b4 : Below w2.heap.size w2 w4 := by rw [← hw4]; exact up_alloc b3 _
    have k4 : Blk w4 w3.heap.size [.int .i64 (Ra.spanOf X), .int .i64 (Ra.verOf X), .int .i64 (Ra.clsOf X), .int .i64 (Ra.staOf X)] 44 := by rw [← hw4]; exact Blk.new w3 _ 44
    have X4 := Lib.hid (X2.out.below b4)
    have F4 := Lib.hid (F2.out.trans (Fe.of b4) (Nw.refl _ p))
    obtain ⟨bx, hbx⟩ : ∃ bx, w3.heap.size = bx := ⟨_, rfl⟩
    rw [hbx] at k4
    have K4 := Lib.hid k4
    have d4 : w4.cell? ⟨q, 1, none⟩ = some (.pointer (some ⟨p.qm, 0, none⟩)) := X4.out.cells.2.1
    have HClr : Hid (Calls Tryz.prog 86 #[.pointer (some ⟨p.qm, 0, none⟩), .int .i64 x, .int .i64 n] w4 fun e w' =>
      ∃ m', e = .returned (.int .i64 0) ∧ Gx w' q (p.put p.gs m') N L' (Ra.fill f x.toNat n.toNat 0) (Ra.nx t) S bs ∧ Fe p w4 w' ∧ Nw w4.heap.size p (p.put p.gs m')) := gx_clr X4.out HC.out HI.out
    clear b3 b4 k4 d1 HGet X2
    go_wp2_with fail
    clear hw4 hbx
    refine HClr.out.mono ?_
    rintro e w5 ⟨m', rfl, x5, f5, n5⟩
    have X5 := Lib.hid x5
    have F5 := Lib.hid (F4.out.trans f5 (Nw.refl _ p))
    have N5 : Hid (Nw w.heap.size p (p.put p.gs m')) := (Nw.refl w.heap.size p).trans n5 F4.out.size
    have k5 : Blk w5 bx [.int .i64 (Ra.spanOf X), .int .i64 (Ra.verOf X), .int .i64 (Ra.clsOf X), .int .i64 (Ra.staOf X)] 44 := Sp.Blk.of K4.out (f5.block _ (Sp.Blk.lt K4.out) (X4.out.other (kind_blk K4.out) (by decide)))
    have z1 : w5.drew.cell? ⟨bx, 1, none⟩ = some (.int .i64 (Ra.verOf X)) := Sp.Blk.cell k5
    have d5 : w5.drew.cell? ⟨q, 2, none⟩ = some (.pointer (some ⟨p.ql, 0, none⟩)) := x5.cells.2.2.1
    have HRel := Lib.hid (gx_rel (x5.below (Below.refl _ w5).drew) HH.out.inv.bw HSl.out I1.out)
    have S1 : w5.drew.cell? ⟨bx, 1, none⟩ = some (.int .i64 (Ra.verOf X)) ∧ w5.drew.cell? ⟨q, 2, none⟩ = some (.pointer (some ⟨p.ql, 0, none⟩)) := ⟨z1, d5⟩
    clear x5 f5 n5 k5 HClr d4 z1 d5 X4
    go_wp2_with fail
    go_still_tail 7, (by kernel_rfl)
    change wpList _ _ _ _ _ w5.drew
    go_wp2_with (go_at_call 87; refine HRel.out.mono ?_; rintro e w6 ⟨rfl, x6, f6⟩)
    have X6 := Lib.hid x6
    have F6 := Lib.hid ((F5.out.trans (Fe.of (Below.refl _ w5).drew) N5.out).trans f6 N5.out)
    clear x6 f6
    go_wp2_with fail
    go_ret2
    exact ⟨rfl, p.gs, m', ⟨X6.out, I2.out, HH.out.len⟩, F6.out, N5.out⟩
  · have e : closeO L f t S x = ⟨0, 12, L, f, t, S⟩ := by unfold closeO; rw [if_neg hE]
    have HG := Lib.hid (Sp.give_no (x := x) h.gx.sp h.inv.wf h.inv.n1 (fun k hk hp => Sp.gi_no hE hk hp))
    rw [e]
    clear h e hS hE
    go_enter Tryz.func40, Tryz.ntmps40
    go_wp2_with fail
    refine HG.out.mono ?_
    rintro e w2 ⟨rfl, b2⟩
    have B2 := Lib.hid b2
    clear b2
    go_wp2_with fail
    go_ret2
    exact ⟨rfl, Bec.same HH.out B2.out⟩
theorem mark_any (x v c s : Int) (h : Gm w q p N L f t S bs) (hS : S.length ≤ 1000000000000) : Calls Tryz.prog 111 #[.pointer (some ⟨q, 0, none⟩), .int .i64 x, .int .i64 v, .int .i64 c, .int .i64 s] w fun e w' =>
    e = .returned (.int .i64 (markO L f t S x v c s).e) ∧ Bec q p N bs (markO L f t S x v c s) w w' := by
  have HH := Lib.hid h
  have HLen := Lib.hid (len_any x h)
  have HM := Lib.hid (fun W => may_any v c s W)
  by_cases hE : Sp.gi L x < L.length
  · obtain ⟨g1, g2, g3, g4, g5, g6⟩ := h.inv.gi hE
    have hn0 : (Sp.gvv L x == 0) = false := by simp; omega
    cases hm : mayB v c s with
    | false =>
      have e : markO L f t S x v c s = ⟨0, 11, L, f, t, S⟩ := by unfold markO; rw [if_pos hE, hm]; rfl
      rw [e]
      rw [hm] at HM
      generalize Sp.gvv L x = n at *
      clear h e hm hE hS g1 g2 g3 g4 g5 g6
      go_enter Tryz.func111, Tryz.ntmps111
      go_wp2_with (go_at_call 28; refine HLen.out.mono ?_; rintro e w1 ⟨rfl, b1⟩; have B1 := Lib.hid b1; clear b1)
      refine (HM.out _).mono ?_
      rintro e w2 ⟨rfl, rfl⟩
      go_wp2_with fail
      go_ret
      exact ⟨rfl, Bec.same HH.out B1.out⟩
    | true =>
      obtain ⟨v0, v2, c0', c6, s0, s1⟩ := mayB_iff.1 hm
      have hN := h.inv.n1
      obtain ⟨i1, i2⟩ := h.inv.mark hE (v := v) (c := c) (s := s) (t := Ra.nx t) ⟨v0, v2⟩ ⟨c0', by omega⟩ ⟨s0, s1⟩
      have I1 := Lib.hid i1
      have I2 := Lib.hid i2
      have e : markO L f t S x v c s = ⟨0, 0, L, Ra.fill f x.toNat (Sp.gvv L x).toNat (Ra.wd x v c s (Ra.nx t)), Ra.nx t, Le.shF (Le.hd S) (Ra.verOf (f x.toNat)) v (Sp.gvv L x) :: S⟩ := by unfold markO; rw [if_pos hE, hm]; rfl
      have hset : Ra.setE N x (Sp.gvv L x) x v c s = 0 := by unfold Ra.setE; rw [if_pos ⟨Ra.inB_iff.2 (by omega), Ra.okB_iff.2 (by omega)⟩]
      have HI : Hid (Ra.I64 x ∧ Ra.I64 v ∧ Ra.I64 c ∧ Ra.I64 s) := by show _ ∧ _; unfold Ra.I64; omega
      have hX : Ra.wAt N f x = f x.toNat := by unfold Ra.wAt; rw [if_pos (Ra.inB_iff.2 (by omega))]
      have HC := Lib.hid hset
      have HX := Lib.hid hX
      have HSl := Lib.hid hS
      rw [e]
      rw [hm] at HM
      obtain ⟨X, hXX⟩ : ∃ X, f x.toNat = X := ⟨_, rfl⟩
      rw [hXX] at I1 I2 HX ⊢
      clear h e hm hE hS g1 g2 g3 g4 g5 g6 v0 v2 c0' c6 s0 s1 hN i1 i2 hset hX hXX
      generalize Sp.gvv L x = n at *
      go_enter Tryz.func111, Tryz.ntmps111
      go_wp2_with (go_at_call 28; refine HLen.out.mono ?_; rintro e w1 ⟨rfl, b1⟩; have B1 := Lib.hid b1; clear b1)
      refine (HM.out _).mono ?_
      rintro e w2 ⟨rfl, rfl⟩
      have X1 := Lib.hid (HH.out.gx.below B1.out)
      have d1 : w1.cell? ⟨q, 1, none⟩ = some (.pointer (some ⟨p.qm, 0, none⟩)) := X1.out.cells.2.1
      have HGet : Hid (Calls Tryz.prog 44 #[.pointer (some ⟨p.qm, 0, none⟩), .int .i64 x] w1 fun e w' => e = .returned (.tuple #[Ra.entV X, .bool (X != 0)]) ∧ Below w1.heap.size w1 w') := by
        have := Ra.get_any x X1.out.mp.lay X1.out.mp.st HI.out.1
        rw [HX.out] at this; exact this
      unfold Ra.entV at HGet
      go_wp2_with fail
      refine HGet.out.mono ?_
      rintro e w3 ⟨rfl, b3⟩
      obtain ⟨w4, hw4⟩ : ∃ w4, w3.alloc (.cells #[.int .i64 (Ra.spanOf X), .int .i64 (Ra.verOf X), .int .i64 (Ra.clsOf X), .int .i64 (Ra.staOf X)] 44) = w4 := ⟨_, rfl⟩
      have b4 : Below w1.heap.size w1 w4 := by rw [← hw4]; exact up_alloc b3 _
      have k4 : Blk w4 w3.heap.size [.int .i64 (Ra.spanOf X), .int .i64 (Ra.verOf X), .int .i64 (Ra.clsOf X), .int .i64 (Ra.staOf X)] 44 := by rw [← hw4]; exact Blk.new w3 _ 44
      have X4 := Lib.hid (X1.out.below b4)
      have F4 : Hid (Fe p w w4) := Fe.of (up_trans B1.out b4)
      obtain ⟨bx, hbx⟩ : ∃ bx, w3.heap.size = bx := ⟨_, rfl⟩
      rw [hbx] at k4
      have K4 := Lib.hid k4
      have d4 : w4.cell? ⟨q, 1, none⟩ = some (.pointer (some ⟨p.qm, 0, none⟩)) := X4.out.cells.2.1
      have HSet := Lib.hid (gx_set X4.out HC.out HI.out.1 HI.out.1 HI.out.2.1 HI.out.2.2.1 HI.out.2.2.2)
      clear b3 b4 k4 d1 HGet X1
      go_wp2_with fail
      clear hw4 hbx
      refine HSet.out.mono ?_
      rintro e w5 ⟨m', rfl, x5, f5, n5⟩
      have F5 := Lib.hid (F4.out.trans f5 (Nw.refl _ p))
      have N5 : Hid (Nw w.heap.size p (p.put p.gs m')) := (Nw.refl w.heap.size p).trans n5 F4.out.size
      have k5 : Blk w5 bx [.int .i64 (Ra.spanOf X), .int .i64 (Ra.verOf X), .int .i64 (Ra.clsOf X), .int .i64 (Ra.staOf X)] 44 := Sp.Blk.of K4.out (f5.block _ (Sp.Blk.lt K4.out) (X4.out.other (kind_blk K4.out) (by decide)))
      have HSh := Lib.hid (gx_sh (x5.below (Below.refl _ w5).drew) HH.out.inv.bw HSl.out I1.out)
      have S1 : w5.drew.cell? ⟨bx, 1, none⟩ = some (.int .i64 (Ra.verOf X)) ∧ w5.drew.cell? ⟨q, 2, none⟩ = some (.pointer (some ⟨p.ql, 0, none⟩)) := ⟨Sp.Blk.cell k5, x5.cells.2.2.1⟩
      clear x5 f5 n5 k5 HSet d4 X4
      go_wp2_with fail
      go_still_tail 8, (by kernel_rfl)
      change wpList _ _ _ _ _ w5.drew
      go_wp2_with (go_at_call 147; refine HSh.out.mono ?_; rintro e w6 ⟨rfl, x6, f6⟩)
      have X6 := Lib.hid x6
      have F6 := Lib.hid ((F5.out.trans (Fe.of (Below.refl _ w5).drew) N5.out).trans f6 N5.out)
      clear x6 f6
      go_wp2_with fail
      go_ret
      exact ⟨rfl, p.gs, m', ⟨X6.out, I2.out, HH.out.len⟩, F6.out, N5.out⟩
  · have e : markO L f t S x v c s = ⟨0, 12, L, f, t, S⟩ := by unfold markO; rw [if_neg hE]
    have hn : Sp.gvv L x = 0 := by unfold Sp.gvv; rw [if_neg hE]
    rw [e]
    rw [hn] at HLen
    clear h e hS hE hn
    go_enter Tryz.func111, Tryz.ntmps111
    go_wp2_with (go_at_call 28; refine HLen.out.mono ?_; rintro e w1 ⟨rfl, b1⟩; have B1 := Lib.hid b1; clear b1)
    go_ret
    exact ⟨rfl, Bec.same HH.out B1.out⟩
/-- A call, by its seven numbers. -/
structure Cl where
  x : Int
  g : Int
  n : Int
  a : Int
  v : Int
  c : Int
  s : Int
def doO (L : List Sp.Rn) (f : Ra.Ws) (t : Int) (S : List Le.Row) (o : Cl) : Out := if o.x = 0 then openO L f t S o.n o.a o.v o.c else if o.x = 1 then closeO L f t S o.g else markO L f t S o.g o.v o.c o.s
theorem mark_v (L : List Sp.Rn) (f : Ra.Ws) (t : Int) (S : List Le.Row) (x v c s : Int) : (markO L f t S x v c s).v = 0 := by
  unfold markO
  repeat' split
  all_goals rfl
def clV (o : Cl) : Value := .agg #[.int .i64 o.x, .int .i64 o.g, .int .i64 o.n, .int .i64 o.a, .int .i64 o.v, .int .i64 o.c, .int .i64 o.s]
theorem Bec.after {w1 : World} {o : Out} (hb : Below w.heap.size w w1) (h : Bec q p N bs o w1 w') : Bec q p N bs o w w' := by
  obtain ⟨g, m, h1, h2, h3⟩ := h
  exact ⟨g, m, h1, (Fe.of hb).trans h2 (Nw.refl _ _), (Nw.refl _ _).trans h3 hb.size⟩
/-- What calls leave is sound. -/
theorem open_inv (hi : Inv N L f S) (n a v c : Int) : Inv N (openO L f t S n a v c).L (openO L f t S n a v c).f (openO L f t S n a v c).S := by
  unfold openO
  cases hm : mayB v c 0 with
  | false => exact hi
  | true =>
    obtain ⟨v0, v2, c0', c6, _, _⟩ := mayB_iff.1 hm
    rw [if_pos rfl]
    by_cases hE : Sp.tke L n a = 0
    · obtain ⟨k, hk, hfree, u, m, e1, rfl, hm1, b1, b2, e3⟩ := tk_yes hi hE
      rw [if_pos hE, e1, e3]
      exact (hi.take hk hfree (u := u) (n := m) (v := v) (c := c) (t := Ra.nx t) b1 hm1 b2 ⟨v0, v2⟩ ⟨c0', by omega⟩).2
    · rw [if_neg hE]; exact hi
theorem close_inv (hi : Inv N L f S) (x : Int) : Inv N (closeO L f t S x).L (closeO L f t S x).f (closeO L f t S x).S := by
  unfold closeO
  split
  · exact hi.give (by assumption)
  · exact hi
theorem mark_inv (hi : Inv N L f S) (x v c s : Int) : Inv N (markO L f t S x v c s).L (markO L f t S x v c s).f (markO L f t S x v c s).S := by
  unfold markO
  split
  · cases hm : mayB v c s with
    | false => exact hi
    | true =>
      obtain ⟨v0, v2, c0', c6, s0, s1⟩ := mayB_iff.1 hm
      exact (hi.mark (by assumption) ⟨v0, v2⟩ ⟨c0', by omega⟩ ⟨s0, s1⟩).2
  · exact hi
theorem do_inv (hi : Inv N L f S) (o : Cl) : Inv N (doO L f t S o).L (doO L f t S o).f (doO L f t S o).S := by
  unfold doO
  split
  · exact open_inv hi ..
  · split
    · exact close_inv hi ..
    · exact mark_inv hi ..
theorem do_len (L : List Sp.Rn) (f : Ra.Ws) (t : Int) (S : List Le.Row) (o : Cl) : (doO L f t S o).S.length ≤ S.length + 1 := by
  unfold doO openO closeO markO
  repeat' split
  all_goals simp
end
end Go.Proofs.YtckcgaliphpgeaaGreatDoor.Gr
