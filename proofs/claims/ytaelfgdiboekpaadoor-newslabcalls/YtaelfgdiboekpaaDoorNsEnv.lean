/-
  A slab all of whose blocks are newer than a world, and what calls leave of it: laws that the claimed proofs use.
-/
import Derived.Test.YtaelfgdiboekpaaDoorNsGive
namespace Go.Proofs.YtaelfgdiboekpaaDoor.Ns
set_option maxRecDepth 100000
open Go.RowKit
open Ce (u ldW Mem)
open Bi (Blk Drawn hasB hasB_iff hasB_not up_alloc up_drew up_trans i64_in ret_i ret_b grown_refl grown_trans grown_below)

set_option maxHeartbeats 4000000 in
theorem sameints_any (X : List Int) (A1 A2 : Option Addr) (c1 c2 n1 n2 : Nat) (w : World) (h1 : Li w A1 X) (h2 : Li w A2 X) (hl : X.length ≤ 1048576) (e1 : X.length = n1) (e2 : X.length = n2) :
    Calls Tryd.prog 23 #[.slice A1 n1 c1, .slice A2 n2 c2] w fun e w' => e = .returned (.bool true) ∧ Below w.heap.size w w' := by
  obtain rfl : n1 = n2 := e1.symm.trans e2
  have H1 := Lib.hid h1
  have H2 := Lib.hid h2
  have HN := Lib.hid e1
  rw [e1] at hl
  have hd : ((n1 : Int) != (n1 : Int)) = false := by simp
  clear h1 h2 e1 e2
  go_enter Tryd.func23, Tryd.ntmps23
  go_wp2_with fail
  go_loopw [5] (fun i wr => ∃ k : Nat, k ≤ n1 ∧ i = .int .i64 k ∧ Below w.heap.size w wr) (fun i _ => n1 - (intOf i).toNat)
  case atStart => exact ⟨0, by omega, rfl, Below.refl _ _⟩
  case round =>
    obtain ⟨k, hk, rfl, hb⟩ := hrel
    have HB := Lib.hid hb
    by_cases hlt : k < n1
    · have hkl : k < X.length := by rw [HN.out]; exact hlt
      obtain ⟨b, o, rfl, q0⟩ := (H1.out.below hb).int hkl
      obtain ⟨b', o', rfl, r0⟩ := (H2.out.below hb).int hkl
      have j1 : (0 : Int) ≤ (k : Int) := by omega
      have j2 : (k : Int) < (n1 : Int) := by omega
      obtain ⟨x, hx⟩ : ∃ x, X[k] = x := ⟨_, rfl⟩
      rw [hx] at q0 r0
      have hxx : (x != x) = false := by simp
      clear hx hkl hb
      go_wp2_with fail
      go_quiet (fail)
      go_wp2_with fail
      go_roundw
      case rel => exact ⟨k + 1, by omega, by go_num, up_drew HB.out _⟩
      case measure => simp [intOf]; omega
    · obtain rfl : k = n1 := by omega
      clear hb
      go_wp2_with fail
      go_ret
      exact ⟨rfl, HB.out⟩
/-- Is a number in a list? -/
theorem in_any (X : List Int) (A : Option Addr) (c n : Nat) (x : Int) (w : World) (h1 : Li w A X) (e1 : X.length = n) (hl : n ≤ 1048576) :
    Calls Tryd.prog 30 #[.slice A n c, .int .i64 x] w fun e w' => e = .returned (.bool (decide (x ∈ X))) ∧ w = w' := by
  have H1 := Lib.hid h1
  have HN := Lib.hid e1
  clear h1 e1
  go_enter Tryd.func30, Tryd.ntmps30
  go_wp2_with fail
  go_loop [5] (fun i => ∃ k : Nat, k ≤ n ∧ i = .int .i64 k ∧ x ∉ X.take k) (fun i => n - (intOf i).toNat)
  case atStart => exact ⟨0, by omega, rfl, by simp⟩
  case round =>
    obtain ⟨k, hk, rfl, hno⟩ := hrel
    have HNo := Lib.hid hno
    clear hno
    by_cases hlt : k < n
    · have hkl : k < X.length := by rw [HN.out]; exact hlt
      obtain ⟨b, o, rfl, q0⟩ := H1.out.int hkl
      have j1 : (0 : Int) ≤ (k : Int) := by omega
      have j2 : (k : Int) < (n : Int) := by omega
      have htk := List.take_succ_eq_append_getElem hkl
      have hmem : X[k] ∈ X := List.getElem_mem hkl
      obtain ⟨y, hyy⟩ : ∃ y, X[k] = y := ⟨_, rfl⟩
      rw [hyy] at q0 htk hmem
      have HTk := Lib.hid htk
      have HMem := Lib.hid hmem
      have HLt := Lib.hid hlt
      clear hkl htk hmem hyy
      by_cases hy : y = x
      · subst hy
        have hd : (y == y) = true := by simp
        go_wp2_with fail
        go_ret
        exact ⟨ret_b (by simpa using HMem.out), rfl⟩
      · have hd : (y == x) = false := by simpa using hy
        have HY := Lib.hid hy
        clear hy
        go_wp2_with fail
        go_round
        case rel => exact ⟨k + 1, HLt.out, by go_num, by
          rw [HTk.out, List.mem_append]
          intro e
          rcases e with e | e
          · exact HNo.out e
          · exact HY.out (List.mem_singleton.1 e).symm⟩
        case measure => have := HLt.out; simp [intOf]; omega
    · obtain rfl : k = n := by omega
      go_wp2_with fail
      go_ret
      have e := HNo.out
      rw [List.take_of_length_le (by rw [HN.out]; exact Nat.le_refl _)] at e
      exact ⟨ret_b (by simpa using e), rfl⟩

/-! ### A slab that is newer -/
structure Ev (w0 w : World) (s q g b c : Nat) (S : SS) (L : List Nat) : Prop where
  sb : Sb w s q g S.bs b c S.h S.f
  rt : Rt (nx S.bs b c) S.h S.f L
  ns : w0.heap.size ≤ s ∧ w0.heap.size ≤ q ∧ w0.heap.size ≤ g
  bel : Below w0.heap.size w0 w
  tb : Tb.Tab w
/-- What Give answers and leaves. -/
def gvS (b c : Nat) (S : SS) (L : List Nat) (x : Int) : SS := match slotO b c x with
  | none => S
  | some k => if k ∈ L then S else S.push b c k
def gvL (b c : Nat) (L : List Nat) (x : Int) : List Nat := match slotO b c x with
  | none => L
  | some k => if k ∈ L then L else k :: L
def gaS (b c : Nat) (S : SS) (L : List Nat) (T : List Int) : SS := if gaE b c L T = 0 then S.pushes b c (gaK b c T) else S
def gaL (b c : Nat) (L : List Nat) (T : List Int) : List Nat := if gaE b c L T = 0 then (gaK b c T).reverse ++ L else L
theorem pushes_ok {b c n : Nat} {S : SS} {L : List Nat} {T : List Int} (o : Ok b c n S L) (hc : c < 12) (hb : b + 1024 ≤ n) (h : gaE b c L T = 0) : ∀ j, j ≤ T.length → Ok b c n (S.pushes b c (gaK b c (T.take j))) ((gaK b c (T.take j)).reverse ++ L)
  | 0, _ => by simpa [gaK, SS.pushes] using o
  | j + 1, hj => by
    obtain ⟨k, h1, h2, h3⟩ := gaE_ok h j (Nat.lt_of_succ_le hj)
    have hk := (slotO_some h1).1
    rw [gaK_take (Nat.lt_of_succ_le hj) h1, pushes_snoc, List.reverse_append]
    exact (pushes_ok o hc hb h j (Nat.le_of_succ_le hj)).push hc hb hk (by
      intro e
      rcases List.mem_append.1 e with e | e
      · exact h3 (List.mem_reverse.1 e)
      · exact h2 e)
theorem push_len {b c : Nat} {S : SS} {k : Nat} (hc : c < 12) (hb : b + 1024 ≤ S.bs.length) (hk : k < nS c) : (S.push b c k).bs.length = S.bs.length := lay_len hc hk hb
theorem gvS_len {b c : Nat} {S : SS} {L : List Nat} {x : Int} (hc : c < 12) (hb : b + 1024 ≤ S.bs.length) : (gvS b c S L x).bs.length = S.bs.length := by
  unfold gvS
  cases hs : slotO b c x with
  | none => rfl
  | some k =>
    dsimp only
    split
    · rfl
    · exact push_len hc hb (slotO_some hs).1
theorem gaS_len {b c : Nat} {S : SS} {L : List Nat} {T : List Int} (o : Ok b c S.bs.length S L) (hc : c < 12) (hb : b + 1024 ≤ S.bs.length) : (gaS b c S L T).bs.length = S.bs.length := by
  unfold gaS
  split
  · rename_i h
    have := (pushes_ok o hc hb h T.length (Nat.le_refl _)).len
    rwa [List.take_length] at this
  · rfl
section
variable {w0 w w' : World} {s q g b c : Nat} {S S' : SS} {L L' : List Nat}
theorem Ev.ok (h : Ev w0 w s q g b c S L) : Ok b c S.bs.length S L := ⟨h.rt, rfl, h.sb.hh⟩
theorem Ev.below (h : Ev w0 w s q g b c S L) (hb : Below w.heap.size w w') : Ev w0 w' s q g b c S L := ⟨h.sb.below hb, h.rt, h.ns, up_trans h.bel hb, h.tb.below hb⟩
theorem Ev.step (h : Ev w0 w s q g b c S L) (m : Sb w' s q g S'.bs b c S'.h S'.f) (r : Rt (nx S'.bs b c) S'.h S'.f L') (f : Fr s g w w') : Ev w0 w' s q g b c S' L' :=
  ⟨m, r, h.ns, h.bel.trans (f.below h.ns.1 h.ns.2.2 h.bel.size), f.tab h.tb m.pos.1 m.pos.2.2⟩
theorem Fr.both {i j : Nat} {a b : World} (h : Fr i i a b) : Fr i j a b := ⟨h.os, h.tape, h.output, h.size, fun k hk h1 _ => h.block k hk h1 h1⟩
theorem Fr.both2 {i j : Nat} {a b : World} (h : Fr i i a b) : Fr j i a b := ⟨h.os, h.tape, h.output, h.size, fun k hk _ h2 => h.block k hk h2 h2⟩
theorem ev_take (h : Ev w0 w s q g b c S L) : Calls Tryd.prog 35 #[.pointer (some ⟨s, 0, none⟩)] w fun e w' => e = .returned (tkV b c L) ∧ ∃ S', S'.bs = S.bs ∧ Ev w0 w' s q g b c S' (L.drop 1) ∧ Fr s g w w' :=
  (take_yes h.sb h.tb h.rt).mono fun _ _ ⟨he, h', hr, hm, hf, _⟩ => ⟨he, ⟨S.bs, h', (L.drop 1).length⟩, rfl, h.step hm hr hf.both, hf.both⟩
theorem ev_some (n : Int) (h : Ev w0 w s q g b c S L) : Calls Tryd.prog 37 #[.pointer (some ⟨s, 0, none⟩), .int .i64 n] w fun e w' =>
    (∃ A cap, e = .returned (.tuple #[.slice A (smM S.f n) cap, .int .i64 0]) ∧ Li w' A (adr b c (L.take (smM S.f n)))) ∧ ∃ S', S'.bs = S.bs ∧ Ev w0 w' s q g b c S' (L.drop (smM S.f n)) ∧ Fr s g w w' :=
  (some_yes n h.sb h.tb h.rt).mono fun _ _ ⟨he, h', hr, hm, hf, _⟩ => ⟨he, ⟨S.bs, h', (L.drop (smM S.f n)).length⟩, rfl, h.step hm hr hf.both, hf.both⟩
theorem ev_give (x : Int) (hx : I64 x) (h : Ev w0 w s q g b c S L) : Calls Tryd.prog 34 #[.pointer (some ⟨s, 0, none⟩), .int .i64 x] w fun e w' =>
    e = .returned (.int .i64 (gvE b c L x)) ∧ Ev w0 w' s q g b c (gvS b c S L x) (gvL b c L x) ∧ Fr s g w w' :=
  (give_yes x hx h.sb h.tb h.rt).mono fun e w' hh => by
    rcases hh with ⟨h1, h2, h3⟩ | ⟨h1, h2, k, k1, k2, h4, h5, _⟩
    · have e1 : gvS b c S L x = S ∧ gvL b c L x = L := by
        unfold gvE at h1
        unfold gvS gvL
        cases hs : slotO b c x with
        | none => exact ⟨rfl, rfl⟩
        | some k =>
          rw [hs] at h1
          by_cases hk : k ∈ L
          · exact ⟨if_pos hk, if_pos hk⟩
          · exact absurd (if_neg hk) h1
      rw [e1.1, e1.2]
      exact ⟨h2, h.below h3, Fr.of h3⟩
    · have e1 : gvS b c S L x = S.push b c k ∧ gvL b c L x = k :: L := by
        unfold gvS gvL
        rw [k1]
        exact ⟨if_neg k2, if_neg k2⟩
      rw [e1.1, e1.2, h1]
      exact ⟨h2, h.step h4 (h.ok.push h.sb.hc h.sb.fit (slotO_some k1).1 k2).rt h5, h5⟩
theorem ev_all {A : Option Addr} {n cap : Nat} {T : List Int} (h : Ev w0 w s q g b c S L) (hA : Li w A T) (hn : T.length = n) (hn2 : n ≤ 1048576) (hI : ∀ x ∈ T, I64 x) :
    Calls Tryd.prog 46 #[.pointer (some ⟨s, 0, none⟩), .slice A n cap] w fun e w' => e = .returned (.int .i64 (gaE b c L T)) ∧ Ev w0 w' s q g b c (gaS b c S L T) (gaL b c L T) ∧ Fr s g w w' := by
  have hk := h.sb.kinds
  refine (all_yes (cap := cap) h.sb h.tb h.rt hA.1 hn hn2 hI (fun b' o' e => ?_)).mono fun e w' hh => ?_
  · have h3 := (hA.2 b' o' e).2
    exact ⟨kne h3 hk.1 (by decide), kne h3 hk.2.2 (by decide)⟩
  · unfold gaS gaL
    rcases hh with ⟨h1, h2, h3⟩ | ⟨h1, h2, h4, h5, _⟩
    · rw [if_neg h1, if_neg h1]
      exact ⟨h2, h.below h3, Fr.of h3⟩
    · rw [if_pos h1, if_pos h1, h1]
      refine ⟨h2, h.step h4 ?_ h5, h5⟩
      have := (pushes_ok h.ok h.sb.hc h.sb.fit h1 T.length (Nat.le_refl _)).rt
      rwa [List.take_length] at this
/-- Of a list that came in, or lies in a block of its own. -/
theorem Ev.li (h : Ev w0 w s q g b c S L) (hf : Fr s g w w') {A : Option Addr} {xs : List Int} (ha : Li w A xs) : Li w' A xs := ha.fr hf h.sb.kinds.1 h.sb.kinds.2.2 (by decide) (by decide)
end
end Go.Proofs.YtaelfgdiboekpaaDoor.Ns
