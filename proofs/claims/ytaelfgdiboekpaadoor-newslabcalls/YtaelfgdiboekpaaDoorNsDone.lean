/-
  A call that a slab is told: a contract that the claimed proofs use.
-/
import Derived.Test.YtaelfgdiboekpaaDoorNsGreat
namespace Go.Proofs.YtaelfgdiboekpaaDoor.Ns
set_option maxRecDepth 100000
open Go.RowKit
open Ce (u ldW Mem)
open Bi (Blk Drawn hasB hasB_iff hasB_not up_alloc up_drew up_trans i64_in ret_i ret_b grown_refl grown_trans grown_below)

def Cl.val (X : Cl) : Value := .agg #[.int .i64 X.x, .int .i64 X.a, .slice X.A X.n X.cap, .slice X.B X.m X.mcap]
/-- What a call answers: an error, numbers; and which list it leaves. -/
def doE (b c : Nat) (L : List Nat) (X : Cl) : Int :=
  if X.x = 0 then (match L with | [] => 18 | _ :: _ => 0) else if X.x = 1 then gvE b c L X.a else if X.x = 2 then 0 else if X.x = 3 then gaE b c L X.xs else 0
def doO (b c : Nat) (L : List Nat) (X : Cl) : List Int :=
  if X.x = 0 then (match L with | [] => [-1] | k :: _ => [((b + k * zN c : Nat) : Int)]) else if X.x = 2 then adr b c (L.take (smM L.length X.a)) else []
def doL (b c : Nat) (L : List Nat) (X : Cl) : List Nat :=
  if X.x = 0 then L.drop 1 else if X.x = 1 then gvL b c L X.a else if X.x = 2 then L.drop (smM L.length X.a) else if X.x = 3 then gaL b c L X.xs else L
def doB (b c : Nat) (S : SS) (L : List Nat) (X : Cl) : List (BitVec 8) :=
  if X.x = 1 then (gvS b c S L X.a).bs else if X.x = 3 then (gaS b c S L X.xs).bs else S.bs
/-- What is left of a slab behind a call. -/
def Did (w0 : World) (s q g b c : Nat) (S : SS) (L : List Nat) (X : Cl) (w : World) (e : Ending) (w' : World) : Prop :=
  (∃ A k cp, e = .returned (.tuple #[.slice A k cp, .int .i64 (doE b c L X)]) ∧ Li w' A (doO b c L X) ∧ (doO b c L X).length = k) ∧ ∃ S', S'.bs = doB b c S L X ∧ Ev w0 w' s q g b c S' (doL b c L X) ∧ Fr s g w w'
theorem li_nil (w : World) : Li w none [] := ⟨fun h => absurd h (by simp [ints]), fun _ _ e => by cases e⟩
section
variable {w0 w w' : World} {s q g b c : Nat} {S S' : SS} {L L' : List Nat}
theorem Ev.fl (h : Ev w0 w s q g b c S L) : S.f = L.length := h.rt.2.symm
set_option maxHeartbeats 2000000 in
theorem done_any (X : Cl) (h : Ev w0 w s q g b c S L) (hX : In w X.A X.n X.cap X.xs) (ha : I64 X.a) (hn : X.n ≤ 1048576) (h4 : X.x ≠ 4) : Calls Tryd.prog 21 #[.pointer (some ⟨q, 0, none⟩), .pointer (some ⟨s, 0, none⟩), X.val] w (Did w0 s q g b c S L X w) := by
  obtain ⟨x, a, A, n, cap, xs, B, m, mcap, ys⟩ := X
  dsimp only at hX ha hn h4
  unfold Did doE doO doL doB Cl.val
  dsimp only
  have hb0 : Below w.heap.size w (w.alloc (.cells #[.int .i64 x, .int .i64 a, .slice A n cap, .slice B m mcap] 55)) := up_alloc (Below.refl _ w) _
  have HB0 := Lib.hid hb0
  have E0 := Lib.hid (h.below hb0)
  have HX := Lib.hid (hX.up hb0)
  by_cases h0 : x = 0
  · subst h0
    simp only [if_true, show ¬ ((0 : Int) = 1) by decide, show ¬ ((0 : Int) = 3) by decide, if_false]
    have HT := Lib.hid (ev_take E0.out)
    clear h hX ha hn h4 hb0
    cases L with
    | nil =>
      rw [show tkV b c [] = .tuple #[.int .i64 (-1), .int .i64 18] from rfl] at HT
      go_enter Tryd.func21, Tryd.ntmps21
      go_wp2_with fail
      refine HT.out.mono ?_
      rintro e w1 ⟨rfl, S', hs, E1, f1⟩
      have E1 := Lib.hid E1
      have F1 := Lib.hid ((Fr.of HB0.out).trans f1)
      have HS := Lib.hid hs
      clear hs f1 HT
      go_wp2_with fail
      go_ret2
      have hb : Below w1.heap.size w1 (w1.alloc (.cells #[.int .i64 (-1)] 3)) := up_alloc (Below.refl _ _) _
      exact ⟨⟨_, _, _, rfl, li_new w1 [-1], rfl⟩, S', HS.out, E1.out.below hb, F1.out.trans (Fr.of hb)⟩
    | cons k L =>
      obtain ⟨y, hy⟩ : ∃ y, b + k * zN c = y := ⟨_, rfl⟩
      rw [show tkV b c (k :: L) = .tuple #[.int .i64 ((b + k * zN c : Nat) : Int), .int .i64 0] from rfl, hy] at HT
      dsimp only
      rw [hy]
      clear hy
      go_enter Tryd.func21, Tryd.ntmps21
      go_wp2_with fail
      refine HT.out.mono ?_
      rintro e w1 ⟨rfl, S', hs, E1, f1⟩
      have E1 := Lib.hid E1
      have F1 := Lib.hid ((Fr.of HB0.out).trans f1)
      have HS := Lib.hid hs
      clear hs f1 HT
      go_wp2_with fail
      go_ret2
      have hb : Below w1.heap.size w1 (w1.alloc (.cells #[.int .i64 (y : Int)] 3)) := up_alloc (Below.refl _ _) _
      exact ⟨⟨_, _, _, rfl, li_new w1 [(y : Int)], rfl⟩, S', HS.out, E1.out.below hb, F1.out.trans (Fr.of hb)⟩
  · have d0 : (x == 0) = false := by simpa using h0
    rw [if_neg h0, if_neg h0, if_neg h0]
    by_cases h1 : x = 1
    · subst h1
      simp only [if_true, show ¬ ((1 : Int) = 2) by decide, if_false]
      have HT := Lib.hid (ev_give a ha E0.out)
      generalize gvE b c L a = E at *
      generalize gvL b c L a = L' at *
      generalize gvS b c S L a = S1 at *
      clear h hX ha hn h4 hb0 h0
      go_enter Tryd.func21, Tryd.ntmps21
      go_wp2_with fail
      refine HT.out.mono ?_
      rintro e w1 ⟨rfl, E1, f1⟩
      have E1 := Lib.hid E1
      have F1 := Lib.hid ((Fr.of HB0.out).trans f1)
      clear f1 HT
      go_wp2_with fail
      go_ret2
      exact ⟨⟨_, _, _, rfl, li_nil _, rfl⟩, S1, rfl, E1.out, F1.out⟩
    · have d1 : (x == 1) = false := by simpa using h1
      rw [if_neg h1, if_neg h1, if_neg h1]
      by_cases h2 : x = 2
      · subst h2
        simp only [if_true, show ¬ ((2 : Int) = 3) by decide, if_false]
        have HT := Lib.hid (ev_some a E0.out)
        rw [E0.out.fl] at HT
        have HL : Hid ((adr b c (L.take (smM L.length a))).length = smM L.length a) := by
          show _ = _
          rw [adr_len, List.length_take]; unfold smM; omega
        generalize smM L.length a = M at *
        clear h hX ha hn h4 hb0 h0 h1
        go_enter Tryd.func21, Tryd.ntmps21
        go_wp2_with fail
        refine HT.out.mono ?_
        rintro e w1 ⟨⟨A', cp, rfl, hl⟩, S', hs, E1, f1⟩
        have E1 := Lib.hid E1
        have F1 := Lib.hid ((Fr.of HB0.out).trans f1)
        have HLi := Lib.hid hl
        have HS := Lib.hid hs
        clear f1 HT hl hs
        go_wp2_with fail
        go_ret2
        exact ⟨⟨_, _, _, rfl, HLi.out, HL.out⟩, S', HS.out, E1.out, F1.out⟩
      · have d2 : (x == 2) = false := by simpa using h2
        rw [if_neg h2, if_neg h2, if_neg h2]
        by_cases h3 : x = 3
        · subst h3
          simp only [if_true]
          have HCp := Lib.hid (copyInts_any HX.out hn)
          have hxl : xs.length = n := hX.2.1
          have HG : Hid (∀ (V : World) (A' : Option Addr) (c' : Nat), Ev w0 V s q g b c S L → Li V A' xs → _) := fun V A' c' m1 m2 => ev_all (cap := c') m1 m2 hxl hn hX.2.2.2
          generalize gaE b c L xs = E at *
          generalize gaL b c L xs = L' at *
          generalize gaS b c S L xs = S1 at *
          clear h hX ha hn h4 hb0 h0 h1 h2 hxl
          go_enter Tryd.func21, Tryd.ntmps21
          go_wp2_with fail
          refine HCp.out.mono ?_
          rintro e w1 ⟨A', c', rfl, hl, b1⟩
          have E1 := Lib.hid (E0.out.below b1)
          have B1 := Lib.hid (up_trans HB0.out b1)
          have HT := Lib.hid (HG.out w1 A' c' E1.out hl)
          clear b1 hl HG HCp
          go_wp2_with fail
          refine HT.out.mono ?_
          rintro e w2 ⟨rfl, E2, f2⟩
          have E2 := Lib.hid E2
          have F2 := Lib.hid ((Fr.of B1.out).trans f2)
          clear f2 HT
          go_wp2_with fail
          go_ret2
          exact ⟨⟨_, _, _, rfl, li_nil _, rfl⟩, S1, rfl, E2.out, F2.out⟩
        · have d3 : (x == 3) = false := by simpa using h3
          have d4 : (x == 4) = false := by simpa using h4
          rw [if_neg h3, if_neg h3, if_neg h3]
          clear h hX ha hn h4 hb0 h0 h1 h2 h3
          go_enter Tryd.func21, Tryd.ntmps21
          go_wp2_with fail
          go_ret2
          exact ⟨⟨_, _, _, rfl, li_nil _, rfl⟩, S, rfl, E0.out, Fr.of HB0.out⟩
end
end Go.Proofs.YtaelfgdiboekpaaDoor.Ns
