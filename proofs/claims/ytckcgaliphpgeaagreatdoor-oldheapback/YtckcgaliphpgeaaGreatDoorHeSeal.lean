/-
  A slab is sealed, is open again, leaves the heap, and comes to it: contracts that the claimed proofs use.
-/
import Derived.Test.YtckcgaliphpgeaaGreatDoorHeGive
namespace Go.Proofs.YtckcgaliphpgeaaGreatDoor.He
set_option maxRecDepth 100000
open Go.RowKit
open Ta (sizeOf' classB)
open Bi (Drawn ret_i ret_b up_alloc up_drew up_trans)
open Ri (of of_nat up up_at up_far)
open Gr (kind kind_of kne)

section
variable {w w' : World} {P : Pl} {σ : St} {bs : List (BitVec 8)}
theorem at_map (σ : St) (A : Nat → Ad) (x : Int) : mI (mapOf σ.U σ.O A) x = (atI σ x).map fun _ => (A x.toNat).s := by
  unfold mI atI
  split
  · rfl
  · rfl
theorem Hm.look (h : Hm w P σ bs) {x : Int} (hx : I64 x) (a : Nat) : (Instr.lookup 79 (.map (some P.b)) (.int .i64 x) true).run Tryz.prog (w.drewN a) = .ok (.tuple #[pV ((atI σ x).map fun _ => (P.A x.toNat).s), .bool (atI σ x).isSome]) (w.drewN a) := by
  have := (h.drewN a).mp.look hx
  rw [at_map] at this
  rw [this]
  cases atI σ x <;> rfl
theorem three : ((3 : Nat) : Int) = 3 := rfl
set_option maxHeartbeats 4000000 in
theorem seal_any (h : Hm w P σ bs) (hi : HI σ) (x : Int) (hx : I64 x) (hS : σ.S.length ≤ 1000000000000) : Calls Tryz.prog 25 #[.pointer (some ⟨P.h, 0, none⟩), .int .i64 x] w fun e w' =>
    e = .returned (.int .i64 (sealO σ x).e) ∧ Left P σ bs (sealO σ x).σ w w' := by
  have c1 := h.cells.2.1
  have hl := h.look hx 0
  have HH := Lib.hid h
  cases ha : atI σ x with
  | none =>
    have e : sealO σ x = ⟨0, 16, σ⟩ := by unfold sealO; rw [ha]
    rw [e]
    rw [ha] at hl
    have hl' : (Instr.lookup 79 (.map (some P.b)) (.int .i64 x) true).run Tryz.prog w = .ok (.tuple #[.pointer none, .bool false]) w := hl
    clear h hi hx hS ha e hl
    dsimp only
    go_enter Tryz.func25, Tryz.ntmps25
    go_wp2_with fail
    go_ret
    exact ⟨rfl, Left.refl HH.out (Below.refl _ _)⟩
  | some s =>
    obtain ⟨p, rfl, hM⟩ := atI_some ha
    obtain ⟨hu, hO⟩ := hi.u hM
    have hr := hi.reg hM
    have hpN : p < σ.N := by have := hr.1; omega
    have hc16 := hr.2.2.1
    have hlen : 2 ≤ s.l.length := by rw [hr.2.2.2]; exact (Os.cls (Ta.classB_iff.2 (by omega : 0 ≤ (s.c : Int) ∧ (s.c : Int) < 16))).2.2.1
    have eg : sealO σ p = if (σ.R (4 * s.c + 3)).contains p = true then ⟨0, 20, σ⟩ else if lst s.l = 2 then ⟨0, 0, closeS σ p⟩
        else ⟨0, 0, setG (setR σ (frontR σ.R p (4 * s.c + 3))) (Gr.markO σ.L σ.f σ.t σ.S p 0 s.c 1)⟩ := by
      unfold sealO; rw [ha]; dsimp only; rw [Int.toNat_natCast]
    rw [ha] at hl
    have hl' : (Instr.lookup 79 (.map (some P.b)) (.int .i64 (p : Int)) true).run Tryz.prog w = .ok (.tuple #[.pointer (some ⟨(P.A p).s, 0, none⟩), .bool true]) w := hl
    have HSe := Lib.hid (sealed_any h hu hc16)
    rw [eg]
    obtain ⟨L3, hL3⟩ : ∃ L3, (σ.R (4 * s.c + 3)).contains p = L3 := ⟨_, rfl⟩
    rw [hL3] at HSe ⊢
    have dS := st_lst (l := s.l) hlen
    have HSt := Lib.hid (fun (W : World) (hW : Hm W P σ bs) => Os.state_any (hW.sl p _ hu))
    have HCl := Lib.hid (fun (W : World) (hW : Hm W P σ bs) => close_any hW hM hpN hS)
    have HFr := Lib.hid (fun (W : World) (hW : Hm W P σ bs) => front_any hW hu hc16 (l := 3) (by omega) hpN)
    have HMk := Lib.hid (fun (W : World) (hW : Hm W P (setR σ (frontR σ.R p (4 * s.c + 3))) bs) => mark_any (z := 1) hW hu hS)
    rw [three] at HFr
    clear h hi hx hS ha eg hl hM hu hO hr hc16 hlen hL3
    cases L3 with
    | true =>
      rw [if_pos rfl]
      dsimp only
      clear dS HSt HCl HFr HMk
      go_enter Tryz.func25, Tryz.ntmps25
      go_wp2_with fail
      refine HSe.out.mono ?_
      rintro e w1 ⟨rfl, d1⟩
      have B1 := Lib.hid d1.below
      clear d1 HSe
      go_wp2_with fail
      go_ret
      exact ⟨rfl, Left.refl HH.out B1.out⟩
    | false =>
      rw [if_neg (by simp)]
      by_cases h2 : lst s.l = 2
      · have dS2 : (Os.stI s.l == 0) = true := by rw [dS]; simpa using h2
        rw [if_pos h2]
        dsimp only
        clear dS h2 HFr HMk
        go_enter Tryz.func25, Tryz.ntmps25
        go_wp2_with fail
        refine HSe.out.mono ?_
        rintro e w1 ⟨rfl, d1⟩
        have B1 := Lib.hid d1.below
        have H1 := Lib.hid (HH.out.below d1.below)
        clear d1 HSe
        go_wp2_with fail
        refine (HSt.out w1 H1.out).mono ?_
        rintro e w2 ⟨rfl, d2⟩
        have B2 := Lib.hid (up_trans B1.out d2.below)
        have H2 := Lib.hid (H1.out.below d2.below)
        clear d2 HSt
        go_wp2_with fail
        refine (HCl.out w2 H2.out).mono ?_
        rintro e w3 ⟨⟨v, rfl⟩, p', h3, f3, n3⟩
        have L3 : Hid (Left P σ bs (closeS σ p) w w3) := Left.after B2.out ⟨{ P with p := p' }, rfl, rfl, fun _ _ => rfl, h3, f3, n3⟩
        clear h3 f3 n3 HCl
        go_wp2_with fail
        go_ret
        exact ⟨rfl, L3.out⟩
      · have dS2 : (Os.stI s.l == 0) = false := by rw [dS]; simpa using h2
        rw [if_neg h2]
        dsimp only
        clear dS h2 HCl
        go_enter Tryz.func25, Tryz.ntmps25
        go_wp2_with fail
        refine HSe.out.mono ?_
        rintro e w1 ⟨rfl, d1⟩
        have B1 := Lib.hid d1.below
        have H1 := Lib.hid (HH.out.below d1.below)
        clear d1 HSe
        go_wp2_with fail
        refine (HSt.out w1 H1.out).mono ?_
        rintro e w2 ⟨rfl, d2⟩
        have B2 := Lib.hid (up_trans B1.out d2.below)
        have H2 := Lib.hid (H1.out.below d2.below)
        clear d2 HSt
        go_wp2_with fail
        refine (HFr.out w2 H2.out).mono ?_
        rintro e w3 ⟨⟨v, rfl⟩, h3, f3⟩
        have H3 := Lib.hid h3
        have F3 := Lib.hid f3
        clear h3 f3 HFr
        go_wp2_with fail
        refine (HMk.out w3 H3.out).mono ?_
        rintro e w4 ⟨⟨v2, rfl⟩, p', h4, f4, n4⟩
        have L4 : Hid (Left P σ bs (setG (setR σ (frontR σ.R p (4 * s.c + 3))) (Gr.markO σ.L σ.f σ.t σ.S p 0 s.c 1)) w w4) := Left.after B2.out ⟨{ P with p := p' }, rfl, rfl, fun _ _ => rfl, h4, F3.out.trans f4 (Nw.refl _ _ _), (Nw.refl _ _ _).trans n4 F3.out.size⟩
        clear h4 f4 n4 HMk
        go_wp2_with fail
        go_ret
        exact ⟨rfl, L4.out⟩
set_option maxHeartbeats 4000000 in
theorem unseal_any (h : Hm w P σ bs) (hi : HI σ) (x : Int) (hx : I64 x) (hS : σ.S.length ≤ 1000000000000) : Calls Tryz.prog 27 #[.pointer (some ⟨P.h, 0, none⟩), .int .i64 x] w fun e w' =>
    e = .returned (.int .i64 (unsealO σ x).e) ∧ Left P σ bs (unsealO σ x).σ w w' := by
  have c1 := h.cells.2.1
  have hl := h.look hx 0
  have HH := Lib.hid h
  cases ha : atI σ x with
  | none =>
    have e : unsealO σ x = ⟨0, 16, σ⟩ := by unfold unsealO; rw [ha]
    rw [e]
    rw [ha] at hl
    have hl' : (Instr.lookup 79 (.map (some P.b)) (.int .i64 x) true).run Tryz.prog w = .ok (.tuple #[.pointer none, .bool false]) w := hl
    clear h hi hx hS ha e hl
    dsimp only
    go_enter Tryz.func27, Tryz.ntmps27
    go_wp2_with fail
    go_ret
    exact ⟨rfl, Left.refl HH.out (Below.refl _ _)⟩
  | some s =>
    obtain ⟨p, rfl, hM⟩ := atI_some ha
    obtain ⟨hu, hO⟩ := hi.u hM
    have hr := hi.reg hM
    have hpN : p < σ.N := by have := hr.1; omega
    have hc16 := hr.2.2.1
    have eg : unsealO σ p = if (σ.R (4 * s.c + 3)).contains p = true then ⟨0, 0, setG (setR σ (settleR σ.R p (4 * s.c + lst s.l))) (Gr.markO σ.L σ.f σ.t σ.S p 0 s.c 0)⟩ else ⟨0, 20, σ⟩ := by
      unfold unsealO; rw [ha]; dsimp only; rw [Int.toNat_natCast]
    rw [ha] at hl
    have hl' : (Instr.lookup 79 (.map (some P.b)) (.int .i64 (p : Int)) true).run Tryz.prog w = .ok (.tuple #[.pointer (some ⟨(P.A p).s, 0, none⟩), .bool true]) w := hl
    have HSe := Lib.hid (sealed_any h hu hc16)
    rw [eg]
    obtain ⟨L3, hL3⟩ : ∃ L3, (σ.R (4 * s.c + 3)).contains p = L3 := ⟨_, rfl⟩
    rw [hL3] at HSe ⊢
    have HSn := Lib.hid (fun (W : World) (hW : Hm W P σ bs) => settle_any hW hu hc16 hpN)
    have HMk := Lib.hid (fun (W : World) (hW : Hm W P (setR σ (settleR σ.R p (4 * s.c + lst s.l))) bs) => mark_any (z := 0) hW hu hS)
    clear h hi hx hS ha eg hl hM hu hO hr hc16 hL3
    cases L3 with
    | false =>
      rw [if_neg (by simp)]
      dsimp only
      clear HSn HMk
      go_enter Tryz.func27, Tryz.ntmps27
      go_wp2_with fail
      refine HSe.out.mono ?_
      rintro e w1 ⟨rfl, d1⟩
      have B1 := Lib.hid d1.below
      clear d1 HSe
      go_wp2_with fail
      go_ret
      exact ⟨rfl, Left.refl HH.out B1.out⟩
    | true =>
      rw [if_pos rfl]
      dsimp only
      go_enter Tryz.func27, Tryz.ntmps27
      go_wp2_with fail
      refine HSe.out.mono ?_
      rintro e w1 ⟨rfl, d1⟩
      have B1 := Lib.hid d1.below
      have H1 := Lib.hid (HH.out.below d1.below)
      clear d1 HSe
      go_wp2_with fail
      refine (HSn.out w1 H1.out).mono ?_
      rintro e w3 ⟨⟨v, rfl⟩, h3, f3⟩
      have H3 := Lib.hid h3
      have F3 := Lib.hid f3
      clear h3 f3 HSn
      go_wp2_with fail
      refine (HMk.out w3 H3.out).mono ?_
      rintro e w4 ⟨⟨v2, rfl⟩, p', h4, f4, n4⟩
      have L4 : Hid (Left P σ bs (setG (setR σ (settleR σ.R p (4 * s.c + lst s.l))) (Gr.markO σ.L σ.f σ.t σ.S p 0 s.c 0)) w w4) := Left.after B1.out ⟨{ P with p := p' }, rfl, rfl, fun _ _ => rfl, h4, F3.out.trans f4 (Nw.refl _ _ _), (Nw.refl _ _ _).trans n4 F3.out.size⟩
      clear h4 f4 n4 HMk
      go_wp2_with fail
      go_ret
      exact ⟨rfl, L4.out⟩
/-- The slab that Leave answers, or none. -/
theorem leave_any (h : Hm w P σ bs) (hi : HI σ) (x : Int) (hx : I64 x) : Calls Tryz.prog 31 #[.pointer (some ⟨P.h, 0, none⟩), .int .i64 x] w fun e w' =>
    e = .returned (.tuple #[pV ((atI σ x).map fun _ => (P.A x.toNat).s), .int .i64 (leaveO σ x).e]) ∧ Hm w' P (leaveO σ x).σ bs ∧ Fh P σ.U w w' := by
  have c1 := h.cells.2.1
  have hl := h.look hx 0
  have HH := Lib.hid h
  cases ha : atI σ x with
  | none =>
    have e : leaveO σ x = ⟨0, 16, σ⟩ := by unfold leaveO; rw [ha]
    rw [e]
    rw [ha] at hl
    have hl' : (Instr.lookup 79 (.map (some P.b)) (.int .i64 x) true).run Tryz.prog w = .ok (.tuple #[.pointer none, .bool false]) w := hl
    clear h hi hx ha e hl
    dsimp only
    go_enter Tryz.func31, Tryz.ntmps31
    go_wp2_with fail
    go_ret2
    exact ⟨rfl, HH.out, Fh.refl _ _ _⟩
  | some s =>
    obtain ⟨p, rfl, hM⟩ := atI_some ha
    obtain ⟨hu, hO⟩ := hi.u hM
    have hr := hi.reg hM
    have hpN : p < σ.N := by have := hr.1; omega
    have eg : leaveO σ p = ⟨0, 0, setO (setR σ (remR σ.R p)) (σ.O ++ [p])⟩ := by unfold leaveO; rw [ha]; dsimp only; rw [Int.toNat_natCast]
    rw [ha] at hl
    have hl' : (Instr.lookup 79 (.map (some P.b)) (.int .i64 (p : Int)) true).run Tryz.prog w = .ok (.tuple #[.pointer (some ⟨(P.A p).s, 0, none⟩), .bool true]) w := hl
    have HD := Lib.hid (drop_any h hu hpN)
    rw [eg]
    clear h hi hx ha eg hl hM hu hO hr
    dsimp only
    go_enter Tryz.func31, Tryz.ntmps31
    go_wp2_with fail
    refine HD.out.mono ?_
    rintro e w1 ⟨⟨v, rfl⟩, h1, f1⟩
    have R := Lib.hid (And.intro h1 f1)
    clear h1 f1 HD
    go_wp2_with fail
    go_ret2
    exact ⟨rfl, R.out.1, R.out.2⟩
set_option maxHeartbeats 4000000 in
theorem join_any (h : Hm w P σ bs) (hi : HI σ) {p : Nat} {s : Sb} (hp : p ∈ σ.O) (hu : σ.U p = some s) (hS : σ.S.length ≤ 1000000000000) : Calls Tryz.prog 32 #[.pointer (some ⟨P.h, 0, none⟩), .pointer (some ⟨(P.A p).s, 0, none⟩)] w fun e w' =>
    e = .returned (.int .i64 0) ∧ Left P σ bs (joinO σ p s) w w' := by
  have hr := hi.g.reg p s hu
  have hpN : p < σ.N := by have := hr.1; omega
  have hc16 := hr.2.2.1
  have c1 := h.cells.2.1
  have HH := Lib.hid h
  have HPg := Lib.hid (pageOf_any (h.sl p s hu))
  have hx : I64 (p : Int) := by have := h.hN; unfold I64; omega
  have hl := h.look hx 0
  have hat : atI σ p = none := by rw [atI_nat]; exact M_in hp
  rw [hat] at hl
  have hl' : (Instr.lookup 79 (.map (some P.b)) (.int .i64 (p : Int)) true).run Tryz.prog w = .ok (.tuple #[.pointer none, .bool false]) w := hl
  have HLn := Lib.hid (Gr.len_any p h.gm)
  rw [(hi.g.span hu).2] at HLn
  have c0 := h.cells.1
  have HSn := Lib.hid (fun (W : World) (hW : Hm W P (setO σ (σ.O.erase p)) bs) => settle_any hW hu hc16 hpN)
  have HMk := Lib.hid (fun (W : World) (hW : Hm W P (setR (setO σ (σ.O.erase p)) (settleR σ.R p (4 * s.c + lst s.l))) bs) => mark_any (z := 0) hW hu hS)
  have HNd := Lib.hid hi.l.ond
  have HPo := Lib.hid hp
  have HU := Lib.hid hu
  clear h hi hx hS hl hat hr hc16 hp hu
  go_enter Tryz.func32, Tryz.ntmps32
  go_wp2_with fail
  refine HPg.out.mono ?_
  rintro e w0 ⟨rfl, rfl⟩
  go_wp2_with fail
  refine HLn.out.mono ?_
  rintro e w1 ⟨rfl, b1⟩
  have B1 := Lib.hid b1
  have H1 := Lib.hid (HH.out.below b1)
  have d1 := H1.out.cells.2.1
  obtain ⟨w2, hput, m2, g2⟩ := H1.out.mp.put (p := p) (s := (P.A p).s) H1.out.hN hpN
  have M2 := m2.same (m' := mapOf σ.U (σ.O.erase p) P.A) (fun x => by
    unfold mapOf
    by_cases e : x = p
    · subst e
      rw [up_at, M_off (fun hh => ((HNd.out.mem_erase_iff).1 hh).1 rfl), HU.out]; rfl
    · rw [up_far e, M_same (U := σ.U) (O := σ.O) (U' := σ.U) (O' := σ.O.erase p) rfl ⟨List.mem_of_mem_erase, fun hh => (List.mem_erase_of_ne e).2 hh⟩])
  obtain ⟨h2, f2, n2⟩ := H1.out.mapped (U' := σ.U) (O' := σ.O.erase p) M2 g2 (fun _ _ h => h)
  have H2 := Lib.hid h2
  have F2 := Lib.hid ((Fh.of (P := P) (U := σ.U) B1.out).trans f2 (Nw.refl _ _ _))
  clear b1 m2 g2 M2 h2 f2 n2 HLn HPg c0 c1 hl'
  go_wp2_with fail
  refine (HSn.out w2 H2.out).mono ?_
  rintro e w3 ⟨⟨v, rfl⟩, h3, f3⟩
  have H3 := Lib.hid h3
  have F3 := Lib.hid (F2.out.trans f3 (Nw.refl _ _ _))
  clear h3 f3 HSn d1 hput
  go_wp2_with fail
  refine (HMk.out w3 H3.out).mono ?_
  rintro e w4 ⟨⟨v2, rfl⟩, p', h4, f4, n4⟩
  have L4 : Hid (Left P σ bs (joinO σ p s) w w4) := ⟨{ P with p := p' }, rfl, rfl, fun _ _ => rfl, h4, F3.out.trans f4 (Nw.refl _ _ _), (Nw.refl _ _ _).trans n4 F3.out.size⟩
  clear h4 f4 n4 HMk
  go_wp2_with fail
  go_ret
  exact ⟨rfl, L4.out⟩
end
end Go.Proofs.YtckcgaliphpgeaaGreatDoor.He
