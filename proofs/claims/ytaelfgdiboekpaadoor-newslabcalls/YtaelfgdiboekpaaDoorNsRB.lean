import Derived.Test.YtaelfgdiboekpaaDoorNsRA
import Derived.Test.YtaelfgdiboekpaaDoorNsEnv
import Derived.Test.YtaelfgdiboekpaaDoorNsTaken
import Derived.Test.YtaelfgdiboekpaaDoorNsGive
import Derived.Test.YtaelfgdiboekpaaDoorNsDone
/-
  What the document asks: contracts that the claimed proof uses.
-/
namespace Go.Proofs.YtaelfgdiboekpaaDoor.Ns
set_option maxRecDepth 100000
open Go.RowKit
open Ce (u y ldW Mem row)
open Bi (Blk Drawn hasB hasB_iff hasB_not up_alloc up_drew up_trans i64_in ret_i ret_b grown_refl grown_trans grown_below)

section
variable {w w' : World} {r m gm cap b c h f : Nat} {bs : List (BitVec 8)} {L : List Nat}
/-! ### State -/
theorem rstate_any (x : Rf w r m gm cap bs b c h f) : Calls Tryd.prog 65 #[.pointer (some ⟨r, 0, none⟩)] w fun e w' => e = .returned (.int .i64 (stI (nS c) f)) ∧ Below w.heap.size w w' := by
  have r4 := x.r4
  have hlr := x.lt.1
  have HX := Lib.hid x
  have HS : Hid (Calls Tryd.prog 59 #[.pointer (some ⟨r, 0, none⟩)] w.drew fun e w' => e = .returned (.int .i64 (nS c : Int)) ∧ Below w.drew.heap.size w.drew w') := rslots_any (x.below (Below.refl _ w).drew)
  have h2 := (cls c x.hc).2.2.1
  clear x
  generalize nS c = n at *
  unfold stI
  by_cases h1 : f = n
  · have d1 : ((f : Int) == (n : Int)) = true := by simp; omega
    rw [if_pos h1]
    clear h1
    go_enter Tryd.func65, Tryd.ntmps65
    go_wp2_with fail
    go_region_held3 (fun V => V.cell? ⟨r, 4, none⟩ = some (.int .i64 (f : Int)))
      (first | exact (hb2.cell (p := ⟨r, 4, none⟩) hlr).trans r4 | exact r4)
      ((go_at_call 59; refine HS.out.mono ?_; rintro e w2 ⟨rfl, hb2⟩))
    have B2 : Hid (Below w.heap.size w w2) := (Below.refl _ w).drew.trans hb2
    go_wp2_with fail
    go_ret
    exact ⟨rfl, B2.out⟩
  · have d1 : ((f : Int) == (n : Int)) = false := by rw [beq_eq_false_iff_ne]; omega
    rw [if_neg h1]
    by_cases h0 : f = 0
    · have d2 : ((f : Int) == 0) = true := by simp; omega
      rw [if_pos h0]
      clear h1 h0
      go_enter Tryd.func65, Tryd.ntmps65
      go_wp2_with fail
      go_region_held3 (fun V => V.cell? ⟨r, 4, none⟩ = some (.int .i64 (f : Int)))
        (first | exact (hb2.cell (p := ⟨r, 4, none⟩) hlr).trans r4 | exact r4)
        ((go_at_call 59; refine HS.out.mono ?_; rintro e w2 ⟨rfl, hb2⟩))
      have B2 : Hid (Below w.heap.size w w2) := (Below.refl _ w).drew.trans hb2
      have r42 := (B2.out.cell (p := ⟨r, 4, none⟩) hlr).trans r4
      clear r4
      go_wp2_with fail
      go_ret
      exact ⟨rfl, B2.out⟩
    · have d2 : ((f : Int) == 0) = false := by rw [beq_eq_false_iff_ne]; omega
      rw [if_neg h0]
      clear h1 h0
      go_enter Tryd.func65, Tryd.ntmps65
      go_wp2_with fail
      go_region_held3 (fun V => V.cell? ⟨r, 4, none⟩ = some (.int .i64 (f : Int)))
        (first | exact (hb2.cell (p := ⟨r, 4, none⟩) hlr).trans r4 | exact r4)
        ((go_at_call 59; refine HS.out.mono ?_; rintro e w2 ⟨rfl, hb2⟩))
      have B2 : Hid (Below w.heap.size w w2) := (Below.refl _ w).drew.trans hb2
      have r42 := (B2.out.cell (p := ⟨r, 4, none⟩) hlr).trans r4
      clear r4
      go_wp2_with fail
      go_ret
      exact ⟨rfl, B2.out⟩
/-! ### Slot -/
theorem slotO_none {b c : Nat} {a : Int} (hc : c < 12) (h : ∀ j, j < nS c → ((b + j * zN c : Nat) : Int) ≠ a) : slotO b c a = none := by
  cases e : slotO b c a with
  | none => rfl
  | some k => exact absurd (slotO_some e).2.symm (h k (slotO_some e).1)
def slI (b c : Nat) (a : Int) : Int := match slotO b c a with | some k => (k : Int) | none => -1
set_option maxHeartbeats 2000000 in
theorem rslot_any (a : Int) (x : Rf w r m gm cap bs b c h f) : Calls Tryd.prog 96 #[.pointer (some ⟨r, 0, none⟩), .int .i64 a] w fun e w' => e = .returned (.int .i64 (slI b c a)) ∧ Below w.heap.size w w' := by
  have r1 := x.r1
  have hlr := x.lt.1
  have HR := Lib.hid (rsize_any x)
  have hz := (cls c x.hc).1
  have h128 := (cls c x.hc).2.2.2.1
  have HE : Hid ((1024 : Int) / (zN c : Int) = (nS c : Int)) := by show _ = _; unfold nS; rfl
  have hb1 := x.fit
  have hb2 := x.len
  have HIn : Hid (∀ k, k < nS c → k * zN c + zN c ≤ 1024) := fun k hk => slot_in x.hc hk
  have HYes : Hid (∀ k, k < nS c → ((b + k * zN c : Nat) : Int) = a → slI b c a = (k : Int)) := fun k hk e => by unfold slI; rw [← e, slotO_at x.hc hk]
  have HNo : Hid ((∀ j, j < nS c → ((b + j * zN c : Nat) : Int) ≠ a) → slI b c a = -1) := fun e => by unfold slI; rw [slotO_none x.hc e]
  clear x
  generalize nS c = n at *
  generalize zN c = z at *
  generalize slI b c a = sl at *
  have e4 : ((z : Int) == 0) = false := by rw [beq_eq_false_iff_ne]; omega
  go_enter Tryd.func96, Tryd.ntmps96
  go_wp2_with fail
  refine HR.out.mono ?_
  rintro e w1 ⟨rfl, b1⟩
  have B1 := Lib.hid b1
  have r11 := (b1.cell (p := ⟨r, 1, none⟩) hlr).trans r1
  clear b1 HR r1
  go_wp2_with fail
  go_loopw [6] (fun i wr => ∃ k : Nat, k ≤ n ∧ i = .int .i64 (k : Int) ∧ (∀ j, j < k → ((b + j * z : Nat) : Int) ≠ a) ∧ wr = w1) (fun i _ => n - (intOf i).toNat)
  case atStart => exact ⟨0, by omega, rfl, fun j hj => absurd hj (by omega), rfl⟩
  case round =>
    obtain ⟨k, hk, rfl, hno, rfl⟩ := hrel
    have HNoK := Lib.hid hno
    clear hno
    have he := HE.out
    by_cases hlt : k < n
    · have dlt : decide ((k : Int) < (1024 : Int) / (z : Int)) = true := decide_eq_true (by rw [he]; omega)
      have hin := HIn.out k hlt
      have e1 : ((k : Int) * (z : Int)) = ((k * z : Nat) : Int) := by rw [Int.natCast_mul]
      have HK := Lib.hid (HYes.out k hlt)
      have HN : Hid (((b + k * z : Nat) : Int) ≠ a → ∀ j, j < k + 1 → ((b + j * z : Nat) : Int) ≠ a) := fun e j hj => by
        rcases Nat.lt_succ_iff_lt_or_eq.1 hj with hj | rfl
        · exact HNoK.out j hj
        · exact e
      obtain ⟨yy, hy⟩ : ∃ yy, k * z = yy := ⟨_, rfl⟩
      rw [hy] at hin e1 HK HN
      have w1' : IntKind.i64.wrap ((k : Int) * (z : Int)) = (yy : Int) := by rw [e1, IntKind.wrap_i64]; omega
      obtain ⟨t, ht⟩ : ∃ t, b + yy = t := ⟨_, rfl⟩
      rw [ht] at HK HN
      have w2' : IntKind.i64.wrap ((b : Int) + (yy : Int)) = (t : Int) := by rw [IntKind.wrap_i64]; omega
      clear e1 hin hy ht he
      by_cases hh : (t : Int) = a
      · have d : ((t : Int) == a) = true := by simpa using hh
        have HS := Lib.hid (HK.out hh)
        clear hh HK HN
        go_wp2_with fail
        go_ret
        exact ⟨ret_i HS.out.symm, B1.out⟩
      · have d : ((t : Int) == a) = false := by simpa using hh
        have HH := Lib.hid (HN.out hh)
        clear hh HK HN
        go_wp2_with fail
        go_roundw
        case rel => exact ⟨k + 1, by omega, by go_num, HH.out, trivial⟩
        case measure => simp [intOf]; omega
    · obtain rfl : k = n := by omega
      have dlt : decide ((k : Int) < (1024 : Int) / (z : Int)) = false := decide_eq_false (by rw [he]; omega)
      have HS := Lib.hid (HNo.out HNoK.out)
      clear he
      go_wp2_with fail
      go_ret
      exact ⟨ret_i HS.out.symm, B1.out⟩
end
end Go.Proofs.YtaelfgdiboekpaaDoor.Ns

/-
  The document's taken slots, and what may be given: contracts that the claimed proof uses.
-/
namespace Go.Proofs.YtaelfgdiboekpaaDoor.Ns
set_option maxRecDepth 100000
open Go.RowKit
open Ce (u y ldW Mem row)
open Bi (Blk Drawn hasB hasB_iff hasB_not up_alloc up_drew up_trans i64_in ret_i ret_b grown_refl grown_trans grown_below)

theorem Below.down {B : Nat} {w w' : World} (hb : Below w.heap.size w w') (hB : B ≤ w.heap.size) : Below B w w' := (Fr.of (s := B) (g := B) hb).below (Nat.le_refl _) (Nat.le_refl _) hB
theorem in_at (X : List Int) (A : Option Addr) (c n : Nat) (x : Int) (w : World) (h1 : At w.heap.size w A (ints X)) (e1 : X.length = n) (hl : n ≤ 1048576) :
    Calls Tryd.prog 30 #[.slice A n c, .int .i64 x] w fun e w' => e = .returned (.bool (decide (x ∈ X))) ∧ w = w' := by
  have H1 := Lib.hid h1
  have HN := Lib.hid e1
  clear h1 e1
  go_enter Tryd.func30, Tryd.ntmps30
  go_wp2_with fail
  go_loop [5] (fun i => ∃ k : Nat, k ≤ n ∧ i = .int .i64 k ∧ x ∉ X.take k) (fun i => n - (intOf i).toNat)
  case atStart => exact ⟨0, by omega, rfl, by simp⟩
  case round =>
    obtain ⟨k, hk, rfl, hno⟩ := hrel
    have HNo := Lib.hid hno
    clear hno
    by_cases hlt : k < n
    · have hkl : k < X.length := by rw [HN.out]; exact hlt
      obtain ⟨b, o, rfl, _, q0⟩ := H1.out.int hkl
      have j1 : (0 : Int) ≤ (k : Int) := by omega
      have j2 : (k : Int) < (n : Int) := by omega
      have htk := List.take_succ_eq_append_getElem hkl
      have hmem : X[k] ∈ X := List.getElem_mem hkl
      obtain ⟨y, hyy⟩ : ∃ y, X[k] = y := ⟨_, rfl⟩
      rw [hyy] at q0 htk hmem
      have HTk := Lib.hid htk
      have HMem := Lib.hid hmem
      have HLt := Lib.hid hlt
      clear hkl htk hmem hyy
      by_cases hy : y = x
      · subst hy
        have hd : (y == y) = true := by simp
        go_wp2_with fail
        go_ret
        exact ⟨ret_b (by simpa using HMem.out), rfl⟩
      · have hd : (y == x) = false := by simpa using hy
        have HY := Lib.hid hy
        clear hy
        go_wp2_with fail
        go_round
        case rel => exact ⟨k + 1, HLt.out, by go_num, by
          rw [HTk.out, List.mem_append]
          intro e
          rcases e with e | e
          · exact HNo.out e
          · exact HY.out (List.mem_singleton.1 e).symm⟩
        case measure => have := HLt.out; simp [intOf]; omega
    · obtain rfl : k = n := by omega
      go_wp2_with fail
      go_ret
      have e := HNo.out
      rw [List.take_of_length_le (by rw [HN.out]; exact Nat.le_refl _)] at e
      exact ⟨ret_b (by simpa using e), rfl⟩
section
variable {w w' : World} {r m gm cap b c h f : Nat} {bs : List (BitVec 8)} {L : List Nat}
theorem rtaken_no (x : Rf w r m gm cap bs b c h f) (hr : ¬ ∃ L, Rt (nx bs b c) h f L) : Calls Tryd.prog 64 #[.pointer (some ⟨r, 0, none⟩)] w fun e w' =>
    e = .returned (.tuple #[.slice none 0 0, .bool false]) ∧ Below w.heap.size w w' := by
  have HC := Lib.hid (rlist_no x hr)
  clear x hr
  go_enter Tryd.func64, Tryd.ntmps64
  go_wp2_with fail
  refine HC.out.mono ?_
  rintro e w1 ⟨⟨A, n, cp, rfl⟩, hb⟩
  have HB := Lib.hid hb
  clear hb HC
  go_wp2_with fail
  go_ret2
  exact ⟨rfl, HB.out⟩
set_option maxHeartbeats 2000000 in
theorem rtaken_yes (x : Rf w r m gm cap bs b c h f) (hr : Rt (nx bs b c) h f L) : Calls Tryd.prog 64 #[.pointer (some ⟨r, 0, none⟩)] w fun e w' =>
    (∃ A cap, e = .returned (.tuple #[.slice A (tkn L (nS c)).length cap, .bool true]) ∧ Li w' A (nats (tkn L (nS c)))) ∧ Below w.heap.size w w' := by
  have HC := Lib.hid (rlist_yes x hr)
  have HS : Hid (∀ V : World, Below w.heap.size w V → Calls Tryd.prog 59 #[.pointer (some ⟨r, 0, none⟩)] V fun e w' => e = .returned (.int .i64 (nS c : Int)) ∧ Below V.heap.size V w') := fun V hV => rslots_any (x.below hV)
  have h128 := (cls c x.hc).2.2.2.1
  have hlf : Hid (L.length = f) := hr.2
  have hff := x.hf
  generalize nS c = N at *
  obtain ⟨LL, hLL⟩ : ∃ LL, L.length = LL := ⟨_, rfl⟩
  have hL128 : LL ≤ 128 := by have := hlf.out; omega
  have HLL := Lib.hid hLL
  rw [hLL] at HC
  clear x hr hlf hff hLL
  go_enter Tryd.func64, Tryd.ntmps64
  go_wp2_with fail
  refine HC.out.mono ?_
  rintro e w1 ⟨⟨A1, c1, rfl, hl1⟩, hb⟩
  have HB := Lib.hid hb
  have HL1 := Lib.hid hl1
  clear hb hl1 HC
  have HO0 := Lib.hid (empty_own w1)
  have B0 := Lib.hid (up_alloc (Below.refl w1.heap.size w1) (.cells #[] 3))
  have hle0 := HB.out.size
  go_wp2_with fail
  go_loopw [6, 7] (fun v i wr => ∃ (k : Nat), k ≤ N ∧ i = .int .i64 (k : Int) ∧ wr.ownsRow w.heap.size 3 1 v (tkn L k).length (ints (nats (tkn L k))) ∧ Li wr A1 (nats L) ∧ Below w.heap.size w wr ∧ Below w1.heap.size w1 wr ∧ wr.ownsRow w1.heap.size 3 1 v (tkn L k).length (ints (nats (tkn L k)))) (fun _ i _ => N - (intOf i).toNat)
  case atStart => exact ⟨0, by omega, rfl, own_down HO0.out hle0, HL1.out.below B0.out, up_trans HB.out B0.out, B0.out, HO0.out⟩
  case round =>
    obtain ⟨k, hk, rfl, ho, hli, hb, hb1, ho1⟩ := hrel
    obtain ⟨A0, n0, rfl⟩ := own_form ho
    have HO := Lib.hid ho
    have HO1 := Lib.hid ho1
    have HLi := Lib.hid hli
    have HBr := Lib.hid hb
    have HB1r := Lib.hid hb1
    have HS1 := Lib.hid (HS.out _ hb)
    have hle := tkn_le L k
    obtain ⟨K, hK⟩ : ∃ K, (tkn L k).length = K := ⟨_, rfl⟩
    rw [hK] at HO HO1 hle ⊢
    have HK := Lib.hid hK
    have hsz := hb.size
    have hsz1 := hb1.size
    clear ho hli hb hK hb1 ho1
    by_cases hlt : k < N
    · have dlt : decide ((k : Int) < (N : Int)) = true := decide_eq_true (by omega)
      go_wp2_with fail
      refine HS1.out.mono ?_
      rintro e w2 ⟨rfl, b2⟩
      have B2 := Lib.hid b2
      have hI := in_any (nats L) A1 c1 LL (k : Int) w2 (HLi.out.below b2) (by rw [nats_len, HLL.out]) (by omega)
      have hsz2 := b2.size
      clear b2 HS1
      by_cases hin : k ∈ L
      · have HI := Lib.hid hin
        rw [show decide ((k : Int) ∈ nats L) = true from decide_eq_true (mem_nats.2 hin)] at hI
        have HTs := Lib.hid hI
        clear hin hI
        go_wp2_with fail
        refine HTs.out.mono ?_
        rintro e w3 ⟨rfl, rfl⟩
        clear HTs
        go_wp2_with fail
        go_roundw
        case rel => exact ⟨k + 1, by omega, by go_num, by rw [tkn_in L k HI.out, HK.out]; exact own_below HO.out B2.out, HLi.out.below B2.out, up_trans HBr.out B2.out, up_trans HB1r.out B2.out, by rw [tkn_in L k HI.out, HK.out]; exact own_below HO1.out B2.out⟩
        case measure => simp [intOf]; omega
      · have HI := Lib.hid hin
        rw [show decide ((k : Int) ∈ nats L) = false from decide_eq_false (fun e => hin (mem_nats.1 e))] at hI
        have HTs := Lib.hid hI
        clear hin hI
        go_wp2_with fail
        refine HTs.out.mono ?_
        rintro e w3 ⟨rfl, rfl⟩
        clear HTs
        have HO2 := Lib.hid (own_below HO.out B2.out)
        have HO12 := Lib.hid (own_below HO1.out B2.out)
        have HB2 := Lib.hid (up_trans HBr.out B2.out)
        have HB12 := Lib.hid (up_trans HB1r.out B2.out)
        have HL2 := Lib.hid (HLi.out.below B2.out)
        clear HO HO1 HBr HB1r HLi B2
        have hol : K ≤ 1048576 := by omega
        go_wp2_with (at_builtin; refine app_law el3 rfl _ _ rfl rfl (own_below HO12.out (up_alloc (Below.refl _ _) _)) rfl (show (w2.alloc (.cells #[.int .i64 (k : Int)] 3)).heap[w2.heap.size]? = some (.cells [Value.int .i64 (k : Int)].toArray 3 (0, 0)) from heap_alloc_new w2 _) rfl (by simp [Value.oneCell']) hol (by rw [World.size_alloc]; omega) ?_; intro g' cap' wa hoa hga hgw; have hga2 : Hid ((w2.alloc (.cells #[.int .i64 (k : Int)] 3)).grownBy wa (Value.slice A0 K n0).ownBlock) := hga; clear hga hgw)
        go_roundw
        case rel =>
          have hb1a : Below w1.heap.size w1 wa := (up_alloc HB12.out _).grown hga2.out (by rw [World.size_alloc]; omega) (fun j e => (HO12.out.lt j e).1)
          have hrow := hoa.out
          refine ⟨k + 1, by omega, by go_num, ?_, HL1.out.below hb1a, up_trans HB.out hb1a, hb1a, ?_⟩
          · rw [tkn_out L k HI.out, List.length_append, HK.out, nats_snoc]; exact own_down hrow hle0
          · rw [tkn_out L k HI.out, List.length_append, HK.out, nats_snoc]; exact hrow
        case measure => simp [intOf]; omega
    · obtain rfl : k = N := by omega
      have dlt : decide ((k : Int) < (k : Int)) = false := decide_eq_false (by omega)
      have HA := Lib.hid (own_li HO.out)
      go_wp2_with fail
      refine HS1.out.mono ?_
      rintro e w2 ⟨rfl, b2⟩
      have B2 := Lib.hid b2
      clear b2 HS1
      go_wp2_with fail
      go_ret2
      exact ⟨⟨A0, n0, by rw [HK.out]; rfl, HA.out.below B2.out⟩, up_trans HBr.out B2.out⟩
/-! ### Can -/
/-- What the document answers to a number that is to be given, if these were given ahead of it. -/
def canI (b c : Nat) (L : List Nat) (ys : List Int) (a : Int) : Int := match slotO b c a with | none => 12 | some k => if k ∈ L ∨ a ∈ ys then 19 else 0
theorem rcan_no (a : Int) (Y : Option Addr) (n cy : Nat) (x : Rf w r m gm cap bs b c h f) (hr : ¬ ∃ L, Rt (nx bs b c) h f L) : Calls Tryd.prog 95 #[.pointer (some ⟨r, 0, none⟩), .int .i64 a, .slice Y n cy] w fun e w' =>
    e = .returned (.int .i64 10) ∧ Below w.heap.size w w' := by
  have HC := Lib.hid (rlist_no x hr)
  clear x hr
  go_enter Tryd.func95, Tryd.ntmps95
  go_wp2_with fail
  refine HC.out.mono ?_
  rintro e w1 ⟨⟨A, n, cp, rfl⟩, hb⟩
  have HB := Lib.hid hb
  clear hb HC
  go_wp2_with fail
  go_ret
  exact ⟨rfl, HB.out⟩
set_option maxHeartbeats 2000000 in
theorem rcan_yes (a : Int) (Y : Option Addr) (n cy : Nat) (ys : List Int) (x : Rf w r m gm cap bs b c h f) (hr : Rt (nx bs b c) h f L) (hy : At w.heap.size w Y (ints ys)) (hn : ys.length = n) (hn2 : n ≤ 1048576) : Calls Tryd.prog 95 #[.pointer (some ⟨r, 0, none⟩), .int .i64 a, .slice Y n cy] w fun e w' =>
    e = .returned (.int .i64 (canI b c L ys a)) ∧ Below w.heap.size w w' := by
  have HC := Lib.hid (rlist_yes x hr)
  have HSl : Hid (∀ V : World, Below w.heap.size w V → Calls Tryd.prog 96 #[.pointer (some ⟨r, 0, none⟩), .int .i64 a] V fun e w' => e = .returned (.int .i64 (slI b c a)) ∧ Below V.heap.size V w') := fun V hV => rslot_any a (x.below hV)
  have h128 := (cls c x.hc).2.2.2.1
  have hlf : Hid (L.length = f) := hr.2
  have hff := x.hf
  obtain ⟨LL, hLL⟩ : ∃ LL, L.length = LL := ⟨_, rfl⟩
  have hL128 : LL ≤ 128 := by have := hlf.out; omega
  have HLL := Lib.hid hLL
  have HY := Lib.hid hy
  have HN := Lib.hid hn
  rw [hLL] at HC
  clear x hr hlf hff hLL hy hn
  unfold slI at HSl
  cases e : slotO b c a with
  | none =>
    rw [e] at HSl
    have HRes : Hid (canI b c L ys a = 12) := by show _ = _; unfold canI; rw [e]
    generalize canI b c L ys a = cI at *
    clear e
    go_enter Tryd.func95, Tryd.ntmps95
    go_wp2_with fail
    refine HC.out.mono ?_
    rintro e w1 ⟨⟨A1, c1, rfl, hl1⟩, hb⟩
    have HB := Lib.hid hb
    have HS1 := Lib.hid (HSl.out w1 hb)
    clear hb hl1 HC HSl
    go_wp2_with fail
    refine HS1.out.mono ?_
    rintro e w2 ⟨rfl, b2⟩
    have HB2 := Lib.hid (up_trans HB.out b2)
    clear b2 HS1
    go_wp2_with fail
    go_ret
    exact ⟨ret_i HRes.out.symm, HB2.out⟩
  | some k =>
    rw [e] at HSl
    have HRes : Hid (canI b c L ys a = if k ∈ L ∨ a ∈ ys then 19 else 0) := by show _ = _; unfold canI; rw [e]
    generalize canI b c L ys a = cI at *
    have dk : decide ((k : Int) < 0) = false := decide_eq_false (by omega)
    clear e
    go_enter Tryd.func95, Tryd.ntmps95
    go_wp2_with fail
    refine HC.out.mono ?_
    rintro e w1 ⟨⟨A1, c1, rfl, hl1⟩, hb⟩
    have HB := Lib.hid hb
    have HL := Lib.hid hl1
    have HS1 := Lib.hid (HSl.out w1 hb)
    clear hb hl1 HC HSl
    go_wp2_with fail
    refine HS1.out.mono ?_
    rintro e w2 ⟨rfl, b2⟩
    have HB2 := Lib.hid (up_trans HB.out b2)
    have hI := in_any (nats L) A1 c1 LL (k : Int) w2 (HL.out.below b2) (by rw [nats_len, HLL.out]) (by omega)
    have hJ := in_at ys Y cy n a w2 (HY.out.up (up_trans HB.out b2)) HN.out (by omega)
    clear b2 HS1
    by_cases hk : k ∈ L
    · rw [show decide ((k : Int) ∈ nats L) = true from decide_eq_true (mem_nats.2 hk)] at hI
      have HRs : Hid (cI = 19) := by show _ = _; rw [HRes.out, if_pos (.inl hk)]
      have HI := Lib.hid hI
      clear hk hI hJ
      go_wp2_with (go_at_call 30; refine HI.out.mono ?_; rintro e w3 ⟨rfl, rfl⟩)
      go_ret
      exact ⟨ret_i HRs.out.symm, HB2.out⟩
    · rw [show decide ((k : Int) ∈ nats L) = false from decide_eq_false (fun e => hk (mem_nats.1 e))] at hI
      by_cases ha : a ∈ ys
      · rw [show decide (a ∈ ys) = true from decide_eq_true ha] at hJ
        have HRs : Hid (cI = 19) := by show _ = _; rw [HRes.out, if_pos (.inr ha)]
        have HI := Lib.hid hI
        have HJ := Lib.hid hJ
        clear hk hI hJ ha
        go_wp2_with fail
        refine HI.out.mono ?_
        rintro e w3 ⟨rfl, rfl⟩
        go_wp2_with fail
        refine HJ.out.mono ?_
        rintro e w3 ⟨rfl, rfl⟩
        go_wp2_with fail
        go_ret
        exact ⟨ret_i HRs.out.symm, HB2.out⟩
      · rw [show decide (a ∈ ys) = false from decide_eq_false ha] at hJ
        have HRs : Hid (cI = 0) := by show _ = _; rw [HRes.out, if_neg (fun z => z.elim hk ha)]
        have HI := Lib.hid hI
        have HJ := Lib.hid hJ
        clear hk hI hJ ha
        go_wp2_with fail
        refine HI.out.mono ?_
        rintro e w3 ⟨rfl, rfl⟩
        go_wp2_with fail
        refine HJ.out.mono ?_
        rintro e w3 ⟨rfl, rfl⟩
        go_wp2_with fail
        go_ret
        exact ⟨ret_i HRs.out.symm, HB2.out⟩
end
end Go.Proofs.YtaelfgdiboekpaaDoor.Ns

/-
  How the document takes and gives: contracts that the claimed proof uses.
-/
namespace Go.Proofs.YtaelfgdiboekpaaDoor.Ns
set_option maxRecDepth 100000
open Go.RowKit
open Ce (u y ldW Mem row)
open Bi (Blk Drawn hasB hasB_iff hasB_not up_alloc up_drew up_trans i64_in ret_i ret_b grown_refl grown_trans grown_below)

section
variable {w w' : World} {r m gm cap b c h f : Nat} {bs : List (BitVec 8)} {L : List Nat}
theorem Rf.turned (x : Rf w r m gm cap bs b c h f) {h' f' : Nat} (hh : h' ≤ nS c) (hf : f' ≤ nS c) :
    Rf ((w.setCell ⟨r, 3, none⟩ (.int .i64 ((h' : Int) - 1))).setCell ⟨r, 4, none⟩ (.int .i64 (f' : Int))) r m gm cap bs b c h' f' ∧ Fr r r w ((w.setCell ⟨r, 3, none⟩ (.int .i64 ((h' : Int) - 1))).setCell ⟨r, 4, none⟩ (.int .i64 (f' : Int))) := by
  obtain ⟨k1, k2, k3⟩ := x.kinds
  have e : ∀ j, j ≠ r → ((w.setCell ⟨r, 3, none⟩ (.int .i64 ((h' : Int) - 1))).setCell ⟨r, 4, none⟩ (.int .i64 (f' : Int))).heap[j]? = w.heap[j]? := fun j hj =>
    (Below.heap_setCell _ _ _ _ hj).trans (Below.heap_setCell _ _ _ _ hj)
  refine ⟨⟨(x.blk.set (i := 3) _).set (i := 4) _, x.mblk.of (e m (kne k2 k1 (by decide))), ?_, x.len, x.hc, x.fit, hh, hf⟩, (Fr.grown1 (Bi.grown_set (grown_refl _ _))).trans (Fr.grown1 (Bi.grown_set (grown_refl _ _)))⟩
  exact own_of x.own fun j ej => by cases ej; exact e gm (kne k3 k1 (by decide))
/-! ### Take -/
theorem rtake_no (x : Rf w r m gm cap bs b c h f) (hr : ¬ ∃ L, Rt (nx bs b c) h f L) : Calls Tryd.prog 68 #[.pointer (some ⟨r, 0, none⟩)] w fun e w' =>
    e = .returned (.tuple #[.int .i64 (-1), .int .i64 10]) ∧ Below w.heap.size w w' := by
  have HC := Lib.hid (rlist_no x hr)
  clear x hr
  go_enter Tryd.func68, Tryd.ntmps68
  go_wp2_with fail
  refine HC.out.mono ?_
  rintro e w1 ⟨⟨A, n, cp, rfl⟩, hb⟩
  have HB := Lib.hid hb
  clear hb HC
  go_wp2_with fail
  go_ret2
  exact ⟨rfl, HB.out⟩
/-- What is left of the document's slab when slots are taken. -/
def RTook (r m gm cap b c : Nat) (bs : List (BitVec 8)) (L : List Nat) (w w' : World) : Prop := ∃ h', Rt (nx bs b c) h' L.length L ∧ Rf w' r m gm cap bs b c h' L.length ∧ Fr r r w w'
set_option maxHeartbeats 2000000 in
theorem rtake_yes (x : Rf w r m gm cap bs b c h f) (hr : Rt (nx bs b c) h f L) : Calls Tryd.prog 68 #[.pointer (some ⟨r, 0, none⟩)] w fun e w' =>
    e = .returned (tkV b c L) ∧ RTook r m gm cap b c bs (L.drop 1) w w' := by
  have HC := Lib.hid (rlist_yes x hr)
  have HX := Lib.hid x
  have HR := Lib.hid hr
  obtain ⟨LL, hLL⟩ : ∃ LL, L.length = LL := ⟨_, rfl⟩
  rw [hLL] at HC
  have HLL := Lib.hid hLL
  cases L with
  | nil =>
    have d1 : ((f : Int) == 0) = true := by have := hr.2; simp only [List.length_nil] at this; simp; omega
    clear x hr hLL
    go_enter Tryd.func68, Tryd.ntmps68
    go_wp2_with fail
    refine HC.out.mono ?_
    rintro e w1 ⟨⟨A, cp, rfl, -⟩, hb⟩
    have HB := Lib.hid hb
    have r4 := (HX.out.below hb).r4
    clear hb HC
    go_wp2_with fail
    go_ret2
    exact ⟨rfl, h, by have := HR.out; rw [← this.2] at this; exact this, by have := HX.out.below HB.out; rw [← HR.out.2] at this; exact this, Fr.of HB.out⟩
  | cons k L =>
    obtain ⟨h1, eh, e1, hf1, hr1⟩ := hr.step
    have hk : k < nS c := hr.in_ k (by simp)
    have hh1 : h1 ≤ nS c := hr1.link (fun j hj => hr.in_ j (by simp [hj]))
    have hrx : rx bs b c k = some h1 := rx_of e1 hh1
    have HN : Hid (∀ V : World, Below w.heap.size w V → Calls Tryd.prog 94 #[.pointer (some ⟨r, 0, none⟩), .int .i64 (k : Int)] V fun e w' => e = .returned (.tuple #[.int .i64 ((h1 : Int) - 1), .bool true]) ∧ Below V.heap.size V w') := fun V hV => by
      have := rnext_any k (x.below hV) hk
      rw [hrx] at this
      exact this
    have h2 := slot_in x.hc hk
    have h3 := x.fit
    have h4 := x.len
    have hff := x.hf
    have hN128 := (cls c x.hc).2.2.2.1
    have HR1 := Lib.hid hr1
    obtain ⟨n, hn⟩ : ∃ n, L.length = n := ⟨_, rfl⟩
    rw [hn] at hf1
    have HTn := Lib.hid hn
    have d1 : ((f : Int) == 0) = false := by rw [beq_eq_false_iff_ne]; omega
    have f1 : IntKind.i64.wrap ((f : Int) - 1) = (n : Int) := by rw [IntKind.wrap_i64]; omega
    have hn2 : n ≤ nS c := by omega
    have HH1 := Lib.hid hh1
    have HN2 := Lib.hid hn2
    have hh : (h : Int) - 1 = (k : Int) := by omega
    have hcc := Lib.hid x.hc
    obtain ⟨t, ht⟩ : ∃ t, b + k * zN c = t := ⟨_, rfl⟩
    have et : tkV b c (k :: L) = .tuple #[.int .i64 (t : Int), .int .i64 0] := by rw [← ht]; rfl
    rw [et]
    have e2 : ((k : Int) * (zN c : Int)) = ((k * zN c : Nat) : Int) := by rw [Int.natCast_mul]
    have w1' : IntKind.i64.wrap ((k : Int) * (zN c : Int)) = ((k * zN c : Nat) : Int) := by rw [e2, IntKind.wrap_i64]; omega
    obtain ⟨yy, hy⟩ : ∃ yy, k * zN c = yy := ⟨_, rfl⟩
    rw [hy] at w1' ht
    have w2' : IntKind.i64.wrap ((b : Int) + (yy : Int)) = (t : Int) := by rw [IntKind.wrap_i64]; omega
    clear x hr hLL e1 hf1 hr1 hk hh1 hrx h2 h3 h4 hff hN128 hn hn2 et e2 hy ht
    go_enter Tryd.func68, Tryd.ntmps68
    go_wp2_with fail
    refine HC.out.mono ?_
    rintro e w1 ⟨⟨A, cp, rfl, -⟩, hb⟩
    have HB := Lib.hid hb
    have r4 := (HX.out.below hb).r4
    have r3 := (HX.out.below hb).r3
    rw [hh] at r3
    have HN1 := Lib.hid (HN.out w1 hb)
    clear hb HC HN
    go_wp2_with fail
    refine HN1.out.mono ?_
    rintro e w2 ⟨rfl, b2⟩
    have HB2 := Lib.hid (up_trans HB.out b2)
    have HX2 := Lib.hid (HX.out.below HB2.out)
    have r42 := HX2.out.r4
    have r32 := HX2.out.r3
    rw [hh] at r32
    have f3 := HX2.out.blk.frozen 3
    have f4 := HX2.out.blk.frozen 4
    have HT2 := Lib.hid (HX2.out.turned (h' := h1) (f' := n) HH1.out HN2.out)
    obtain ⟨hh1, ehh1⟩ : ∃ hh1, (h1 : Int) - 1 = hh1 := ⟨_, rfl⟩
    rw [ehh1] at HT2
    rw [ehh1]
    clear b2 HN1 r3 r4 ehh1
    go_wp2_with fail
    generalize (w2.setCell ⟨r, 3, none⟩ (.int .i64 hh1)).setCell ⟨r, 4, none⟩ (.int .i64 (n : Int)) = w3 at *
    obtain ⟨y3, yf⟩ := HT2.out
    have Y3 := Lib.hid y3
    have YF := Lib.hid yf
    have r1 := y3.r1
    have hlr := y3.lt.1
    have HZ : Hid (Calls Tryd.prog 66 #[.pointer (some ⟨r, 0, none⟩)] w3.drew fun e w' => e = .returned (.int .i64 (zN c : Int)) ∧ Below w3.drew.heap.size w3.drew w') := rsize_any (y3.below (Below.refl _ w3).drew)
    clear y3 yf HT2 r42 r32 f3 f4
    generalize zN c = z at *
    go_region_held3 (fun V => V.cell? ⟨r, 1, none⟩ = some (.int .i64 (b : Int)))
      (first | exact (hb4.cell (p := ⟨r, 1, none⟩) hlr).trans r1 | exact r1)
      ((go_at_call 66; refine HZ.out.mono ?_; rintro e w4 ⟨rfl, hb4⟩))
    have B4 : Hid (Below w3.heap.size w3 w4) := (Below.refl _ w3).drew.trans hb4
    go_wp2_with fail
    go_ret2
    refine ⟨rfl, h1, ?_, ?_, ?_⟩
    · show Rt _ h1 L.length L
      exact HR1.out
    · show Rf _ r m gm cap bs b c h1 L.length
      rw [HTn.out]; exact Y3.out.below B4.out
    · exact ((Fr.of HB2.out).trans YF.out).trans (Fr.of B4.out)
end
end Go.Proofs.YtaelfgdiboekpaaDoor.Ns

/-
  How the document gives: contracts that the claimed proof uses.
-/
namespace Go.Proofs.YtaelfgdiboekpaaDoor.Ns
set_option maxRecDepth 100000
open Go.RowKit
open Ce (u y ldW Mem row)
open Bi (Blk Drawn hasB hasB_iff hasB_not up_alloc up_drew up_trans i64_in ret_i ret_b grown_refl grown_trans grown_below)

theorem Fr.wide {i j : Nat} {a b : World} (h : Fr j j a b) : Fr i j a b := ⟨h.os, h.tape, h.output, h.size, fun k hk _ h2 => h.block k hk h2 h2⟩
theorem Fr.wide1 {i j : Nat} {a b : World} (h : Fr i i a b) : Fr i j a b := ⟨h.os, h.tape, h.output, h.size, fun k hk h1 _ => h.block k hk h1 h1⟩
section
variable {w w' : World} {r m gm cap b c h f : Nat} {bs : List (BitVec 8)} {L : List Nat}
/-- What is left of the document's slab when a slot is written. -/
def RGave (r m gm b c : Nat) (S : SS) (w w' : World) : Prop := ∃ gm' cap', Rf w' r m gm' cap' S.bs b c S.h S.f ∧ Fr r m w w' ∧ (gm' = gm ∨ w.heap.size ≤ gm')
theorem canI_give (b c : Nat) (L : List Nat) (a : Int) : canI b c L [] a = gvE b c L a := by
  unfold canI gvE
  cases slotO b c a with
  | none => rfl
  | some k => simp
theorem rgive_no (a : Int) (x : Rf w r m gm cap bs b c h f) (hr : ¬ ∃ L, Rt (nx bs b c) h f L) : Calls Tryd.prog 69 #[.pointer (some ⟨r, 0, none⟩), .int .i64 a] w fun e w' => e = .returned (.int .i64 10) ∧ Below w.heap.size w w' := by
  have HC := Lib.hid (rcan_no a none 0 0 x hr)
  clear x hr
  go_enter Tryd.func69, Tryd.ntmps69
  go_wp2_with fail
  refine HC.out.mono ?_
  rintro e w1 ⟨rfl, hb⟩
  have HB := Lib.hid hb
  clear hb HC
  go_wp2_with fail
  go_ret
  exact ⟨rfl, HB.out⟩
set_option maxHeartbeats 2000000 in
theorem rgive_yes (a : Int) (x : Rf w r m gm cap bs b c h f) (hr : Rt (nx bs b c) h f L) : Calls Tryd.prog 69 #[.pointer (some ⟨r, 0, none⟩), .int .i64 a] w fun e w' =>
    (gvE b c L a ≠ 0 ∧ e = .returned (.int .i64 (gvE b c L a)) ∧ Below w.heap.size w w') ∨ (gvE b c L a = 0 ∧ e = .returned (.int .i64 0) ∧ ∃ k, slotO b c a = some k ∧ k ∉ L ∧ RGave r m gm b c (SS.push b c ⟨bs, h, f⟩ k) w w') := by
  have HC := Lib.hid (rcan_yes a none 0 0 [] x hr (li_nil w).1 rfl (by omega))
  rw [canI_give] at HC
  by_cases h0 : gvE b c L a = 0
  · obtain ⟨k, k1, k2⟩ := gvE_zero h0
    have hk := (slotO_some k1).1
    rw [h0] at HC
    have o : Ok b c bs.length ⟨bs, h, f⟩ L := ⟨hr, rfl, x.hh⟩
    have hlt : f < nS c := o.lt hk k2
    have h128 := (cls c x.hc).2.2.2.1
    have HSl : Hid (∀ V : World, Below w.heap.size w V → Calls Tryd.prog 96 #[.pointer (some ⟨r, 0, none⟩), .int .i64 a] V fun e w' => e = .returned (.int .i64 (k : Int)) ∧ Below V.heap.size V w') := fun V hV => by
      have := rslot_any a (x.below hV)
      unfold slI at this
      rw [k1] at this
      exact this
    have HX := Lib.hid x
    have HK := Lib.hid hk
    have HE : Hid (gvE b c L a = 0 ∧ slotO b c a = some k ∧ k ∉ L) := ⟨h0, k1, k2⟩
    obtain ⟨n, hn⟩ : ∃ n, f + 1 = n := ⟨_, rfl⟩
    have f1 : IntKind.i64.wrap ((f : Int) + 1) = (n : Int) := by rw [IntKind.wrap_i64]; omega
    have HN : Hid (n ≤ nS c) := by show _ ≤ _; omega
    have HN1 := Lib.hid hn
    have ek : (((k + 1 : Nat) : Int) - 1) = (k : Int) := by omega
    have EK := Lib.hid ek
    clear x hr h0 k1 k2 hk o hlt h128 hn ek
    go_enter Tryd.func69, Tryd.ntmps69
    go_wp2_with fail
    refine HC.out.mono ?_
    rintro e w1 ⟨rfl, hb⟩
    have HB := Lib.hid hb
    have HS1 := Lib.hid (HSl.out w1 hb)
    clear hb HC HSl
    go_wp2_with fail
    refine HS1.out.mono ?_
    rintro e w2 ⟨rfl, b2⟩
    have HB2 := Lib.hid (up_trans HB.out b2)
    have HX2 := Lib.hid (HX.out.below HB2.out)
    have r3 := HX2.out.r3
    have HLay := Lib.hid (rlay_any k HX2.out HK.out)
    clear b2 HS1
    go_wp2_with fail
    refine HLay.out.mono ?_
    rintro e w3 ⟨rfl, gm', cap', y3, fr3, hg3⟩
    have Y3 := Lib.hid y3
    have F3 := Lib.hid fr3
    have HG : Hid (w.heap.size ≤ gm') := Nat.le_trans HB2.out.size hg3
    have q3 := y3.r3
    have q4 := y3.r4
    have f3 := y3.blk.frozen 3
    have f4 := y3.blk.frozen 4
    have HT := Lib.hid (y3.turned (h' := k + 1) (f' := n) HK.out HN.out)
    rw [EK.out] at HT
    generalize (h : Int) - 1 = hh at *
    clear y3 fr3 hg3 HLay r3
    go_wp2_with fail
    go_ret
    obtain ⟨y4, f4⟩ := HT.out
    refine .inr ⟨HE.out.1, rfl, k, HE.out.2.1, HE.out.2.2, gm', cap', ?_, ?_, .inr HG.out⟩
    · show Rf _ r m gm' cap' (lay bs b c k h) b c (k + 1) (f + 1)
      rw [HN1.out]; exact y4
    · exact ((Fr.of HB2.out).trans F3.out.wide).trans f4.wide1
  · have h1 : (gvE b c L a == 0) = false := by rw [beq_eq_false_iff_ne]; exact h0
    have HE := Lib.hid h0
    generalize gvE b c L a = E at *
    clear x hr h0
    go_enter Tryd.func69, Tryd.ntmps69
    go_wp2_with fail
    refine HC.out.mono ?_
    rintro e w1 ⟨rfl, hb⟩
    have HB := Lib.hid hb
    clear hb HC
    go_wp2_with fail
    go_ret
    exact .inl ⟨HE.out, rfl, HB.out⟩
end
end Go.Proofs.YtaelfgdiboekpaaDoor.Ns

/-
  How the document takes several: contracts that the claimed proof uses.
-/
namespace Go.Proofs.YtaelfgdiboekpaaDoor.Ns
set_option maxRecDepth 100000
open Go.RowKit
open Ce (u y ldW Mem row)
open Bi (Blk Drawn hasB hasB_iff hasB_not up_alloc up_drew up_trans i64_in ret_i ret_b grown_refl grown_trans grown_below)

def lenOf : Value → Nat
  | .slice _ n _ => n
  | _ => 0
section
variable {w w' W : World} {r m gm cap b c h f : Nat} {bs : List (BitVec 8)} {L : List Nat}
theorem Rf.keep {B n : Nat} {v : Value} {xs : List Value} (x : Rf W r m gm cap bs b c h f) (hg : W.grownBy w' v.ownBlock) (ho : W.ownsRow B 3 1 v n xs) : Rf w' r m gm cap bs b c h f := by
  obtain ⟨k1, k2, k3⟩ := x.kinds
  obtain ⟨l1, l2, l3⟩ := x.lt
  exact x.of (grown_keep hg ho l1 (by rw [k1]; decide)) (grown_keep hg ho l2 (by rw [k2]; decide)) (grown_keep hg ho l3 (by rw [k3]; decide))
theorem rsome_no (n : Int) (x : Rf w r m gm cap bs b c h f) (hr : ¬ ∃ L, Rt (nx bs b c) h f L) : Calls Tryd.prog 70 #[.pointer (some ⟨r, 0, none⟩), .int .i64 n] w fun e w' =>
    e = .returned (.tuple #[.slice none 0 0, .int .i64 10]) ∧ Below w.heap.size w w' := by
  have HC := Lib.hid (rlist_no x hr)
  clear x hr
  go_enter Tryd.func70, Tryd.ntmps70
  go_wp2_with fail
  refine HC.out.mono ?_
  rintro e w1 ⟨⟨A, n, cp, rfl⟩, hb⟩
  have HB := Lib.hid hb
  clear hb HC
  go_wp2_with fail
  go_ret2
  exact ⟨rfl, HB.out⟩
set_option maxHeartbeats 4000000 in
theorem rsome_yes (n : Int) (x : Rf w r m gm cap bs b c h f) (hr : Rt (nx bs b c) h f L) : Calls Tryd.prog 70 #[.pointer (some ⟨r, 0, none⟩), .int .i64 n] w fun e w' =>
    (∃ A cap, e = .returned (.tuple #[.slice A (smM f n) cap, .int .i64 0]) ∧ Li w' A (adr b c (L.take (smM f n)))) ∧ RTook r m gm cap b c bs (L.drop (smM f n)) w w' := by
  have HC := Lib.hid (rlist_yes x hr)
  have HX := Lib.hid x
  have HR := Lib.hid hr
  have h128 : f ≤ 128 := by have := x.hf; have := (cls c x.hc).2.2.2.1; omega
  obtain ⟨LL, hLL⟩ : ∃ LL, L.length = LL := ⟨_, rfl⟩
  rw [hLL] at HC
  have hLf : LL = f := by rw [← hLL]; exact hr.2
  have HLf := Lib.hid hLf
  have HLL := Lib.hid hLL
  obtain ⟨M, hM⟩ : ∃ M, smM f n = M := ⟨_, rfl⟩
  rw [hM]
  have hMf : M ≤ f := by rw [← hM]; exact Nat.min_le_right _ _
  have hMn : ∀ k : Nat, k ≤ M → ((k : Int) < n ∧ k < f ↔ k < M) := fun k hk => by unfold smM at hM; omega
  have HMn := Lib.hid hMn
  clear x hr hLL hLf hM hMn
  go_enter Tryd.func70, Tryd.ntmps70
  go_wp2_with fail
  refine HC.out.mono ?_
  rintro e w1 ⟨⟨A1, c1, rfl, -⟩, hb⟩
  have HB := Lib.hid hb
  have hle0 := hb.size
  have HX1 := Lib.hid (HX.out.below hb)
  have HO0 := Lib.hid (empty_own w1)
  have B0 := Lib.hid (up_alloc (Below.refl w1.heap.size w1) (.cells #[] 3))
  clear hb HC
  go_wp2_with fail
  go_loopw [8] (fun v wr => ∃ (k h' : Nat) (As Bs : List Nat), k ≤ M ∧ L = As ++ Bs ∧ As.length = k ∧ wr.ownsRow w.heap.size 3 1 v k (ints (adr b c As)) ∧ Rt (nx bs b c) h' Bs.length Bs ∧ Rf wr r m gm cap bs b c h' Bs.length ∧ Fr r r w wr) (fun v _ => M - lenOf v)
  case atStart => exact ⟨0, h, [], L, by omega, rfl, rfl, own_down HO0.out hle0, by rw [HR.out.2]; exact HR.out, by rw [HR.out.2]; exact HX1.out.below B0.out, Fr.of (up_trans HB.out B0.out)⟩
  case round =>
    obtain ⟨k, h', As, Bs, hk, hL, hAl, ho, hrt, hx, hfr⟩ := hrel
    obtain ⟨A0, n0, rfl⟩ := own_form ho
    have HO := Lib.hid ho
    have HL := Lib.hid hL
    have HAl := Lib.hid hAl
    have HRt := Lib.hid hrt
    have HXr := Lib.hid hx
    have HFr := Lib.hid hfr
    have r4 := hx.r4
    have hkl : k + Bs.length = f := by rw [← HLf.out, ← HLL.out, hL, List.length_append, hAl]
    have hd := HMn.out k hk
    have hsz := hfr.size
    clear ho hL hAl hrt hx hfr
    by_cases hlt : k < M
    · have hkn : (k : Int) < n := (hd.2 hlt).1
      have d1 : decide ((k : Int) < n) = true := decide_eq_true hkn
      cases Bs with
      | nil => exact absurd (hd.2 hlt).2 (by simp at hkl; omega)
      | cons q Bs =>
        have HT := Lib.hid (rtake_yes HXr.out HRt.out)
        obtain ⟨ad, had⟩ : ∃ ad, b + q * zN c = ad := ⟨_, rfl⟩
        have HAd := Lib.hid had
        rw [show tkV b c (q :: Bs) = .tuple #[.int .i64 ((b + q * zN c : Nat) : Int), .int .i64 0] from rfl, had] at HT
        obtain ⟨B1, hB1⟩ : ∃ B1, (q :: Bs).length = B1 := ⟨_, rfl⟩
        rw [hB1] at r4 hkl
        have d2 : decide (0 < B1) = true := decide_eq_true (by rw [← hB1]; simp)
        have d3 : decide ((0 : Int) < (B1 : Int)) = true := decide_eq_true (by rw [← hB1]; simp)
        clear had hB1 hkn
        go_wp2_with fail
        refine HT.out.mono ?_
        rintro e w2 ⟨rfl, hT2⟩
        obtain ⟨h1, q1, q2, q3⟩ := hT2
        have Q1 := Lib.hid q1
        have Q2 := Lib.hid q2
        have F2 := Lib.hid (HFr.out.trans q3)
        have O2 := Lib.hid (own_far HO.out q3 HXr.out.kinds.1 HXr.out.kinds.1 (by decide) (by decide))
        have hsz2 := F2.out.size
        have hol : k ≤ 1048576 := by omega
        clear q1 q2 q3 HT HO HXr HFr r4
        go_wp2_with (at_builtin; refine app_law el3 rfl _ _ rfl rfl (own_below O2.out (up_alloc (Below.refl _ _) _)) rfl (show (w2.alloc (.cells #[.int .i64 (ad : Int)] 3)).heap[w2.heap.size]? = some (.cells [Value.int .i64 (ad : Int)].toArray 3 (0, 0)) from heap_alloc_new w2 _) rfl (by simp [Value.oneCell']) hol (by rw [World.size_alloc]; omega) ?_; intro g' cap' wa hoa hga hgw; have hga2 : Hid ((w2.alloc (.cells #[.int .i64 (ad : Int)] 3)).grownBy wa (Value.slice A0 k n0).ownBlock) := hga; have X3 : Hid (Rf wa r m gm cap bs b c h1 (List.drop 1 (q :: Bs)).length) := (Q2.out.below (up_alloc (Below.refl _ _) _)).keep hga2.out (own_below O2.out (up_alloc (Below.refl _ _) _)); have F3 : Hid (Fr r r w wa) := fr_own F2.out hga2.out (fun j e => (O2.out.lt j e).1); clear hga hgw hga2 O2 F2 Q2)
        go_roundw
        case rel =>
          refine ⟨k + 1, h1, As ++ [q], Bs, by omega, by rw [HL.out]; simp, by simp [HAl.out], ?_, Q1.out, X3.out, F3.out⟩
          have e : adr b c (As ++ [q]) = adr b c As ++ [(ad : Int)] := by
            unfold adr
            rw [List.map_append]
            show _ ++ [((b + q * zN c : Nat) : Int)] = _
            rw [HAd.out]
          rw [e, ints_snoc]
          exact hoa.out
        case measure => simp [lenOf]; omega
    · obtain rfl : k = M := by omega
      have HA := Lib.hid (own_li HO.out)
      have HE : Hid (L.take k = As ∧ L.drop k = Bs) := by
        rw [HL.out, ← HAl.out]
        exact ⟨List.take_left, List.drop_left⟩
      have HQ : Hid (Li wr A0 (adr b c (L.take k)) ∧ RTook r m gm cap b c bs (L.drop k) w wr) := by
        obtain ⟨e1, e2⟩ := HE.out
        exact ⟨by rw [e1]; exact HA.out, by rw [e2]; exact ⟨h', HRt.out, HXr.out, HFr.out⟩⟩
      by_cases hkn : (k : Int) < n
      · have hkf : ¬ k < f := fun h => hlt (hd.1 ⟨hkn, h⟩)
        have d1 : decide ((k : Int) < n) = true := decide_eq_true hkn
        obtain ⟨B1, hB1⟩ : ∃ B1, Bs.length = B1 := ⟨_, rfl⟩
        rw [hB1] at r4 hkl
        have hB0 : B1 = 0 := by omega
        have d2 : decide (0 < B1) = false := decide_eq_false (by omega)
        have d3 : decide ((0 : Int) < (B1 : Int)) = false := decide_eq_false (by omega)
        clear hd hB1 hkn hB0
        go_wp2_with fail
        go_ret2
        first | exact ⟨⟨A0, n0, rfl, HQ.out.1⟩, HQ.out.2⟩ | exact ⟨⟨A0, ⟨n0, rfl⟩, HQ.out.1⟩, HQ.out.2⟩
      · have d1 : decide ((k : Int) < n) = false := decide_eq_false hkn
        clear hd
        go_wp2_with fail
        go_ret2
        first | exact ⟨⟨A0, n0, rfl, HQ.out.1⟩, HQ.out.2⟩ | exact ⟨⟨A0, ⟨n0, rfl⟩, HQ.out.1⟩, HQ.out.2⟩
end
end Go.Proofs.YtaelfgdiboekpaaDoor.Ns
