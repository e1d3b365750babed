import Derived.Test.YtaelfgdiboekpaaDoorNsPut
import Derived.Test.YtaelfgdiboekpaaDoorNsBreak
/-
  The document's slab in memory, and its sizes: contracts that the claimed proof uses.
-/
namespace Go.Proofs.YtaelfgdiboekpaaDoor.Ns
set_option maxRecDepth 100000
open Go.RowKit
open Ce (u y ldW Mem row)
open Bi (Blk Drawn hasB hasB_iff hasB_not up_alloc up_drew up_trans i64_in ret_i ret_b grown_refl grown_trans grown_below)

/-- The document's slab: its struct r, its memory's struct m, which names a row of one's own. -/
structure Rf (w : World) (r m gm cap : Nat) (bs : List (BitVec 8)) (b c h f : Nat) : Prop where
  blk : Blk w r [.pointer (some ⟨m, 0, none⟩), .int .i64 (b : Int), .int .i64 (c : Int), .int .i64 ((h : Int) - 1), .int .i64 (f : Int)] 108
  mblk : Blk w m [.slice (some ⟨gm, 0, none⟩) bs.length cap] 47
  own : w.ownsRow 0 5 1 (.slice (some ⟨gm, 0, none⟩) bs.length cap) bs.length (row bs)
  len : bs.length ≤ 1048576
  hc : c < 12
  fit : b + 1024 ≤ bs.length
  hh : h ≤ nS c
  hf : f ≤ nS c
section
variable {w w' : World} {r m gm cap b c h f : Nat} {bs : List (BitVec 8)}
theorem own_at_row {bs : List (BitVec 8)} {base g n cap : Nat} (h : w.ownsRow base 5 1 (.slice (some ⟨g, 0, none⟩) n cap) n (row bs)) : ∃ cur, w.heap[g]? = some (.cells cur 5 (0, 0)) ∧ g < w.heap.size ∧ n ≤ cap := by
  rcases h.2 with ⟨e, _⟩ | ⟨g', cap', cur, e, _, hg, hc, _⟩
  · cases e
  · cases e
    exact ⟨cur, hg, (Array.getElem?_eq_some_iff.1 hg).1, hc⟩
theorem Rf.gm_lt (x : Rf w r m gm cap bs b c h f) : gm < w.heap.size := by obtain ⟨_, _, h, _⟩ := own_at_row x.own; exact h
theorem Rf.kinds (x : Rf w r m gm cap bs b c h f) : kind w r = 108 ∧ kind w m = 47 ∧ kind w gm = 5 := by
  obtain ⟨cur, hg, _⟩ := own_at_row x.own
  exact ⟨kind_blk x.blk, kind_blk x.mblk, kind_of hg⟩
theorem Rf.lt (x : Rf w r m gm cap bs b c h f) : r < w.heap.size ∧ m < w.heap.size ∧ gm < w.heap.size := ⟨x.blk.lt, x.mblk.lt, x.gm_lt⟩
theorem Rf.of (x : Rf w r m gm cap bs b c h f) (h1 : w'.heap[r]? = w.heap[r]?) (h2 : w'.heap[m]? = w.heap[m]?) (h3 : w'.heap[gm]? = w.heap[gm]?) : Rf w' r m gm cap bs b c h f :=
  ⟨x.blk.of h1, x.mblk.of h2, own_of x.own (fun j e => by cases e; exact h3), x.len, x.hc, x.fit, x.hh, x.hf⟩
theorem Rf.below (x : Rf w r m gm cap bs b c h f) (hb : Below w.heap.size w w') : Rf w' r m gm cap bs b c h f := x.of (hb.block _ x.lt.1) (hb.block _ x.lt.2.1) (hb.block _ x.lt.2.2)
theorem Rf.fr (x : Rf w r m gm cap bs b c h f) {i j : Nat} (hf : Fr i j w w') (h1 : r ≠ i ∧ r ≠ j) (h2 : m ≠ i ∧ m ≠ j) (h3 : gm ≠ i ∧ gm ≠ j) : Rf w' r m gm cap bs b c h f :=
  x.of (hf.block _ x.lt.1 h1.1 h1.2) (hf.block _ x.lt.2.1 h2.1 h2.2) (hf.block _ x.lt.2.2 h3.1 h3.2)
theorem Rf.byte (x : Rf w r m gm cap bs b c h f) (j : Nat) (hj : j < bs.length) : w.cell? ⟨gm, j, none⟩ = some (.int .u8 (y (bs.getD j 0#8))) := by
  rw [x.own.cellAt j (by omega)]; exact Ce.row_get hj
theorem Rf.ba (x : Rf w r m gm cap bs b c h f) : Ce.BA w.heap.size w (some ⟨gm, 0, none⟩) bs := fun _ => ⟨gm, 0, rfl, x.gm_lt, fun j hj => by rw [Nat.zero_add]; exact x.byte j hj⟩
theorem Rf.r0 (x : Rf w r m gm cap bs b c h f) : w.cell? ⟨r, 0, none⟩ = some (.pointer (some ⟨m, 0, none⟩)) := x.blk.cell
theorem Rf.r1 (x : Rf w r m gm cap bs b c h f) : w.cell? ⟨r, 1, none⟩ = some (.int .i64 (b : Int)) := x.blk.cell
theorem Rf.r2 (x : Rf w r m gm cap bs b c h f) : w.cell? ⟨r, 2, none⟩ = some (.int .i64 (c : Int)) := x.blk.cell
theorem Rf.r3 (x : Rf w r m gm cap bs b c h f) : w.cell? ⟨r, 3, none⟩ = some (.int .i64 ((h : Int) - 1)) := x.blk.cell
theorem Rf.r4 (x : Rf w r m gm cap bs b c h f) : w.cell? ⟨r, 4, none⟩ = some (.int .i64 (f : Int)) := x.blk.cell
theorem Rf.m0 (x : Rf w r m gm cap bs b c h f) : w.cell? ⟨m, 0, none⟩ = some (.slice (some ⟨gm, 0, none⟩) bs.length cap) := x.mblk.cell
/-! ### Sizes -/
theorem rsizes_any (w : World) : Calls Tryd.prog 91 #[.int .i64 1] w fun e w' => e = .returned (.slice (some ⟨w.heap.size, 0, none⟩) 12 12) ∧ w' = w.alloc (.cells (ints (Tb.szs 1)).toArray 3) := by
  go_enter Tryd.func91, Tryd.ntmps91
  go_wp2
  go_ret
  exact ⟨rfl, rfl⟩
theorem rsize6_any (c : Int) (w : World) : Calls Tryd.prog 58 #[.int .i64 1, .int .i64 c] w fun e w' => e = .returned (.int .i64 (Tb.sizeOf' 1 c)) ∧ Below w.heap.size w w' := by
  have HS := Lib.hid (rsizes_any w)
  have hb := Lib.hid (up_alloc (Below.refl w.heap.size w) (.cells (ints (Tb.szs 1)).toArray 3))
  by_cases h0 : c < 0
  · have H := Lib.hid (Tb.sizeOf_neg (v := 1) (c := c) (by omega))
    have d0 : decide (c < 0) = true := by simpa using h0
    clear h0
    go_enter Tryd.func58, Tryd.ntmps58
    go_wp2_with fail
    refine HS.out.mono ?_
    rintro e w' ⟨rfl, rfl⟩
    clear HS
    go_wp2_with fail
    go_ret
    exact ⟨ret_i H.out.symm, hb.out⟩
  · obtain ⟨k, rfl⟩ := Int.eq_ofNat_of_zero_le (by omega : 0 ≤ c)
    have d0 : decide ((k : Int) < 0) = false := decide_eq_false h0
    by_cases hk : k < 12
    · have H := Lib.hid (Tb.sizeOf_nat 1 k)
      have hk2 : k < (Tb.szs 1).length := hk
      obtain ⟨b', o', e, q0⟩ := (li_new w (Tb.szs 1)).int (t := k) hk2
      cases e
      have ez : (Tb.szs 1)[k] = Tb.sz 1 k := by unfold Tb.sz; rw [List.getD_eq_getElem?_getD, List.getElem?_eq_getElem hk2]; rfl
      rw [ez, Nat.zero_add] at q0
      clear ez hk2
      have d1 : decide ((12 : Int) ≤ (k : Int)) = false := decide_eq_false (by omega)
      have k1 : (0 : Int) ≤ (k : Int) := by omega
      have k2 : (k : Int) < 12 := by omega
      generalize w.alloc (.cells (ints (Tb.szs 1)).toArray 3) = w1 at *
      generalize Tb.sz 1 k = z at *
      clear h0 hk
      go_enter Tryd.func58, Tryd.ntmps58
      go_wp2_with fail
      refine HS.out.mono ?_
      rintro e w' ⟨rfl, rfl⟩
      clear HS
      go_wp2_with fail
      go_ret
      exact ⟨ret_i H.out.symm, hb.out⟩
    · have H := Lib.hid (Tb.sizeOf_beyond (v := 1) (c := k) (by rw [Tb.cnt_1]; omega))
      have d1 : decide ((12 : Int) ≤ (k : Int)) = true := decide_eq_true (by omega)
      clear h0 hk
      go_enter Tryd.func58, Tryd.ntmps58
      go_wp2_with fail
      refine HS.out.mono ?_
      rintro e w' ⟨rfl, rfl⟩
      clear HS
      go_wp2_with fail
      go_ret
      exact ⟨ret_i H.out.symm, hb.out⟩
theorem rsize_any (x : Rf w r m gm cap bs b c h f) : Calls Tryd.prog 66 #[.pointer (some ⟨r, 0, none⟩)] w fun e w' => e = .returned (.int .i64 (zN c : Int)) ∧ Below w.heap.size w w' := by
  have c2 := x.r2
  have H := Lib.hid (rsize6_any (c : Int) w)
  rw [size_of x.hc] at H
  clear x
  generalize zN c = z at *
  go_enter Tryd.func66, Tryd.ntmps66
  go_wp2_with fail
  refine H.out.mono ?_
  rintro e w1 ⟨rfl, b1⟩
  have B1 := Lib.hid b1
  clear b1 H
  go_wp2_with fail
  go_ret
  exact ⟨rfl, B1.out⟩
theorem rslots_any (x : Rf w r m gm cap bs b c h f) : Calls Tryd.prog 59 #[.pointer (some ⟨r, 0, none⟩)] w fun e w' => e = .returned (.int .i64 (nS c : Int)) ∧ Below w.heap.size w w' := by
  have H := Lib.hid (rsize_any x)
  have hz := (cls c x.hc).1
  have HE : Hid ((1024 : Int) / (zN c : Int) = (nS c : Int)) := by show _ = _; unfold nS; rfl
  clear x
  generalize nS c = n at *
  generalize zN c = z at *
  have e4 : ((z : Int) == 0) = false := by rw [beq_eq_false_iff_ne]; omega
  go_enter Tryd.func59, Tryd.ntmps59
  go_wp2_with fail
  refine H.out.mono ?_
  rintro e w1 ⟨rfl, b1⟩
  have B1 := Lib.hid b1
  clear b1 H
  go_wp2_with fail
  go_ret
  exact ⟨ret_i HE.out, B1.out⟩
end
end Go.Proofs.YtaelfgdiboekpaaDoor.Ns

/-
  The document's list: contracts that the claimed proof uses.
-/
namespace Go.Proofs.YtaelfgdiboekpaaDoor.Ns
set_option maxRecDepth 100000
open Go.RowKit
open Ce (u y ldW Mem row)
open Bi (Blk Drawn hasB hasB_iff hasB_not up_alloc up_drew up_trans i64_in ret_i ret_b grown_refl grown_trans grown_below)

theorem w9_in (n : Int) (h0 : -1 ≤ n) (h1 : n ≤ 4611686018427387904) : IntKind.i64.wrap n = n := by rw [IntKind.wrap_i64]; omega
/-- The document's next one. -/
def rx (bs : List (BitVec 8)) (b c k : Nat) : Option Nat := match nx bs b c k with
  | none => none
  | some a => if a ≤ nS c then some a else none
theorem rx_some {bs : List (BitVec 8)} {b c k a : Nat} (h : rx bs b c k = some a) : nx bs b c k = some a ∧ a ≤ nS c := by
  unfold rx at h
  cases hn : nx bs b c k with
  | none => rw [hn] at h; cases h
  | some z =>
    rw [hn] at h
    by_cases hz : z ≤ nS c
    · have h2 : (if z ≤ nS c then some z else none) = some a := h
      rw [if_pos hz] at h2
      cases h2; exact ⟨rfl, hz⟩
    · have h2 : (if z ≤ nS c then some z else none) = some a := h
      rw [if_neg hz] at h2; cases h2
theorem rx_of {bs : List (BitVec 8)} {b c k a : Nat} (h : nx bs b c k = some a) (ha : a ≤ nS c) : rx bs b c k = some a := by
  unfold rx; rw [h]; exact if_pos ha
theorem rch_rx {bs : List (BitVec 8)} {b c : Nat} : ∀ {xs : List Nat} {h : Nat}, Rch (nx bs b c) h xs 0 → Rch (rx bs b c) h xs 0
  | [], _, e => e
  | x :: xs, h, ⟨e, h1, h2, h3⟩ => by
    refine ⟨e, h1, rx_of h2 ?_, rch_rx h3⟩
    cases xs with
    | nil => have e : h1 = 0 := h3; omega
    | cons z zs =>
      obtain ⟨e2, a, e3, _⟩ := h3
      have := (nx_lt e3).1
      omega
theorem rch_nx {bs : List (BitVec 8)} {b c : Nat} : ∀ {xs : List Nat} {h a : Nat}, Rch (rx bs b c) h xs a → Rch (nx bs b c) h xs a
  | [], _, _, e => e
  | x :: xs, h, a, ⟨e, h1, h2, h3⟩ => ⟨e, h1, (rx_some h2).1, rch_nx h3⟩
theorem rt_rx {bs : List (BitVec 8)} {b c h f : Nat} {L : List Nat} : Rt (rx bs b c) h f L ↔ Rt (nx bs b c) h f L := ⟨fun r => ⟨rch_nx r.1, r.2⟩, fun r => ⟨rch_rx r.1, r.2⟩⟩
/-- A slot that comes twice. -/
theorem no_twice {F : Nat → Option Nat} {h f k : Nat} {xs : List Nat} (r : Rch F h xs (k + 1)) (hk : k ∈ xs) (hl : xs.length < f) : ¬ ∃ L, Rt F h f L := fun ⟨L, r2, e⟩ => by
  obtain ⟨zs, rfl, r3⟩ := r.det r2 (by omega)
  have hn := r2.nodup
  cases zs with
  | nil => simp at e; omega
  | cons z zs =>
    have e1 := r3.1
    obtain rfl : z = k := by omega
    exact (List.nodup_append.1 hn).2.2 z hk z (by simp) rfl
section
variable {w w' : World} {r m gm cap b c h f : Nat} {bs : List (BitVec 8)} {L : List Nat}
theorem rload8 (x : Rf w r m gm cap bs b c h f) (s : Nat) (hs : s + 8 ≤ bs.length) : Calls Tryd.prog 106 #[.slice (some ⟨gm, 0, none⟩) bs.length cap, .int .i64 (s : Int), .int .i64 8] w fun e w' => e = .returned (.tuple #[.int .u64 (u (ldW bs s 8)), .int .i64 0]) ∧ w = w' :=
  Ce.rload_yes gm 0 bs cap s 8 w (fun j hj => by rw [Nat.zero_add]; exact x.byte j hj) x.len (by decide) hs
set_option maxHeartbeats 4000000 in
theorem rnext_any (k : Nat) (x : Rf w r m gm cap bs b c h f) (hk : k < nS c) : Calls Tryd.prog 94 #[.pointer (some ⟨r, 0, none⟩), .int .i64 (k : Int)] w fun e w' =>
    e = .returned (match rx bs b c k with | some a => .tuple #[.int .i64 ((a : Int) - 1), .bool true] | none => .tuple #[.int .i64 0, .bool false]) ∧ Below w.heap.size w w' := by
  have r0 := x.r0
  have r1 := x.r1
  have m0 := x.m0
  have hl := x.lt
  have h1 := slot_in x.hc hk
  have h2 := cls c x.hc
  have h3 := x.fit
  have h4 := x.len
  have HX := Lib.hid x
  have hcc := x.hc
  have HZ : Hid (Calls Tryd.prog 66 #[.pointer (some ⟨r, 0, none⟩)] w.drew fun e w' => e = .returned (.int .i64 (zN c : Int)) ∧ Below w.drew.heap.size w.drew w') := rsize_any (x.below (Below.refl _ w).drew)
  obtain ⟨t, ht⟩ : ∃ t, b + k * zN c = t := ⟨_, rfl⟩
  have HL : Hid (∀ V : World, Below w.heap.size w V → _) := fun V hV => rload8 (x.below hV) t (by omega)
  have HS : Hid (∀ V : World, Below w.heap.size w V → _) := fun V hV => rslots_any (x.below hV)
  have e1 : ((k : Int) * (zN c : Int)) = ((k * zN c : Nat) : Int) := by rw [Int.natCast_mul]
  obtain ⟨yy, hy⟩ : ∃ yy, k * zN c = yy := ⟨_, rfl⟩
  rw [hy] at h1 e1 ht
  -- what the word tells
  have HF : Hid (rx bs b c k = if unOk (ldW bs t 8) = true ∧ unS (ldW bs t 8) = k ∧ unC (ldW bs t 8) = c ∧ unN (ldW bs t 8) ≤ nS c then some (unN (ldW bs t 8)) else none) := by
    show _ = _
    have e : b + k * zN c = t := by rw [hy]; exact ht
    by_cases hn : unOk (ldW bs t 8) = true ∧ unS (ldW bs t 8) = k ∧ unC (ldW bs t 8) = c
    · have e2 : nx bs b c k = some (unN (ldW bs t 8)) := by unfold nx; rw [e]; exact if_pos ⟨hk, hn⟩
      unfold rx
      rw [e2]
      by_cases hz : unN (ldW bs t 8) ≤ nS c
      · rw [if_pos ⟨hn.1, hn.2.1, hn.2.2, hz⟩]; exact if_pos hz
      · rw [if_neg (fun z => hz z.2.2.2)]; exact if_neg hz
    · have e2 : nx bs b c k = none := by unfold nx; rw [e]; exact if_neg (fun z => hn z.2)
      unfold rx
      rw [e2, if_neg (fun z => hn ⟨z.1, z.2.1, z.2.2.1⟩)]
  have HW : Hid (∀ (j : Nat) (V : World), j ≤ nS c → Calls Tryd.prog 11 #[.int .i64 (k : Int), .int .i64 ((j : Int) - 1), .int .i64 (c : Int)] V fun e w' => e = .returned (.tuple #[.int .u64 (u (wd k j c)), .bool true]) ∧ V = w') := fun j V hj => rword_yes k j c V (by omega) (by omega) hcc
  -- a match is the one
  have HEq : Hid (∀ j, j ≤ nS c → ((u (wd k j c) == u (ldW bs t 8)) = decide (rx bs b c k = some j))) := fun j hj => by
    rw [Bool.eq_iff_iff, beq_iff_eq, decide_eq_true_eq, HF.out]
    obtain ⟨q1, q2, q3, q4⟩ := un_wd (s := k) (n := j) (c := c) (by omega) (by omega) (by omega)
    constructor
    · intro e
      rw [← Ce.u_inj e, q1, q2, q3, if_pos ⟨wd_ok (by omega) (by omega) hcc, rfl, rfl, hj⟩]
    · intro e
      split at e
      · rename_i hh
        have := wd_un (unOk_iff.1 hh.1).1
        rw [hh.2.1, hh.2.2.1, Option.some.inj e] at this
        rw [this]
      · cases e
  have HLe : Hid (∀ a, rx bs b c k = some a → a ≤ nS c) := fun a e => (rx_some e).2
  generalize rx bs b c k = o at *
  generalize nS c = N at *
  generalize zN c = z at *
  generalize ldW bs t 8 = v at *
  have w1 : IntKind.i64.wrap ((k : Int) * (z : Int)) = (yy : Int) := by rw [e1, IntKind.wrap_i64]; omega
  have w2 : IntKind.i64.wrap ((b : Int) + (yy : Int)) = (t : Int) := by rw [IntKind.wrap_i64]; omega
  obtain ⟨LL, hLL⟩ : ∃ LL, bs.length = LL := ⟨_, rfl⟩
  rw [hLL] at m0 HL
  have hN128 : N ≤ 128 := h2.2.2.2.1
  have hlr := hl.1
  clear x e1 h1 h2 h3 h4 hy ht hcc HF hk hLL
  go_enter Tryd.func94, Tryd.ntmps94
  go_wp2_with fail
  go_region_held3 (fun V => V.cell? ⟨r, 1, none⟩ = some (.int .i64 (b : Int)))
    (first | exact (hb2.cell (p := ⟨r, 1, none⟩) hlr).trans r1 | exact r1)
    ((go_at_call 66; refine HZ.out.mono ?_; rintro e w2 ⟨rfl, hb2⟩))
  have B2 : Hid (Below w.heap.size w w2) := (Below.refl _ w).drew.trans hb2
  have r02 := (B2.out.cell (p := ⟨r, 0, none⟩) hlr).trans r0
  have m02 := (B2.out.cell (p := ⟨m, 0, none⟩) hl.2.1).trans m0
  have HL2 := Lib.hid (HL.out w2 B2.out)
  have HS2 := Lib.hid (HS.out w2 B2.out)
  clear hb2 HZ HL HS r0 r1 m0
  go_wp2_with fail
  refine HL2.out.mono ?_
  rintro e w' ⟨rfl, rfl⟩
  clear HL2 r02 m02
  go_wp2_with fail
  refine HS2.out.mono ?_
  rintro e w3 ⟨rfl, b3⟩
  have B3 := Lib.hid (up_trans B2.out b3)
  clear b3 HS2
  go_wp2_with fail
  go_loopw [10] (fun i wr => ∃ j : Nat, j ≤ N + 1 ∧ i = .int .i64 ((j : Int) - 1) ∧ (∀ a, o = some a → j ≤ a) ∧ Below w.heap.size w wr) (fun i _ => (N + 1 - (intOf i + 1).toNat : Nat))
  case atStart => exact ⟨0, by omega, rfl, fun a _ => Nat.zero_le _, B3.out⟩
  case round =>
    obtain ⟨j, hj, rfl, hlo, hb⟩ := hrel
    have HLo := Lib.hid hlo
    have HB := Lib.hid hb
    have r2 := (HX.out.below hb).r2
    clear hlo hb
    by_cases hlt : j ≤ N
    · have HWj := Lib.hid (HW.out j wr hlt)
      have he := HEq.out j hlt
      have dlt : decide (((j : Int) - 1) < (N : Int)) = true := decide_eq_true (by omega)
      have w5 : IntKind.i64.wrap ((j : Int) - 1 + 1) = ((j + 1 : Nat) : Int) - 1 := by rw [IntKind.wrap_i64]; omega
      obtain ⟨J, hJ⟩ : ∃ J, (j : Int) - 1 = J := ⟨_, rfl⟩
      have HJ := Lib.hid hJ
      rw [hJ] at HWj dlt w5 ⊢
      generalize u (wd k j c) = uw at *
      clear hJ
      by_cases ho : o = some j
      · subst ho
        have he2 : (uw == u v) = true := by rw [he]; simp
        clear he
        go_wp2_with fail
        refine HWj.out.mono ?_
        rintro e w' ⟨rfl, rfl⟩
        clear HWj
        go_wp2_with fail
        go_ret2
        exact ⟨by rw [HJ.out]; rfl, HB.out⟩
      · have he2 : (uw == u v) = false := by rw [he]; simpa using ho
        have HO := Lib.hid ho
        clear he ho
        go_wp2_with fail
        refine HWj.out.mono ?_
        rintro e w' ⟨rfl, rfl⟩
        clear HWj
        go_wp2_with fail
        go_roundw
        case rel =>
          refine ⟨j + 1, by omega, by congr 1; omega, fun a e => ?_, HB.out⟩
          have := HLo.out a e
          have : a ≠ j := fun z => HO.out (by rw [e, z])
          omega
        case measure => have := HJ.out; simp [intOf]; omega
    · obtain rfl : j = N + 1 := by omega
      have dlt : decide ((((N + 1 : Nat) : Int) - 1) < (N : Int)) = false := decide_eq_false (by omega)
      have ho : o = none := by
        cases o with
        | none => rfl
        | some a => have := HLo.out a rfl; have := HLe.out a rfl; omega
      subst ho
      generalize ((N + 1 : Nat) : Int) - 1 = J at *
      go_wp2_with fail
      go_ret2
      exact ⟨rfl, HB.out⟩
end
end Go.Proofs.YtaelfgdiboekpaaDoor.Ns

/-
  The document's list and taken slots: contracts that the claimed proof uses.
-/
namespace Go.Proofs.YtaelfgdiboekpaaDoor.Ns
set_option maxRecDepth 100000
open Go.RowKit
open Ce (u y ldW Mem row)
open Bi (Blk Drawn hasB hasB_iff hasB_not up_alloc up_drew up_trans i64_in ret_i ret_b grown_refl grown_trans grown_below)

section
variable {w w' : World} {r m gm cap b c h f : Nat} {bs : List (BitVec 8)} {L : List Nat}
theorem empty_own (w : World) : (w.alloc (.cells #[] 3)).ownsRow w.heap.size 3 1 (.slice (some ⟨w.heap.size, 0, none⟩) 0 0) 0 (ints []) :=
  ⟨rfl, .inr ⟨w.heap.size, 0, #[], rfl, Nat.le_refl _, heap_alloc_new w _, Nat.le_refl _, by decide, rfl, rfl⟩⟩
set_option maxHeartbeats 4000000 in
theorem rlist_any (x : Rf w r m gm cap bs b c h f) : Calls Tryd.prog 63 #[.pointer (some ⟨r, 0, none⟩)] w fun e w' =>
    (∃ A n cp ok, e = .returned (.tuple #[.slice A n cp, .bool ok]) ∧ ((ok = true ∧ ∃ L, Rt (nx bs b c) h f L ∧ n = L.length ∧ Li w' A (nats L)) ∨ (ok = false ∧ ¬ ∃ L, Rt (nx bs b c) h f L))) ∧ Below w.heap.size w w' := by
  have r3 := x.r3
  have HX := Lib.hid x
  have hh := x.hh
  have hf := x.hf
  have h128 := (cls c x.hc).2.2.2.1
  have hlr := x.lt.1
  have HN : Hid (∀ (k : Nat) (V : World), Below w.heap.size w V → k < nS c → _) := fun k V hV hk => rnext_any k (x.below hV) hk
  have HLt : Hid (∀ k a, rx bs b c k = some a → k < nS c ∧ a ≤ nS c) := fun k a e => ⟨(nx_lt (rx_some e).1).1, (rx_some e).2⟩
  have HRt : Hid (∀ L, Rt (nx bs b c) h f L ↔ Rt (rx bs b c) h f L) := fun L => rt_rx.symm
  have HSome : Hid (∀ k, k < nS c → True) := fun _ _ => trivial
  clear x HSome
  generalize nx bs b c = F0 at *
  generalize rx bs b c = F at *
  generalize nS c = N at *
  have HO0 := Lib.hid (empty_own w)
  have B0 := Lib.hid (up_alloc (Below.refl w.heap.size w) (.cells #[] 3))
  have HNoF : Hid ((¬ ∃ L, Rt F h f L) → ¬ ∃ L, Rt F0 h f L) := fun n ⟨L, z⟩ => n ⟨L, (HRt.out L).1 z⟩
  go_enter Tryd.func63, Tryd.ntmps63
  go_wp2_with fail
  have r3' := (B0.out.cell (p := ⟨r, 3, none⟩) hlr).trans r3
  go_loopw [4, 5, 6] (fun v a i wr => ∃ (xs : List Nat) (z : Nat), xs.length ≤ f ∧ z ≤ N ∧ i = .int .i64 (xs.length : Int) ∧ a = .int .i64 ((z : Int) - 1) ∧ Rch F h xs z ∧ (∀ k ∈ xs, k < N) ∧ wr.ownsRow w.heap.size 3 1 v xs.length (ints (nats xs)) ∧ Below w.heap.size w wr) (fun _ _ i _ => f - (intOf i).toNat)
  case atStart => exact ⟨[], h, by simp, hh, rfl, rfl, rfl, fun k hk => (by cases hk), HO0.out, B0.out⟩
  case round =>
    obtain ⟨xs, z, hj, hz, rfl, rfl, hr, hin, ho, hb⟩ := hrel
    obtain ⟨A0, n0, rfl⟩ := own_form ho
    have HR := Lib.hid hr
    have HIn := Lib.hid hin
    have HO := Lib.hid ho
    have HB := Lib.hid hb
    have HLi := Lib.hid (own_li ho)
    have r4 := (HX.out.below hb).r4
    obtain ⟨j, hxs⟩ : ∃ j, xs.length = j := ⟨_, rfl⟩
    have HXs := Lib.hid hxs
    rw [hxs] at hj HO ⊢
    clear hr hin ho hb hxs r3 r3'
    by_cases hlt : j < f
    · have dlt : decide ((j : Int) < (f : Int)) = true := decide_eq_true (by omega)
      by_cases h0 : z = 0
      · subst h0
        have ez : ((0 : Nat) : Int) - 1 = -1 := rfl
        rw [ez]
        go_wp2_with fail
        go_ret2
        exact ⟨⟨none, 0, 0, false, rfl, .inr ⟨rfl, HNoF.out (no_early HR.out (by rw [HXs.out]; exact hlt))⟩⟩, HB.out⟩
      · obtain ⟨k, rfl⟩ : ∃ k, z = k + 1 := ⟨z - 1, by omega⟩
        have ek : ((k + 1 : Nat) : Int) - 1 = (k : Int) := by omega
        rw [ek]
        have dk : decide ((k : Int) < 0) = false := decide_eq_false (by omega)
        have hI := in_any (nats xs) A0 n0 j (k : Int) wr HLi.out (by rw [nats_len, HXs.out]) (by omega)
        have hkN : k < N := by omega
        have HC := Lib.hid (HN.out k wr HB.out hkN)
        have HkN := Lib.hid hkN
        clear h0 ek hz hkN
        by_cases hkx : k ∈ xs
        · rw [show decide ((k : Int) ∈ nats xs) = true from decide_eq_true (mem_nats.2 hkx)] at hI
          have HI := Lib.hid hI
          have HKx := Lib.hid hkx
          clear hI hkx
          go_wp2_with fail
          refine HI.out.mono ?_
          rintro e w' ⟨rfl, rfl⟩
          clear HI
          go_wp2_with fail
          go_ret2
          exact ⟨⟨none, 0, 0, false, rfl, .inr ⟨rfl, HNoF.out (no_twice HR.out HKx.out (by rw [HXs.out]; exact hlt))⟩⟩, HB.out⟩
        · rw [show decide ((k : Int) ∈ nats xs) = false from decide_eq_false (fun e => hkx (mem_nats.1 e))] at hI
          have HI := Lib.hid hI
          clear hI hkx
          obtain ⟨o, ho⟩ : ∃ o, F k = o := ⟨_, rfl⟩
          rw [ho] at HC
          have HOo := Lib.hid ho
          clear ho
          cases o with
          | none =>
            go_wp2_with fail
            refine HI.out.mono ?_
            rintro e w' ⟨rfl, rfl⟩
            clear HI
            go_wp2_with fail
            refine HC.out.mono ?_
            rintro e w1 ⟨rfl, b1⟩
            have B1 := Lib.hid (up_trans HB.out b1)
            clear b1 HC
            go_wp2_with fail
            go_ret2
            exact ⟨⟨none, 0, 0, false, rfl, .inr ⟨rfl, HNoF.out (no_next HR.out HOo.out (by rw [HXs.out]; exact hlt))⟩⟩, B1.out⟩
          | some a =>
            have hol : j ≤ 1048576 := by omega
            go_wp2_with fail
            refine HI.out.mono ?_
            rintro e w' ⟨rfl, rfl⟩
            clear HI
            go_wp2_with fail
            refine HC.out.mono ?_
            rintro e w1 ⟨rfl, b1⟩
            have B1 := Lib.hid (up_trans HB.out b1)
            have O1 := Lib.hid (own_below HO.out b1)
            have hsz := B1.out.size
            clear b1 HC HO HB
            go_wp2_with (at_builtin; refine app_law el3 rfl _ _ rfl rfl (own_below O1.out (up_alloc (Below.refl _ _) _)) rfl (show (w1.alloc (.cells #[.int .i64 (k : Int)] 3)).heap[w1.heap.size]? = some (.cells [Value.int .i64 (k : Int)].toArray 3 (0, 0)) from heap_alloc_new w1 _) rfl (by simp [Value.oneCell']) hol (by rw [World.size_alloc]; omega) ?_; intro g' cap' wa hoa hga hgw; have hga2 : Hid ((w1.alloc (.cells #[.int .i64 (k : Int)] 3)).grownBy wa (Value.slice A0 j n0).ownBlock) := hga; clear hga hgw)
            go_roundw
            case rel =>
              refine ⟨xs ++ [k], a, by rw [List.length_append, HXs.out]; exact hlt, (HLt.out k a HOo.out).2, by rw [List.length_append, HXs.out]; go_num, rfl, HR.out.snoc HOo.out, fun q hq => ?_, ?_, ?_⟩
              · rcases List.mem_append.1 hq with hq | hq
                · exact HIn.out q hq
                · rw [List.mem_singleton.1 hq]; exact HkN.out
              · rw [List.length_append, HXs.out, nats_snoc]; exact hoa.out
              · exact (up_alloc B1.out _).grown hga2.out (by rw [World.size_alloc]; omega) (fun q e => (O1.out.lt q e).1)
            case measure => simp [intOf]; omega
    · obtain rfl : j = f := by omega
      have dlt : decide ((j : Int) < (j : Int)) = false := decide_eq_false (by omega)
      by_cases h0 : z = 0
      · subst h0
        have ez : ((0 : Nat) : Int) - 1 = -1 := rfl
        rw [ez]
        go_wp2_with fail
        go_ret2
        exact ⟨⟨A0, j, n0, true, rfl, .inl ⟨rfl, xs, (HRt.out xs).2 ⟨HR.out, HXs.out⟩, HXs.out.symm, HLi.out⟩⟩, HB.out⟩
      · have hd : (((z : Int) - 1) == -1) = false := by rw [beq_eq_false_iff_ne]; omega
        obtain ⟨k, ek⟩ : ∃ k, z = k + 1 := ⟨z - 1, by omega⟩
        have HK := Lib.hid ek
        generalize (z : Int) - 1 = zz at *
        clear h0 ek
        go_wp2_with fail
        go_ret2
        exact ⟨⟨A0, j, n0, false, rfl, .inr ⟨rfl, HNoF.out (no_end (k := k) (by rw [← HK.out]; exact HR.out) HXs.out)⟩⟩, HB.out⟩
theorem rlist_yes (x : Rf w r m gm cap bs b c h f) (hr : Rt (nx bs b c) h f L) : Calls Tryd.prog 63 #[.pointer (some ⟨r, 0, none⟩)] w fun e w' => (∃ A cp, e = .returned (.tuple #[.slice A L.length cp, .bool true]) ∧ Li w' A (nats L)) ∧ Below w.heap.size w w' :=
  (rlist_any x).mono fun e w' ⟨⟨A, n, cp, ok, he, hh⟩, hb⟩ => by
    rcases hh with ⟨rfl, M, hM, rfl, hl⟩ | ⟨_, hn⟩
    · have := hM.one hr
      subst this
      exact ⟨⟨A, cp, he, hl⟩, hb⟩
    · exact absurd ⟨L, hr⟩ hn
theorem rlist_no (x : Rf w r m gm cap bs b c h f) (hr : ¬ ∃ L, Rt (nx bs b c) h f L) : Calls Tryd.prog 63 #[.pointer (some ⟨r, 0, none⟩)] w fun e w' => (∃ A n cp, e = .returned (.tuple #[.slice A n cp, .bool false])) ∧ Below w.heap.size w w' :=
  (rlist_any x).mono fun e w' ⟨⟨A, n, cp, ok, he, hh⟩, hb⟩ => by
    rcases hh with ⟨_, M, hM, _⟩ | ⟨rfl, hn⟩
    · exact absurd ⟨M, hM⟩ hr
    · exact ⟨⟨A, n, cp, he⟩, hb⟩
end
end Go.Proofs.YtaelfgdiboekpaaDoor.Ns

/-
  How the document writes a word: a contract that the claimed proof uses.
-/
namespace Go.Proofs.YtaelfgdiboekpaaDoor.Ns
set_option maxRecDepth 100000
open Go.RowKit
open Ce (u y ldW Mem row bytesOf bytesOf_length)
open Bi (Blk Drawn hasB hasB_iff hasB_not up_alloc up_drew up_trans i64_in ret_i ret_b grown_refl grown_trans grown_below)

section
variable {w w' : World} {r m gm cap b c h f : Nat} {bs : List (BitVec 8)} {L : List Nat}
theorem Rf.moved (x : Rf w r m gm cap bs b c h f) {W : World} {g2 cp2 B : Nat} {bs' : List (BitVec 8)} (hb : Below w.heap.size w W) (ho : W.ownsRow B 5 1 (.slice (some ⟨g2, 0, none⟩) bs'.length cp2) bs'.length (row bs')) (hB : w.heap.size ≤ B) (hl : bs'.length = bs.length) :
    Rf (W.setCell ⟨m, 0, none⟩ (.slice (some ⟨g2, 0, none⟩) bs'.length cp2)) r m g2 cp2 bs' b c h f ∧ Fr m m w (W.setCell ⟨m, 0, none⟩ (.slice (some ⟨g2, 0, none⟩) bs'.length cp2)) ∧ w.heap.size ≤ g2 := by
  have y := x.below hb
  have hg : w.heap.size ≤ g2 := by
    rcases ho.2 with ⟨e, _⟩ | ⟨g', _, _, e, h1, _⟩
    · cases e
    · cases e; omega
  obtain ⟨k1, k2, _⟩ := y.kinds
  have hm := x.lt.2.1
  have e : ∀ j, j ≠ m → (W.setCell ⟨m, 0, none⟩ (.slice (some ⟨g2, 0, none⟩) bs'.length cp2)).heap[j]? = W.heap[j]? := fun j hj => Below.heap_setCell _ _ _ _ hj
  refine ⟨⟨y.blk.of (e r (kne k1 k2 (by decide))), y.mblk.set (i := 0) _, ?_, by rw [hl]; exact x.len, x.hc, by rw [hl]; exact x.fit, x.hh, x.hf⟩, (Fr.of hb).trans (Fr.grown1 (Bi.grown_set (grown_refl _ _))), hg⟩
  exact own_of (own_down ho (Nat.zero_le _)) fun j ej => by cases ej; exact e g2 (by omega)
set_option maxHeartbeats 4000000 in
theorem rlay_any (k : Nat) (x : Rf w r m gm cap bs b c h f) (hk : k < nS c) : Calls Tryd.prog 60 #[.pointer (some ⟨r, 0, none⟩), .int .i64 (k : Int), .int .i64 ((h : Int) - 1)] w fun e w' =>
    e = .returned (.tuple #[]) ∧ ∃ gm' cap', Rf w' r m gm' cap' (lay bs b c k h) b c h f ∧ Fr m m w w' ∧ w.heap.size ≤ gm' := by
  have r0 := x.r0
  have r1 := x.r1
  have r2 := x.r2
  have m0 := x.m0
  have hl := x.lt
  have h1 := slot_in x.hc hk
  have h2 := cls c x.hc
  have h3 := x.fit
  have h4 := x.len
  have h5 := x.hh
  have HX := Lib.hid x
  have HW := Lib.hid (rword_yes k h c w (by omega) (by omega) x.hc)
  have HZ : Hid (∀ V : World, Below w.heap.size w V → Calls Tryd.prog 66 #[.pointer (some ⟨r, 0, none⟩)] V fun e w' => e = .returned (.int .i64 (zN c : Int)) ∧ Below V.heap.size V w') := fun V hV => rsize_any (x.below hV)
  obtain ⟨t, ht⟩ : ∃ t, b + k * zN c = t := ⟨_, rfl⟩
  have HBy : Hid (∀ V : World, Calls Tryd.prog 93 #[.int .u64 (u (wd k h c)), .int .i64 8] V fun e w' => ∃ g cp, e = .returned (.slice (some ⟨g, 0, none⟩) 8 cp) ∧ Ce.BA w'.heap.size w' (some ⟨g, 0, none⟩) (bytesOf (wd k h c) 8) ∧ Below V.heap.size V w') := fun V => (Ce.bytes_any (wd k h c) 8 V (by omega)).mono fun e w' ⟨g, cp, he, _, _, hba, hb⟩ => ⟨g, cp, by rw [he, bytesOf_length], hba, hb⟩
  have hcap : bs.length ≤ cap := by obtain ⟨_, _, _, h⟩ := own_at_row x.own; exact h
  obtain ⟨LL, hLL⟩ : ∃ LL, bs.length = LL := ⟨_, rfl⟩
  have hlen : (lay bs b c k h).length = LL := by rw [lay_len x.hc hk h3, hLL]
  have HPu : Hid (∀ (V : World) (g cp : Nat), Below w.heap.size w V → Ce.BA V.heap.size V (some ⟨g, 0, none⟩) (bytesOf (wd k h c) 8) → Calls Tryd.prog 92 #[.slice (some ⟨gm, 0, none⟩) LL cap, .int .i64 (t : Int), .slice (some ⟨g, 0, none⟩) 8 cp] V fun e w' => ∃ g2 cp2, e = .returned (.tuple #[.slice (some ⟨g2, 0, none⟩) LL cp2, .int .i64 0]) ∧ w'.ownsRow V.heap.size 5 1 (.slice (some ⟨g2, 0, none⟩) LL cp2) LL (row (lay bs b c k h)) ∧ Below V.heap.size V w') := fun V g cp hV hba => by
    have := Ce.rput_own gm 0 (some ⟨g, 0, none⟩) bs (bytesOf (wd k h c) 8) cap t cp V (x.below hV).ba hba (fun e => by cases e) h4 hcap (by rw [bytesOf_length]; omega)
    rw [bytesOf_length, hLL] at this
    refine this.mono fun e w' ⟨g2, cp2, he, ho, hb⟩ => ?_
    have e2 : splice bs t (bytesOf (wd k h c) 8) = lay bs b c k h := by rw [← ht]; rfl
    rw [e2, hlen] at he ho
    exact ⟨g2, cp2, he, ho, hb⟩
  have e1 : ((k : Int) * (zN c : Int)) = ((k * zN c : Nat) : Int) := by rw [Int.natCast_mul]
  obtain ⟨yy, hy⟩ : ∃ yy, k * zN c = yy := ⟨_, rfl⟩
  rw [hy] at h1 e1 ht
  generalize zN c = z at *
  generalize wd k h c = ww at *
  have w1 : IntKind.i64.wrap ((k : Int) * (z : Int)) = (yy : Int) := by rw [e1, IntKind.wrap_i64]; omega
  have w2 : IntKind.i64.wrap ((b : Int) + (yy : Int)) = (t : Int) := by rw [IntKind.wrap_i64]; omega
  have HLen := Lib.hid hlen
  have HLL := Lib.hid hLL
  rw [hLL] at m0
  generalize lay bs b c k h = bs' at *
  obtain ⟨hh, ehh⟩ : ∃ hh, (h : Int) - 1 = hh := ⟨_, rfl⟩
  rw [ehh] at HW ⊢
  have hlr := hl.1
  have hlm := hl.2.1
  clear x e1 h1 h2 h3 h4 h5 hy ht hk hLL hlen ehh hcap hl
  go_enter Tryd.func60, Tryd.ntmps60
  go_wp2_with fail
  refine HW.out.mono ?_
  rintro e w' ⟨rfl, rfl⟩
  clear HW
  go_wp2_with fail
  have BD : Below w.heap.size w w.drew := (Below.refl _ w).drew
  have HZ0 := Lib.hid (HZ.out w.drew BD)
  have HB0 := Lib.hid (HBy.out w.drew)
  go_region_held3 (fun V => V.cell? ⟨r, 0, none⟩ = some (.pointer (some ⟨m, 0, none⟩)) ∧ V.cell? ⟨r, 1, none⟩ = some (.int .i64 (b : Int)) ∧ V.cell? ⟨m, 0, none⟩ = some (.slice (some ⟨gm, 0, none⟩) LL cap))
    (first
      | exact ⟨r0, r1, m0⟩
      | exact ⟨(hbz.cell (p := ⟨r, 0, none⟩) hlr).trans r0, (hbz.cell (p := ⟨r, 1, none⟩) hlr).trans r1, (hbz.cell (p := ⟨m, 0, none⟩) hlm).trans m0⟩
      | exact ⟨(hbb.cell (p := ⟨r, 0, none⟩) hlr).trans r0, (hbb.cell (p := ⟨r, 1, none⟩) hlr).trans r1, (hbb.cell (p := ⟨m, 0, none⟩) hlm).trans m0⟩
      | (have hA := up_trans (up_trans BD hbz) hbb; exact ⟨(hA.cell (p := ⟨r, 0, none⟩) hlr).trans r0, (hA.cell (p := ⟨r, 1, none⟩) hlr).trans r1, (hA.cell (p := ⟨m, 0, none⟩) hlm).trans m0⟩)
      | (have hA := up_trans (up_trans BD hbb) hbz; exact ⟨(hA.cell (p := ⟨r, 0, none⟩) hlr).trans r0, (hA.cell (p := ⟨r, 1, none⟩) hlr).trans r1, (hA.cell (p := ⟨m, 0, none⟩) hlm).trans m0⟩)
      | (have hA := up_trans (up_trans (up_trans BD hbz) hbb) hbp; exact ⟨(hA.cell (p := ⟨r, 0, none⟩) hlr).trans r0, (hA.cell (p := ⟨r, 1, none⟩) hlr).trans r1, (hA.cell (p := ⟨m, 0, none⟩) hlm).trans m0⟩)
      | (have hA := up_trans (up_trans (up_trans BD hbb) hbz) hbp; exact ⟨(hA.cell (p := ⟨r, 0, none⟩) hlr).trans r0, (hA.cell (p := ⟨r, 1, none⟩) hlr).trans r1, (hA.cell (p := ⟨m, 0, none⟩) hlm).trans m0⟩))
    ((first
      | (go_at_call 66; (first | refine HZ0.out.mono ?_ | refine (HZ.out wb (BD.trans hbb)).mono ?_); rintro e wz ⟨rfl, hbz⟩)
      | (go_at_call 93; (first | refine HB0.out.mono ?_ | refine (HBy.out wz).mono ?_); rintro e wb ⟨gb, cb, rfl, hba, hbb⟩)
      | (go_at_call 92; (first | refine (HPu.out wz gb cb (up_trans (up_trans BD hbb) hbz) ((hba.below hbz).more hbz.size)).mono ?_ | refine (HPu.out wb gb cb (up_trans (up_trans BD hbz) hbb) hba).mono ?_); rintro e wp ⟨g2, cp2, rfl, hop, hbp⟩)))
  · rename_i hH
    obtain ⟨q0, q1, qm⟩ := hH
    have fm := (HX.out.below (up_trans (up_trans (up_trans BD hbz) hbb) hbp)).mblk.frozen 0
    go_wp2_with fail
    refine bodyPost_end (results_none rfl _ _ _) rfl ⟨rfl, ?_⟩
    rw [← HLen.out] at hop ⊢
    obtain ⟨y1, y2, y3⟩ := HX.out.moved (up_trans (up_trans (up_trans BD hbz) hbb) hbp) hop (by have := hbz.size; have := hbb.size; have := BD.size; omega) (by rw [HLen.out, HLL.out])
    exact ⟨g2, cp2, y1, y2, y3⟩
end
end Go.Proofs.YtaelfgdiboekpaaDoor.Ns
