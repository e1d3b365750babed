/-
  What a slab tells of its slots: contracts that the claimed proofs use.
-/
import Derived.Test.YtiemgeflkmbfoaaDoorOsAsk
namespace Go.Proofs.YtiemgeflkmbfoaaDoor.Os
set_option maxRecDepth 100000
open Go.RowKit
open Ta (sz szs classB classB_iff classB_not sizeOf' slotsOf)
open Bi (sets bt on first setL setB tst hasB u Blk Drawn grown_refl grown_trans grown_below up_alloc up_drew up_trans i64_in ret_i ret_b)

section
variable {w w' : World} {s q g : Nat} {b c : Int} {l : List Bool}
theorem Sl.drewN (h : Sl w s q g b c l) (a : Nat) : Sl (w.drewN a) s q g b c l := h.below (up_drew (Below.refl _ w) a)
theorem Tb.drewN (h : Tb w) (a : Nat) : Tb (w.drewN a) := h.below (up_drew (Below.refl _ w) a)
theorem size_quiet (a : Nat) (h : Sl w s q g b c l) (hT : Tb w) : Calls Tryd.prog 21 #[.pointer (some ⟨s, 0, none⟩)] (w.drewN a) fun e w' => e = .returned (.int .i64 (sizeOf' c)) ∧ ∃ m, w' = w.drewN m :=
  (size_any (h.drewN a) (hT.drewN a)).mono fun _ _ ⟨he, hw⟩ => ⟨he, a, hw.symm⟩
theorem slots_quiet (a : Nat) (h : Sl w s q g b c l) : Calls Tryd.prog 23 #[.pointer (some ⟨s, 0, none⟩)] (w.drewN a) fun e w' => e = .returned (.int .i64 (l.length : Int)) ∧ ∃ m, w' = w.drewN m :=
  (slots_any (h.drewN a)).mono fun _ _ ⟨he, hw⟩ => ⟨he, a, hw.symm⟩
theorem count_quiet (a : Nat) (h : Sl w s q g b c l) : Calls Tryd.prog 50 #[.pointer (some ⟨q, 0, none⟩)] (w.drewN a) fun e w' => e = .returned (.int .i64 ((sets l).length : Int)) ∧ ∃ m, w' = w.drewN m := by
  obtain ⟨ws, hm⟩ := (h.drewN a).bits
  exact (Bi.count_any q g l ws _ hm).mono fun _ _ ⟨he, hw⟩ => ⟨he, a, hw.symm⟩
/-! ### Address -/
def adV (b z : Int) (n : Nat) (k : Int) : Int := if hasB n k = true then b + k * z else -1
theorem address_any (k : Int) (h : Sl w s q g b c l) (hT : Tb w) : Calls Tryd.prog 20 #[.pointer (some ⟨s, 0, none⟩), .int .i64 k] w fun e w' => e = .returned (.tuple #[.int .i64 (adV b (sizeOf' c) l.length k), .bool (hasB l.length k)]) ∧ Drawn w w' := by
  have c0 := h.c0
  have HS := Lib.hid (fun a => size_quiet a h hT)
  have HH := Lib.hid (has_any k h)
  obtain ⟨z0, z1, _⟩ := cls h.hc
  obtain ⟨b0, b1, _⟩ := baseB_iff.1 h.hb
  have hl := h.len_le.2
  obtain ⟨z, hz⟩ : ∃ z, sizeOf' c = z := ⟨_, rfl⟩
  obtain ⟨n, hn⟩ : ∃ n, l.length = n := ⟨_, rfl⟩
  rw [hz] at HS z0 z1 ⊢
  rw [hn] at HH hl ⊢
  clear h hT hz hn
  unfold adV
  cases hh : hasB n k with
  | false =>
    rw [hh] at HH
    clear hh
    go_enter Tryd.func20, Tryd.ntmps20
    go_wp2_with (go_at_call 47; refine HH.out.mono ?_; rintro e w' ⟨rfl, rfl⟩)
    go_ret2
    exact ⟨rfl, Drawn.refl _⟩
  | true =>
    rw [hh] at HH
    obtain ⟨k0, k1⟩ := Bi.hasB_iff.1 hh
    have h3 : k * z ≤ 64 * 512 := Int.mul_le_mul (by omega) z1 (by omega) (by omega)
    have h4 : 0 ≤ k * z := Int.mul_nonneg (by omega) (by omega)
    obtain ⟨m, hm⟩ : ∃ m, k * z = m := ⟨_, rfl⟩
    rw [hm] at h3 h4
    have w1 := i64_in m (by omega) (by omega)
    have w2 := i64_in (b + m) (by omega) (by omega)
    rw [if_pos rfl, hm]
    clear hh k0 k1
    go_enter Tryd.func20, Tryd.ntmps20
    go_wp2_with (go_at_call 47; refine HH.out.mono ?_; rintro e w' ⟨rfl, rfl⟩)
    go_quiet ((go_at_call 21; exact HS.out _))
    go_wp2
    go_ret2
    exact ⟨rfl, _, rfl⟩
/-! ### Free and State -/
theorem free_any (h : Sl w s q g b c l) : Calls Tryd.prog 25 #[.pointer (some ⟨s, 0, none⟩)] w fun e w' => e = .returned (.int .i64 (fr l : Int)) ∧ Drawn w w' := by
  have c2 := h.c2
  have HS := Lib.hid (fun a => slots_quiet a h)
  have HC := Lib.hid (fun a => count_quiet a h)
  have hl := h.len_le.2
  have hsl := Bi.sets_length_le l
  have hfr : (fr l : Int) = (l.length : Int) - ((sets l).length : Int) := by unfold fr; omega
  rw [hfr]
  obtain ⟨n, hn⟩ : ∃ n, l.length = n := ⟨_, rfl⟩
  obtain ⟨m, hm⟩ : ∃ m, (sets l).length = m := ⟨_, rfl⟩
  rw [hn] at HS hl hsl ⊢
  rw [hm] at HC hsl ⊢
  have w1 := i64_in ((n : Int) - m) (by omega) (by omega)
  clear h hn hm hfr
  go_enter Tryd.func25, Tryd.ntmps25
  go_wp2_with fail
  go_quiet ((first | (go_at_call 23; exact HS.out _) | (go_at_call 50; exact HC.out _)))
  go_wp2
  go_ret
  exact ⟨rfl, _, rfl⟩
def stI (l : List Bool) : Int := if fr l = l.length then 0 else if fr l = 0 then 2 else 1
theorem state_any (h : Sl w s q g b c l) : Calls Tryd.prog 26 #[.pointer (some ⟨s, 0, none⟩)] w fun e w' => e = .returned (.int .i64 (stI l)) ∧ Drawn w w' := by
  have HF := Lib.hid (free_any h)
  have HS := Lib.hid (fun (V : World) (hb : Below w.heap.size w V) => slots_any (h.below hb))
  unfold stI
  have hl := h.len_le.2
  have hfl := fr_le l
  obtain ⟨n, hn⟩ : ∃ n, l.length = n := ⟨_, rfl⟩
  obtain ⟨m, hm⟩ : ∃ m, fr l = m := ⟨_, rfl⟩
  rw [hn] at HS hl hfl ⊢
  rw [hm] at HF hfl ⊢
  clear h hn hm
  by_cases h1 : m = n
  · have d1 : ((m : Int) == (n : Int)) = true := by simp; omega
    rw [if_pos h1]
    clear h1
    go_enter Tryd.func26, Tryd.ntmps26
    go_wp2_with fail
    refine HF.out.mono ?_
    rintro e w1 ⟨rfl, hd⟩
    have HD := Lib.hid hd
    have HS1 := Lib.hid (HS.out _ hd.below)
    clear hd HS HF
    go_wp2_with (go_at_call 23; refine HS1.out.mono ?_; rintro e w' ⟨rfl, rfl⟩)
    go_ret
    exact ⟨rfl, HD.out⟩
  · have d1 : ((m : Int) == (n : Int)) = false := by simp; omega
    rw [if_neg h1]
    by_cases h2 : m = 0
    · have d2 : ((m : Int) == 0) = true := by simp; omega
      rw [if_pos h2]
      clear h1 h2
      go_enter Tryd.func26, Tryd.ntmps26
      go_wp2_with fail
      refine HF.out.mono ?_
      rintro e w1 ⟨rfl, hd⟩
      have HD := Lib.hid hd
      have HS1 := Lib.hid (HS.out _ hd.below)
      clear hd HS HF
      go_wp2_with (go_at_call 23; refine HS1.out.mono ?_; rintro e w' ⟨rfl, rfl⟩)
      go_ret
      exact ⟨rfl, HD.out⟩
    · have d2 : ((m : Int) == 0) = false := by simp; omega
      rw [if_neg h2]
      clear h1 h2
      go_enter Tryd.func26, Tryd.ntmps26
      go_wp2_with fail
      refine HF.out.mono ?_
      rintro e w1 ⟨rfl, hd⟩
      have HD := Lib.hid hd
      have HS1 := Lib.hid (HS.out _ hd.below)
      clear hd HS HF
      go_wp2_with (go_at_call 23; refine HS1.out.mono ?_; rintro e w' ⟨rfl, rfl⟩)
      go_ret
      exact ⟨rfl, HD.out⟩
/-! ### Taken, Key and Clone -/
def nats (xs : List Nat) : List Int := xs.map fun (x : Nat) => (x : Int)
theorem irow_ints (xs : List Nat) : Bi.irow xs = ints (nats xs) := by unfold Bi.irow ints nats; rw [List.map_map]; rfl
theorem at_of_ia {w : World} {A : Option Addr} {xs : List Nat} (h : Bi.IA w.heap.size w A xs) : At w.heap.size w A (ints (nats xs)) := fun hp => by
  rw [← irow_ints, Bi.irow_length] at hp
  obtain ⟨g, o, e, h1, h2⟩ := h hp
  refine ⟨g, o, e, h1, fun j v hj => ?_⟩
  rw [← irow_ints] at hj
  have hl : j < xs.length := by have := (List.getElem?_eq_some_iff.1 hj).1; rwa [Bi.irow_length] at this
  rw [Bi.irow_get hl] at hj
  rw [h2 j hl]; exact hj
theorem taken_any (h : Sl w s q g b c l) (hT : Tb w) : Calls Tryd.prog 29 #[.pointer (some ⟨s, 0, none⟩)] w fun e w' => ∃ A c, e = .returned (.slice A (nats (sets l)).length c) ∧ At w'.heap.size w' A (ints (nats (sets l))) ∧ Below w.heap.size w w' := by
  have c2 := h.c2
  obtain ⟨ws, hm⟩ := h.bits
  have HL := Lib.hid (Bi.list_any q g l ws w hm hT.bits)
  have hlen : (nats (sets l)).length = (sets l).length := by unfold nats; rw [List.length_map]
  rw [hlen]
  generalize sets l = xs at *
  obtain ⟨n, hn⟩ : ∃ n, xs.length = n := ⟨_, rfl⟩
  unfold Bi.Gave at HL
  rw [hn] at HL ⊢
  clear h hm hT hn hlen
  go_enter Tryd.func29, Tryd.ntmps29
  go_wp2_with fail
  refine HL.out.mono ?_
  rintro e w1 ⟨g', cap, rfl, _, ha, hb⟩
  have HA := Lib.hid (at_of_ia ha)
  have HB := Lib.hid hb
  clear ha hb
  go_wp2
  go_ret
  exact ⟨_, _, rfl, HA.out, HB.out⟩
/-- A word is a row's bits. -/
def Wd (x : BitVec 64) (l : List Bool) : Prop := ∀ j, j < 64 → x.getLsbD j = bt l j
theorem Wd.one {x y : BitVec 64} {l : List Bool} (h : Wd x l) (k : Wd y l) : x = y := BitVec.eq_of_getLsbD_eq fun j hj => (h j hj).trans (k j hj).symm
theorem Wd.same {x : BitVec 64} {l l' : List Bool} (h : Wd x l) (k : Wd x l') (e : l.length = l'.length) (hl : l.length ≤ 64) : l = l' := by
  apply List.ext_getElem e
  intro j h1 h2
  have := (h j (by omega)).symm.trans (k j (by omega))
  unfold bt at this
  rw [List.getD_eq_getElem?_getD, List.getD_eq_getElem?_getD, List.getElem?_eq_getElem h1, List.getElem?_eq_getElem h2] at this
  exact this
def keyW (x : BitVec 64) : Value := .agg #[.int .u64 (u x), .int .u64 0, .int .u64 0, .int .u64 0]
theorem word_of {l : List Bool} {ws : List (BitVec 64)} (h : Bi.Fits l ws) (h1 : 1 ≤ l.length) (h2 : l.length ≤ 64) : ∃ x, ws = [x] ∧ Wd x l := by
  have e : ws.length = 1 := by have := h.1; omega
  obtain ⟨x, rfl⟩ := List.length_eq_one_iff.1 e
  refine ⟨x, rfl, fun j hj => ?_⟩
  have := h.2 0 j hj
  simpa [bt] using this
theorem key_any (h : Sl w s q g b c l) : Calls Tryd.prog 28 #[.pointer (some ⟨s, 0, none⟩)] w fun e w' => (∃ x, e = .returned (keyW x) ∧ Wd x l) ∧ Below w.heap.size w w' := by
  have c2 := h.c2
  obtain ⟨ws, hm⟩ := h.bits
  obtain ⟨x, rfl, hx⟩ := word_of hm.2.2.1 (by have := h.len_le.1; omega) h.len_le.2
  obtain ⟨w1, hw1⟩ : ∃ w1, w.alloc (.cells #[.int .u64 0, .int .u64 0, .int .u64 0, .int .u64 0] 58) = w1 := ⟨_, rfl⟩
  have b1 : Below w.heap.size w w1 := by rw [← hw1]; exact up_alloc (Below.refl _ _) _
  have k1 : Blk w1 w.heap.size [.int .u64 0, .int .u64 0, .int .u64 0, .int .u64 0] 58 := by rw [← hw1]; exact heap_alloc_last w _
  have HK := Lib.hid (Bi.key_any q g l [x] w1 (hm.below b1))
  have HX := Lib.hid hx
  have HB1 := Lib.hid b1
  have HK1 := Lib.hid k1
  have c2' := (b1.cell (p := ⟨s, 2, none⟩) h.lt.1).trans c2
  have e : Bi.keyV [x] = .agg #[.int .u64 (u x), .int .u64 0, .int .u64 0, .int .u64 0] := rfl
  rw [e] at HK
  clear h hm hx c2 b1 k1 e
  go_enter Tryd.func28, Tryd.ntmps28
  go_wp2_with fail
  clear hw1
  refine HK.out.mono ?_
  rintro e w2 ⟨rfl, b2⟩
  have K2 := Lib.hid (HK1.out.below b2)
  have B2 := Lib.hid (up_trans HB1.out b2)
  have d0 : w2.cell? ⟨w.heap.size, 0, none⟩ = some (.int .u64 0) := K2.out.cell
  have d1 : w2.cell? ⟨w.heap.size, 1, none⟩ = some (.int .u64 0) := K2.out.cell
  have d2 : w2.cell? ⟨w.heap.size, 2, none⟩ = some (.int .u64 0) := K2.out.cell
  have d3 : w2.cell? ⟨w.heap.size, 3, none⟩ = some (.int .u64 0) := K2.out.cell
  have f0 := K2.out.frozen 0
  have f1 := K2.out.frozen 1
  have f2 := K2.out.frozen 2
  have f3 := K2.out.frozen 3
  clear b2 HK
  go_wp2
  have hend := (((K2.out.set (i := 0) (.int .u64 (u x))).set (i := 1) (.int .u64 0)).set (i := 2) (.int .u64 0)).set (i := 3) (.int .u64 0)
  refine bodyPost_ret (results_cell_row (P := Tryd.prog) rfl _ _ w.heap.size 58 #[.int .u64 (u x), .int .u64 0, .int .u64 0, .int .u64 0] (0, 0) _ rfl hend Tryd.underlying58 rfl (by kernel_rfl)) rfl ?_
  exact ⟨⟨x, rfl, HX.out⟩, Bi.below_grown B2.out (Bi.grown_set (Bi.grown_set (Bi.grown_set (Bi.grown_set (grown_refl w2 (some w.heap.size)))))) B2.out.size (Nat.le_refl _)⟩
/-- A slab of its own is answered. -/
def GaveS (b c : Int) (l : List Bool) (w : World) (e : Ending) (w' : World) : Prop := ∃ s q g, e = .returned (.pointer (some ⟨s, 0, none⟩)) ∧ Sl w' s q g b c l ∧ w.heap.size ≤ s ∧ w.heap.size ≤ g ∧ Below w.heap.size w w'
theorem clone_any (h : Sl w s q g b c l) : Calls Tryd.prog 30 #[.pointer (some ⟨s, 0, none⟩)] w (GaveS b c l w) := by
  have c0 := h.c0
  have c1 := h.c1
  have c2 := h.c2
  obtain ⟨ws, hm⟩ := h.bits
  have HC := Lib.hid (Bi.clone_any q g l ws w.drew (hm.below (up_drew (Below.refl _ w) 1)))
  have HH := Lib.hid h
  have hlt := h.lt.1
  clear h hm
  go_enter Tryd.func30, Tryd.ntmps30
  go_wp2_with fail
  go_region_held3 (fun w' => w'.cell? ⟨s, 0, none⟩ = some (.int .i64 b) ∧ w'.cell? ⟨s, 1, none⟩ = some (.int .i64 c) ∧ w'.cell? ⟨s, 2, none⟩ = some (.pointer (some ⟨q, 0, none⟩)))
    (first | exact ⟨(Bi.cell_alloc _ (Nat.lt_of_lt_of_le hlt hb2.size)).trans ((hb2.cell (p := ⟨s, 0, none⟩) hlt).trans c0), (Bi.cell_alloc _ (Nat.lt_of_lt_of_le hlt hb2.size)).trans ((hb2.cell (p := ⟨s, 1, none⟩) hlt).trans c1), (Bi.cell_alloc _ (Nat.lt_of_lt_of_le hlt hb2.size)).trans ((hb2.cell (p := ⟨s, 2, none⟩) hlt).trans c2)⟩ | exact ⟨(hb2.cell (p := ⟨s, 0, none⟩) hlt).trans c0, (hb2.cell (p := ⟨s, 1, none⟩) hlt).trans c1, (hb2.cell (p := ⟨s, 2, none⟩) hlt).trans c2⟩ | exact ⟨c0, c1, c2⟩)
    ((go_at_call 53; refine HC.out.mono ?_; rintro e w2 ⟨q2, g2, rfl, hq2, hg2, hm2, hb2⟩))
  go_wp2
  go_ret
  have hz : w.heap.size ≤ w2.heap.size := hb2.size
  have hs := HH.out.pos
  exact ⟨w2.heap.size, q2, g2, rfl, ⟨heap_alloc_new w2 _, ⟨ws, hm2.below (up_alloc (Below.refl _ _) _)⟩, HH.out.hb, HH.out.hc, HH.out.len, by omega⟩, hz, hg2, up_alloc ((Below.refl _ w).drew.trans hb2) _⟩
end
end Go.Proofs.YtiemgeflkmbfoaaDoor.Os
