/-
  The document's heap of no slabs, and what the statements begin with: contracts that the claimed proofs use.
-/
import Derived.Test.YtckcgaliphpgeaaGreatDoorHeNew
namespace Go.Proofs.YtckcgaliphpgeaaGreatDoor.He
set_option maxRecDepth 100000
open Go.RowKit
open Ta (sizeOf' classB)
open Bi (Drawn ret_i ret_b up_alloc up_drew up_trans tst sets)
open Ri (of of_nat up up_at up_far lenOf)
open Gr (kind kind_of kne)

/-! ### The document's New -/
/-- A call that answers a new thing and OK. -/
def Made (w : World) (e : Ending) (w' : World) : Prop := (∃ g, e = .returned (.tuple #[.pointer (some ⟨g, 0, none⟩), .int .i64 0])) ∧ Below w.heap.size w w'
theorem r8new_yes (N : Nat) (w : World) (h : N ≤ 4096) : Calls Tryz.prog 75 #[.int .i64 (N : Int)] w (Made w) := by
  have d0 : decide ((N : Int) < 0) = false := by simp
  have d1 : decide (4096 < (N : Int)) = false := by simp; omega
  have mk := Ri.make_ints N N (by omega) (by omega)
  go_enter Tryz.func75, Tryz.ntmps75
  go_wp2_with fail
  go_ret2
  exact ⟨⟨_, rfl⟩, up_alloc (up_alloc (Below.refl _ _) _) _⟩
theorem r10new_yes (N : Nat) (w : World) (h : N ≤ 4096) : Calls Tryz.prog 76 #[.int .i64 (N : Int)] w (Made w) := by
  have d0 : decide ((N : Int) < 0) = false := by simp
  have d1 : decide (4096 < (N : Int)) = false := by simp; omega
  have mk := Bi.make_words N h
  go_enter Tryz.func76, Tryz.ntmps76
  go_wp2_with fail
  go_ret2
  exact ⟨⟨_, rfl⟩, up_alloc (up_alloc (Below.refl _ _) _) _⟩
theorem r9new_yes (N : Nat) (w : World) (h : N ≤ 4096) : Calls Tryz.prog 77 #[.int .i64 (N : Int)] w (Made w) := by
  have d0 : decide ((N : Int) < 0) = false := by simp
  have d1 : decide (1099511627776 < (N : Int)) = false := by simp; omega
  have mk := Ri.make_ints 8 8 (by omega) (by omega)
  rw [show ((8 : Nat) : Int) = 8 from rfl] at mk
  go_enter Tryz.func77, Tryz.ntmps77
  go_wp2_with fail
  go_ret2
  exact ⟨⟨_, rfl⟩, up_alloc (up_alloc (up_alloc (Below.refl _ _) _) _) _⟩
theorem r12new_no (M : Int) (w : World) (h : M < 0) : Calls Tryz.prog 35 #[.int .i64 M] w fun e w' => e = .returned (.tuple #[.pointer none, .int .i64 11]) ∧ w = w' := by
  have d0 : decide (M < 0) = true := by simpa using h
  go_enter Tryz.func35, Tryz.ntmps35
  go_wp2_with fail
  go_ret2
  exact ⟨rfl, rfl⟩
theorem r12new_yes (N : Nat) (w : World) (h : N ≤ 4096) : Calls Tryz.prog 35 #[.int .i64 (N : Int)] w (Made w) := by
  have d0 : decide ((N : Int) < 0) = false := by simp
  have d1 : decide (4096 < (N : Int)) = false := by simp; omega
  have w1 : IntKind.i64.wrap (256 * (N : Int)) = 256 * (N : Int) := Bi.i64_in _ (by omega) (by omega)
  have mk := Ce.make_bytes (256 * N) (by omega)
  rw [show ((256 * N : Nat) : Int) = 256 * (N : Int) by omega] at mk
  have H8 := Lib.hid (fun W => r8new_yes N W h)
  have H10 := Lib.hid (fun W => r10new_yes N W h)
  have H9 := Lib.hid (fun W => r9new_yes N W h)
  go_enter Tryz.func35, Tryz.ntmps35
  go_wp2_with fail
  refine (H8.out _).mono ?_
  rintro e wa ⟨⟨ga, rfl⟩, ba⟩
  have BA := Lib.hid ba
  clear ba
  go_wp2_with fail
  refine (H10.out _).mono ?_
  rintro e wb ⟨⟨gb, rfl⟩, bb⟩
  have BB := Lib.hid (up_trans BA.out bb)
  clear bb
  go_wp2_with fail
  refine (H9.out _).mono ?_
  rintro e wc ⟨⟨gc, rfl⟩, bc⟩
  have BC := Lib.hid (up_trans BB.out bc)
  clear bc
  go_wp2_with fail
  go_ret2
  exact ⟨⟨_, rfl⟩, up_alloc (up_alloc BC.out _) _⟩
theorem make_lists (W : World) : (Instr.makeSlice 135 (.int .i64 64) (.int .i64 64)).run Tryz.prog W = .ok (.slice (some ⟨W.heap.size, 0, none⟩) 64 64) (W.alloc (.cells (madeCells #[.slice none 0 0] 64) 29)) := by
  obtain ⟨i, z, hi, hz, hs, hb, hzs⟩ := Os.el_of (e := 29) (z := .slice none 0 0) (sz := 1) (byt := 24) (by kernel_rfl) rfl
  have hz2 : i.zero = some (.slice none 0 0) := by
    have : (Tryz.prog.info? 29).bind (·.zero) = some (.slice none 0 0) := by kernel_rfl
    rw [hi] at this; exact this
  have := run_make (P := Tryz.prog) W 135 29 i (.slice none 0 0) Tryz.underlying135 hi hz2 .i64 .i64 64 64 (by omega) (by omega) (by rw [hb]; omega) (by omega)
  rw [hs] at this
  simpa [Value.cells] using this
theorem r14new_any (g : Nat) (w : World) : Calls Tryz.prog 37 #[.pointer (some ⟨g, 0, none⟩)] w fun e w' => (∃ k, e = .returned (.pointer (some ⟨k, 0, none⟩))) ∧ Below w.heap.size w w' := by
  have mk := make_lists
  go_enter Tryz.func37, Tryz.ntmps37
  go_wp2_with fail
  go_ret
  exact ⟨⟨_, rfl⟩, up_alloc (up_alloc (Below.refl _ _) _) _⟩
/-! ### The beginning -/
theorem begin_no (N : Int) (w : World) (h : N < 0) : Calls Tryz.prog 9 #[.int .i64 N] w fun e w' => e = .returned (.tuple #[.pointer none, .pointer none]) ∧ Below w.heap.size w w' := by
  have HG := Lib.hid (Gr.new_no N w (.inl h))
  have HR := Lib.hid (r12new_no N w h)
  clear h
  go_enter Tryz.func9, Tryz.ntmps9
  go_wp2_with fail
  refine HG.out.mono ?_
  rintro e w' ⟨rfl, rfl⟩
  go_wp2_with fail
  refine HR.out.mono ?_
  rintro e w' ⟨rfl, rfl⟩
  go_wp2_with fail
  go_ret2
  exact ⟨rfl, Below.refl _ _⟩
/-- What a statement holds: its struct, the heap, the numbers, the slabs that left. -/
structure Wd (w0 w : World) (x : Nat) (P : Pl) (σ : St) (bs : List (BitVec 8)) : Prop where
  blk : ∃ v, Bi.Blk w x [.pointer (some ⟨P.q, 0, none⟩), .pointer (some ⟨P.h, 0, none⟩), v] 39 ∧ w.ownsRow w0.heap.size 41 1 v σ.O.length (σ.O.map fun p => .pointer (some ⟨(P.A p).s, 0, none⟩))
  hm : Hm w P σ bs
  hi : HI σ
  new : ∀ k, Own P σ.U k → w0.heap.size ≤ k
  xnew : w0.heap.size ≤ x
  bel : Below w0.heap.size w0 w
theorem begin_yes (N : Nat) (w : World) (h : N ≤ 4096) (hT : Os.Tb w) : Calls Tryz.prog 9 #[.int .i64 (N : Int)] w fun e w' => ∃ x y P bs, e = .returned (.tuple #[.pointer (some ⟨x, 0, none⟩), .pointer (some ⟨y, 0, none⟩)]) ∧ Wd w w' x P (σ0 N) bs ∧ Below w.heap.size w w' := by
  have HG := Lib.hid (Gr.new_yes N w (by omega) (by omega))
  have HR := Lib.hid (fun W => r12new_yes N W h)
  have HT := Lib.hid hT
  have hlt := hT.lt
  have HNw := Lib.hid (fun (q : Nat) (p : Gr.Pl) (bs : List (BitVec 8)) (W : World) hg hT ho => new_any N q p bs W h hg hT ho)
  have hi := Lib.hid (hi0 h)
  clear hT
  go_enter Tryz.func9, Tryz.ntmps9
  go_wp2_with fail
  refine HG.out.mono ?_
  rintro e w1 ⟨q, p, rfl, g1, q1, f1, b1⟩
  have G1 := Lib.hid g1
  have Q1 := Lib.hid q1
  have F1 := Lib.hid f1
  have B1 := Lib.hid b1
  clear g1 q1 f1 b1 HG
  go_wp2_with fail
  refine (HR.out w1).mono ?_
  rintro e w2 ⟨⟨g, rfl⟩, b2⟩
  have B2 := Lib.hid (B1.out.trans (b2.mono B1.out.size))
  have HN2 := Lib.hid (HNw.out q p _ w2 (G1.out.below b2) (HT.out.below B2.out) (fun k hk => by have := F1.out.1 k hk; omega))
  clear b2 HR HNw G1
  go_wp2_with fail
  refine HN2.out.mono ?_
  rintro e w3 ⟨P, rfl, p1, h3, b3, o3, n3⟩
  have H3 := Lib.hid h3
  have P1 := Lib.hid p1
  have B3 := Lib.hid (B2.out.trans (b3.mono B2.out.size))
  have O3 : Hid (∀ k, Own P (σ0 N).U k → w.heap.size ≤ k) := fun k hk => by
    rcases o3 k hk with e | e
    · exact F1.out.1 k e
    · have := B2.out.size; omega
  clear h3 p1 b3 o3 n3 HN2
  go_wp2_with fail
  have K4 := Gr.Blk.new w3 [.pointer (some ⟨q, 0, none⟩), .pointer (some ⟨P.h, 0, none⟩), .slice none 0 0] 39
  have b4 := up_alloc (Below.refl w3.heap.size w3) (.cells #[.pointer (some ⟨q, 0, none⟩), .pointer (some ⟨P.h, 0, none⟩), .slice none 0 0] 39)
  have HK4 := Lib.hid K4
  have HB4 := Lib.hid b4
  clear K4 b4
  refine (r14new_any g _).mono ?_
  rintro e w5 ⟨⟨k, rfl⟩, b5⟩
  have HB5 := Lib.hid b5
  clear b5
  go_wp2_with fail
  go_ret2
  have b6 := up_alloc (Below.refl w5.heap.size w5) (.cells #[.pointer (some ⟨g, 0, none⟩), .pointer (some ⟨k, 0, none⟩), .slice none 0 0] 75)
  have b35 := HB4.out.trans (HB5.out.mono HB4.out.size)
  have b36 := b35.trans (b6.mono b35.size)
  have bf := B3.out.trans (b36.mono B3.out.size)
  refine ⟨w3.heap.size, _, P, _, rfl, ⟨⟨.slice none 0 0, ?_, World.ownsRow_nil _ _ _ _⟩, H3.out.below b36, hi.out, O3.out, B3.out.size, bf⟩, bf⟩
  rw [P1.out]
  exact (HK4.out.below HB5.out).below b6
/-! ### The law's world goes on -/
section
variable {w w' : World} {P : Pl} {σ : St} {bs : List (BitVec 8)}
theorem Hm.own_kind (h : Hm w P σ bs) {k : Nat} (ho : Own P σ.U k) : kind w k ≠ 39 ∧ kind w k ≠ 41 ∧ kind w k ≠ 50 ∧ kind w k ≠ 34 ∧ kind w k ≠ 25 := by
  rcases ho with e | e | e | ⟨p, s, hp, e⟩
  · rcases (h.gm.gx.own e).2 with e | e | e | e | e | e <;> rw [e] <;> decide
  · rw [e, h.kinds.2.2.1]; decide
  · rcases ring_kind h.ring e.1 e.2 with e | e <;> rw [e] <;> decide
  · rcases e with e | e
    · rw [e, (h.slk hp).1]; decide
    · rw [e, (h.slk hp).2.2]; decide
theorem ptr_row {w : World} {B k : Nat} {v : Value} {xs : List Value} (h : w.ownsRow B 41 1 v k xs) {g : Nat} (hg : v.ownBlock = some g) : kind w g = 41 ∧ B ≤ g ∧ g < w.heap.size := by
  obtain ⟨cur, hc⟩ := Os.own_cells h hg
  exact ⟨kind_of hc, Ri.own_base h g hg, (Array.getElem?_eq_some_iff.1 hc).1⟩
theorem Wd.left {w0 : World} {x : Nat} {σ' : St} (h : Wd w0 w x P σ bs) (hl : Left P σ bs σ' w w') (hO : σ'.O = σ.O) (hi : HI σ') : ∃ P', P'.h = P.h ∧ P'.q = P.q ∧ Wd w0 w' x P' σ' bs ∧ Fh P σ.U w w' := by
  obtain ⟨P', h1, h2, h3, h4, h5, h6⟩ := hl
  obtain ⟨v, hb, hr⟩ := h.blk
  refine ⟨P', h1, h2, ⟨⟨v, ?_, ?_⟩, h4, hi, fun k hk => ?_, h.xnew, h.bel.trans (h5.below h.new h.bel.size)⟩, h5⟩
  · rw [h1, h2]
    exact hb.of (h5.block x hb.lt (fun ho => (h.hm.own_kind ho).1 (kind_of hb)))
  · have e : (σ'.O.map fun p => Value.pointer (some ⟨(P'.A p).s, 0, none⟩)) = σ.O.map fun p => Value.pointer (some ⟨(P.A p).s, 0, none⟩) := by
      rw [hO]
      exact List.map_congr_left (fun p hp => by rw [h3 p hp])
    rw [e, hO]
    exact Os.own_of hr (fun j hj => h5.block j (ptr_row hr hj).2.2 (fun ho => (h.hm.own_kind ho).2.1 (ptr_row hr hj).1))
  · rcases h6 k hk with e | e
    · exact h.new k e
    · have := h.bel.size; omega
theorem Wd.below {w0 : World} {x : Nat} (h : Wd w0 w x P σ bs) (hb : Below w.heap.size w w') : Wd w0 w' x P σ bs := by
  obtain ⟨v, h1, h2⟩ := h.blk
  exact ⟨⟨v, h1.below hb, Os.own_below h2 hb⟩, h.hm.below hb, h.hi, h.new, h.xnew, h.bel.trans (hb.mono h.bel.size)⟩
theorem Wd.cells {w0 : World} {x : Nat} (h : Wd w0 w x P σ bs) : w.cell? ⟨x, 0, none⟩ = some (.pointer (some ⟨P.q, 0, none⟩)) ∧ w.cell? ⟨x, 1, none⟩ = some (.pointer (some ⟨P.h, 0, none⟩)) := by
  obtain ⟨v, h1, _⟩ := h.blk
  exact ⟨h1.cell, h1.cell⟩
end
end Go.Proofs.YtckcgaliphpgeaaGreatDoor.He
