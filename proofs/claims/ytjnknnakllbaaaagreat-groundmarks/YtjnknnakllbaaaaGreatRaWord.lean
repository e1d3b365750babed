/-
  Entries and their words: contracts that the claimed proofs use.
-/
import Derived.Test.YtjnknnakllbaaaaGreatRaSmall
import Derived.Deep.RegionWith
namespace Go.Proofs.YtjnknnakllbaaaaGreat.Ra
set_option maxRecDepth 100000
open Go.RowKit

/-! ### A field of a word -/
theorem value_of (X k s m R : Int) (w : World) (hX : U64 X) (hr : rightB s m = true) (hm : m ≤ 40) (hidx : ∀ w : World, (Instr.index 159 flV (.int .i64 k)).run Tryz.prog w = .ok (.agg #[.int .i64 s, .int .i64 m]) w) (hR : X / 2 ^ s.toNat % 2 ^ m.toNat = R) :
    Calls Tryz.prog 84 #[.int .u64 X, .int .i64 k] w fun e w' => e = .returned (.int .i64 R) ∧ Below w.heap.size w w' := by
  have e0 := u_uW_in hX
  obtain ⟨h0, h1, h2, h3⟩ := rightB_iff.1 hr
  have e1 : u (getW (uW X) s.toNat m.toNat) = R := by rw [get_num _ _ _ (by omega), e0, hR]
  have HG := Lib.hid (fun w => get_yes (uW X) s m w hr)
  have b0 : 0 ≤ R := by rw [← e1]; exact u_nonneg _
  have b1 : R < 1099511627776 := by
    rw [← hR]
    have p : (2 : Int) ^ m.toNat = ((2 ^ m.toNat : Nat) : Int) := by rw [Int.natCast_pow]; rfl
    have p2 : 2 ^ m.toNat ≤ 2 ^ 40 := Nat.pow_le_pow_right (by omega) (by omega)
    have p3 : 0 < 2 ^ m.toNat := Nat.two_pow_pos _
    rw [p]
    have := Int.emod_lt_of_pos (X / 2 ^ s.toNat) (b := ((2 ^ m.toNat : Nat) : Int)) (by omega)
    omega
  rw [e0, e1] at HG
  have hw := i64_in R (by omega) (by omega)
  clear hX hr e0 e1 hR h0 h1 h2 h3
  go_enter Tryz.func84, Tryz.ntmps84
  go_wp2_with fail
  refine (layout_any w).mono ?_
  rintro e w1 ⟨rfl, b1⟩
  have B1 := Lib.hid b1
  clear b1
  go_wp2_with fail
  refine (HG.out _).mono ?_
  rintro e w2 ⟨rfl, b2⟩
  have B2 := Lib.hid (up_trans B1.out b2)
  clear b2
  go_wp2
  go_ret
  exact ⟨rfl, B2.out⟩
section
variable {X : Int} {w : World}
theorem value_span (hX : U64 X) : Calls Tryz.prog 84 #[.int .u64 X, .int .i64 4] w fun e w' => e = .returned (.int .i64 (spanOf X)) ∧ Below w.heap.size w w' :=
  value_of X 4 12 12 _ w hX (by decide) (by decide) (fun w => by kernel_rfl) rfl
theorem value_ver (hX : U64 X) : Calls Tryz.prog 84 #[.int .u64 X, .int .i64 3] w fun e w' => e = .returned (.int .i64 (verOf X)) ∧ Below w.heap.size w w' :=
  value_of X 3 10 2 _ w hX (by decide) (by decide) (fun w => by kernel_rfl) rfl
theorem value_cls (hX : U64 X) : Calls Tryz.prog 84 #[.int .u64 X, .int .i64 2] w fun e w' => e = .returned (.int .i64 (clsOf X)) ∧ Below w.heap.size w w' :=
  value_of X 2 4 6 _ w hX (by decide) (by decide) (fun w => by kernel_rfl) rfl
theorem value_sta (hX : U64 X) : Calls Tryz.prog 84 #[.int .u64 X, .int .i64 1] w fun e w' => e = .returned (.int .i64 (staOf X)) ∧ Below w.heap.size w w' :=
  value_of X 1 1 3 _ w hX (by decide) (by decide) (fun w => by kernel_rfl) rfl
end

/-! ### An entry's word -/
theorem fl_at {w : World} {b : Nat} (h : Blk w b [.int .i64 0, .int .i64 1, .int .i64 1, .int .i64 3, .int .i64 4, .int .i64 6, .int .i64 10, .int .i64 2, .int .i64 12, .int .i64 12, .int .i64 24, .int .i64 40] 159) : FAt w b 0 fl := fun i hi => by
  have hi' : i < 6 := hi
  rcases (by omega : i = 0 ∨ i = 1 ∨ i = 2 ∨ i = 3 ∨ i = 4 ∨ i = 5) with rfl | rfl | rfl | rfl | rfl | rfl <;> exact ⟨h.cell, h.cell⟩
theorem vl_at {w : World} {v : Nat} {a b c d t : Int} (ht : U64 t) (h : Blk w v [.int .u64 1, .int .u64 (u (uW d)), .int .u64 (u (uW c)), .int .u64 (u (uW b)), .int .u64 (u (uW a)), .int .u64 t] 163) : WAt w v 0 (vl a b c d (uW t)) := fun i hi => by
  have hi' : i < 6 := hi
  have e0 := u_uW_in ht
  rcases (by omega : i = 0 ∨ i = 1 ∨ i = 2 ∨ i = 3 ∨ i = 4 ∨ i = 5) with rfl | rfl | rfl | rfl | rfl | rfl
  · exact h.cell
  · exact h.cell
  · exact h.cell
  · exact h.cell
  · exact h.cell
  · have : w.cell? ⟨v, 0 + 5, none⟩ = some (.int .u64 t) := h.cell
    rw [this]; show _ = some (Value.int .u64 (u (uW t))); rw [e0]
/-- What Pack answers of an entry's fields. -/
def wordV (a b c d t : Int) : Value := if okB a b c d = true then .tuple #[.int .u64 (wd a b c d t), .bool true] else .tuple #[.int .u64 0, .bool false]
theorem pack_entry {w : World} {b v : Nat} {a b' c d t : Int} (ia : I64 a) (ib : I64 b') (ic : I64 c) (id : I64 d) (t0 : 0 ≤ t) (t1 : t < 1099511627776)
    (h : Blk w b [.int .i64 0, .int .i64 1, .int .i64 1, .int .i64 3, .int .i64 4, .int .i64 6, .int .i64 10, .int .i64 2, .int .i64 12, .int .i64 12, .int .i64 24, .int .i64 40] 159)
    (hv : Blk w v [.int .u64 1, .int .u64 (u (uW d)), .int .u64 (u (uW c)), .int .u64 (u (uW b')), .int .u64 (u (uW a)), .int .u64 t] 163) :
    Calls Tryz.prog 119 #[.slice (some ⟨b, 0, none⟩) 6 6, .slice (some ⟨v, 0, none⟩) 6 6] w fun e w' => e = .returned (wordV a b' c d t) ∧ Below w.heap.size w w' := by
  have hu : U64 t := ⟨t0, by omega⟩
  have e0 := u_uW_in hu
  refine (pack_some b 0 v 0 fl (vl a b' c d (uW t)) 6 6 w rfl h.lt hv.lt (fl_at h) (vl_at hu hv) (by decide) fl_apart).mono ?_
  rintro e w' ⟨rfl, hb⟩
  refine ⟨?_, hb⟩
  unfold wordV
  cases hok : okB a b' c d with
  | true =>
    obtain ⟨y, hy, hw⟩ := pack_ok (t := uW t) hok (by rw [e0]; exact t1)
    rw [hy, if_pos rfl]
    rw [e0] at hw
    simp only [hw]
  | false =>
    rw [pack_no hok ia ib ic id]
    rfl
theorem wordV_is (a b c d t : Int) : ∃ X o, wordV a b c d t = .tuple #[.int .u64 X, .bool o] := by
  unfold wordV; split <;> exact ⟨_, _, rfl⟩
theorem wordOf_any (a b c d t : Int) (w : World) (ia : I64 a) (ib : I64 b) (ic : I64 c) (id : I64 d) (t0 : 0 ≤ t) (t1 : t < 1099511627776) :
    Calls Tryz.prog 97 #[.agg #[.int .i64 a, .int .i64 b, .int .i64 c, .int .i64 d], .int .u64 t] w fun e w' => e = .returned (wordV a b c d t) ∧ Below w.heap.size w w' := by
  have ea := uW_raw a
  have eb := uW_raw b
  have ec := uW_raw c
  have ed := uW_raw d
  have B0 := Lib.hid (up_alloc (Below.refl _ w) (.cells #[.int .i64 a, .int .i64 b, .int .i64 c, .int .i64 d] 52))
  have K0 : Hid (Blk (w.alloc (.cells #[.int .i64 a, .int .i64 b, .int .i64 c, .int .i64 d] 52)) w.heap.size [.int .i64 a, .int .i64 b, .int .i64 c, .int .i64 d] 52) := heap_alloc_last w _
  have HP : Hid (∀ (W : World) (b' v : Nat), _ → _ → _) := fun (W : World) (b' v : Nat) h1 h2 => pack_entry (w := W) (b := b') (v := v) ia ib ic id t0 t1 h1 h2
  obtain ⟨X, o, hV⟩ := wordV_is a b c d t
  rw [hV] at HP ⊢
  clear ia ib ic id hV
  go_enter Tryz.func97, Tryz.ntmps97
  go_wp2_with fail
  generalize w.alloc (.cells #[.int .i64 a, .int .i64 b, .int .i64 c, .int .i64 d] 52) = W0 at B0 K0 ⊢
  refine (layout_any W0).mono ?_
  rintro e w1 ⟨rfl, b1⟩
  have B1 := Lib.hid (up_trans B0.out b1)
  have K1 := Lib.hid (K0.out.below b1 K0.out.lt)
  clear b1 B0 K0
  have c0 : w1.cell? ⟨w.heap.size, 0, none⟩ = some (.int .i64 a) := K1.out.cell
  have c1 : w1.cell? ⟨w.heap.size, 1, none⟩ = some (.int .i64 b) := K1.out.cell
  have c2 : w1.cell? ⟨w.heap.size, 2, none⟩ = some (.int .i64 c) := K1.out.cell
  have c3 : w1.cell? ⟨w.heap.size, 3, none⟩ = some (.int .i64 d) := K1.out.cell
  have hlt := K1.out.lt
  unfold flV
  go_wp2_with fail
  have H74 : Hid (Blk ((w1.alloc (.cells #[.int .i64 0, .int .i64 1, .int .i64 1, .int .i64 3, .int .i64 4, .int .i64 6, .int .i64 10, .int .i64 2, .int .i64 12, .int .i64 12, .int .i64 24, .int .i64 40] 159)).alloc (.cells #[.int .u64 1, .int .u64 (u (uW d)), .int .u64 (u (uW c)), .int .u64 (u (uW b)), .int .u64 (u (uW a)), .int .u64 t] 163)) w1.heap.size _ 159) := Blk.alloc (heap_alloc_last w1 _) _
  have H76 : Hid (Blk ((w1.alloc (.cells #[.int .i64 0, .int .i64 1, .int .i64 1, .int .i64 3, .int .i64 4, .int .i64 6, .int .i64 10, .int .i64 2, .int .i64 12, .int .i64 12, .int .i64 24, .int .i64 40] 159)).alloc (.cells #[.int .u64 1, .int .u64 (u (uW d)), .int .u64 (u (uW c)), .int .u64 (u (uW b)), .int .u64 (u (uW a)), .int .u64 t] 163)) (w1.heap.size + 1) _ 163) := heap_alloc2_new w1 _ _
  have B2 : Hid (Below w.heap.size w ((w1.alloc (.cells #[.int .i64 0, .int .i64 1, .int .i64 1, .int .i64 3, .int .i64 4, .int .i64 6, .int .i64 10, .int .i64 2, .int .i64 12, .int .i64 12, .int .i64 24, .int .i64 40] 159)).alloc (.cells #[.int .u64 1, .int .u64 (u (uW d)), .int .u64 (u (uW c)), .int .u64 (u (uW b)), .int .u64 (u (uW a)), .int .u64 t] 163))) := up_alloc (up_alloc B1.out _) _
  generalize ((w1.alloc (.cells #[.int .i64 0, .int .i64 1, .int .i64 1, .int .i64 3, .int .i64 4, .int .i64 6, .int .i64 10, .int .i64 2, .int .i64 12, .int .i64 12, .int .i64 24, .int .i64 40] 159)).alloc (.cells #[.int .u64 1, .int .u64 (u (uW d)), .int .u64 (u (uW c)), .int .u64 (u (uW b)), .int .u64 (u (uW a)), .int .u64 t] 163)) = W2 at H74 H76 B2 ⊢
  clear c0 c1 c2 c3 hlt K1 B1
  go_region_with (go_at_call 119; refine (HP.out W2.drew _ _ H74.out H76.out).mono ?_; rintro e w3 ⟨rfl, b3⟩)
  all_goals (
    have B3 := Lib.hid (up_trans (up_drew B2.out 1) b3)
    clear b3
    go_wp2
    go_ret2
    exact ⟨rfl, B3.out⟩)

/-! ### What Get tells -/
def entV (X : Int) : Value := .agg #[.int .i64 (spanOf X), .int .i64 (verOf X), .int .i64 (clsOf X), .int .i64 (staOf X)]
theorem four_set {W : World} {b t : Nat} {x0 x1 x2 x3 : Value} (h : Blk W b [x0, x1, x2, x3] t) (v0 v1 v2 v3 : Value) :
    Blk ((((W.setCell ⟨b, 0, none⟩ v0).setCell ⟨b, 1, none⟩ v1).setCell ⟨b, 2, none⟩ v2).setCell ⟨b, 3, none⟩ v3) b [v0, v1, v2, v3] t := (((h.set (i := 0) v0).set (i := 1) v1).set (i := 2) v2).set (i := 3) v3
theorem four_below {w W : World} {b : Nat} (h : Below w.heap.size w W) (hb : w.heap.size ≤ b) (v0 v1 v2 v3 : Value) :
    Below w.heap.size w ((((W.setCell ⟨b, 0, none⟩ v0).setCell ⟨b, 1, none⟩ v1).setCell ⟨b, 2, none⟩ v2).setCell ⟨b, 3, none⟩ v3) := (((h.setCell hb _).setCell hb _).setCell hb _).setCell hb _
theorem get_any {w : World} {q : Nat} {n t : Int} {g : Gs} {f : Ws} (p : Int) (h : Lay w q n t g f) (hs : St n t f) (hp : I64 p) :
    Calls Tryz.prog 52 #[.pointer (some ⟨q, 0, none⟩), .int .i64 p] w fun e w' => e = .returned (.tuple #[entV (wAt n f p), .bool (wAt n f p != 0)]) ∧ Below w.heap.size w w' := by
  have B0 := Lib.hid (up_alloc (Below.refl _ w) (.cells #[.int .i64 0, .int .i64 0, .int .i64 0, .int .i64 0] 52))
  have K0 : Hid (Blk (w.alloc (.cells #[.int .i64 0, .int .i64 0, .int .i64 0, .int .i64 0] 52)) w.heap.size [.int .i64 0, .int .i64 0, .int .i64 0, .int .i64 0] 52) := heap_alloc_last w _
  have HW := Lib.hid (word_any p (h.below B0.out) hs hp)
  have HU := Lib.hid (hs.at p)
  generalize wAt n f p = X at HW HU ⊢
  clear h hs hp
  by_cases hX : X = 0
  · subst hX
    go_enter Tryz.func52, Tryz.ntmps52
    go_wp2_with fail
    generalize w.alloc (.cells #[.int .i64 0, .int .i64 0, .int .i64 0, .int .i64 0] 52) = W0 at B0 K0 HW ⊢
    refine HW.out.mono ?_
    rintro e w1 ⟨rfl, rfl⟩
    have c0 : W0.cell? ⟨w.heap.size, 0, none⟩ = some (.int .i64 0) := K0.out.cell
    have c1 : W0.cell? ⟨w.heap.size, 1, none⟩ = some (.int .i64 0) := K0.out.cell
    have c2 : W0.cell? ⟨w.heap.size, 2, none⟩ = some (.int .i64 0) := K0.out.cell
    have c3 : W0.cell? ⟨w.heap.size, 3, none⟩ = some (.int .i64 0) := K0.out.cell
    have f0 := K0.out.frozen 0
    have f1 := K0.out.frozen 1
    have f2 := K0.out.frozen 2
    have f3 := K0.out.frozen 3
    go_wp2_with fail
    have K9 := Lib.hid (four_set K0.out (.int .i64 0) (.int .i64 0) (.int .i64 0) (.int .i64 0))
    have B9 := Lib.hid (four_below B0.out (Nat.le_refl _) (.int .i64 0) (.int .i64 0) (.int .i64 0) (.int .i64 0))
    generalize (((W0.setCell ⟨w.heap.size, 0, none⟩ (.int .i64 0)).setCell ⟨w.heap.size, 1, none⟩ (.int .i64 0)).setCell ⟨w.heap.size, 2, none⟩ (.int .i64 0)).setCell ⟨w.heap.size, 3, none⟩ (.int .i64 0) = W9 at K9 B9 ⊢
    have g0 : W9.cell? ⟨w.heap.size, 0, none⟩ = some (.int .i64 0) := K9.out.cell
    have g1 : W9.cell? ⟨w.heap.size, 1, none⟩ = some (.int .i64 0) := K9.out.cell
    have g2 : W9.cell? ⟨w.heap.size, 2, none⟩ = some (.int .i64 0) := K9.out.cell
    have g3 : W9.cell? ⟨w.heap.size, 3, none⟩ = some (.int .i64 0) := K9.out.cell
    exact bodyPost_ret (v := .tuple #[.agg #[.int .i64 0, .int .i64 0, .int .i64 0, .int .i64 0], .bool false]) (by simp [results, Tryz.results16, go_sem, g0, g1, g2, g3]) rfl ⟨rfl, B9.out⟩
  · have d : (X == 0) = false := by simpa using hX
    have d' : (X != 0) = true := by simpa using hX
    rw [d']
    unfold entV
    clear hX d'
    go_enter Tryz.func52, Tryz.ntmps52
    go_wp2_with fail
    generalize w.alloc (.cells #[.int .i64 0, .int .i64 0, .int .i64 0, .int .i64 0] 52) = W0 at B0 K0 HW ⊢
    refine HW.out.mono ?_
    rintro e w1 ⟨rfl, rfl⟩
    go_wp2_with fail
    refine (value_span HU.out).mono ?_
    rintro e w1 ⟨rfl, b1⟩
    have B1 := Lib.hid (up_trans B0.out b1)
    have K1 := Lib.hid (K0.out.below b1 K0.out.lt)
    clear b1
    go_wp2_with fail
    refine (value_ver HU.out).mono ?_
    rintro e w2 ⟨rfl, b2⟩
    have B2 := Lib.hid (up_trans B1.out b2)
    have K2 := Lib.hid (K1.out.below b2 K1.out.lt)
    clear b2
    go_wp2_with fail
    refine (value_cls HU.out).mono ?_
    rintro e w3 ⟨rfl, b3⟩
    have B3 := Lib.hid (up_trans B2.out b3)
    have K3 := Lib.hid (K2.out.below b3 K2.out.lt)
    clear b3
    go_wp2_with fail
    refine (value_sta HU.out).mono ?_
    rintro e w4 ⟨rfl, b4⟩
    have B4 := Lib.hid (up_trans B3.out b4)
    have K4 := Lib.hid (K3.out.below b4 K3.out.lt)
    clear b4
    have c0 : w4.cell? ⟨w.heap.size, 0, none⟩ = some (.int .i64 0) := K4.out.cell
    have c1 : w4.cell? ⟨w.heap.size, 1, none⟩ = some (.int .i64 0) := K4.out.cell
    have c2 : w4.cell? ⟨w.heap.size, 2, none⟩ = some (.int .i64 0) := K4.out.cell
    have c3 : w4.cell? ⟨w.heap.size, 3, none⟩ = some (.int .i64 0) := K4.out.cell
    have f0 := K4.out.frozen 0
    have f1 := K4.out.frozen 1
    have f2 := K4.out.frozen 2
    have f3 := K4.out.frozen 3
    go_wp2_with fail
    have K9 := Lib.hid (four_set K4.out (.int .i64 (spanOf X)) (.int .i64 (verOf X)) (.int .i64 (clsOf X)) (.int .i64 (staOf X)))
    have B9 := Lib.hid (four_below B4.out (Nat.le_refl _) (.int .i64 (spanOf X)) (.int .i64 (verOf X)) (.int .i64 (clsOf X)) (.int .i64 (staOf X)))
    generalize (((w4.setCell ⟨w.heap.size, 0, none⟩ (.int .i64 (spanOf X))).setCell ⟨w.heap.size, 1, none⟩ (.int .i64 (verOf X))).setCell ⟨w.heap.size, 2, none⟩ (.int .i64 (clsOf X))).setCell ⟨w.heap.size, 3, none⟩ (.int .i64 (staOf X)) = W9 at K9 B9 ⊢
    have g0 : W9.cell? ⟨w.heap.size, 0, none⟩ = some (.int .i64 (spanOf X)) := K9.out.cell
    have g1 : W9.cell? ⟨w.heap.size, 1, none⟩ = some (.int .i64 (verOf X)) := K9.out.cell
    have g2 : W9.cell? ⟨w.heap.size, 2, none⟩ = some (.int .i64 (clsOf X)) := K9.out.cell
    have g3 : W9.cell? ⟨w.heap.size, 3, none⟩ = some (.int .i64 (staOf X)) := K9.out.cell
    exact bodyPost_ret (v := .tuple #[.agg #[.int .i64 (spanOf X), .int .i64 (verOf X), .int .i64 (clsOf X), .int .i64 (staOf X)], .bool true]) (by simp [results, Tryz.results16, go_sem, g0, g1, g2, g3]) rfl ⟨rfl, B9.out⟩
end Go.Proofs.YtjnknnakllbaaaaGreat.Ra
