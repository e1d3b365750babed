/-
  What TakeAligned, Take and Give answer and leave: contracts that the claimed proofs use.
-/
import Derived.Test.YtjnknnakllbaaaaGreatSpTake
import Derived.Test.YtjnknnakllbaaaaGreatSpGiven
namespace Go.Proofs.YtjnknnakllbaaaaGreat.Sp
set_option maxRecDepth 100000
open Go.RowKit

/-! ### As plain functions -/
def tkv (L : List Rn) (n a : Int) : Int := if askB n a = true then (if bst n a L L.length = -1 then -1 else up (el L (bst n a L L.length).toNat).p a) else -1
def tke (L : List Rn) (n a : Int) : Int := if askB n a = true then (if bst n a L L.length = -1 then 13 else 0) else 11
def tkL (L : List Rn) (n a : Int) : List Rn := if askB n a = true then (if bst n a L L.length = -1 then L else takeL L (bst n a L L.length).toNat (up (el L (bst n a L L.length).toNat).p a) n) else L
/-- Where a span stands that begins at a page. -/
def gi (L : List Rn) (x : Int) : Nat := L.findIdx (fun r => r.p == x && r.t)
def gvv (L : List Rn) (x : Int) : Int := if gi L x < L.length then (el L (gi L x)).n else 0
def gve (L : List Rn) (x : Int) : Int := if gi L x < L.length then 0 else 12
def gvL (L : List Rn) (x : Int) : List Rn := if gi L x < L.length then giveL L (gi L x) else L
theorem askB_parts {n a : Int} (h : askB n a = true) : 1 ≤ n ∧ a ≤ 4096 ∧ powB a = true := by
  unfold askB at h
  simp only [Bool.and_eq_true, decide_eq_true_eq] at h
  exact ⟨h.1, h.2.1, h.2.2⟩
theorem fit_parts {n a : Int} {r : Rn} (h : fit n a r = true) : r.t = false ∧ up r.p a + n ≤ r.p + r.n := by
  unfold fit at h
  simp only [Bool.and_eq_true, Bool.not_eq_true', decide_eq_true_eq] at h
  exact ⟨h.1, by omega⟩
theorem gi_yes {L : List Rn} {x : Int} (h : gi L x < L.length) : (el L (gi L x)).p = x ∧ (el L (gi L x)).t = true := by
  have := List.findIdx_getElem (xs := L) (p := fun (r : Rn) => r.p == x && r.t) (w := h)
  have e : el L (gi L x) = L[gi L x] := el_is (List.getElem?_eq_getElem h)
  rw [e]
  simp only [Bool.and_eq_true, beq_iff_eq] at this
  exact this
theorem gi_no {L : List Rn} {x : Int} (h : ¬ gi L x < L.length) {k : Nat} (hk : k < L.length) (hp : (el L k).p = x) : (el L k).t = false := by
  cases ht : (el L k).t with
  | false => rfl
  | true =>
    have : gi L x < L.length := List.findIdx_lt_length_of_exists ⟨el L k, el_mem hk, by simp [hp, ht]⟩
    exact absurd this h
theorem gi_is {N : Int} {L : List Rn} {x : Int} (hw : WF N L) {k : Nat} (hk : k < L.length) (hp : (el L k).p = x) (ht : (el L k).t = true) : gi L x = k := by
  have hl : gi L x < L.length := List.findIdx_lt_length_of_exists ⟨el L k, el_mem hk, by simp [hp, ht]⟩
  have := gi_yes hl
  have h1 := chain_at hw.chain hk
  have h2 := chain_at hw.chain hl
  exact chain_one hw.chain hl hk (x := x) (by omega) (by omega) (by omega) (by omega)
theorem tk_wf {N : Int} {L : List Rn} (h : WF N L) (n a : Int) : WF N (tkL L n a) := by
  unfold tkL
  split
  · next ha =>
    obtain ⟨h1, h2, h3⟩ := askB_parts ha
    rcases bst_is n a L L.length with ⟨hb, _⟩ | ⟨k, hb, hk, hf⟩
    · rw [if_pos hb]; exact h
    · rw [hb, if_neg (by omega), Int.toNat_natCast]
      obtain ⟨f1, f2⟩ := fit_parts hf
      exact take_wf h hk f1 (up_spec _ (powB_bd h3).1).1 h1 f2
  · exact h
theorem gv_wf {N : Int} {L : List Rn} (h : WF N L) (x : Int) : WF N (gvL L x) := by
  unfold gvL
  split
  · next hl => exact give_wf h hl (gi_yes hl).2
  · exact h

/-! ### What the program does -/
theorem Became.refl {w : World} {q g : Nat} {L : List Rn} (h : Sp w q g L) : Became q g L w w := ⟨g, h, Fr.refl _ _ _, .inl rfl⟩
theorem Became.below {w w' : World} {q g : Nat} {L : List Rn} (h : Sp w q g L) (hb : Below w.heap.size w w') : Became q g L w w' := ⟨g, h.below hb, Fr.of hb, .inl rfl⟩
theorem Became.after {w w1 w' : World} {q g : Nat} {L' : List Rn} (hb : Below w.heap.size w w1) (h : Became q g L' w1 w') : Became q g L' w w' := by
  obtain ⟨g', s, f, o⟩ := h
  have := hb.size
  exact ⟨g', s, (Fr.of hb : Fr q g w w1).trans f (.inl rfl), by omega⟩
theorem given_any {w : World} {q g : Nat} {N : Int} {L : List Rn} (x : Int) (h : Sp w q g L) (hw : WF N L) (hN : N ≤ 4096) :
    Calls Tryz.prog 73 #[.pointer (some ⟨q, 0, none⟩), .int .i64 x] w fun e w' => e = .returned (.tuple #[.int .i64 (gvv L x), .int .i64 (gve L x)]) ∧ Became q g (gvL L x) w w' := by
  unfold gvv gve gvL
  by_cases hl : gi L x < L.length
  · rw [if_pos hl, if_pos hl, if_pos hl]
    refine (give_yes h hw hN hl (gi_yes hl).1 (gi_yes hl).2).mono ?_
    rintro e w' ⟨he, s, f⟩
    exact ⟨he, g, s, f, .inl rfl⟩
  · rw [if_neg hl, if_neg hl, if_neg hl]
    refine (give_no h hw hN (fun k hk hp => gi_no hl hk hp)).mono ?_
    rintro e w' ⟨he, hb⟩
    exact ⟨he, Became.below h hb⟩
theorem taken_any {w : World} {q g : Nat} {N : Int} {L : List Rn} (n a : Int) (h : Sp w q g L) (hw : WF N L) (hN : N ≤ 4096) :
    Calls Tryz.prog 71 #[.pointer (some ⟨q, 0, none⟩), .int .i64 n, .int .i64 a] w fun e w' => e = .returned (.tuple #[.int .i64 (tkv L n a), .int .i64 (tke L n a)]) ∧ Became q g (tkL L n a) w w' := by
  have HA := Lib.hid (fun W => ask_any n a W)
  unfold tkv tke tkL
  by_cases hb : askB n a = true
  · rw [if_pos hb, if_pos hb, if_pos hb]
    obtain ⟨ha0, ha1, ha2⟩ := askB_parts hb
    have hB := up_alloc (up_alloc (Below.refl _ w) (.cells #[.int .i64 n] 3)) (.cells #[.int .i64 a] 3)
    have b1 : Blk (w.alloc (.cells #[.int .i64 n] 3)) w.heap.size [.int .i64 n] 3 := heap_alloc_new w _
    have b2 : Blk ((w.alloc (.cells #[.int .i64 n] 3)).alloc (.cells #[.int .i64 a] 3)) w.heap.size [.int .i64 n] 3 := b1.of (heap_alloc_old _ _ b1.lt)
    have b3 : Blk ((w.alloc (.cells #[.int .i64 n] 3)).alloc (.cells #[.int .i64 a] 3)) (w.heap.size + 1) [.int .i64 a] 3 := by
      have := heap_alloc_new (w.alloc (.cells #[.int .i64 n] 3)) (.cells #[.int .i64 a] 3)
      rwa [World.size_alloc] at this
    have HS := Lib.hid (shortest_any (h.below hB) hw hN b2.cell b3.cell ha2 ha1)
    have HB := Lib.hid hB
    have HSp := Lib.hid h
    rw [hb] at HA
    rcases bst_is n a L L.length with ⟨hbs, _⟩ | ⟨k, hbs, hk, hf⟩
    · rw [hbs] at HS ⊢
      rw [if_pos rfl, if_pos rfl, if_pos rfl]
      clear h hw hb hB b1 b2 b3 ha2 hbs
      go_enter Tryz.func71, Tryz.ntmps71
      go_wp2_with (first | (go_at_call 90; refine (HA.out _).mono ?_; rintro e w' ⟨rfl, rfl⟩) | (go_at_call 92; refine (holds_any n a _).mono ?_; rintro e w1 ⟨rfl, rfl⟩) | (go_at_call 91; refine HS.out.mono ?_; rintro e w2 ⟨rfl, d2⟩))
      go_ret2
      exact ⟨rfl, Became.below HSp.out (up_trans HB.out d2)⟩
    · rw [hbs] at HS ⊢
      rw [if_neg (by omega), if_neg (by omega), if_neg (by omega), Int.toNat_natCast]
      obtain ⟨f1, f2⟩ := fit_parts hf
      have hbd := hw.bds hN hk
      have hk0 : ((k : Int) == -1) = false := by simp
      have HK := Lib.hid hk
      have HW := Lib.hid hw
      have hlen : (k : Int) < (L.length : Int) := by omega
      have hl2 : L.length ≤ 4096 := by have := hw.len; omega
      obtain ⟨r, hr⟩ : ∃ r, el L k = r := ⟨_, rfl⟩
      have HR := Lib.hid hr
      rw [hr] at f1 f2 hbd ⊢
      obtain ⟨p, m, t⟩ := r
      dsimp only at f1 f2 hbd ⊢
      have hu := (up_spec p (powB_bd ha2).1).1
      have HM := Lib.hid (fun W => mult_any p a W hbd.1 hbd.2.1 ha2)
      generalize up p a = u at f2 HM hu ⊢
      obtain ⟨M, hM⟩ : ∃ M, L.length = M := ⟨_, rfl⟩
      rw [hM] at hlen hl2
      have HMM := Lib.hid hM
      have b0 : (0 : Int) ≤ (k : Int) := by omega
      clear h hw hb hB b1 b2 b3 ha2 hbs hf hr hk hM
      go_enter Tryz.func71, Tryz.ntmps71
      go_wp2_with (first | (go_at_call 90; refine (HA.out _).mono ?_; rintro e w' ⟨rfl, rfl⟩) | (go_at_call 92; refine (holds_any n a _).mono ?_; rintro e w1 ⟨rfl, rfl⟩) | (go_at_call 91; refine HS.out.mono ?_; rintro e w2 ⟨rfl, d2⟩; have D2 := Lib.hid (up_trans HB.out d2); have S2 := HSp.out.below D2.out; obtain ⟨cap, q2, r2, n2⟩ := S2; have c2 : w2.cell? ⟨q, 0, none⟩ = some (.slice (some ⟨g, 0, none⟩) L.length cap) := q2.cell; obtain ⟨z0, z1, z2⟩ := r2.cells HK.out; rw [HMM.out] at c2; rw [HR.out] at z0 z1 z2; dsimp only at z0 z1 z2; clear q2 r2 n2 d2) | (go_at_call 101; refine (HM.out _).mono ?_; rintro e w' ⟨rfl, rfl⟩) | (go_at_call 102; refine (split_any (HSp.out.below D2.out) HW.out hN HK.out HR.out hu ha0 f2).mono ?_; rintro e w5 ⟨rfl, b5⟩))
      go_ret2
      exact ⟨rfl, b5.after D2.out⟩
  · have hbf : askB n a = false := by simpa using hb
    rw [if_neg hb, if_neg hb, if_neg hb]
    rw [hbf] at HA
    have HSp := Lib.hid h
    clear h hw hb hbf
    go_enter Tryz.func71, Tryz.ntmps71
    go_wp2_with (go_at_call 90; refine (HA.out _).mono ?_; rintro e w' ⟨rfl, rfl⟩)
    go_ret2
    exact ⟨rfl, Became.refl HSp.out⟩
theorem take1_any {w : World} {q g : Nat} {N : Int} {L : List Rn} (n : Int) (h : Sp w q g L) (hw : WF N L) (hN : N ≤ 4096) :
    Calls Tryz.prog 94 #[.pointer (some ⟨q, 0, none⟩), .int .i64 n] w fun e w' => e = .returned (.tuple #[.int .i64 (tkv L n 1), .int .i64 (tke L n 1)]) ∧ Became q g (tkL L n 1) w w' := by
  have HT := Lib.hid (taken_any n 1 h hw hN)
  generalize tkv L n 1 = v at HT ⊢
  generalize tke L n 1 = z at HT ⊢
  clear h hw
  go_enter Tryz.func94, Tryz.ntmps94
  go_wp2_with (go_at_call 71; refine HT.out.mono ?_; rintro e w5 ⟨rfl, b5⟩)
  go_ret2
  exact ⟨rfl, b5⟩
end Go.Proofs.YtjnknnakllbaaaaGreat.Sp
