/-
  The document's ground: a version's spans, page after page. A contract that the claimed proof uses.
-/
import Derived.Test.YtjnknnakllbaaaaGreatGrRefAsk
import Derived.Test.YtjnknnakllbaaaaGreatGrSpans
import Derived.Test.YtjnknnakllbaaaaGreatLePush
namespace Go.Proofs.YtjnknnakllbaaaaGreat.Sp
theorem chain_next : ∀ {L : List Rn} {a e : Int} {i : Nat}, Chain a L e → i < L.length → (if i + 1 < L.length then (el L (i + 1)).p else e) = (el L i).p + (el L i).n
  | [], _, _, _, _, h => by simp at h
  | [r], a, e, 0, h, _ => by
    have h1 := h.1; have h2 : a + r.n = e := h.2.2
    simp [el_zero]; omega
  | r :: r' :: L, a, e, 0, h, _ => by
    have h1 := h.1; have h2 := h.2.2.1
    rw [if_pos (by simp), el_succ, el_zero, el_zero]; omega
  | r :: L, a, e, i + 1, h, hi => by
    have := chain_next h.2.2 (i := i) (by simpa using hi)
    rw [el_succ, el_succ, ← this]
    simp
theorem chain_first {L : List Rn} {a e : Int} (h : Chain a L e) : (if 0 < L.length then (el L 0).p else e) = a := by
  cases L with
  | nil => exact h.symm
  | cons r L => simp [el_zero]; exact h.1
end Go.Proofs.YtjnknnakllbaaaaGreat.Sp
namespace Go.Proofs.YtjnknnakllbaaaaGreat.Gr
set_option maxRecDepth 100000
open Go.RowKit Go.Maps

def ofP (f : Ra.Ws) (v : Int) (k : Nat) : Bool := f k != 0 && (Ra.spanOf (f k) == (k : Int)) && (Ra.verOf (f k) == v)
/-- The pages below n that are a span's first, of that version. -/
def ofL (f : Ra.Ws) (v : Int) : Nat → List Int
  | 0 => []
  | k + 1 => if ofP f v k = true then ofL f v k ++ [(k : Int)] else ofL f v k
theorem ofL_succ (f : Ra.Ws) (v : Int) (k : Nat) : ofL f v (k + 1) = if ofP f v k = true then ofL f v k ++ [(k : Int)] else ofL f v k := rfl
theorem ofL_len (f : Ra.Ws) (v : Int) : ∀ k, (ofL f v k).length ≤ k
  | 0 => Nat.le_refl _
  | k + 1 => by have := ofL_len f v k; rw [ofL_succ]; split <;> simp <;> omega
section
variable {B P N : Nat} {w w' : World} {x : Rp} {v : Value} {L : List Sp.Rn} {f : Ra.Ws} {t : Int} {S : List Le.Row}
theorem ofL_run (hi : Inv N L f S) (v : Int) {k : Nat} (hk : k < L.length) {p : Nat} (hp : (Sp.el L k).p = p) : ∀ {j : Nat}, (j : Int) < (Sp.el L k).n → ofL f v (p + (j + 1)) = ofL f v p ++ (if ver v (f p) = true then [(p : Int)] else []) := by
  have hpt : (Sp.el L k).p.toNat = p := by omega
  intro j
  induction j with
  | zero =>
    intro hj
    rw [show p + (0 + 1) = p + 1 by rfl, ofL_succ]
    cases ht : (Sp.el L k).t with
    | false =>
      have h0 := hi.free hk ht (x := p) (by omega) (by omega)
      have : ofP f v p = false := by unfold ofP; rw [h0]; rfl
      rw [this, h0, ver_zero]; simp
    | true =>
      obtain ⟨_, h1, h2, _⟩ := hi.taken hk ht (x := p) (by omega) (by omega)
      have : ofP f v p = ver v (f p) := by unfold ofP ver; rw [h2, hp]; simp
      rw [this]; split <;> simp
  | succ j ih =>
    intro hj
    rw [show p + (j + 1 + 1) = p + (j + 1) + 1 by rfl, ofL_succ, ih (by omega)]
    have : ofP f v (p + (j + 1)) = false := by
      cases ht : (Sp.el L k).t with
      | false =>
        have h0 := hi.free hk ht (x := p + (j + 1)) (by omega) (by omega)
        unfold ofP; rw [h0]; rfl
      | true =>
        obtain ⟨_, h1, h2, _⟩ := hi.taken hk ht (x := p + (j + 1)) (by omega) (by omega)
        have e : (Ra.spanOf (f (p + (j + 1))) == ((p + (j + 1) : Nat) : Int)) = false := by rw [h2, hp, beq_eq_false_iff_ne]; omega
        unfold ofP; rw [e]; simp
    rw [this]; rfl
theorem ofL_take (hi : Inv N L f S) (v : Int) : ∀ {k : Nat}, k ≤ L.length → ofL f v (if k < L.length then (Sp.el L k).p else (N : Int)).toNat = spL (L.take k) f v
  | 0, _ => by rw [Sp.chain_first hi.wf.chain, List.take_zero]; rfl
  | k + 1, hk => by
    have ih := ofL_take hi v (k := k) (by omega)
    rw [if_pos (by omega)] at ih
    have hb := hi.at (k := k) (by omega)
    rw [Sp.chain_next hi.wf.chain (i := k) (by omega), spL_snoc L f v (k := k) (by omega), ← ih]
    obtain ⟨p, hp⟩ := Int.eq_ofNat_of_zero_le hb.1
    obtain ⟨n, hn⟩ := Int.eq_ofNat_of_zero_le (show 0 ≤ (Sp.el L k).n - 1 by omega)
    have := ofL_run hi v (k := k) (by omega) hp (j := n) (by omega)
    rw [show ((Sp.el L k).p + (Sp.el L k).n).toNat = p + (n + 1) by omega, this, show (Sp.el L k).p.toNat = p by omega, hp]
    split <;> simp
theorem ofL_all (hi : Inv N L f S) (v : Int) : ofL f v N = spL L f v := by
  have := ofL_take hi v (k := L.length) (Nat.le_refl _)
  rw [if_neg (by omega), List.take_length] at this
  simpa using this
set_option maxHeartbeats 4000000 in
theorem rof_any (vv : Int) (h : Rg B w P x v N L f t S) (hi : Inv N L f S) (hs : Ra.St (N : Int) t f) : Calls Tryz.prog 23 #[.pointer (some ⟨P, 0, none⟩), .int .i64 vv] w fun e w' =>
    ∃ A c, e = .returned (.slice A (spL L f vv).length c) ∧ At w'.heap.size w' A (ints (spL L f vv)) ∧ Below w.heap.size w w' := by
  rw [← ofL_all hi vv]
  have hN : N ≤ 4096 := by have := hi.n1; omega
  have O0 := Lib.hid (Le.rown_empty w)
  have B0 : Below w.heap.size w (w.alloc (.cells #[] 3)) := up_alloc (Below.refl _ w) _
  have hz0 := Lib.hid B0.size
  obtain ⟨w1, hw1⟩ : ∃ w1, w.alloc (.cells #[] 3) = w1 := ⟨_, rfl⟩
  have H1 := Lib.hid (h.below B0)
  have H0 := Lib.hid h
  have HB0 := Lib.hid B0
  have HS := Lib.hid hs
  rw [hw1] at O0 H1 HB0 hz0
  have c1 := H1.out.c1
  have HW := Lib.hid (fun (k : Nat) (hk : k < N) => (by unfold Ra.wAt; rw [if_pos (Ra.inB_iff.2 (by omega)), Int.toNat_natCast] : Ra.wAt (N : Int) f (k : Int) = f k))
  clear h hi hs B0
  go_enter Tryz.func23, Tryz.ntmps23
  go_upto_region 3 with fail
  go_loopw [5, 6] (fun l i wr => ∃ k : Nat, k ≤ N ∧ i = .int .i64 k ∧ wr.ownsRow w.heap.size 3 1 l (ofL f vv k).length (ints (ofL f vv k)) ∧ Below w.heap.size w wr) (fun _ i _ => N - (intOf i).toNat)
  case atStart => exact ⟨0, by omega, rfl, O0.out, HB0.out⟩
  case round =>
    obtain ⟨k, hk, rfl, ho, hb⟩ := hrel
    obtain ⟨A0, n0, rfl⟩ := own_form ho
    have HO := Lib.hid ho
    have HB := Lib.hid hb
    have HR := Lib.hid (H0.out.below hb)
    have r1 := HR.out.c1
    have r2 := HR.out.c2
    have r3 := HR.out.sp.slice
    clear ho hb c1 O0
    by_cases hlt : k < N
    · have hll := ofL_len f vv k
      have HG := Lib.hid (Ra.rget_any (k : Int) HR.out.mp HS.out)
      have hX := HW.out k hlt
      rw [hX] at HG
      have hst := ofL_succ f vv k
      unfold ofP at hst
      obtain ⟨X, hXX⟩ : ∃ X, f k = X := ⟨_, rfl⟩
      rw [hXX] at HG hst
      have HST := Lib.hid hst
      have k1 : (0 : Int) ≤ (k : Int) := by omega
      have k2 : (k : Int) < (N : Int) := by omega
      clear hst hX hXX
      go_wp2_with fail
      refine HG.out.mono ?_
      rintro e w2 ⟨rfl, b2⟩
      have B2 : Hid (Below w.heap.size w w2) := up_trans HB.out b2
      have O2 := Lib.hid (own_below HO.out b2)
      have HZ : Hid (w.heap.size ≤ w2.heap.size) := B2.out.size
      clear b2 HG r1 r2 r3
      unfold Ra.entV
      go_upto_region 6 with fail
      have K9 : Hid (Ra.Blk (w2.alloc (.cells #[.int .i64 (Ra.spanOf X), .int .i64 (Ra.verOf X), .int .i64 (Ra.clsOf X), .int .i64 (Ra.staOf X)] 55)) w2.heap.size [.int .i64 (Ra.spanOf X), .int .i64 (Ra.verOf X), .int .i64 (Ra.clsOf X), .int .i64 (Ra.staOf X)] 55) := heap_alloc_last w2 _
      have B9 : Hid (Below w2.heap.size w2 (w2.alloc (.cells #[.int .i64 (Ra.spanOf X), .int .i64 (Ra.verOf X), .int .i64 (Ra.clsOf X), .int .i64 (Ra.staOf X)] 55))) := up_alloc (Below.refl _ w2) _
      generalize w2.alloc (.cells #[.int .i64 (Ra.spanOf X), .int .i64 (Ra.verOf X), .int .i64 (Ra.clsOf X), .int .i64 (Ra.staOf X)] 55) = W9 at K9 B9 ⊢
      have g0 : W9.cell? ⟨w2.heap.size, 0, none⟩ = some (.int .i64 (Ra.spanOf X)) := K9.out.cell
      have g1 : W9.cell? ⟨w2.heap.size, 1, none⟩ = some (.int .i64 (Ra.verOf X)) := K9.out.cell
      have O9 := Lib.hid (own_below O2.out B9.out)
      have B9' : Hid (Below w.heap.size w W9) := up_trans B2.out B9.out
      have hsz9 : w.heap.size ≤ W9.heap.size := B9'.out.size
      cases hX0 : (X != 0) with
      | false =>
        have HE : Hid (ofL f vv (k + 1) = ofL f vv k) := by show _ = _; rw [HST.out, hX0]; rfl
        clear hX0
        go_wp2_with fail
        go_roundw
        case rel => exact ⟨k + 1, by omega, by go_num, by rw [HE.out]; exact O9.out, B9'.out⟩
        case measure => simp [intOf]; omega
      | true =>
        cases hs1 : (Ra.spanOf X == (k : Int)) with
        | false =>
          have HE : Hid (ofL f vv (k + 1) = ofL f vv k) := by show _ = _; rw [HST.out, hX0, hs1]; rfl
          clear hX0
          go_wp2_with fail
          go_roundw
          case rel => exact ⟨k + 1, by omega, by go_num, by rw [HE.out]; exact O9.out, B9'.out⟩
          case measure => simp [intOf]; omega
        | true =>
          cases hv : (Ra.verOf X == vv) with
          | false =>
            have HE : Hid (ofL f vv (k + 1) = ofL f vv k) := by show _ = _; rw [HST.out, hX0, hs1, hv]; rfl
            clear hX0
            go_wp2_with fail
            go_roundw
            case rel => exact ⟨k + 1, by omega, by go_num, by rw [HE.out]; exact O9.out, B9'.out⟩
            case measure => simp [intOf]; omega
          | true =>
            have HE : Hid (ofL f vv (k + 1) = ofL f vv k ++ [(k : Int)]) := by show _ = _; rw [HST.out, hX0, hs1, hv]; rfl
            have HLE : Hid ((ofL f vv (k + 1)).length = (ofL f vv k).length + 1) := by show _ = _; rw [HE.out]; simp
            clear hX0
            have hkk : (ofL f vv k).length ≤ 1048576 := by omega
            generalize ofL f vv k = ls at *
            go_wp2_with (at_builtin; refine app_law el3 rfl _ _ rfl rfl (own_below O9.out (up_alloc (Below.refl _ _) _)) rfl (Blk.new W9 [.int .i64 k] 3) rfl (by simp [Value.oneCell']) hkk (by rw [World.size_alloc]; omega) ?_; intro g' cap' wa hoa hga hgw)
            go_roundw
            case rel => exact ⟨k + 1, by omega, by go_num, by rw [HLE.out, HE.out, ints_snoc]; exact hoa.out, (up_alloc B9'.out _).grown hga.out (by rw [World.size_alloc]; have := B9'.out.size; omega) (fun g hg => (O9.out.lt g hg).1)⟩
            case measure => simp [intOf]; omega
    · obtain rfl : k = N := by omega
      have hll := ofL_len f vv k
      have k2 : ¬ ((k : Int) < (k : Int)) := by omega
      have HA := Lib.hid (own_at HO.out)
      have HBe := HB
      go_wp2_with fail
      go_ret
      exact ⟨A0, ⟨n0, rfl⟩, HA.out, HBe.out⟩
end
end Go.Proofs.YtjnknnakllbaaaaGreat.Gr
