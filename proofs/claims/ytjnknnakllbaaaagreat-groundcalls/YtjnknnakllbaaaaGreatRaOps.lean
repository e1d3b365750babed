/-
  What makes and changes a map of pages: contracts that the claimed proofs use.
-/
import Derived.Test.YtjnknnakllbaaaaGreatRaDrop
namespace Go.Proofs.YtjnknnakllbaaaaGreat.Ra
set_option maxRecDepth 100000
open Go.RowKit

/-- A map of pages: its memory, its leaves, its numbers. -/
structure Mp (w : World) (q : Nat) (n t : Int) (g : Gs) (f : Ws) : Prop where
  lay : Lay w q n t g f
  kept : Kept g f
  st : St n t f
theorem Mp.below {w w' : World} {q : Nat} {n t : Int} {g : Gs} {f : Ws} (h : Mp w q n t g f) (hb : Below w.heap.size w w') : Mp w' q n t g f := ⟨h.lay.below hb, h.kept, h.st⟩
def nt (E t : Int) : Int := if E = 0 then nx t else t
def nf (E : Int) (f' f : Ws) : Ws := if E = 0 then f' else f

/-! ### Leaves behind a change -/
theorem lfB_far {f : Ws} {p k i : Nat} {x : Int} (h : ∀ m, p ≤ m → m < p + k → m / 64 ≠ i) : lfB (fill f p k x) i = lfB f i := by
  have : ∀ j, j < 64 → fill f p k x (64 * i + j) = f (64 * i + j) := fun j hj => by
    unfold fill; rw [if_neg (fun hh => h _ hh.1 hh.2 (by omega))]
  cases hb : lfB f i
  · exact lfB_no.2 (fun j hj => by rw [this j hj]; exact lfB_no.1 hb j hj)
  · obtain ⟨j, hj, hn⟩ := lfB_iff.1 hb
    exact lfB_iff.2 ⟨j, hj, by rw [this j hj]; exact hn⟩
theorem kept_set {g g' : Gs} {f : Ws} {p k : Nat} {x : Int} (h : Kept g f) (hg : Grew p k g g') (hx : x ≠ 0) : Kept g' (fill f p k x) := fun i hi => by
  by_cases hh : ∀ m, p ≤ m → m < p + k → m / 64 ≠ i
  · rw [hg.far i hi hh, lfB_far hh]; exact h i hi
  · have ⟨m, h1, h2, h3⟩ : ∃ m, p ≤ m ∧ m < p + k ∧ m / 64 = i := by
      apply Classical.byContradiction; intro hc; exact hh (fun m a b c => hc ⟨m, a, b, c⟩)
    rw [← h3, hg.near m h1 h2]
    exact (lfB_iff.2 ⟨m % 64, by omega, by rw [show 64 * (m / 64) + m % 64 = m by omega]; unfold fill; rw [if_pos ⟨h1, h2⟩]; exact hx⟩).symm
theorem kept_clr {g g1 g2 : Gs} {f : Ws} {p k : Nat} (h : Kept g f) (hk : 1 ≤ k) (hg : Grew p k g g1) (hs : Shed (p / 64) ((p + k - 1) / 64 + 1) g1 g2 (fill f p k 0)) : Kept g2 (fill f p k 0) := fun i hi => by
  by_cases hh : p / 64 ≤ i ∧ i < (p + k - 1) / 64 + 1
  · exact hs.near i hi hh.1 hh.2
  · have hf : ∀ m, p ≤ m → m < p + k → m / 64 ≠ i := fun m h1 h2 => by omega
    rw [hs.far i hi hh, hg.far i hi hf, lfB_far hf]; exact h i hi
theorem grew_near {g g1 : Gs} {p k i : Nat} (hg : Grew p k g g1) (hk : 1 ≤ k) (h1 : p / 64 ≤ i) (h2 : i ≤ (p + k - 1) / 64) : (g1 i).isSome = true := by
  have := hg.near (max p (64 * i)) (by omega) (by omega)
  rwa [show max p (64 * i) / 64 = i by omega] at this

/-! ### Set -/
section
variable {w : World} {q : Nat} {n t : Int} {g : Gs} {f : Ws}
theorem set_any (p k a b c d : Int) (h : Mp w q n t g f) (ip : I64 p) (ia : I64 a) (ib : I64 b) (ic : I64 c) (id : I64 d) :
    Calls Tryz.prog 68 #[.pointer (some ⟨q, 0, none⟩), .int .i64 p, .int .i64 k, .agg #[.int .i64 a, .int .i64 b, .int .i64 c, .int .i64 d]] w fun e w' =>
      ∃ g', e = .returned (.int .i64 (setE n p k a b c d)) ∧ Mp w' q n (nt (setE n p k a b c d) t) g' (nf (setE n p k a b c d) (setF t f p k a b c d) f) ∧ Newer w.heap.size g g' ∧ Fr q g w w' := by
  have B0 := Lib.hid (up_alloc (Below.refl _ w) (.cells #[.int .i64 a, .int .i64 b, .int .i64 c, .int .i64 d] 52))
  have K0 : Hid (Blk (w.alloc (.cells #[.int .i64 a, .int .i64 b, .int .i64 c, .int .i64 d] 52)) w.heap.size [.int .i64 a, .int .i64 b, .int .i64 c, .int .i64 d] 52) := heap_alloc_last w _
  have HM := Lib.hid h
  have HM0 := Lib.hid (h.below B0.out)
  obtain ⟨x0, x1⟩ := nx_bd t
  have HWO := Lib.hid (fun W => wordOf_any a b c d (nx t) W ia ib ic id x0 x1)
  have HIP := Lib.hid ip
  clear h ip ia ib ic id
  cases hok : okB a b c d with
  | false =>
    have e : setE n p k a b c d = 11 := by unfold setE; rw [hok]; simp
    have e2 : wordV a b c d (nx t) = .tuple #[.int .u64 0, .bool false] := by unfold wordV; rw [hok]; rfl
    rw [e]
    rw [e2] at HWO
    clear e e2 hok
    go_enter Tryz.func68, Tryz.ntmps68
    go_wp2_with fail
    generalize w.alloc (.cells #[.int .i64 a, .int .i64 b, .int .i64 c, .int .i64 d] 52) = W0 at B0 K0 HM0 ⊢
    refine (next_any HM0.out.lay HM0.out.st).mono ?_
    rintro e w1 ⟨rfl, rfl⟩
    have c0 : W0.cell? ⟨w.heap.size, 0, none⟩ = some (.int .i64 a) := K0.out.cell
    have c1 : W0.cell? ⟨w.heap.size, 1, none⟩ = some (.int .i64 b) := K0.out.cell
    have c2 : W0.cell? ⟨w.heap.size, 2, none⟩ = some (.int .i64 c) := K0.out.cell
    have c3 : W0.cell? ⟨w.heap.size, 3, none⟩ = some (.int .i64 d) := K0.out.cell
    go_wp2_with fail
    refine (HWO.out _).mono ?_
    rintro e w2 ⟨rfl, b2⟩
    have B2 := Lib.hid (up_trans B0.out b2)
    clear b2
    go_wp2
    go_ret
    exact ⟨g, rfl, HM.out.below B2.out, Newer.refl _ _, Fr.of B2.out⟩
  | true =>
    have e2 : wordV a b c d (nx t) = .tuple #[.int .u64 (wd a b c d (nx t)), .bool true] := by unfold wordV; rw [hok]; rfl
    rw [e2] at HWO
    obtain ⟨wb, wn, _⟩ := wd_bd hok x0 x1
    clear e2
    cases hin : inB n p k with
    | false =>
      have e : setE n p k a b c d = 11 := by unfold setE; rw [hin]; simp
      rw [e]
      clear e hok wb wn
      generalize wd a b c d (nx t) = X at HWO
      go_enter Tryz.func68, Tryz.ntmps68
      go_wp2_with fail
      generalize w.alloc (.cells #[.int .i64 a, .int .i64 b, .int .i64 c, .int .i64 d] 52) = W0 at B0 K0 HM0 ⊢
      refine (next_any HM0.out.lay HM0.out.st).mono ?_
      rintro e w1 ⟨rfl, rfl⟩
      have c0 : W0.cell? ⟨w.heap.size, 0, none⟩ = some (.int .i64 a) := K0.out.cell
      have c1 : W0.cell? ⟨w.heap.size, 1, none⟩ = some (.int .i64 b) := K0.out.cell
      have c2 : W0.cell? ⟨w.heap.size, 2, none⟩ = some (.int .i64 c) := K0.out.cell
      have c3 : W0.cell? ⟨w.heap.size, 3, none⟩ = some (.int .i64 d) := K0.out.cell
      go_wp2_with fail
      refine (HWO.out _).mono ?_
      rintro e w2 ⟨rfl, b2⟩
      have B2 := Lib.hid (up_trans B0.out b2)
      have HM2 := Lib.hid (HM.out.below B2.out)
      clear b2 c0 c1 c2 c3
      go_wp2_with fail
      refine (has_any p k HM2.out.lay HM2.out.st HIP.out).mono ?_
      rw [hin]
      rintro e w3 ⟨rfl, rfl⟩
      go_wp2
      go_ret
      exact ⟨g, rfl, HM2.out, Newer.refl _ _, Fr.of B2.out⟩
    | true =>
      have e : setE n p k a b c d = 0 := by unfold setE; rw [hin, hok]; simp
      have HST := Lib.hid (HM.out.st.set e)
      have e3 : nt 0 t = nx t := rfl
      have e4 : nf 0 (setF t f p k a b c d) f = setF t f p k a b c d := rfl
      rw [e, e3, e4]
      obtain ⟨k1, p0, k2⟩ := inB_iff.1 hin
      have n1 := HM.out.st.n1
      obtain ⟨P, rfl⟩ : ∃ P : Nat, p = (P : Int) := ⟨p.toNat, by omega⟩
      obtain ⟨K, rfl⟩ : ∃ K : Nat, k = (K : Int) := ⟨k.toNat, by omega⟩
      unfold setF at HST ⊢
      simp only [Int.toNat_natCast] at HST ⊢
      have hPK : P + K ≤ 4096 := by omega
      clear e e3 e4 hok wb
      generalize wd a b c d (nx t) = X at HWO HST wn ⊢
      have HWN := Lib.hid wn
      clear wn
      go_enter Tryz.func68, Tryz.ntmps68
      go_wp2_with fail
      generalize w.alloc (.cells #[.int .i64 a, .int .i64 b, .int .i64 c, .int .i64 d] 52) = W0 at B0 K0 HM0 ⊢
      refine (next_any HM0.out.lay HM0.out.st).mono ?_
      rintro e w1 ⟨rfl, rfl⟩
      have c0 : W0.cell? ⟨w.heap.size, 0, none⟩ = some (.int .i64 a) := K0.out.cell
      have c1 : W0.cell? ⟨w.heap.size, 1, none⟩ = some (.int .i64 b) := K0.out.cell
      have c2 : W0.cell? ⟨w.heap.size, 2, none⟩ = some (.int .i64 c) := K0.out.cell
      have c3 : W0.cell? ⟨w.heap.size, 3, none⟩ = some (.int .i64 d) := K0.out.cell
      go_wp2_with fail
      refine (HWO.out _).mono ?_
      rintro e w2 ⟨rfl, b2⟩
      have B2 := Lib.hid (up_trans B0.out b2)
      have HM2 := Lib.hid (HM.out.below B2.out)
      clear b2 c0 c1 c2 c3
      go_wp2_with fail
      refine (has_any (P : Int) (K : Int) HM2.out.lay HM2.out.st HIP.out).mono ?_
      rw [hin]
      rintro e w3 ⟨rfl, rfl⟩
      go_wp2_with fail
      refine (write_any P K X HM2.out.lay hPK).mono ?_
      rintro e w4 ⟨g', rfl, l4, gr4, n4, f4⟩
      have c1 := l4.c1
      have fz := l4.blk.frozen 1
      have L4 := Lib.hid l4
      have G4 := Lib.hid gr4
      have N4 : Hid (Newer w.heap.size g g') := (Newer.refl w.heap.size g).trans n4 B2.out.size
      have F4 : Hid (Fr q g w w4) := (Fr.of (q := q) (g := g) B2.out).trans f4 (Newer.refl _ _)
      clear l4 gr4 n4 f4
      go_wp2
      go_ret
      exact ⟨g', rfl, ⟨L4.out.stamp _, kept_set HM.out.kept G4.out HWN.out, HST.out⟩, N4.out, F4.out.trans (Fr.ofq (g := g') (grown_set _ _ _ _)) N4.out⟩
theorem clr_any (p k : Int) (h : Mp w q n t g f) (ip : I64 p) :
    Calls Tryz.prog 74 #[.pointer (some ⟨q, 0, none⟩), .int .i64 p, .int .i64 k] w fun e w' =>
      ∃ g', e = .returned (.int .i64 (clrE n f p k)) ∧ Mp w' q n (nt (clrE n f p k) t) g' (nf (clrE n f p k) (clrF f p k) f) ∧ Newer w.heap.size g g' ∧ Fr q g w w' := by
  have HM := Lib.hid h
  have HHA := Lib.hid (has_any p k h.lay h.st ip)
  clear ip
  cases hin : inB n p k with
  | false =>
    have e : clrE n f p k = 11 := by unfold clrE; rw [hin]; rfl
    rw [e]
    rw [hin] at HHA
    clear e h hin
    go_enter Tryz.func74, Tryz.ntmps74
    go_wp2_with (go_at_call 98; refine HHA.out.mono ?_; rintro e w' ⟨rfl, rfl⟩)
    go_ret
    exact ⟨g, rfl, HM.out, Newer.refl _ _, Fr.refl _ _ _⟩
  | true =>
    have e : clrE n f p k = if allB f p.toNat k.toNat = true then 0 else 16 := by unfold clrE; rw [hin]; rfl
    rw [e]
    rw [hin] at HHA
    obtain ⟨k1, p0, k2⟩ := inB_iff.1 hin
    have n1 := h.st.n1
    obtain ⟨P, rfl⟩ : ∃ P : Nat, p = (P : Int) := ⟨p.toNat, by omega⟩
    obtain ⟨K, rfl⟩ : ∃ K : Nat, k = (K : Int) := ⟨k.toNat, by omega⟩
    have HST := Lib.hid (h.st.clr (p := (P : Int)) (k := (K : Int)))
    unfold clrF at HST ⊢
    simp only [Int.toNat_natCast] at HST ⊢
    have hPK : P + K ≤ 4096 := by omega
    have hK1 : 1 ≤ K := by omega
    obtain ⟨N, hN⟩ : ∃ N : Nat, n = (N : Int) := ⟨n.toNat, by omega⟩
    have hPN : P + K ≤ N := by omega
    have HNN := Lib.hid hN
    have HW : Hid (∀ m : Nat, m < N → Calls Tryz.prog 83 #[.pointer (some ⟨q, 0, none⟩), .int .i64 (m : Int)] w fun e w' => e = .returned (.int .u64 (f m)) ∧ w = w') := fun m hm => by
      have := word_any (m : Int) h.lay h.st ⟨by omega, by omega⟩
      rwa [wAt_in (by omega)] at this
    obtain ⟨E, hE⟩ : ∃ E : Int, (if allB f P K = true then 0 else 16) = E := ⟨_, rfl⟩
    rw [hE]
    have HE := Lib.hid hE
    clear e h hin hN k2 n1 p0 k1 hE
    go_enter Tryz.func74, Tryz.ntmps74
    go_wp2_with (go_at_call 98; refine HHA.out.mono ?_; rintro e w' ⟨rfl, rfl⟩)
    go_loop [7] (fun a => ∃ j : Nat, j ≤ K ∧ a = .int .i64 ((P + j : Nat) : Int) ∧ allB f P j = true) (fun a => P + K - (intOf a).toNat)
    case atStart => exact ⟨0, by omega, rfl, rfl⟩
    case round =>
      obtain ⟨j, hj, rfl, hall⟩ := hrel
      have HA := Lib.hid hall
      clear hall
      obtain ⟨m, hm⟩ : ∃ m, P + j = m := ⟨_, rfl⟩
      have HMM := Lib.hid hm
      rw [hm]
      by_cases hlt : j < K
      · have d : decide ((m : Int) < (P : Int) + (K : Int)) = true := by simp; omega
        have HW1 := Lib.hid (HW.out m (by omega))
        have m1 : m < 4096 := by omega
        have hs : allB f P (j + 1) = (allB f P j && (f (P + j) != 0)) := rfl
        rw [HA.out, hm] at hs
        have HS := Lib.hid hs
        obtain ⟨x, hx⟩ : ∃ x, f m = x := ⟨_, rfl⟩
        rw [hx] at HW1 HS
        have HX := Lib.hid hx
        clear hm hs hx
        by_cases h0 : x = 0
        · have e : allB f P K = false := allB_no hlt (by rw [HMM.out, HX.out, h0])
          subst h0
          obtain rfl : E = 16 := by rw [← HE.out, e]; rfl
          clear e
          go_wp2_with (go_at_call 83; refine HW1.out.mono ?_; rintro e w' ⟨rfl, rfl⟩)
          go_ret
          exact ⟨g, rfl, HM.out, Newer.refl _ _, Fr.refl _ _ _⟩
        · have d2 : (x == 0) = false := by simpa using h0
          have d3 : (x != 0) = true := by simpa using h0
          rw [d3] at HS
          clear d3 h0
          go_wp2_with (go_at_call 83; refine HW1.out.mono ?_; rintro e w' ⟨rfl, rfl⟩)
          go_round
          case rel => exact ⟨j + 1, by omega, by rw [← HMM.out]; go_num, by rw [HS.out]; rfl⟩
          case measure => have := HMM.out; simp [intOf]; omega
      · obtain rfl : j = K := by omega
        have d : decide ((m : Int) < (P : Int) + (j : Int)) = false := by simp; omega
        obtain rfl : E = 0 := by rw [← HE.out, HA.out]; rfl
        clear hm
        go_wp2_with fail
        refine (write_any P j 0 HM.out.lay hPK).mono ?_
        rintro e w4 ⟨g1, rfl, l4, gr4, n4, f4⟩
        have L4 := Lib.hid l4
        have G4 := Lib.hid gr4
        have N4 := Lib.hid n4
        have F4 := Lib.hid f4
        clear l4 gr4 n4 f4
        go_wp2_with fail
        refine (drop_any P j L4.out hPK hK1 (fun i h1 h2 => grew_near G4.out hK1 h1 h2)).mono ?_
        rintro e w5 ⟨g2, rfl, l5, s5, n5, f5⟩
        have c1 := l5.c1
        have fz := l5.blk.frozen 1
        have L5 := Lib.hid l5
        have S5 := Lib.hid s5
        have N5 : Hid (Newer w.heap.size g g2) := N4.out.trans n5 F4.out.size
        have F5 : Hid (Fr q g w w5) := F4.out.trans f5 N4.out
        have HNX := Lib.hid (next_any l5 ⟨HM.out.st.n0, HM.out.st.n1, HM.out.st.t0, HM.out.st.t1, HST.out.wb, HST.out.out⟩)
        clear l5 s5 n5 f5
        go_wp2_with (go_at_call 96; refine HNX.out.mono ?_; rintro e w' ⟨rfl, rfl⟩)
        go_ret
        exact ⟨g2, rfl, ⟨L5.out.stamp _, kept_clr HM.out.kept hK1 G4.out S5.out, HST.out⟩, N5.out, F5.out.trans (Fr.ofq (g := g2) (grown_set _ _ _ _)) N5.out⟩
end
end Go.Proofs.YtjnknnakllbaaaaGreat.Ra
