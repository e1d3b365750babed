/-
  The law on what is set and told, walked: a contract that the claimed proof uses.
-/
import Derived.Test.YtadmhocpnbgegaaAlive
namespace Go.Proofs.Ytadmhocpnbgegaa
open Go.RowKit

/-! ### Plain facts -/
theorem fill_in {f : Ws} {p k i : Nat} {x : Int} (h1 : p ≤ i) (h2 : i < p + k) : fill f p k x i = x := by unfold fill; rw [if_pos ⟨h1, h2⟩]
theorem fill_out {f : Ws} {p k i : Nat} {x : Int} (h : ¬ (p ≤ i ∧ i < p + k)) : fill f p k x i = f i := by unfold fill; rw [if_neg h]
theorem ent_wd {a b c d t : Int} (h : okB a b c d = true) : entV (wd a b c d t) = .agg #[.int .i64 a, .int .i64 b, .int .i64 c, .int .i64 d] := by
  obtain ⟨h1, h2, h3, h4⟩ := wd_parts (t := t) h
  unfold entV; rw [h1, h2, h3, h4]
theorem cnt_fill (P K : Nat) (X v s : Int) (hX : X ≠ 0) (hv : verOf X = v) (hs : staOf X = s) : ∀ m, cnt (fill f0 P K X) v s m = min m (P + K) - min m P
  | 0 => by simp [cnt]
  | m + 1 => by
    rw [cnt, cnt_fill P K X v s hX hv hs m]
    by_cases h : P ≤ m ∧ m < P + K
    · have : hitB (fill f0 P K X) v s m = true := by unfold hitB; rw [fill_in h.1 h.2]; simp [hX, hv, hs]
      rw [this, if_pos rfl]; omega
    · have : hitB (fill f0 P K X) v s m = false := by unfold hitB; rw [fill_out h]; rfl
      rw [this, if_neg (by simp)]; omega
theorem zero_lvs {f : Ws} (h : ∀ i, f i = 0) : lvs f 64 = 0 := lvs_zero fun _ _ => lfB_no.2 fun _ _ => h _
/-- Behind what is set (twice) and cleared again nothing is left. -/
theorem back_zero (P K : Nat) (X Y : Int) (o : Bool) (h : 1 ≤ K) : ∀ i, fill (if o = true then fill (fill f0 P K X) P 1 Y else fill f0 P K X) P K 0 i = 0 := fun i => by
  by_cases hi : P ≤ i ∧ i < P + K
  · exact fill_in hi.1 hi.2
  · rw [fill_out hi]
    cases o
    · rw [if_neg (by simp), fill_out hi]; rfl
    · rw [if_pos rfl, fill_out (by omega), fill_out hi]; rfl
theorem back_all (P K : Nat) (X Y : Int) (o : Bool) (hX : X ≠ 0) (hY : Y ≠ 0) : allB (if o = true then fill (fill f0 P K X) P 1 Y else fill f0 P K X) P K = true := allB_iff.2 fun i hi => by
  cases o
  · rw [if_neg (by simp), fill_in (by omega) (by omega)]; exact hX
  · rw [if_pos rfl]
    by_cases h0 : i = 0
    · rw [fill_in (by omega) (by omega)]; exact hY
    · rw [fill_out (by omega), fill_in (by omega) (by omega)]; exact hX
theorem back_none {f : Ws} {P K : Nat} (h : ∀ i, f i = 0) (hK : 1 ≤ K) : allB f P K = false := allB_no (j := 0) (by omega) (h _)

theorem Ev.poke {w0 W : World} {L : List Bx} {q z : Nat} {n t : Int} {g : Gs} {f : Ws} {vs : List Value} (h : Ev w0 L W q n t g f) (hb : Blk W z vs 32) (hz : w0.heap.size ≤ z) (i : Nat) (v : Value) : Ev w0 [] (W.setCell ⟨z, i, none⟩ v) q n t g f :=
  ⟨⟨h.mp.lay.of (Below.heap_setCell _ _ _ _ (fun e => hb.ne h.mp.lay.blk (by decide) e.symm)) (fun j b hj e => Below.heap_setCell _ _ _ _ (fun e' => hb.ne (h.mp.lay.leaf j b hj e) (by decide) e'.symm)), h.mp.kept, h.mp.st⟩, h.own, h.bel.setCell hz _, fun _ hx => (by cases hx)⟩
theorem Ev.poke4 {w0 W : World} {L : List Bx} {q z : Nat} {n t : Int} {g : Gs} {f : Ws} {x0 x1 x2 x3 : Value} (h : Ev w0 L W q n t g f) (hb : Blk W z [x0, x1, x2, x3] 32) (hz : w0.heap.size ≤ z) (v0 v1 v2 v3 : Value) :
    Ev w0 [] ((((W.setCell ⟨z, 0, none⟩ v0).setCell ⟨z, 1, none⟩ v1).setCell ⟨z, 2, none⟩ v2).setCell ⟨z, 3, none⟩ v3) q n t g f :=
  (((h.poke hb hz 0 v0).poke (hb.set (i := 0) v0) hz 1 v1).poke ((hb.set (i := 0) v0).set (i := 1) v1) hz 2 v2).poke (((hb.set (i := 0) v0).set (i := 1) v1).set (i := 2) v2) hz 3 v3

/-- What the last calls find. -/
structure Back (N P K : Nat) (f : Ws) : Prop where
  one : clrE (N : Int) f (P : Int) (K : Int) = 0
  two : lvs (clrF f (P : Int) (K : Int)) 64 = 0
  three : clrE (N : Int) (clrF f (P : Int) (K : Int)) (P : Int) (K : Int) = 16
theorem back_of {N P K : Nat} {X Y : Int} (o : Bool) (hX : X ≠ 0) (hY : Y ≠ 0) (hK : 1 ≤ K) (hN : P + K ≤ N) : Back N P K (if o = true then fill (fill f0 P K X) P 1 Y else fill f0 P K X) := by
  have hin : inB (N : Int) (P : Int) (K : Int) = true := inB_iff.2 (by omega)
  have hz : ∀ i, clrF (if o = true then fill (fill f0 P K X) P 1 Y else fill f0 P K X) (P : Int) (K : Int) i = 0 := by
    unfold clrF; rw [Int.toNat_natCast, Int.toNat_natCast]; exact back_zero P K X Y o hK
  refine ⟨?_, zero_lvs hz, ?_⟩
  · unfold clrE; rw [hin, Int.toNat_natCast, Int.toNat_natCast, back_all P K X Y o hX hY]; rfl
  · unfold clrE; rw [hin, Int.toNat_natCast, Int.toNat_natCast, back_none hz hK]; rfl

/-! ### The law -/
section
variable (n p k a b c d a' b' c' d' : Int) (w : World)
theorem told_great (h : 4096 < n) :
    Calls Try.prog 5 #[.int .i64 n, .int .i64 p, .int .i64 k, .agg #[.int .i64 a, .int .i64 b, .int .i64 c, .int .i64 d], .agg #[.int .i64 a', .int .i64 b', .int .i64 c', .int .i64 d']] w fun e w' => e = .returned (.bool true) ∧ Below w.heap.size w w' := by
  have d1 : decide (4096 < n) = true := by simpa using h
  have B0 := Lib.hid (up_alloc (up_alloc (Below.refl _ w) (.cells #[.int .i64 a, .int .i64 b, .int .i64 c, .int .i64 d] 32)) (.cells #[.int .i64 a', .int .i64 b', .int .i64 c', .int .i64 d'] 32))
  go_enter Try.func5, Try.ntmps5
  go_wp2_with fail
  refine (alive_any _).mono ?_
  rintro e w1 ⟨rfl, b1⟩
  have B1 := Lib.hid (up_trans B0.out b1)
  clear b1
  go_wp2
  go_ret
  exact ⟨rfl, B1.out⟩
theorem told_less (h : n < 0) :
    Calls Try.prog 5 #[.int .i64 n, .int .i64 p, .int .i64 k, .agg #[.int .i64 a, .int .i64 b, .int .i64 c, .int .i64 d], .agg #[.int .i64 a', .int .i64 b', .int .i64 c', .int .i64 d']] w fun e w' => e = .returned (.bool true) ∧ Below w.heap.size w w' := by
  have d1 : decide (4096 < n) = false := by simp; omega
  have B0 := Lib.hid (up_alloc (up_alloc (Below.refl _ w) (.cells #[.int .i64 a, .int .i64 b, .int .i64 c, .int .i64 d] 32)) (.cells #[.int .i64 a', .int .i64 b', .int .i64 c', .int .i64 d'] 32))
  go_enter Try.func5, Try.ntmps5
  go_wp2_with fail
  refine (alive_any _).mono ?_
  rintro e w1 ⟨rfl, b1⟩
  have B1 := Lib.hid (up_trans B0.out b1)
  clear b1
  go_wp2_with fail
  refine (new_no n w1 (by omega)).mono ?_
  rintro e w2 ⟨rfl, rfl⟩
  go_wp2
  go_ret
  exact ⟨rfl, B1.out⟩
set_option maxRecDepth 100000 in
set_option maxHeartbeats 2000000 in
theorem told_main (h0 : 0 ≤ n) (h1 : n ≤ 4096) (ip : I64 p) (ia : I64 a) (ib : I64 b) (ic : I64 c) (id : I64 d) (ia' : I64 a') (ib' : I64 b') (ic' : I64 c') (id' : I64 d') :
    Calls Try.prog 5 #[.int .i64 n, .int .i64 p, .int .i64 k, .agg #[.int .i64 a, .int .i64 b, .int .i64 c, .int .i64 d], .agg #[.int .i64 a', .int .i64 b', .int .i64 c', .int .i64 d']] w fun e w' => e = .returned (.bool true) ∧ Below w.heap.size w w' := by
  have d1 : decide (4096 < n) = false := by simp; omega
  have B0 := Lib.hid (up_alloc (up_alloc (Below.refl _ w) (.cells #[.int .i64 a, .int .i64 b, .int .i64 c, .int .i64 d] 32)) (.cells #[.int .i64 a', .int .i64 b', .int .i64 c', .int .i64 d'] 32))
  have K0 : Hid (Blk ((w.alloc (.cells #[.int .i64 a, .int .i64 b, .int .i64 c, .int .i64 d] 32)).alloc (.cells #[.int .i64 a', .int .i64 b', .int .i64 c', .int .i64 d'] 32)) w.heap.size [.int .i64 a, .int .i64 b, .int .i64 c, .int .i64 d] 32) := Blk.alloc (heap_alloc_last w _) _
  have K1 : Hid (Blk ((w.alloc (.cells #[.int .i64 a, .int .i64 b, .int .i64 c, .int .i64 d] 32)).alloc (.cells #[.int .i64 a', .int .i64 b', .int .i64 c', .int .i64 d'] 32)) (w.heap.size + 1) [.int .i64 a', .int .i64 b', .int .i64 c', .int .i64 d'] 32) := heap_alloc2_new w _ _
  have IX : Hid (I64 p ∧ I64 a ∧ I64 b ∧ I64 c ∧ I64 d) := ⟨ip, ia, ib, ic, id⟩
  have IY : Hid (I64 a' ∧ I64 b' ∧ I64 c' ∧ I64 d') := ⟨ia', ib', ic', id'⟩
  clear ip ia ib ic id ia' ib' ic' id'
  go_enter Try.func5, Try.ntmps5
  go_wp2_with fail
  generalize (w.alloc (.cells #[.int .i64 a, .int .i64 b, .int .i64 c, .int .i64 d] 32)).alloc (.cells #[.int .i64 a', .int .i64 b', .int .i64 c', .int .i64 d'] 32) = W0 at B0 K0 K1 ⊢
  refine (alive_any W0).mono ?_
  rintro e w1 ⟨rfl, b1⟩
  have B1 := Lib.hid (up_trans B0.out b1)
  have K2 := Lib.hid (K0.out.below b1 K0.out.lt)
  have K3 := Lib.hid (K1.out.below b1 K1.out.lt)
  clear b1 B0 K0 K1
  go_wp2_with fail
  refine (new_own n w1 h0 h1).mono ?_
  rintro e w2 ⟨q, rfl, m2, o2, b2⟩
  have E2 : Hid (Ev w [(w.heap.size, [.int .i64 a, .int .i64 b, .int .i64 c, .int .i64 d], 32), (w.heap.size + 1, [.int .i64 a', .int .i64 b', .int .i64 c', .int .i64 d'], 32)] w2 q n 0 g0 f0) :=
    ⟨m2, o2.le B1.out.size, up_trans B1.out b2, fun x hx => by
      rcases List.mem_cons.1 hx with rfl | hx
      · exact ⟨K2.out.below b2 K2.out.lt, show (32 : Nat) ≠ 61 by decide, show (32 : Nat) ≠ 66 by decide⟩
      · rcases List.mem_cons.1 hx with rfl | hx
        · exact ⟨K3.out.below b2 K3.out.lt, show (32 : Nat) ≠ 61 by decide, show (32 : Nat) ≠ 66 by decide⟩
        · cases hx⟩
  clear m2 o2 b2 B1 K2 K3
  generalize w.heap.size + 1 = by0 at E2 ⊢
  generalize hbx : w.heap.size = bx0 at E2 ⊢
  clear hbx
  have x0 : w2.cell? ⟨bx0, 0, none⟩ = some (.int .i64 a) := E2.out.head.cell
  have x1 : w2.cell? ⟨bx0, 1, none⟩ = some (.int .i64 b) := E2.out.head.cell
  have x2 : w2.cell? ⟨bx0, 2, none⟩ = some (.int .i64 c) := E2.out.head.cell
  have x3 : w2.cell? ⟨bx0, 3, none⟩ = some (.int .i64 d) := E2.out.head.cell
  go_wp2_with fail
  refine (set_any p k a b c d E2.out.mp IX.out.1 IX.out.2.1 IX.out.2.2.1 IX.out.2.2.2.1 IX.out.2.2.2.2).mono ?_
  rintro e w3 ⟨g3, rfl, m3, n3, f3⟩
  by_cases hE : setE n p k a b c d = 0
  · rw [hE] at m3 ⊢
    have hE' := hE
    unfold setE at hE'
    split at hE'
    case isFalse => omega
    rename_i hh
    obtain ⟨hin, hok⟩ := hh
    obtain ⟨k1, p0, k2⟩ := inB_iff.1 hin
    obtain ⟨P, rfl⟩ : ∃ P : Nat, p = (P : Int) := ⟨p.toNat, by omega⟩
    obtain ⟨K, rfl⟩ : ∃ K : Nat, k = (K : Int) := ⟨k.toNat, by omega⟩
    obtain ⟨N, rfl⟩ : ∃ N : Nat, n = (N : Int) := ⟨n.toNat, by omega⟩
    have hPN : P + K ≤ N := by omega
    have hK1 : 1 ≤ K := by omega
    have hN1 : N ≤ 4096 := by omega
    obtain ⟨_, wn, _⟩ := wd_bd (t := 1) hok (by omega) (by omega)
    obtain ⟨wp1, wp2, wp3, wp4⟩ := wd_parts (t := 1) hok
    have hent := ent_wd (t := 1) hok
    have HCNT := Lib.hid (cnt_fill P K (wd a b c d 1) b d wn wp2 wp4 N)
    have e3 : nf 0 (setF 0 f0 (P : Int) (K : Int) a b c d) f0 = fill f0 P K (wd a b c d 1) := by
      show fill f0 (P : Int).toNat (K : Int).toNat (wd a b c d (nx 0)) = _
      rw [Int.toNat_natCast, Int.toNat_natCast]; rfl
    rw [e3] at m3
    have E3 : Hid (Ev w _ w3 q (N : Int) 1 g3 (fill f0 P K (wd a b c d 1))) := E2.out.step m3 n3 f3
    have HGF : Hid (wAt (N : Int) (fill f0 P K (wd a b c d 1)) (P : Int) = wd a b c d 1) := by
      show wAt (N : Int) (fill f0 P K (wd a b c d 1)) (P : Int) = wd a b c d 1
      rw [wAt_in (by omega), fill_in (by omega) (by omega)]
    have HGL : Hid (wAt (N : Int) (fill f0 P K (wd a b c d 1)) ((P : Int) + (K : Int) - 1) = wd a b c d 1) := by
      show wAt (N : Int) (fill f0 P K (wd a b c d 1)) ((P : Int) + (K : Int) - 1) = wd a b c d 1
      rw [show (P : Int) + (K : Int) - 1 = ((P + K - 1 : Nat) : Int) by omega, wAt_in (by omega), fill_in (by omega) (by omega)]
    have HEN := Lib.hid hent
    have HWN := Lib.hid wn
    have wnb : (wd a b c d 1 != 0) = true := by simpa using wn
    have HWB := Lib.hid wnb
    have HOK := Lib.hid hok
    clear e3 m3 n3 f3 E2 x0 x1 x2 x3 hE hE' hin hok wp1 wp2 wp3 wp4 hent wn wnb k1 p0 k2
    go_wp2_with fail
    refine (get_any (P : Int) E3.out.mp.lay E3.out.mp.st (i_small (by omega) (by omega))).mono ?_
    rw [HGF.out, HEN.out, HWB.out]
    rintro e w4 ⟨rfl, b4⟩
    have E4 : Hid (Ev w _ (w4.alloc (.cells #[.int .i64 a, .int .i64 b, .int .i64 c, .int .i64 d] 32)) q (N : Int) 1 g3 (fill f0 P K (wd a b c d 1))) := (E3.out.up b4).make [.int .i64 a, .int .i64 b, .int .i64 c, .int .i64 d] 32 (by decide) (by decide)
    have hzy : by0 ≠ w4.heap.size := by have := (E3.out.up b4).tail.head.lt; exact Nat.ne_of_lt this
    have hzw : w.heap.size ≤ w4.heap.size := (E3.out.up b4).bel.size
    clear b4 E3
    go_wp2_with fail
    generalize w4.heap.size = z at E4 hzy hzw ⊢
    generalize w4.alloc (.cells #[.int .i64 a, .int .i64 b, .int .i64 c, .int .i64 d] 32) = w5 at E4 ⊢
    refine (get_any ((P : Int) + (K : Int) - 1) E4.out.mp.lay E4.out.mp.st (i_small (by omega) (by omega))).mono ?_
    rw [HGL.out, HEN.out, HWB.out]
    rintro e w6 ⟨rfl, b6⟩
    have E6 : Hid (Ev w _ (w6.alloc (.cells #[.int .i64 a, .int .i64 b, .int .i64 c, .int .i64 d] 32)) q (N : Int) 1 g3 (fill f0 P K (wd a b c d 1))) := (E4.out.up b6).make [.int .i64 a, .int .i64 b, .int .i64 c, .int .i64 d] 32 (by decide) (by decide)
    clear b6 E4 HGF HGL
    have hcn : cnt (fill f0 P K (wd a b c d 1)) b d (N : Int).toNat = K := by rw [Int.toNat_natCast, HCNT.out]; omega
    have HCN := Lib.hid hcn
    clear HCNT hcn
    have z0 : (w6.alloc (.cells #[.int .i64 a, .int .i64 b, .int .i64 c, .int .i64 d] 32)).cell? ⟨z, 0, none⟩ = some (.int .i64 a) := E6.out.tail.head.cell
    have z1 : (w6.alloc (.cells #[.int .i64 a, .int .i64 b, .int .i64 c, .int .i64 d] 32)).cell? ⟨z, 1, none⟩ = some (.int .i64 b) := E6.out.tail.head.cell
    have z2 : (w6.alloc (.cells #[.int .i64 a, .int .i64 b, .int .i64 c, .int .i64 d] 32)).cell? ⟨z, 2, none⟩ = some (.int .i64 c) := E6.out.tail.head.cell
    have z3 : (w6.alloc (.cells #[.int .i64 a, .int .i64 b, .int .i64 c, .int .i64 d] 32)).cell? ⟨z, 3, none⟩ = some (.int .i64 d) := E6.out.tail.head.cell
    have x0 : (w6.alloc (.cells #[.int .i64 a, .int .i64 b, .int .i64 c, .int .i64 d] 32)).cell? ⟨bx0, 0, none⟩ = some (.int .i64 a) := E6.out.tail.tail.head.cell
    have x1 : (w6.alloc (.cells #[.int .i64 a, .int .i64 b, .int .i64 c, .int .i64 d] 32)).cell? ⟨bx0, 1, none⟩ = some (.int .i64 b) := E6.out.tail.tail.head.cell
    have x2 : (w6.alloc (.cells #[.int .i64 a, .int .i64 b, .int .i64 c, .int .i64 d] 32)).cell? ⟨bx0, 2, none⟩ = some (.int .i64 c) := E6.out.tail.tail.head.cell
    have x3 : (w6.alloc (.cells #[.int .i64 a, .int .i64 b, .int .i64 c, .int .i64 d] 32)).cell? ⟨bx0, 3, none⟩ = some (.int .i64 d) := E6.out.tail.tail.head.cell
    go_wp2_with fail
    refine (count_any b d E6.out.mp.lay E6.out.mp.st).mono ?_
    rw [HCN.out]
    rintro e w8 ⟨rfl, b8⟩
    have E8 := Lib.hid (E6.out.up b8)
    clear b8 E6 z0 z1 z2 z3 x0 x1 x2 x3 HCN
    have dK : ((K : Int) != (K : Int)) = false := by simp
    have y0 : w8.cell? ⟨by0, 0, none⟩ = some (.int .i64 a') := E8.out.tail.tail.tail.head.cell
    have y1 : w8.cell? ⟨by0, 1, none⟩ = some (.int .i64 b') := E8.out.tail.tail.tail.head.cell
    have y2 : w8.cell? ⟨by0, 2, none⟩ = some (.int .i64 c') := E8.out.tail.tail.tail.head.cell
    have y3 : w8.cell? ⟨by0, 3, none⟩ = some (.int .i64 d') := E8.out.tail.tail.tail.head.cell
    have inP : inB (N : Int) (P : Int) 1 = true := inB_iff.2 (by omega)
    go_wp2_with fail
    refine (set_any (P : Int) 1 a' b' c' d' E8.out.mp (i_small (by omega) (by omega)) IY.out.1 IY.out.2.1 IY.out.2.2.1 IY.out.2.2.2).mono ?_
    cases hoy : okB a' b' c' d' with
    | true =>
      have eS : setE (N : Int) (P : Int) 1 a' b' c' d' = 0 := by unfold setE; rw [inP, hoy]; rfl
      rw [eS]
      obtain ⟨_, yn, _⟩ := wd_bd (t := 2) hoy (by omega) (by omega)
      have HBK := Lib.hid (back_of (N := N) (P := P) (K := K) (X := wd a b c d 1) (Y := wd a' b' c' d' 2) true HWN.out yn hK1 hPN)
      have HEY := Lib.hid (ent_wd (t := 2) hoy)
      have ynb : (wd a' b' c' d' 2 != 0) = true := by simpa using yn
      have HYB := Lib.hid ynb
      have e3 : nf 0 (setF 1 (fill f0 P K (wd a b c d 1)) (P : Int) 1 a' b' c' d') (fill f0 P K (wd a b c d 1)) = fill (fill f0 P K (wd a b c d 1)) P 1 (wd a' b' c' d' 2) := by
        show fill (fill f0 P K (wd a b c d 1)) (P : Int).toNat (1 : Int).toNat (wd a' b' c' d' (nx 1)) = _
        rw [Int.toNat_natCast]; rfl
      rw [e3]
      rw [if_pos rfl] at HBK
      rintro e w9 ⟨g9, rfl, m9, n9, f9⟩
      have HGF : Hid (wAt (N : Int) (fill (fill f0 P K (wd a b c d 1)) P 1 (wd a' b' c' d' 2)) (P : Int) = wd a' b' c' d' 2) := by
        show wAt (N : Int) (fill (fill f0 P K (wd a b c d 1)) P 1 (wd a' b' c' d' 2)) (P : Int) = wd a' b' c' d' 2
        rw [wAt_in (by omega), fill_in (by omega) (by omega)]
      have E9 : Hid (Ev w _ w9 q (N : Int) 2 g9 (fill (fill f0 P K (wd a b c d 1)) P 1 (wd a' b' c' d' 2))) := E8.out.step m9 n9 f9
      clear eS yn ynb e3 m9 n9 f9 E8 y0 y1 y2 y3 hoy
      generalize fill (fill f0 P K (wd a b c d 1)) P 1 (wd a' b' c' d' 2) = f2 at E9 HGF HBK
      go_wp2_with fail
      refine (get_any (P : Int) E9.out.mp.lay E9.out.mp.st (i_small (by omega) (by omega))).mono ?_
      rw [HGF.out, HEY.out, HYB.out]
      rintro e w10 ⟨rfl, b10⟩
      have E10 := Lib.hid (E9.out.up b10)
      clear b10 E9 HGF HEY HYB
      have y0 : w10.cell? ⟨by0, 0, none⟩ = some (.int .i64 a') := E10.out.tail.tail.tail.head.cell
      have y1 : w10.cell? ⟨by0, 1, none⟩ = some (.int .i64 b') := E10.out.tail.tail.tail.head.cell
      have y2 : w10.cell? ⟨by0, 2, none⟩ = some (.int .i64 c') := E10.out.tail.tail.tail.head.cell
      have y3 : w10.cell? ⟨by0, 3, none⟩ = some (.int .i64 d') := E10.out.tail.tail.tail.head.cell
      have z0 : w10.cell? ⟨z, 0, none⟩ = some (.int .i64 a) := E10.out.tail.head.cell
      have z1 : w10.cell? ⟨z, 1, none⟩ = some (.int .i64 b) := E10.out.tail.head.cell
      have z2 : w10.cell? ⟨z, 2, none⟩ = some (.int .i64 c) := E10.out.tail.head.cell
      have z3 : w10.cell? ⟨z, 3, none⟩ = some (.int .i64 d) := E10.out.tail.head.cell
      have fz0 := E10.out.tail.head.frozen 0
      have fz1 := E10.out.tail.head.frozen 1
      have fz2 := E10.out.tail.head.frozen 2
      have fz3 := E10.out.tail.head.frozen 3
      have E11 := Lib.hid (E10.out.poke4 E10.out.tail.head hzw (.int .i64 a') (.int .i64 b') (.int .i64 c') (.int .i64 d'))
      clear E10
      go_wp2_with fail
      generalize (((w10.setCell ⟨z, 0, none⟩ (.int .i64 a')).setCell ⟨z, 1, none⟩ (.int .i64 b')).setCell ⟨z, 2, none⟩ (.int .i64 c')).setCell ⟨z, 3, none⟩ (.int .i64 d') = w11 at E11 ⊢
      clear y0 y1 y2 y3 z0 z1 z2 z3 fz0 fz1 fz2 fz3
      refine (clr_any (P : Int) (K : Int) E11.out.mp (i_small (by omega) (by omega))).mono ?_
      rw [HBK.out.one]
      rintro e w12 ⟨g12, rfl, m12, n12, f12⟩
      have E12 : Hid (Ev w _ w12 q (N : Int) _ g12 (clrF f2 (P : Int) (K : Int))) := E11.out.step m12 n12 f12
      clear m12 n12 f12 E11
      go_wp2_with fail
      refine (leaves_any E12.out.mp.lay E12.out.mp.kept).mono ?_
      rw [HBK.out.two]
      rintro e w13 ⟨rfl, rfl⟩
      go_wp2_with fail
      refine (clr_any (P : Int) (K : Int) E12.out.mp (i_small (by omega) (by omega))).mono ?_
      rw [HBK.out.three]
      rintro e w13 ⟨g13, rfl, m13, n13, f13⟩
      have E13 := Lib.hid (E12.out.step m13 n13 f13)
      clear m13 n13 f13 E12
      go_wp2
      go_ret
      exact ⟨rfl, E13.out.bel⟩
    | false =>
      have eS : setE (N : Int) (P : Int) 1 a' b' c' d' = 11 := by unfold setE; rw [hoy]; simp
      rw [eS]
      have HBK := Lib.hid (back_of (N := N) (P := P) (K := K) (X := wd a b c d 1) (Y := 1) false HWN.out (by omega) hK1 hPN)
      rw [if_neg (by simp)] at HBK
      rintro e w9 ⟨g9, rfl, m9, n9, f9⟩
      have E11 : Hid (Ev w _ w9 q (N : Int) 1 g9 (fill f0 P K (wd a b c d 1))) := E8.out.step m9 n9 f9
      clear eS m9 n9 f9 E8 y0 y1 y2 y3 hoy
      generalize fill f0 P K (wd a b c d 1) = f2 at E11 HBK
      go_wp2_with fail
      refine (clr_any (P : Int) (K : Int) E11.out.mp (i_small (by omega) (by omega))).mono ?_
      rw [HBK.out.one]
      rintro e w12 ⟨g12, rfl, m12, n12, f12⟩
      have E12 : Hid (Ev w _ w12 q (N : Int) _ g12 (clrF f2 (P : Int) (K : Int))) := E11.out.step m12 n12 f12
      clear m12 n12 f12 E11
      go_wp2_with fail
      refine (leaves_any E12.out.mp.lay E12.out.mp.kept).mono ?_
      rw [HBK.out.two]
      rintro e w13 ⟨rfl, rfl⟩
      go_wp2_with fail
      refine (clr_any (P : Int) (K : Int) E12.out.mp (i_small (by omega) (by omega))).mono ?_
      rw [HBK.out.three]
      rintro e w13 ⟨g13, rfl, m13, n13, f13⟩
      have E13 := Lib.hid (E12.out.step m13 n13 f13)
      clear m13 n13 f13 E12
      go_wp2
      go_ret
      exact ⟨rfl, E13.out.bel⟩
  · have e11 : setE n p k a b c d = 11 := by unfold setE at hE ⊢; split at hE <;> simp_all
    rw [e11] at m3 ⊢
    have E3 : Hid (Ev w _ w3 q n 0 g3 f0) := E2.out.step m3 n3 f3
    clear e11 m3 n3 f3 E2 x0 x1 x2 x3 hE
    go_wp2_with fail
    refine (stamp_any E3.out.mp.lay).mono ?_
    rintro e w4 ⟨rfl, rfl⟩
    go_wp2_with fail
    refine (leaves_any E3.out.mp.lay E3.out.mp.kept).mono ?_
    rw [zero_lvs (f := f0) (fun _ => rfl)]
    rintro e w4 ⟨rfl, rfl⟩
    go_wp2
    go_ret
    exact ⟨rfl, E3.out.bel⟩
theorem told_any (ip : I64 p) (ia : I64 a) (ib : I64 b) (ic : I64 c) (id : I64 d) (ia' : I64 a') (ib' : I64 b') (ic' : I64 c') (id' : I64 d') :
    Calls Try.prog 5 #[.int .i64 n, .int .i64 p, .int .i64 k, .agg #[.int .i64 a, .int .i64 b, .int .i64 c, .int .i64 d], .agg #[.int .i64 a', .int .i64 b', .int .i64 c', .int .i64 d']] w fun e w' => e = .returned (.bool true) ∧ Below w.heap.size w w' := by
  by_cases h1 : 4096 < n
  · exact told_great n p k a b c d a' b' c' d' w h1
  · by_cases h0 : n < 0
    · exact told_less n p k a b c d a' b' c' d' w h0
    · exact told_main n p k a b c d a' b' c' d' w (by omega) (by omega) ip ia ib ic id ia' ib' ic' id'
end
end Go.Proofs.Ytadmhocpnbgegaa
