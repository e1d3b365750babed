import Derived.Test.YtaelfgdiboekpaaDoorNsFour
/-
  A call on the program and one by the document: contracts that the claimed proof uses.
-/
namespace Go.Proofs.YtaelfgdiboekpaaDoor.Ns
set_option maxRecDepth 100000
open Go.RowKit
open Ce (u y ldW Mem row)
open Bi (Blk Drawn hasB hasB_iff hasB_not up_alloc up_drew up_trans i64_in ret_i ret_b grown_refl grown_trans grown_below)

section
variable {w0 w w' : World} {r m gm cap b c B s q g h f : Nat} {S S' S1 S2 : SS} {L : List Nat} {bs : List (BitVec 8)}
theorem Sb.laid4 (x : Sb w s q g bs b c h f) {bs' : List (BitVec 8)} (hm : Mem w' q g bs') (hg : w.grownBy w' (some g)) (hl : bs'.length = bs.length) : Sb w' s q g bs' b c h f := by
  obtain ⟨k1, k2, k3⟩ := x.kinds
  exact ⟨x.blk.far hg (kne k1 k3 (by decide)), hm, x.hc, x.hb, by rw [hl]; exact x.fit, x.hh, x.hf, x.pos⟩
set_option maxHeartbeats 2000000 in
theorem done_4 (X : Cl) (x : Sb w s q g S.bs b c S.h S.f) (hT : Tb.Tab w) (hY : Ce.BA B w X.B X.ys) (hB : B ≤ w.heap.size) (hm : X.ys.length = X.m) (ha : I64 X.a) (h4 : X.x = 4) :
    Calls Tryd.prog 21 #[.pointer (some ⟨q, 0, none⟩), .pointer (some ⟨s, 0, none⟩), X.val] w fun e w' => RAns (w4E S.bs.length X.a X.m) [] e w' ∧ Sb w' s q g (w4S S X.a X.m X.ys).bs b c (w4S S X.a X.m X.ys).h (w4S S X.a X.m X.ys).f ∧ Fr s g w w' ∧ Tb.Tab w' := by
  obtain ⟨x', a, A, n, cp, xs, B', mm, mcap, ys⟩ := X
  dsimp only at hY hm ha h4
  subst h4
  subst hm
  unfold w4E w4S Cl.val
  dsimp only
  have hb0 : Below w.heap.size w (w.alloc (.cells #[.int .i64 4, .int .i64 a, .slice A n cp, .slice B' ys.length mcap] 55)) := up_alloc (Below.refl _ w) _
  have x0 := x.below hb0
  have t0 := hT.below hb0
  have y0 := hY.below (Below.down hb0 hB)
  have hl := x.bd.2
  cases hok : Ce.hasB S.bs.length a ys.length with
  | false =>
    rw [if_neg (by decide), if_neg (by decide)]
    have HW := Lib.hid (Ce.write_no q g S.bs.length a B' ys.length mcap _ x0.mem.cell hl (by obtain ⟨_, h⟩ := ha; omega) hok)
    have HX := Lib.hid x0
    have HT := Lib.hid t0
    have HB := Lib.hid hb0
    generalize ys.length = mm at *
    clear x hT hY hb0 x0 t0 y0 hok hl ha
    go_enter Tryd.func21, Tryd.ntmps21
    go_wp2_with fail
    refine HW.out.mono ?_
    rintro e w' ⟨rfl, rfl⟩
    clear HW
    go_wp2_with fail
    go_ret2
    exact ⟨⟨_, _, _, rfl, li_nil _, rfl⟩, HX.out, Fr.of HB.out, HT.out⟩
  | true =>
    obtain ⟨a0, _, a2⟩ := Ce.hasB_iff.1 hok
    obtain ⟨t, rfl⟩ := Int.eq_ofNat_of_zero_le a0
    rw [if_pos rfl, if_pos rfl]
    have HW := Lib.hid (Ce.write_yes q g S.bs ys t B' mcap _ x0.mem (by omega) (fun hp => by obtain ⟨b', o', e, _, hc⟩ := y0 hp; exact ⟨b', o', e, hc⟩))
    have HX := Lib.hid x0
    have HT := Lib.hid t0
    have HB := Lib.hid hb0
    have HL : Hid ((splice S.bs t ys).length = S.bs.length) := Ce.splice_length (by omega)
    have HP := Lib.hid x.pos
    have e : (t : Int).toNat = t := by omega
    rw [e]
    generalize ys.length = mm at *
    clear x hT hY hb0 x0 t0 y0 hok hl ha a0 a2 e
    go_enter Tryd.func21, Tryd.ntmps21
    go_wp2_with fail
    refine HW.out.mono ?_
    rintro e w' ⟨rfl, h1, h2⟩
    have H1 := Lib.hid h1
    have H2 := Lib.hid h2
    clear HW h1 h2
    go_wp2_with fail
    go_ret2
    exact ⟨⟨_, _, _, rfl, li_nil _, rfl⟩, HX.out.laid4 H1.out H2.out HL.out, (Fr.of HB.out).trans (Fr.grown H2.out), (Fr.grown (s := s) H2.out).tab HT.out HP.out.1 HP.out.2.2⟩
/-! ### Both -/
structure Two (w0 w : World) (s q g r m gm cap b c : Nat) (S1 S2 : SS) : Prop where
  sb : Sb w s q g S1.bs b c S1.h S1.f
  rf : Rf w r m gm cap S2.bs b c S2.h S2.f
  tb : Tb.Tab w
  bel : Below w0.heap.size w0 w
  ns : w0.heap.size ≤ s ∧ w0.heap.size ≤ q ∧ w0.heap.size ≤ g ∧ w0.heap.size ≤ r ∧ w0.heap.size ≤ m ∧ w0.heap.size ≤ gm
  ne : gm ≠ g
  one : 1 < w0.heap.size
theorem Two.below (h : Two w0 w s q g r m gm cap b c S1 S2) (hb : Below w.heap.size w w') : Two w0 w' s q g r m gm cap b c S1 S2 :=
  ⟨h.sb.below hb, h.rf.below hb, h.tb.below hb, up_trans h.bel hb, h.ns, h.ne, h.one⟩
/-- The program's slab has gone on. -/
theorem Two.prog (h : Two w0 w s q g r m gm cap b c S1 S2) (hs : Sb w' s q g S'.bs b c S'.h S'.f) (hf : Fr s g w w') : Two w0 w' s q g r m gm cap b c S' S2 := by
  obtain ⟨k1, k2, k3⟩ := h.sb.kinds
  obtain ⟨l1, l2, l3⟩ := h.rf.kinds
  obtain ⟨n1, n2, n3, n4, n5, n6⟩ := h.ns
  exact ⟨hs, h.rf.fr hf ⟨kne l1 k1 (by decide), kne l1 k3 (by decide)⟩ ⟨kne l2 k1 (by decide), kne l2 k3 (by decide)⟩ ⟨kne l3 k1 (by decide), h.ne⟩,
    hf.tab h.tb h.sb.pos.1 h.sb.pos.2.2, h.bel.trans (hf.below n1 n3 h.bel.size), h.ns, h.ne, h.one⟩
/-- The document's slab has gone on. -/
theorem Two.doc (h : Two w0 w s q g r m gm cap b c S1 S2) (hl : RLeft r m gm b c S' w w') : ∃ gm' cap', Two w0 w' s q g r m gm' cap' b c S1 S' ∧ ∀ A O, Li w A O → Li w' A O := by
  obtain ⟨gm', cap', i, j, h1, h2, h3, h4, h5⟩ := hl
  obtain ⟨k1, k2, k3⟩ := h.sb.kinds
  obtain ⟨l1, l2, l3⟩ := h.rf.kinds
  obtain ⟨p1, p2, p3⟩ := h.sb.lt
  obtain ⟨n1, n2, n3, n4, n5, n6⟩ := h.ns
  have hlt := h.tb.lt
  have hi : w0.heap.size ≤ i := by rcases h3 with rfl | rfl <;> assumption
  have hj : w0.heap.size ≤ j := by rcases h4 with rfl | rfl <;> assumption
  have e : ∀ z, z ≠ r → z ≠ m → z ≠ gm → z < w.heap.size → w'.heap[z]? = w.heap[z]? := fun z a1 a2 a3 hz => h2.block z hz (by rcases h3 with rfl | rfl <;> assumption) (by rcases h4 with rfl | rfl <;> assumption)
  have ki : kind w i ≠ 3 := by rcases h3 with rfl | rfl <;> simp [l1, l3]
  have kj : kind w j ≠ 3 := by rcases h4 with rfl | rfl <;> simp [l2, l3]
  have hsz := h.bel.size
  refine ⟨gm', cap', ⟨h.sb.of (e s (kne k1 l1 (by decide)) (kne k1 l2 (by decide)) (kne k1 l3 (by decide)) p1) (e q (kne k2 l1 (by decide)) (kne k2 l2 (by decide)) (kne k2 l3 (by decide)) p2) (e g (kne k3 l1 (by decide)) (kne k3 l2 (by decide)) h.ne.symm p3), h1, h2.tab h.tb (Nat.lt_of_lt_of_le h.one hi) (Nat.lt_of_lt_of_le h.one hj), h.bel.trans (h2.below hi hj hsz), ⟨n1, n2, n3, n4, n5, ?_⟩, ?_, h.one⟩, fun A O hA => hA.fr h2 rfl rfl ki kj⟩
  · rcases h5 with rfl | h5
    · exact n6
    · omega
  · rcases h5 with rfl | h5
    · exact h.ne
    · omega
/-- A list's head. -/
def hdN : List Nat → Nat
  | [] => 0
  | k :: _ => k + 1
theorem rt_hd {F : Nat → Option Nat} (hr : Rt F h f L) : h = hdN L ∧ f = L.length := by
  refine ⟨?_, hr.2.symm⟩
  cases L with
  | nil => exact hr.1
  | cons k L => exact hr.1.1
theorem ss_of {S : SS} {bs : List (BitVec 8)} (hb : S.bs = bs) (hr : Rt (nx S.bs b c) S.h S.f L) : S = ⟨bs, hdN L, L.length⟩ := by
  obtain ⟨x, y, z⟩ := S
  obtain ⟨e1, e2⟩ := rt_hd hr
  subst hb
  dsimp only at e1 e2
  rw [e1, e2]
theorem doO_len {X : Cl} (h : L.length ≤ 128) : (doO b c L X).length ≤ 128 := by
  unfold doO
  split
  · split <;> simp
  · split
    · rw [adr_len, List.length_take]; omega
    · simp
/-- Both answer a call, and come to one state. -/
theorem two_call (X : Cl) (I : Two w0 w s q g r m gm cap b c S S) (hX : In w0 X.A X.n X.cap X.xs) (hY : Ib w0 X.B X.m X.mcap X.ys) (hn : X.n ≤ 1048576) (hm : X.m ≤ 1048576) (hcp : X.n ≤ X.cap) (ha : I64 X.a) :
    ∃ E O S', O.length ≤ 128 ∧ Calls Tryd.prog 21 #[.pointer (some ⟨q, 0, none⟩), .pointer (some ⟨s, 0, none⟩), X.val] w (fun e w' => RAns E O e w' ∧ Two w0 w' s q g r m gm cap b c S' S) ∧
      ∀ V, Two w0 V s q g r m gm cap b c S' S → Calls Tryd.prog 22 #[.pointer (some ⟨r, 0, none⟩), X.val] V (fun e w' => RAns E O e w' ∧ ∃ gm' cap', Two w0 w' s q g r m gm' cap' b c S' S' ∧ ∀ A O, Li V A O → Li w' A O) := by
  have hXw := hX.down rfl I.bel
  by_cases h4 : X.x = 4
  · refine ⟨w4E S.bs.length X.a X.m, [], w4S S X.a X.m X.ys, by simp, ?_, fun V J => ?_⟩
    · exact (done_4 X I.sb I.tb (hY.1.below I.bel) I.bel.size hY.2.1 ha h4).mono fun e w' ⟨h1, h2, h3, _⟩ => ⟨h1, I.prog h2 h3⟩
    · exact (does_4 X J.rf (hY.1.below J.bel) ⟨J.ns.2.2.2.2.2, J.bel.size⟩ hY.2.1 hm ha h4).mono fun e w' ⟨h1, h2⟩ => ⟨h1, J.doc h2⟩
  · by_cases hr : ∃ L, Rt (nx S.bs b c) S.h S.f L
    · obtain ⟨L, hr⟩ := hr
      refine ⟨doE b c L X, doO b c L X, ⟨doB b c S L X, hdN (doL b c L X), (doL b c L X).length⟩, doO_len (by have := I.sb.hf; have := (cls c I.sb.hc).2.2.2.1; have := hr.2; omega), ?_, fun V J => ?_⟩
      · have ev : Ev w0 w s q g b c S L := ⟨I.sb, hr, ⟨I.ns.1, I.ns.2.1, I.ns.2.2.1⟩, I.bel, I.tb⟩
        refine (done_any X ev hXw ha hn h4).mono fun e w' h => ?_
        obtain ⟨⟨A, k, cp, h1, h2, h3⟩, S', e1, h4, h5⟩ := h
        rw [← ss_of e1 h4.rt]
        exact ⟨⟨A, k, cp, h1, h2, h3⟩, I.prog h4.sb h5⟩
      · refine (does_any (B := w0.heap.size) X J.rf hr (hX.1.below J.bel) ⟨J.ns.2.2.2.1, J.ns.2.2.2.2.1, J.bel.size⟩ hX.2.1 hn hcp h4).mono fun e w' h => ?_
        obtain ⟨h1, S', e1, h4, h5⟩ := h
        obtain ⟨gm', cap', j1, j2⟩ := J.doc h5
        have e2 := ss_of e1 h4
        rw [e2] at j1
        exact ⟨h1, gm', cap', j1, j2⟩
    · refine ⟨brE X.x, brO X.x, S, by unfold brO; split <;> simp, ?_, fun V J => ?_⟩
      · exact (done_no X I.sb I.tb hr hXw hn h4).mono fun e w' ⟨h1, h2⟩ => ⟨h1, I.below h2⟩
      · exact (does_no X J.rf hr h4).mono fun e w' ⟨h1, h2⟩ => ⟨h1, J.doc (.same J.rf h2)⟩
end
end Go.Proofs.YtaelfgdiboekpaaDoor.Ns

/-
  How both begin: contracts that the claimed proof uses.
-/
namespace Go.Proofs.YtaelfgdiboekpaaDoor.Ns
set_option maxRecDepth 100000
open Go.RowKit
open Ce (u y ldW Mem row)
open Bi (Blk Drawn hasB hasB_iff hasB_not up_alloc up_drew up_trans i64_in ret_i ret_b grown_refl grown_trans grown_below)

theorem own_row {w : World} {g : Nat} {bs : List (BitVec 8)} (h : Ce.Row w g bs) (hl : bs.length ≤ 1048576) : w.ownsRow 0 5 1 (.slice (some ⟨g, 0, none⟩) bs.length bs.length) bs.length (row bs) :=
  ⟨by simp [Ce.row], .inr ⟨g, bs.length, _, rfl, Nat.zero_le _, h, Nat.le_refl _, by simp only [maxLen]; omega, by simp [Ce.row], by simp [Ce.row]; exact List.take_of_length_le (by simp)⟩⟩
theorem rm_made (w : World) (n : Nat) (hn : n ≤ 1048576) : RM ((w.alloc (.cells (madeCells #[.int .u8 0] n) 5)).alloc (.cells #[.slice (some ⟨w.heap.size, 0, none⟩) n n] 47)) (w.heap.size + 1) w.heap.size n (List.replicate n 0#8) := by
  have hr := Ce.Row.made w n
  have hb : Below (w.alloc (.cells (madeCells #[.int .u8 0] n) 5)).heap.size (w.alloc (.cells (madeCells #[.int .u8 0] n) 5)) ((w.alloc (.cells (madeCells #[.int .u8 0] n) 5)).alloc (.cells #[.slice (some ⟨w.heap.size, 0, none⟩) n n] 47)) := up_alloc (Below.refl _ _) _
  have o := own_row (hr.of_block (hb.block _ hr.lt)) (by simp; exact hn)
  rw [List.length_replicate] at o
  refine ⟨?_, by rw [List.length_replicate]; exact o, by simp; exact hn⟩
  rw [List.length_replicate]
  have := heap_alloc_new (w.alloc (.cells (madeCells #[.int .u8 0] n) 5)) (.cells #[.slice (some ⟨w.heap.size, 0, none⟩) n n] 47)
  rw [World.size_alloc] at this
  exact this
theorem new_mem (n : Nat) (hn : n ≤ 1048576) (w : World) : Calls Tryd.prog 14 #[.int .i64 (n : Int)] w fun e w' => ∃ q g, e = .returned (.tuple #[.pointer (some ⟨q, 0, none⟩), .int .i64 0]) ∧ Mem w' q g (List.replicate n 0#8) ∧ Below w.heap.size w w' ∧ w.heap.size ≤ q ∧ w.heap.size ≤ g :=
  (Ce.new_yes n hn w).mono fun e w' ⟨h1, h2⟩ => by
    refine ⟨_, w.heap.size, h1, ?_, ?_, by omega, Nat.le_refl _⟩
    · rw [h2]; exact Ce.Mem.made w n hn
    · rw [h2]; exact up_alloc (up_alloc (Below.refl _ _) _) _
theorem with_both (x z : Int) (T : List Int) (bs : List (BitVec 8)) :
    (∃ E : Int, E ≠ 0 ∧ (∀ (V : World) (q g : Nat) (A : Option Addr) (n cp : Nat), Mem V q g bs → Tb.Tab V → (1 < q ∧ 1 < g) → At V.heap.size V A (ints T) → T.length = n → n ≤ 1048576 →
        Calls Tryd.prog 15 #[.pointer (some ⟨q, 0, none⟩), .int .i64 x, .int .i64 z, .slice A n cp] V fun e w' => e = .returned (.tuple #[.pointer none, .int .i64 E]) ∧ Below V.heap.size V w') ∧
      (∀ (V : World) (m gm cap : Nat) (A : Option Addr) (n cp B : Nat), RM V m gm cap bs → At B V A (ints T) → (B ≤ m ∧ B ≤ V.heap.size) → T.length = n → n ≤ 1048576 → n ≤ cp →
        Calls Tryd.prog 17 #[.pointer (some ⟨m, 0, none⟩), .int .i64 x, .int .i64 z, .slice A n cp] V fun e w' => e = .returned (.tuple #[.pointer none, .int .i64 E]) ∧ Below V.heap.size V w')) ∨
    (∃ b c S0, (∀ (V : World) (q g : Nat) (A : Option Addr) (n cp : Nat), Mem V q g bs → Tb.Tab V → (1 < q ∧ 1 < g) → At V.heap.size V A (ints T) → T.length = n → n ≤ 1048576 →
        Calls Tryd.prog 15 #[.pointer (some ⟨q, 0, none⟩), .int .i64 x, .int .i64 z, .slice A n cp] V (Begun q g b c S0 V)) ∧
      (∀ (V : World) (m gm cap : Nat) (A : Option Addr) (n cp B : Nat), RM V m gm cap bs → At B V A (ints T) → (B ≤ m ∧ B ≤ V.heap.size) → T.length = n → n ≤ 1048576 → n ≤ cp →
        Calls Tryd.prog 17 #[.pointer (some ⟨m, 0, none⟩), .int .i64 x, .int .i64 z, .slice A n cp] V (RBegun m gm b c S0 V))) := by
  cases h : (isB bs.length x && clsB z) with
  | false =>
    left
    refine ⟨11, by decide, fun V q g A n cp hm hT _ _ _ _ => ?_, fun V m gm cap A n cp B hm _ _ _ _ _ => rwith_range x z _ hm h⟩
    exact (with_range x z _ hm hT h).mono fun e w' ⟨h1, h2⟩ => ⟨h1, by rw [← h2]; exact Below.refl _ _⟩
  | true =>
    rw [Bool.and_eq_true] at h
    obtain ⟨hb, hc⟩ := h
    obtain ⟨b, rfl⟩ := Int.eq_ofNat_of_zero_le (isB_iff.1 hb).1
    obtain ⟨hc0, hc1⟩ := clsB_iff.1 hc
    obtain ⟨c, rfl⟩ := Int.eq_ofNat_of_zero_le hc0
    have hc2 : c < 12 := by omega
    cases ht : tkOk (nS c) [] T with
    | none =>
      left
      refine ⟨10, by decide, fun V q g A n cp hm hT hp hA hn hn2 => ?_, fun V m gm cap A n cp B hm hA hB hn hn2 hcp => ?_⟩
      · refine (with_head (cap := cp) hm hT hc2 hb hp hA hn hn2).mono fun e w' h => ?_
        rcases h with ⟨_, h1, h2⟩ | ⟨xs, h1, _⟩
        · exact ⟨h1, h2⟩
        · rw [ht] at h1; cases h1
      · refine (rwith_head hm hc2 hb hA hB hn hn2 hcp).mono fun e w' h => ?_
        rcases h with ⟨_, h1, h2⟩ | ⟨xs, h1, _⟩
        · exact ⟨h1, h2⟩
        · rw [ht] at h1; cases h1
    | some xs =>
      right
      refine ⟨b, c, bl b c xs (nS c) ⟨bs, 0, 0⟩, fun V q g A n cp hm hT hp hA hn hn2 => ?_, fun V m gm cap A n cp B hm hA hB hn hn2 hcp => ?_⟩
      · refine (with_head (cap := cp) hm hT hc2 hb hp hA hn hn2).mono fun e w' h => ?_
        rcases h with ⟨h0, _⟩ | ⟨ys, h1, h2⟩
        · rw [ht] at h0; cases h0
        · rw [ht] at h1; cases h1; exact h2
      · refine (rwith_head hm hc2 hb hA hB hn hn2 hcp).mono fun e w' h => ?_
        rcases h with ⟨h0, _⟩ | ⟨ys, h1, h2⟩
        · rw [ht] at h0; cases h0
        · rw [ht] at h1; cases h1; exact h2
end Go.Proofs.YtaelfgdiboekpaaDoor.Ns

/-
  Whether a region's operations can be taken in the text's order, reckoned in one pass: a lemma that the claimed proof uses.
-/
namespace Go.Proofs.YtaelfgdiboekpaaDoor.Ns
set_option maxRecDepth 100000
open Go.RowKit

/-- Each operation's edges come from before it, and it stands apart from all that come after it and don't wait for it. -/
def lexFast (ops : Array Oper) : List Oper → Nat → Bool
  | [], _ => true
  | o :: l, k => (o.after.toList.all fun e => !Region.binds .any e || Nat.blt e.on k) && l.all (fun oj => oj.after.toList.any (fun e => Region.binds .any e && Nat.beq e.on k) || o.apart ops oj) && lexFast ops l (k + 1)
theorem lexFrom_of (ops : Array Oper) : ∀ (l : List Oper) (k : Nat) (listed : Array Bool), listed.size = ops.size → (∀ j, j < ops.size → listed[j]? = some (decide (j < k))) → (∀ j, l[j]? = ops[k + j]?) → k + l.length = ops.size → lexFast ops l k = true →
    Region.lexFrom .any ops l.length k listed = true
  | [], k, listed, hs, hl, _, hk, _ => by
    show (Region.ready .any ops listed).isEmpty = true
    rw [List.isEmpty_iff]
    unfold Region.ready
    rw [List.filter_eq_nil_iff]
    intro i hi
    have hi := List.mem_range.1 hi
    have h1 := hl i hi
    have hk' : k = ops.size := by simpa using hk
    rw [Array.getD_eq_getD_getElem?, h1]
    simp; omega
  | o :: l, k, listed, hs, hl, hops, hk, hf => by
    have h0 : ops[k]? = some o := by simpa using (hops 0).symm
    have hkn : k < ops.size := by simp only [List.length_cons] at hk; omega
    unfold lexFast at hf
    simp only [Bool.and_eq_true, List.all_eq_true] at hf
    obtain ⟨⟨f1, f2⟩, f3⟩ := hf
    show (((Region.ready .any ops listed).contains k && Region.free .any ops listed k) && Region.lexFrom .any ops l.length (k + 1) (listed.setIfInBounds k true)) = true
    rw [Bool.and_eq_true, Bool.and_eq_true]
    refine ⟨⟨?_, ?_⟩, ?_⟩
    · rw [List.contains_iff_mem]
      unfold Region.ready
      rw [List.mem_filter]
      refine ⟨List.mem_range.2 hkn, ?_⟩
      rw [Array.getD_eq_getD_getElem?, hl k hkn, h0]
      simp only [Option.getD_some, Nat.lt_irrefl, decide_false, Bool.not_false, Bool.true_and, Option.map_some, Array.all_eq_true_iff_forall_mem]
      intro e he
      have := f1 e (by simpa using he)
      rw [Bool.or_eq_true] at this ⊢
      rcases this with h | h
      · exact .inl h
      · right
        have h2 : e.on < k := by simpa [Nat.blt_eq] using h
        rw [Array.getD_eq_getD_getElem?, hl e.on (by omega)]
        simpa using h2
    · unfold Region.free
      rw [h0]
      simp only [List.all_eq_true]
      intro j hj
      have hj := List.mem_range.1 hj
      rw [Bool.or_eq_true, Bool.or_eq_true]
      rw [Array.getD_eq_getD_getElem?, hl j hj]
      rcases Nat.lt_trichotomy j k with h | h | h
      · left; right; simpa using h
      · left; left; simpa using h
      · right
        have h1 := hops (j - k)
        rw [show k + (j - k) = j by omega] at h1
        obtain ⟨i, hi⟩ : ∃ i, j - k = i + 1 := ⟨j - k - 1, by omega⟩
        rw [hi, List.getElem?_cons_succ] at h1
        cases hoj : ops[j]? with
        | none => rfl
        | some oj =>
          rw [hoj] at h1
          have := f2 oj (List.mem_of_getElem? h1)
          rw [Bool.or_eq_true] at this ⊢
          rcases this with h2 | h2
          · left
            rw [List.any_eq_true] at h2
            obtain ⟨e, he, h3⟩ := h2
            rw [Array.any_eq_true']
            rw [Bool.and_eq_true] at h3
            exact ⟨e, by simpa using he, by rw [Bool.and_eq_true]; exact ⟨h3.1, by simpa [Nat.beq_eq] using h3.2⟩⟩
          · exact .inr h2
    · refine lexFrom_of ops l (k + 1) _ (by simpa using hs) (fun j hj => ?_) (fun j => ?_) (by simp only [List.length_cons] at hk; omega) f3
      · rw [Array.getElem?_setIfInBounds]
        by_cases e : k = j
        · subst e
          rw [if_pos rfl, if_pos (by omega)]; simp
        · rw [if_neg e, hl j hj]
          congr 1
          rw [decide_eq_decide]; omega
      · have := hops (j + 1)
        rw [List.getElem?_cons_succ] at this
        rw [this]; congr 1; omega
theorem lexB_of {l : List Oper} (h1 : Region.noSelect l.toArray = true) (h2 : lexFast l.toArray l 0 = true) : Region.lexB .any l.toArray = true := by
  unfold Region.lexB
  rw [Bool.and_eq_true]
  refine ⟨h1, ?_⟩
  have := lexFrom_of l.toArray l 0 (Array.replicate l.toArray.size false) (by simp) (fun j hj => by rw [Array.getElem?_replicate, if_pos hj]; simp) (fun j => by simp) (by simp) h2
  simpa using this
end Go.Proofs.YtaelfgdiboekpaaDoor.Ns
