/-
  What New, Some, Take and On do: contracts that the claimed proofs use.
-/
import Derived.Test.YtaelfgdiboekpaaDoorNsWith2
namespace Go.Proofs.YtaelfgdiboekpaaDoor.Ns
set_option maxRecDepth 100000
open Go.RowKit
open Ce (u ldW Mem)
open Bi (Blk Drawn hasB hasB_iff hasB_not up_alloc up_drew up_trans i64_in ret_i ret_b grown_refl grown_trans grown_below)

section
variable {w w' W : World} {s q g b c h f : Nat} {bs : List (BitVec 8)} {L : List Nat}
theorem new_yes (hm : Mem w q g bs) (hT : Tb.Tab w) (hc : c < 12) (hb : isB bs.length (b : Int) = true) (hp : 1 < q ∧ 1 < g) :
    Calls Tryd.prog 47 #[.pointer (some ⟨q, 0, none⟩), .int .i64 (b : Int), .int .i64 (c : Int)] w (Begun q g b c (bl b c [] (nS c) ⟨bs, 0, 0⟩) w) := by
  have HW := Lib.hid ((with_head (A := none) (T := []) (cap := 0) (n := 0) hm hT hc hb hp (fun hp => absurd hp (by simp [ints])) rfl (by omega)).mono (fun e w' h => show Begun q g b c (bl b c [] (nS c) ⟨bs, 0, 0⟩) w e w' from by
    rcases h with ⟨h, _⟩ | ⟨xs, h, hb⟩
    · cases h
    · cases h; exact hb))
  generalize bl b c [] (nS c) ⟨bs, 0, 0⟩ = S at *
  clear hm hT hc hb hp
  go_enter Tryd.func47, Tryd.ntmps47
  go_wp2_with fail
  refine HW.out.mono ?_
  rintro e w1 ⟨s, rfl, h1, h2, h3, h4⟩
  have H1 := Lib.hid h1
  have H3 := Lib.hid h3
  have H4 := Lib.hid h4
  have H2 := Lib.hid h2
  clear h1 h2 h3 h4 HW
  go_wp2_with fail
  go_ret2
  exact ⟨s, rfl, H1.out, H2.out, H3.out, H4.out⟩

/-! ### Some -/
/-- How many slots Some takes; their addresses. -/
def smM (f : Nat) (n : Int) : Nat := min n.toNat f
def adr (b c : Nat) (L : List Nat) : List Int := L.map fun k => ((b + k * zN c : Nat) : Int)
theorem adr_len (b c : Nat) (L : List Nat) : (adr b c L).length = L.length := by simp [adr]
/-- The list behind its first slots. -/
theorem Rt.step {F : Nat → Option Nat} {k : Nat} (hr : Rt F h f (k :: L)) : ∃ h1, h = k + 1 ∧ F k = some h1 ∧ f = L.length + 1 ∧ Rt F h1 L.length L := by
  obtain ⟨⟨e, h1, h2, h3⟩, h4⟩ := hr
  exact ⟨h1, e, h2, by rw [← h4]; rfl, h3, rfl⟩
theorem Rt.link {N : Nat} {F : Nat → Option Nat} (hr : Rt F h f L) (hN : ∀ k ∈ L, k < N) : h ≤ N := by
  cases L with
  | nil => have := hr.1; have e : h = 0 := this; omega
  | cons k L => have e := hr.1.1; have := hN k (by simp); omega
theorem some_no (n : Int) (m : Sb w s q g bs b c h f) (hT : Tb.Tab w) (hr : ¬ ∃ L, Rt (nx bs b c) h f L) : Calls Tryd.prog 37 #[.pointer (some ⟨s, 0, none⟩), .int .i64 n] w fun e w' => e = .returned (.tuple #[.slice none 0 0, .int .i64 10]) ∧ Below w.heap.size w w' := by
  have HC := Lib.hid (check_no m hT hr)
  clear m hT hr
  go_enter Tryd.func37, Tryd.ntmps37
  go_wp2_with fail
  refine HC.out.mono ?_
  rintro e w1 ⟨rfl, h1⟩
  have H1 := Lib.hid h1
  clear h1 HC
  go_wp2_with fail
  go_ret2
  exact ⟨rfl, H1.out⟩
/-- A slab, the tables and a frame while a list of numbers grows. -/
theorem stay_own {B n : Nat} {v : Value} {xs : List Value} (m : Sb W s q g bs b c h f) (hg : W.grownBy w' v.ownBlock) (ho : W.ownsRow B 3 1 v n xs) : Sb w' s q g bs b c h f := by
  obtain ⟨k1, k2, k3⟩ := m.kinds
  obtain ⟨l1, l2, l3⟩ := m.lt
  exact m.of (grown_keep hg ho l1 (by rw [k1]; decide)) (grown_keep hg ho l2 (by rw [k2]; decide)) (grown_keep hg ho l3 (by rw [k3]; decide))
theorem own_kind {B n : Nat} {v : Value} {xs : List Value} (ho : W.ownsRow B 3 1 v n xs) : ∀ j, v.ownBlock = some j → kind W j = 3 ∧ B ≤ j := fun j e => by
  obtain ⟨cur, hc⟩ := own_cells ho e
  exact ⟨kind_of hc, (ho.lt j e).1⟩
theorem tab_own {r : Option Nat} (hT : Tb.Tab W) (hg : W.grownBy w' r) (hr : ∀ j, r = some j → 1 < j) : Tb.Tab w' := by
  have hl := hT.lt
  obtain ⟨⟨t, fr, e⟩, t2, fr2, e2⟩ := hT
  exact ⟨⟨t, fr, (hg.block 0 (by omega) (fun e => by have := hr 0 e.symm; omega)).trans e⟩, t2, fr2, (hg.block 1 hl (fun e => by have := hr 1 e.symm; omega)).trans e2⟩
theorem fr_own {r : Option Nat} {o : Obj} {i j : Nat} (hf : Fr i j w W) (hg : (W.alloc o).grownBy w' r) (hr : ∀ j, r = some j → w.heap.size ≤ j) : Fr i j w w' :=
  ⟨hg.os.trans hf.os, hg.tape.trans hf.tape, hg.output.trans hf.output, by have := hg.size; rw [World.size_alloc] at this; have := hf.size; omega, fun x hx h1 h2 => by
    have hsz := hf.size
    rw [hg.block x (by rw [World.size_alloc]; omega) (fun e => by have := hr x e.symm; omega), ← hf.block x hx h1 h2]
    exact Below.heap_alloc _ _ _ (by omega)⟩
/-- The slab has gone on to another place in its list, which is right. -/
def Took (s q g b c : Nat) (bs : List (BitVec 8)) (L : List Nat) (w w' : World) : Prop := ∃ h', Rt (nx bs b c) h' L.length L ∧ Sb w' s q g bs b c h' L.length ∧ Fr s s w w' ∧ Tb.Tab w'
set_option maxHeartbeats 4000000 in
theorem some_yes (n : Int) (m : Sb w s q g bs b c h f) (hT : Tb.Tab w) (hr : Rt (nx bs b c) h f L) : Calls Tryd.prog 37 #[.pointer (some ⟨s, 0, none⟩), .int .i64 n] w fun e w' =>
    (∃ A cap, e = .returned (.tuple #[.slice A (smM f n) cap, .int .i64 0]) ∧ Li w' A (adr b c (L.take (smM f n)))) ∧ Took s q g b c bs (L.drop (smM f n)) w w' := by
  have HC := Lib.hid (check_yes m hT hr)
  have HM := Lib.hid m
  have HT := Lib.hid hT
  have h128 : f ≤ 128 ∧ f ≤ nS c := ⟨by have := m.hf; have := (cls c m.hc).2.2.2.1; omega, m.hf⟩
  have HIn : Hid (∀ k ∈ L, k < nS c) := hr.in_
  have HR := Lib.hid hr
  obtain ⟨M, hM⟩ : ∃ M, smM f n = M := ⟨_, rfl⟩
  rw [hM]
  have hMf : M ≤ f := by rw [← hM]; exact Nat.min_le_right _ _
  obtain ⟨F, hF⟩ : ∃ F : Int, (f : Int) = F := ⟨_, rfl⟩
  obtain ⟨X, hX, hXM⟩ : ∃ X : Int, ((n ≤ F ∧ X = n) ∨ (¬ n ≤ F ∧ X = F)) ∧ ∀ k : Nat, decide ((k : Int) < X) = decide (k < M) := by
    by_cases h : n ≤ F
    · exact ⟨n, .inl ⟨h, rfl⟩, fun k => by rw [decide_eq_decide, ← hM]; unfold smM; omega⟩
    · exact ⟨F, .inr ⟨h, rfl⟩, fun k => by rw [decide_eq_decide, ← hM]; unfold smM; omega⟩
  have HXM := Lib.hid hXM
  have HFF := Lib.hid hF
  clear m hT hr hM hXM hF
  rcases hX with ⟨hX, rfl⟩ | ⟨hX, rfl⟩
  all_goals
    go_enter Tryd.func37, Tryd.ntmps37
    go_wp2_with fail
    refine HC.out.mono ?_
    rintro e w1 ⟨rfl, b1⟩
    have B1 := Lib.hid b1
    have M1 := Lib.hid (HM.out.below b1)
    have r4 := M1.out.c4
    rw [HFF.out] at r4
    clear b1 HC
    go_wp2_with fail
    go_loopw [7, 21] (fun v i wr => ∃ (k h' : Nat) (As : List Nat) (Bs : List Nat), k ≤ M ∧ i = .int .i64 (k : Int) ∧ L = As ++ Bs ∧ As.length = k ∧ wr.ownsRow w.heap.size 3 1 v k (ints (adr b c As)) ∧ Rt (nx bs b c) h' Bs.length Bs ∧ Sb wr s q g bs b c h' Bs.length ∧ Fr s s w wr ∧ Tb.Tab wr) (fun _ i _ => M - (intOf i).toNat)
    case atStart => exact ⟨0, h, [], L, by omega, rfl, rfl, rfl, World.ownsRow_nil _ _ _ _, by rw [HR.out.2]; exact HR.out, by rw [HR.out.2]; exact M1.out, Fr.of B1.out, HT.out.below B1.out⟩
    case round =>
      obtain ⟨k, h', As, Bs, hk, rfl, hL, hAl, ho, hrt, hm, hfr, ht⟩ := hrel
      obtain ⟨A0, n0, rfl⟩ := own_form ho
      have HO := Lib.hid ho
      have HL := Lib.hid hL
      have HAl := Lib.hid hAl
      have HRt := Lib.hid hrt
      have HMr := Lib.hid hm
      have HFr := Lib.hid hfr
      have HTr := Lib.hid ht
      have hd := HXM.out k
      clear ho hL hAl hrt hm hfr ht
      by_cases hlt : k < M
      · have HD1 := hd.trans (show decide (k < M) = true by simpa using hlt)
        clear hd
        cases Bs with
        | nil =>
          exfalso
          have h1 := congrArg List.length HL.out
          have h2 := HR.out.2
          rw [List.append_nil, HAl.out] at h1
          omega
        | cons y Bs =>
          obtain ⟨h1, e1, e2, e3, e4⟩ := HRt.out.step
          subst e1
          have hy : y < nS c := HIn.out y (by rw [HL.out]; simp)
          have r3 := HMr.out.c3
          have ey : ((y + 1 : Nat) : Int) - 1 = (y : Int) := by omega
          rw [ey] at r3
          have HA := Lib.hid (address_yes y HMr.out HTr.out hy)
          have HNx : Hid (∀ V : World, Sb V s q g bs b c (y + 1) (y :: Bs).length → Tb.Tab V → Calls Tryd.prog 81 #[.pointer (some ⟨s, 0, none⟩), .int .i64 (y : Int)] V fun e w' => e = .returned (.tuple #[.int .i64 ((h1 : Int) - 1), .bool true]) ∧ Below V.heap.size V w') := fun V m1 m2 => (next_yes y m1 m2 hy).mono fun e w' h => by
            obtain ⟨⟨v, he, hv⟩, hb⟩ := h
            rw [e2] at he hv
            rw [hv h1 rfl] at he
            exact ⟨he, hb⟩
          have HE4 := Lib.hid e4
          have HNl : Hid (h1 ≤ nS c) := e4.link (fun x hx => HIn.out x (by rw [HL.out]; simp [hx]))
          obtain ⟨ad, had⟩ : ∃ ad, b + y * zN c = ad := ⟨_, rfl⟩
          have HAd := Lib.hid had
          rw [had] at HA
          have HAll : Hid (∀ V : World, Sb V s q g bs b c (y + 1) (y :: Bs).length → Sb V s q g bs b c (y + 1) (Bs.length + 1)) := fun V x => x
          have r4 := HMr.out.c4
          have hf4 := HMr.out.hf
          have hl4 : (y :: Bs).length = Bs.length + 1 := rfl
          rw [hl4] at r4 hf4
          have HR4 : Hid (Bs.length + 1 ≤ nS c) := hf4
          obtain ⟨r, hrl⟩ : ∃ r, Bs.length = r := ⟨_, rfl⟩
          rw [hrl] at r4 hf4
          have HRL := Lib.hid hrl
          have wB : IntKind.i64.wrap (((r + 1 : Nat) : Int) - 1) = (r : Int) := by
            have : (((r + 1 : Nat) : Int) - 1) = (r : Int) := by omega
            rw [this, IntKind.wrap_i64]
            have := (cls c HMr.out.hc).2.2.2.1
            omega
          obtain ⟨R1, hR1⟩ : ∃ R1 : Int, ((r + 1 : Nat) : Int) = R1 := ⟨_, rfl⟩
          rw [hR1] at r4 wB
          have HR1 := Lib.hid hR1
          clear e2 e3 e4 ey hl4 hrl hf4 hR1
          go_wp2_with fail
          refine HA.out.mono ?_
          rintro e w2 ⟨rfl, d2⟩
          have O2 := Lib.hid (own_below HO.out d2.below)
          have M2 := Lib.hid (HMr.out.below d2.below)
          have T2 := Lib.hid (HTr.out.below d2.below)
          have F2 := Lib.hid (HFr.out.trans (Fr.of d2.below))
          have hsz := F2.out.size
          have hol : k ≤ 1048576 := by have := h128.1; omega
          clear d2 HA HO HMr HTr HFr r3 r4
          go_wp2_with (at_builtin; refine app_law el3 rfl _ _ rfl rfl (own_below O2.out (up_alloc (Below.refl _ _) _)) rfl (show (w2.alloc (.cells #[.int .i64 (ad : Int)] 3)).heap[w2.heap.size]? = some (.cells [Value.int .i64 (ad : Int)].toArray 3 (0, 0)) from heap_alloc_new w2 _) rfl (by simp [Value.oneCell']) hol (by rw [World.size_alloc]; omega) ?_; intro g' cap' wa hoa hga hgw; have hga2 : Hid ((w2.alloc (.cells #[.int .i64 (ad : Int)] 3)).grownBy wa (Value.slice A0 k n0).ownBlock) := hga; have M3 : Hid (Sb wa s q g bs b c (y + 1) (y :: Bs).length) := stay_own (M2.out.below (up_alloc (Below.refl _ _) _)) hga2.out (own_below O2.out (up_alloc (Below.refl _ _) _)); have r3 : wa.cell? ⟨s, 3, none⟩ = some (.int .i64 (y : Int)) := (by have := M3.out.c3; rwa [show ((y + 1 : Nat) : Int) - 1 = (y : Int) by omega] at this); have T3 : Hid (Tb.Tab wa) := tab_own (T2.out.below (up_alloc (Below.refl _ _) _)) hga2.out (fun j e => by have := (O2.out.lt j e).1; have := HT.out.lt; omega); have F3 : Hid (Fr s s w wa) := fr_own F2.out hga2.out (fun j e => (O2.out.lt j e).1); clear hga hgw hga2 O2 F2 M2 T2)
          refine (HNx.out _ M3.out T3.out).mono ?_
          rintro e w4 ⟨rfl, b4⟩
          have M4 := Lib.hid (M3.out.below b4)
          have T4 := Lib.hid (T3.out.below b4)
          have F4 := Lib.hid (F3.out.trans (Fr.of b4))
          have O4 := Lib.hid (own_below hoa.out b4)
          have r4 := M4.out.c4
          rw [show (((y :: Bs).length : Nat) : Int) = R1 by rw [← HR1.out, ← HRL.out]; rfl] at r4
          have f3 := M4.out.blk.frozen 3
          have f4 := M4.out.blk.frozen 4
          have r3' := M4.out.c3
          clear b4 hoa M3 T3 F3 r3 HNx
          go_wp2_with fail
          go_roundw
          case rel =>
            have hs := M4.out.pos
            refine ⟨k + 1, h1, As ++ [y], Bs, by omega, by go_num, by rw [HL.out]; simp, by simp [HAl.out], ?_, HE4.out, ?_, (F4.out.trans (Fr.grown1 (Bi.grown_set (grown_refl _ _)))).trans (Fr.grown1 (Bi.grown_set (grown_refl _ _))), ?_⟩
            · have e : adr b c (As ++ [y]) = adr b c As ++ [(ad : Int)] := by
                unfold adr
                rw [List.map_append]
                show _ ++ [((b + y * zN c : Nat) : Int)] = _
                rw [HAd.out]
              rw [e, ints_snoc]
              refine own_of O4.out fun j ej => ?_
              obtain ⟨cur, hc⟩ := own_cells O4.out ej
              have hjs : j ≠ s := kne (kind_of hc) M4.out.kinds.1 (by decide)
              exact (Below.heap_setCell _ _ _ _ hjs).trans (Below.heap_setCell _ _ _ _ hjs)
            · rw [HRL.out]
              exact M4.out.turned (h' := h1) (f' := r) HNl.out (by have := HR4.out; rw [HRL.out] at this; omega)
            · exact ((F4.out.trans (Fr.grown1 (Bi.grown_set (grown_refl _ _)))).trans (Fr.grown1 (Bi.grown_set (grown_refl _ _)))).tab HT.out hs.1 hs.1
          case measure => simp [intOf]; omega
      · obtain rfl : k = M := by omega
        have HD1 := hd.trans (show decide (k < k) = false by simp)
        have HA := Lib.hid (own_li HO.out)
        have HE : Hid (L.take k = As ∧ L.drop k = Bs) := by
          rw [HL.out, ← HAl.out]
          exact ⟨List.take_left, List.drop_left⟩
        clear hd
        go_wp2
        go_ret2
        obtain ⟨e1, e2⟩ := HE.out
        exact ⟨⟨A0, n0, rfl, by rw [e1]; exact HA.out⟩, by rw [e2]; exact ⟨h', HRt.out, HMr.out, HFr.out, HTr.out⟩⟩
/-! ### Take -/
theorem take_no (m : Sb w s q g bs b c h f) (hT : Tb.Tab w) (hr : ¬ ∃ L, Rt (nx bs b c) h f L) : Calls Tryd.prog 35 #[.pointer (some ⟨s, 0, none⟩)] w fun e w' => e = .returned (.tuple #[.int .i64 (-1), .int .i64 10]) ∧ Below w.heap.size w w' := by
  have HC := Lib.hid (some_no 1 m hT hr)
  clear m hT hr
  go_enter Tryd.func35, Tryd.ntmps35
  go_wp2_with fail
  refine HC.out.mono ?_
  rintro e w1 ⟨rfl, h1⟩
  have H1 := Lib.hid h1
  clear h1 HC
  go_wp2_with fail
  go_ret2
  exact ⟨rfl, H1.out⟩
/-- What Take answers, and what is left. -/
def tkV (b c : Nat) : List Nat → Value
  | [] => .tuple #[.int .i64 (-1), .int .i64 18]
  | k :: _ => .tuple #[.int .i64 ((b + k * zN c : Nat) : Int), .int .i64 0]
theorem take_yes (m : Sb w s q g bs b c h f) (hT : Tb.Tab w) (hr : Rt (nx bs b c) h f L) : Calls Tryd.prog 35 #[.pointer (some ⟨s, 0, none⟩)] w fun e w' => e = .returned (tkV b c L) ∧ Took s q g b c bs (L.drop 1) w w' := by
  have HC := Lib.hid (some_yes 1 m hT hr)
  have hl := hr.2
  clear m hT hr
  cases L with
  | nil =>
    have hf : f = 0 := hl.symm
    rw [show smM f 1 = 0 by rw [hf]; rfl] at HC
    clear hl hf
    go_enter Tryd.func35, Tryd.ntmps35
    go_wp2_with fail
    refine HC.out.mono ?_
    rintro e w1 ⟨⟨A, cap, rfl, -⟩, h1⟩
    have H1 := Lib.hid h1
    clear h1 HC
    go_wp2_with fail
    go_ret2
    exact ⟨rfl, H1.out⟩
  | cons k L =>
    have hf : f = L.length + 1 := hl.symm
    rw [show smM f 1 = 1 by rw [hf]; unfold smM; show min 1 (L.length + 1) = 1; omega] at HC
    have e : List.take 1 (k :: L) = [k] := rfl
    rw [e] at HC
    obtain ⟨y, hy⟩ : ∃ y, b + k * zN c = y := ⟨_, rfl⟩
    have ea : adr b c [k] = [(y : Int)] := by rw [← hy]; rfl
    rw [ea] at HC
    have et : tkV b c (k :: L) = .tuple #[.int .i64 (y : Int), .int .i64 0] := by rw [← hy]; rfl
    rw [et]
    clear hl hf e ea hy et
    go_enter Tryd.func35, Tryd.ntmps35
    go_wp2_with fail
    refine HC.out.mono ?_
    rintro e w1 ⟨⟨A, cap, rfl, hA⟩, h1⟩
    have H1 := Lib.hid h1
    obtain ⟨b', o', rfl, q0⟩ := hA.int (t := 0) (by simp)
    rw [Nat.add_zero] at q0
    have q1 : w1.cell? ⟨b', o', none⟩ = some (.int .i64 (y : Int)) := q0
    clear h1 HC hA q0
    go_wp2_with fail
    go_ret2
    exact ⟨rfl, H1.out⟩
/-! ### On -/
theorem on_any {q' g' : Nat} {bs' : List (BitVec 8)} (m : Sb w s q g bs b c h f) (hm : Mem w q' g' bs') (hfit : b + 1024 ≤ bs'.length) (hp : 1 < q' ∧ 1 < g') : Calls Tryd.prog 36 #[.pointer (some ⟨s, 0, none⟩), .pointer (some ⟨q', 0, none⟩)] w fun e w' =>
    ∃ s', e = .returned (.pointer (some ⟨s', 0, none⟩)) ∧ Sb w' s' q' g' bs' b c h f ∧ w.heap.size ≤ s' ∧ Below w.heap.size w w' := by
  have c0 := m.c0
  have c1 := m.c1
  have c2 := m.c2
  have c3 := m.c3
  have c4 := m.c4
  have HM := Lib.hid m
  have HM2 := Lib.hid hm
  have HX := Lib.hid hfit
  have HP := Lib.hid hp
  have hlt := m.lt.1
  clear m hm hfit hp
  obtain ⟨hh, ehh⟩ : ∃ hh, (h : Int) - 1 = hh := ⟨_, rfl⟩
  have HH := Lib.hid ehh
  rw [ehh] at c3
  clear ehh
  go_enter Tryd.func36, Tryd.ntmps36
  go_wp2_with fail
  go_ret
  have hb : Below w.heap.size w (w.alloc (.cells #[.pointer (some ⟨q', 0, none⟩), .int .i64 (b : Int), .int .i64 (c : Int), .int .i64 hh, .int .i64 (f : Int)] 102)) := up_alloc (Below.refl _ w) _
  refine ⟨w.heap.size, rfl, ⟨?_, HM2.out.below hb, HM.out.hc, HM.out.hb, HX.out, HM.out.hh, HM.out.hf, by have := HM.out.pos; omega, HP.out⟩, Nat.le_refl _, hb⟩
  rw [HH.out]
  exact heap_alloc_new w _
end
end Go.Proofs.YtaelfgdiboekpaaDoor.Ns
