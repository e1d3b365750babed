/-
  What the document's Place, Take and Give do: contracts that the claimed proofs use.
-/
import Derived.Test.YtjnknnakllbaaaaGreatSpRefRuns
namespace Go.Proofs.YtjnknnakllbaaaaGreat.Sp
set_option maxRecDepth 100000
open Go.RowKit

/-- What Place has found among the first runs. -/
def Plc (n a : Int) (L : List Rn) (k : Nat) (b l : Int) : Prop := (bst n a L k = -1 ∧ b = -1 ∧ l = 0) ∨ ∃ K : Nat, bst n a L k = K ∧ K < k ∧ b = up (el L K).p a ∧ l = (el L K).n
def plv (n a : Int) (L : List Rn) : Int := if bst n a L L.length = -1 then -1 else up (el L (bst n a L L.length).toNat).p a
theorem Plc.end {n a b l : Int} {L : List Rn} (h : Plc n a L L.length b l) : b = plv n a L := by
  unfold plv
  rcases h with ⟨h1, h2, _⟩ | ⟨K, h1, _, h2, _⟩
  · rw [if_pos h1]; exact h2
  · rw [h1, if_neg (by omega), Int.toNat_natCast]; exact h2
theorem Plc.keep {n a b l : Int} {L : List Rn} {k : Nat} (h : Plc n a L k b l) (he : bst n a L (k + 1) = bst n a L k) : Plc n a L (k + 1) b l := by
  rcases h with ⟨h1, h2, h3⟩ | ⟨K, h1, h2, h3, h4⟩
  · exact .inl ⟨by rw [he, h1], h2, h3⟩
  · exact .inr ⟨K, by rw [he, h1], by omega, h3, h4⟩
set_option maxHeartbeats 4000000 in
theorem place_any {w : World} {q g N : Nat} {n a : Int} {L : List Rn} (h : Rs w q g N L) (hw : WF (N : Int) L) (hN : N ≤ 4096) (hpw : powB a = true) (ha : a ≤ 4096) :
    Calls Tryz.prog 60 #[.pointer (some ⟨q, 0, none⟩), .int .i64 n, .int .i64 a] w fun e w' => e = .returned (.int .i64 (plv n a L)) ∧ Below w.heap.size w w' := by
  have HRU := Lib.hid (rruns_any h hw hN)
  have HW := Lib.hid hw
  have ha1 := (powB_bd hpw).1
  have hlen : L.length ≤ 4096 := by have := hw.len; omega
  clear h hw hpw
  go_enter Tryz.func60, Tryz.ntmps60
  go_wp2_with fail
  refine HRU.out.mono ?_
  rintro e w1 ⟨gl, cap, rfl, rt, _, b1⟩
  obtain ⟨M, hM⟩ : ∃ M, L.length = M := ⟨_, rfl⟩
  have HM := Lib.hid hM
  have HRT := Lib.hid rt
  have HB := Lib.hid b1
  rw [hM] at hlen ⊢
  clear hM rt b1 HRU
  go_wp2_with fail
  go_loopw [7, 8, 10] (fun b l i wr => ∃ (k : Nat) (b' l' : Int), k ≤ M ∧ i = .int .i64 k ∧ b = .int .i64 b' ∧ l = .int .i64 l' ∧ Plc n a L k b' l' ∧ Drawn w1 wr) (fun _ _ i _ => M - (intOf i).toNat)
  case atStart => exact ⟨0, -1, 0, by omega, rfl, rfl, rfl, .inl ⟨rfl, rfl, rfl⟩, Drawn.refl _⟩
  case round =>
    obtain ⟨k, b, l, hk, rfl, rfl, rfl, hplc, hdr⟩ := hrel
    have HP := Lib.hid hplc
    have HD := Lib.hid hdr
    clear hplc hdr
    by_cases hlt : k < M
    · have hkl : k < L.length := by rw [HM.out]; exact hlt
      obtain ⟨r0, r1, r2⟩ := (HRT.out.below HD.out.below).cells hkl
      have hbd := HW.out.bds (by omega) hkl
      have hst := bst_step n a L k
      have k1 : (0 : Int) ≤ (k : Int) := by omega
      have k2 : (k : Int) < (M : Int) := by omega
      obtain ⟨x, hx⟩ : ∃ x, el L k = x := ⟨_, rfl⟩
      have HX := Lib.hid hx
      rw [hx] at r0 r1 r2 hbd hst
      obtain ⟨p, m, t⟩ := x
      dsimp only at r0 r1 r2 hbd hst
      have hus := up_spec p ha1
      obtain ⟨u, hu⟩ : ∃ u, up p a = u := ⟨_, rfl⟩
      have hf : fit n a ⟨p, m, t⟩ = (!t && decide (n ≤ p + m - u)) := by
        unfold fit; rw [hu]; congr 1; rw [decide_eq_decide]; dsimp only; omega
      rw [hu] at hus
      obtain ⟨d, hd⟩ : ∃ d, (p + a - 1) / a = d := ⟨_, rfl⟩
      have hdu : d * a = u := by rw [← hd]; exact hu
      have HU := Lib.hid hu
      have hw1 := i64_in (p + m) (by omega) (by omega)
      have hw2 : IntKind.i64.wrap (p + m - u) = p + m - u := by rw [IntKind.wrap_i64]; omega
      have hpa : 0 ≤ p + a - 1 := by omega
      clear hx hu hkl
      cases t with
      | true =>
        rw [hf] at hst
        have e1 : bst n a L (k + 1) = bst n a L k := by rw [hst, if_neg (by simp)]
        have HE := Lib.hid e1
        clear hst hf e1
        go_wp2_with fail
        go_quiet (fail)
        go_wp2
        go_roundw
        case rel => exact ⟨k + 1, b, l, by omega, by go_num, rfl, rfl, HP.out.keep HE.out, HD.out.on nq⟩
        case measure => simp [intOf]; omega
      | false =>
        rw [hf] at hst
        by_cases hn : n ≤ p + m - u
        · have hdn : decide (n ≤ p + m - u) = true := by simpa using hn
          rw [hdn] at hst
          rcases HP.out with ⟨hb, rfl, rfl⟩ | ⟨K, hb, hK, hbv, hlv⟩
          · have HNP : Hid (Plc n a L (k + 1) u m) := .inr ⟨k, by rw [hst, if_pos ⟨rfl, .inl hb⟩], by omega, by rw [HX.out]; exact HU.out.symm, by rw [HX.out]⟩
            clear hst hf hb hn
            go_wp2_with fail
            go_quiet (fail)
            go_wp2
            go_roundw
            case rel => exact ⟨k + 1, u, m, by omega, by go_num, rfl, rfl, HNP.out, HD.out.on nq⟩
            case measure => simp [intOf]; omega
          · have hb0 : 0 ≤ b := by
              rw [hbv]
              have := HW.out.bds (by omega) (k := K) (by rw [HM.out]; omega)
              exact up_nonneg ha1 this.1
            have hdb : decide (b < 0) = false := by simpa using hb0
            rw [hb, Int.toNat_natCast, ← hlv] at hst
            by_cases hml : m < l
            · have HNP : Hid (Plc n a L (k + 1) u m) := .inr ⟨k, by rw [hst, if_pos ⟨rfl, .inr hml⟩], by omega, by rw [HX.out]; exact HU.out.symm, by rw [HX.out]⟩
              have hdl : decide (m < l) = true := by simpa using hml
              clear hst hf hb hn hbv hlv hml
              go_wp2_with fail
              go_quiet (fail)
              go_wp2
              go_roundw
              case rel => exact ⟨k + 1, u, m, by omega, by go_num, rfl, rfl, HNP.out, HD.out.on nq⟩
              case measure => simp [intOf]; omega
            · have HNP : Hid (Plc n a L (k + 1) b l) := .inr ⟨K, by rw [hst, if_neg (by simp; omega)], by omega, hbv, hlv⟩
              have hdl : decide (m < l) = false := by simpa using hml
              clear hst hf hb hn hbv hlv hml
              go_wp2_with fail
              go_quiet (fail)
              go_wp2
              go_roundw
              case rel => exact ⟨k + 1, b, l, by omega, by go_num, rfl, rfl, HNP.out, HD.out.on nq⟩
              case measure => simp [intOf]; omega
        · have hdn : decide (n ≤ p + m - u) = false := by simpa using hn
          rw [hdn] at hst
          have e1 : bst n a L (k + 1) = bst n a L k := by rw [hst, if_neg (by simp)]
          have HE := Lib.hid e1
          clear hst hf e1 hn
          go_wp2_with fail
          go_quiet (fail)
          go_wp2
          go_roundw
          case rel => exact ⟨k + 1, b, l, by omega, by go_num, rfl, rfl, HP.out.keep HE.out, HD.out.on nq⟩
          case measure => simp [intOf]; omega
    · obtain rfl : k = M := by omega
      have he : b = plv n a L := by have := HP.out; rw [← HM.out] at this; exact this.end
      subst he
      go_wp2
      go_ret
      exact ⟨rfl, up_trans HB.out HD.out.below⟩
/-! ### Take -/
def Pf (w : World) (g N : Nat) (F : Nat → Int) : Prop := ∃ vs, Blk w g vs 3 ∧ ∀ i, i < N → vs[i]? = some (.int .i64 (F i))
theorem Pf.set {w : World} {g N i : Nat} {F : Nat → Int} (h : Pf w g N F) (hi : i < N) (v : Int) : Pf (w.setCell ⟨g, i, none⟩ (.int .i64 v)) g N (fun j => if j = i then v else F j) := by
  obtain ⟨vs, hb, hv⟩ := h
  refine ⟨_, hb.set _, fun j hj => ?_⟩
  rw [List.getElem?_set]
  by_cases e : i = j
  · subst e
    have : i < vs.length := by
      rcases Nat.lt_or_ge i vs.length with h | h
      · exact h
      · have := hv i hi; rw [List.getElem?_eq_none h] at this; simp at this
    rw [if_pos rfl, if_pos this]
    dsimp only
    rw [if_pos rfl]
  · rw [if_neg e]
    dsimp only
    rw [if_neg (fun h => e (Eq.symm h))]; exact hv j hj
theorem Pf.cell {w : World} {g N i : Nat} {F : Nat → Int} (h : Pf w g N F) (hi : i < N) : w.cell? ⟨g, i, none⟩ = some (.int .i64 (F i)) := by obtain ⟨vs, hb, h2⟩ := h; rw [hb.cell]; exact h2 i hi
theorem Pf.frozen {w : World} {g N : Nat} {F : Nat → Int} (h : Pf w g N F) (i : Nat) : w.frozen? ⟨g, i, none⟩ = false := by obtain ⟨_, hb, _⟩ := h; exact hb.frozen i
theorem Pf.lt {w : World} {g N : Nat} {F : Nat → Int} (h : Pf w g N F) : g < w.heap.size := by obtain ⟨_, hb, _⟩ := h; exact hb.lt
theorem Pf.same {w : World} {g N : Nat} {F G : Nat → Int} (h : Pf w g N F) (e : ∀ i, i < N → F i = G i) : Pf w g N G := by obtain ⟨vs, hb, h2⟩ := h; exact ⟨vs, hb, fun i hi => by rw [h2 i hi, e i hi]⟩
theorem Pf.of {w w' : World} {g N : Nat} {F : Nat → Int} (h : Pf w g N F) (e : w'.heap[g]? = w.heap[g]?) : Pf w' g N F := by obtain ⟨vs, hb, h2⟩ := h; exact ⟨vs, hb.of e, h2⟩
set_option maxHeartbeats 4000000 in
theorem rtake_any {w : World} {q g N : Nat} {L : List Rn} (n a : Int) (h : Rs w q g N L) (hw : WF (N : Int) L) (hN : N ≤ 4096) :
    Calls Tryz.prog 78 #[.pointer (some ⟨q, 0, none⟩), .int .i64 n, .int .i64 a] w fun e w' => e = .returned (.tuple #[.int .i64 (tkv L n a), .int .i64 (tke L n a)]) ∧ Rs w' q g N (tkL L n a) ∧ w.grownBy w' (some g) := by
  have HAL := Lib.hid (fun W => al_any a W)
  have HS := Lib.hid h
  unfold tkv tke tkL
  by_cases hb : askB n a = true
  · rw [if_pos hb, if_pos hb, if_pos hb]
    obtain ⟨ha0, ha1, ha2⟩ := askB_parts hb
    have hal : (decide (a ≤ 4096) && powB a) = true := by simp [ha1, ha2]
    rw [hal] at HAL
    have HPL := Lib.hid (place_any (n := n) h hw hN ha2 ha1)
    have hd0 : decide (n < 1) = false := by simp; omega
    unfold plv at HPL
    rcases bst_is n a L L.length with ⟨hbs, _⟩ | ⟨k, hbs, hk, hf⟩
    · rw [hbs] at HPL ⊢
      rw [if_pos rfl] at HPL
      rw [if_pos rfl, if_pos rfl, if_pos rfl]
      clear h hw hb ha2 hal hbs
      go_enter Tryz.func78, Tryz.ntmps78
      go_wp2_with (first | (go_at_call 59; refine (HAL.out _).mono ?_; rintro e w' ⟨rfl, rfl⟩) | (go_at_call 60; refine HPL.out.mono ?_; rintro e w1 ⟨rfl, d1⟩))
      go_ret2
      exact ⟨rfl, HS.out.below d1, grown_below d1⟩
    · rw [hbs] at HPL ⊢
      rw [if_neg (by omega), Int.toNat_natCast] at HPL
      rw [if_neg (by omega), if_neg (by omega), if_neg (by omega), Int.toNat_natCast]
      obtain ⟨f1, f2⟩ := fit_parts hf
      have hbd := chain_at hw.chain hk
      have hus := up_spec (el L k).p (powB_bd ha2).1
      have hu0 : 0 ≤ up (el L k).p a := by omega
      have hpft := fun x (h0 : 0 ≤ x) (h1 : x < (N : Int)) => pf_take hw hk (u := up (el L k).p a) f1 hus.1 ha0 f2 h0 h1
      generalize up (el L k).p a = u at HPL hus hu0 f2 hpft ⊢
      obtain ⟨U, rfl⟩ := Int.eq_ofNat_of_zero_le hu0
      obtain ⟨m, rfl⟩ := Int.eq_ofNat_of_zero_le (by omega : 0 ≤ n)
      have hUm : U + m ≤ N := by omega
      have HPT := Lib.hid hpft
      have hdn : decide ((U : Int) < 0) = false := by simp
      clear h hw hb ha2 hal hbs hf f1 f2 hbd hus hu0 hpft
      go_enter Tryz.func78, Tryz.ntmps78
      go_wp2_with fail
      refine (HAL.out _).mono ?_; rintro e w' ⟨rfl, rfl⟩
      go_wp2_with fail
      refine HPL.out.mono ?_
      rintro e w1 ⟨rfl, d1⟩
      have S1 := Lib.hid (HS.out.below d1)
      have D1 := Lib.hid d1
      clear d1 HPL HS
      go_wp2_with fail
      go_loopw [9] (fun i wr => ∃ j : Nat, j ≤ m ∧ i = .int .i64 ((U : Int) + (j : Int)) ∧ Pf wr g N (fun x => if U ≤ x ∧ x < U + j then (U : Int) + 1 else pf L (x : Int)) ∧ w1.grownBy wr (some g)) (fun i _ => U + m - (intOf i).toNat)
      case atStart => exact ⟨0, by omega, by simp, Pf.same (F := fun x => pf L (x : Int)) S1.out.2.1 (fun x _ => by rw [if_neg (by omega)]), grown_refl _ _⟩
      case round =>
        obtain ⟨j, hj, rfl, hpf, hgr⟩ := hrel
        have HPF := Lib.hid hpf
        have HG := Lib.hid hgr
        have c0 : wr.cell? ⟨q, 0, none⟩ = some (.slice (some ⟨g, 0, none⟩) N N) := hgr.cell S1.out.slice (by simpa using S1.out.2.2)
        clear hpf hgr
        by_cases hlt : j < m
        · have f0 := HPF.out.frozen (U + j)
          have p0 := HPF.out.cell (i := U + j) (by omega)
          have x1 : (U : Int) + (j : Int) < (U : Int) + (m : Int) := by omega
          have x2 : (U : Int) + (j : Int) < (N : Int) := by omega
          have x3 : (0 : Int) ≤ (U : Int) + (j : Int) := by omega
          have x4 : ((U : Int) + (j : Int)).toNat = U + j := by omega
          generalize (if U ≤ U + j ∧ U + j < U + j then (U : Int) + 1 else pf L ((U + j : Nat) : Int)) = y at p0
          go_wp2
          refine ⟨⟨j + 1, by omega, by go_num, (HPF.out.set (i := U + j) (by omega) _).same (fun x hx => ?_), grown_trans HG.out (grown_set _ _ _ _)⟩, by simp [intOf]; omega⟩
          by_cases e : x = U + j
          · rw [if_pos e, if_pos (by omega)]
          · rw [if_neg e]
            by_cases e2 : U ≤ x ∧ x < U + j
            · rw [if_pos e2, if_pos (by omega)]
            · rw [if_neg e2, if_neg (by omega)]
        · obtain rfl : j = m := by omega
          go_wp2
          go_ret2
          refine ⟨rfl, ⟨S1.out.1.of (HG.out.block q S1.out.1.lt (by simpa using S1.out.2.2)), HPF.out.same (fun x hx => ?_), S1.out.2.2⟩, grown_trans (grown_below D1.out) HG.out⟩
          rw [HPT.out (x : Int) (by omega) (by omega)]
          by_cases e2 : U ≤ x ∧ x < U + j
          · rw [if_pos e2, if_pos (by omega)]
          · rw [if_neg e2, if_neg (by omega)]
  · have hbf : askB n a = false := by simpa using hb
    rw [if_neg hb, if_neg hb, if_neg hb]
    clear h hw
    by_cases h1 : n < 1
    · have hd0 : decide (n < 1) = true := by simpa using h1
      clear hb hbf
      go_enter Tryz.func78, Tryz.ntmps78
      go_wp2
      go_ret2
      exact ⟨rfl, HS.out, grown_refl _ _⟩
    · have hd0 : decide (n < 1) = false := by simpa using h1
      have hal : (decide (a ≤ 4096) && powB a) = false := by
        unfold askB at hbf
        have : decide (1 ≤ n) = true := by simp; omega
        rw [this, Bool.true_and] at hbf
        exact hbf
      rw [hal] at HAL
      clear hb hbf hal
      go_enter Tryz.func78, Tryz.ntmps78
      go_wp2_with (go_at_call 59; refine (HAL.out _).mono ?_; rintro e w' ⟨rfl, rfl⟩)
      go_ret2
      exact ⟨rfl, HS.out, grown_refl _ _⟩
/-! ### Give -/
theorem pf_begins {N : Int} {L : List Rn} (hw : WF N L) {x : Int} (h0 : 0 ≤ x) (h1 : x < N) : (gi L x < L.length ∧ pf L x = x + 1) ∨ (¬ gi L x < L.length ∧ pf L x ≠ x + 1) := by
  obtain ⟨k, hk, a1, a2⟩ := chain_find hw.chain h0 h1
  have hv := pf_at hw.chain hk a1 a2
  by_cases hg : gi L x < L.length
  · left
    obtain ⟨g1, g2⟩ := gi_yes hg
    have hb := chain_at hw.chain hg
    have := pf_at hw.chain hg (x := x) (by omega) (by omega)
    refine ⟨hg, ?_⟩
    rw [this]; unfold vl; rw [g2, g1]; rfl
  · right
    refine ⟨hg, ?_⟩
    rw [hv]; unfold vl
    cases ht : (el L k).t with
    | false => simp; omega
    | true =>
      simp only [if_true]
      intro e
      have hp : (el L k).p = x := by omega
      have := gi_no hg hk hp
      rw [ht] at this; cases this
set_option maxHeartbeats 4000000 in
theorem rgive_any {w : World} {q g N : Nat} {L : List Rn} (x : Int) (h : Rs w q g N L) (hw : WF (N : Int) L) (hN : N ≤ 4096) :
    Calls Tryz.prog 81 #[.pointer (some ⟨q, 0, none⟩), .int .i64 x] w fun e w' => e = .returned (.tuple #[.int .i64 (gvv L x), .int .i64 (gve L x)]) ∧ Rs w' q g N (gvL L x) ∧ w.grownBy w' (some g) := by
  have HS := Lib.hid h
  have c0 := h.slice
  unfold gvv gve gvL
  by_cases h0 : x < 0
  · have hg : ¬ gi L x < L.length := fun hg => by have := gi_yes hg; have := chain_at hw.chain hg; omega
    rw [if_neg hg, if_neg hg, if_neg hg]
    have d0 : decide (x < 0) = true := by simpa using h0
    clear h hw hg
    go_enter Tryz.func81, Tryz.ntmps81
    go_wp2
    go_ret2
    exact ⟨rfl, HS.out, grown_refl _ _⟩
  · have d0 : decide (x < 0) = false := by simpa using h0
    by_cases h1 : (N : Int) ≤ x
    · have hg : ¬ gi L x < L.length := fun hg => by have := gi_yes hg; have := chain_at hw.chain hg; omega
      rw [if_neg hg, if_neg hg, if_neg hg]
      have d1 : decide ((N : Int) ≤ x) = true := by simpa using h1
      clear h hw hg
      go_enter Tryz.func81, Tryz.ntmps81
      go_wp2
      go_ret2
      exact ⟨rfl, HS.out, grown_refl _ _⟩
    · have d1 : decide ((N : Int) ≤ x) = false := by simpa using h1
      obtain ⟨X, rfl⟩ := Int.eq_ofNat_of_zero_le (by omega : 0 ≤ x)
      have hXN : X < N := by omega
      have p0 := h.2.1.cell hXN
      rcases pf_begins hw (x := (X : Int)) (by omega) (by omega) with ⟨hg, hv⟩ | ⟨hg, hv⟩
      · rw [if_pos hg, if_pos hg, if_pos hg]
        obtain ⟨g1, g2⟩ := gi_yes hg
        have hb := chain_at hw.chain hg
        have hpg := fun z (h0 : 0 ≤ z) (h1 : z < (N : Int)) => pf_give hw hg g2 h0 h1
        have hin := fun z (h1 : (X : Int) ≤ z) (h2 : z < (X : Int) + (el L (gi L (X : Int))).n) => pf_at hw.chain hg (x := z) (by omega) (by omega)
        have hvl : vl (el L (gi L (X : Int))) = (X : Int) + 1 := by unfold vl; rw [g2, g1]; rfl
        have hout : (X : Int) + (el L (gi L (X : Int))).n < (N : Int) → pf L ((X : Int) + (el L (gi L (X : Int))).n) ≠ (X : Int) + 1 := fun hlt => by
          obtain ⟨k, hk, a1, a2⟩ := chain_find hw.chain (x := (X : Int) + (el L (gi L (X : Int))).n) (by omega) hlt
          rw [pf_at hw.chain hk a1 a2]
          unfold vl
          cases ht : (el L k).t with
          | false => simp; omega
          | true =>
            simp only [if_true]
            intro e
            have := chain_one hw.chain hk hg (x := (X : Int)) (by omega) (by have := chain_at hw.chain hk; omega) (by omega) (by omega)
            rw [this] at a2
            omega
        rw [hvl] at hin
        rw [g1] at hpg hb
        generalize giveL L (gi L (X : Int)) = L' at hpg ⊢
        generalize (el L (gi L (X : Int))).n = nn at hb hpg hin hout ⊢
        obtain ⟨m, rfl⟩ := Int.eq_ofNat_of_zero_le (by omega : 0 ≤ nn)
        have hXm : X + m ≤ N := by omega
        rw [hv] at p0
        have HPG := Lib.hid hpg
        have HIN := Lib.hid hin
        have HOUT := Lib.hid hout
        have hdx : ((X : Int) + 1 != (X : Int) + 1) = false := by simp
        have x2 : (X : Int) < (N : Int) := by omega
        have x3 : (0 : Int) ≤ (X : Int) := by omega
        clear h hw hg hv g1 g2 hpg hin hout hvl hb
        go_enter Tryz.func81, Tryz.ntmps81
        go_wp2
        go_loopw [6, 7] (fun o i wr => ∃ j : Nat, j ≤ m ∧ o = .int .i64 j ∧ i = .int .i64 ((X : Int) + (j : Int)) ∧ Pf wr g N (fun z => if X ≤ z ∧ z < X + j then 0 else pf L (z : Int)) ∧ w.grownBy wr (some g)) (fun o _ _ => m - (intOf o).toNat)
        case atStart => exact ⟨0, by omega, rfl, by simp, Pf.same (F := fun x => pf L (x : Int)) HS.out.2.1 (fun x _ => by rw [if_neg (by omega)]), grown_refl _ _⟩
        case round =>
          obtain ⟨j, hj, rfl, rfl, hpf, hgr⟩ := hrel
          have HPF := Lib.hid hpf
          have HG := Lib.hid hgr
          have c1 : wr.cell? ⟨q, 0, none⟩ = some (.slice (some ⟨g, 0, none⟩) N N) := hgr.cell HS.out.slice (by simpa using HS.out.2.2)
          clear hpf hgr c0 p0
          have y3 : (0 : Int) ≤ (X : Int) + (j : Int) := by omega
          have y4 : ((X : Int) + (j : Int)).toNat = X + j := by omega
          by_cases hlt : j < m
          · have f0 := HPF.out.frozen (X + j)
            have p1 := HPF.out.cell (i := X + j) (by omega)
            rw [if_neg (by omega), Int.natCast_add, HIN.out ((X : Int) + (j : Int)) (by omega) (by omega)] at p1
            have y1 : decide ((X : Int) + (j : Int) < (N : Int)) = true := by simp; omega
            have y2 : (X : Int) + (j : Int) < (N : Int) := by omega
            have hyy : ((X : Int) + 1 == (X : Int) + 1) = true := by simp
            go_wp2
            refine ⟨⟨j + 1, by omega, by go_num, by go_num, (HPF.out.set (i := X + j) (by omega) _).same (fun z hz => ?_), grown_trans HG.out (grown_set _ _ _ _)⟩, by simp [intOf]; omega⟩
            by_cases e : z = X + j
            · rw [if_pos e, if_pos (by omega)]
            · rw [if_neg e]
              by_cases e2 : X ≤ z ∧ z < X + j
              · rw [if_pos e2, if_pos (by omega)]
              · rw [if_neg e2, if_neg (by omega)]
          · obtain rfl : j = m := by omega
            have hend : Rs wr q g N L' := by
              refine ⟨HS.out.1.of (HG.out.block q HS.out.1.lt (by simpa using HS.out.2.2)), HPF.out.same (fun z hz => ?_), HS.out.2.2⟩
              rw [HPG.out (z : Int) (by omega) (by omega)]
              by_cases e2 : X ≤ z ∧ z < X + j
              · rw [if_pos e2, if_pos (by omega)]
              · rw [if_neg e2, if_neg (by omega)]
            have HEND := Lib.hid hend
            clear hend
            by_cases hXj : X + j < N
            · have p1 := HPF.out.cell (i := X + j) hXj
              rw [if_neg (by omega), Int.natCast_add] at p1
              have hne := HOUT.out (by omega)
              generalize pf L ((X : Int) + (j : Int)) = y at p1 hne
              have hyy : (y == (X : Int) + 1) = false := by simpa using hne
              have y1 : decide ((X : Int) + (j : Int) < (N : Int)) = true := by simp; omega
              have y2 : (X : Int) + (j : Int) < (N : Int) := by omega
              clear hne
              go_wp2
              go_ret2
              exact ⟨rfl, HEND.out, HG.out⟩
            · have y1 : decide ((X : Int) + (j : Int) < (N : Int)) = false := by simp; omega
              go_wp2
              go_ret2
              exact ⟨rfl, HEND.out, HG.out⟩
      · rw [if_neg hg, if_neg hg, if_neg hg]
        generalize pf L (X : Int) = y at p0 hv
        have hdy : (y != (X : Int) + 1) = true := by simpa using hv
        have x2 : (X : Int) < (N : Int) := by omega
        have x3 : (0 : Int) ≤ (X : Int) := by omega
        clear h hw hg hv
        go_enter Tryz.func81, Tryz.ntmps81
        go_wp2
        go_ret2
        exact ⟨rfl, HS.out, grown_refl _ _⟩
end Go.Proofs.YtjnknnakllbaaaaGreat.Sp
