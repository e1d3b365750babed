import Derived.Test.YtckcgaliphpgeaaGreatDoorSpPages
import Derived.Test.YtckcgaliphpgeaaGreatDoorLeA
import Derived.Test.YtckcgaliphpgeaaGreatDoorRaA
import Derived.Test.YtckcgaliphpgeaaGreatDoorSpB
import Derived.Test.YtckcgaliphpgeaaGreatDoorRaB
import Derived.Test.YtckcgaliphpgeaaGreatDoorCeA
/-
  Pages, words and books of a ground as plain lists, no program in sight: facts that the claimed proofs use.
-/
namespace Go.Proofs.YtckcgaliphpgeaaGreatDoor.Gr
set_option maxRecDepth 100000

/-! ### How many words are such -/
def cw (P : Int → Bool) (f : Ra.Ws) : Nat → Nat
  | 0 => 0
  | k + 1 => cw P f k + (if P (f k) = true then 1 else 0)
theorem cw_le (P : Int → Bool) (f : Ra.Ws) : ∀ n, cw P f n ≤ n
  | 0 => Nat.le_refl _
  | n + 1 => by have := cw_le P f n; unfold cw; split <;> omega
theorem cw_same {P : Int → Bool} {f g : Ra.Ws} : ∀ {n : Nat}, (∀ i, i < n → f i = g i) → cw P f n = cw P g n
  | 0, _ => rfl
  | n + 1, h => by unfold cw; rw [cw_same (n := n) (fun i hi => h i (by omega)), h n (by omega)]
theorem upf_at (f : Ra.Ws) (k : Nat) (x : Int) : Ra.upf f k x k = x := by unfold Ra.upf; rw [if_pos rfl]
theorem upf_far (f : Ra.Ws) {k i : Nat} (x : Int) (h : i ≠ k) : Ra.upf f k x i = f i := by unfold Ra.upf; rw [if_neg h]
theorem cw_upf {P : Int → Bool} {f : Ra.Ws} {k : Nat} {x : Int} : ∀ {n : Nat}, k < n → cw P (Ra.upf f k x) n + (if P (f k) = true then 1 else 0) = cw P f n + (if P x = true then 1 else 0)
  | 0, h => by omega
  | n + 1, h => by
    unfold cw
    by_cases e : k = n
    · subst e
      rw [upf_at, cw_same (g := f) (n := k) (fun i hi => upf_far f x (by omega))]
      omega
    · rw [upf_far f x (fun h => e h.symm)]
      have := cw_upf (P := P) (f := f) (k := k) (x := x) (n := n) (by omega)
      omega
theorem cw_fill {P : Int → Bool} {f : Ra.Ws} {p N : Nat} {x : Int} {b : Bool} : ∀ {n : Nat}, (∀ i, p ≤ i → i < p + n → P (f i) = b) → p + n ≤ N → cw P (Ra.fill f p n x) N + (if b = true then n else 0) = cw P f N + (if P x = true then n else 0)
  | 0, _, _ => by rw [Ra.fill_zero]; simp
  | n + 1, h, hN => by
    have ih := cw_fill (P := P) (f := f) (p := p) (N := N) (x := x) (b := b) (n := n) (fun i h1 h2 => h i h1 (by omega)) (by omega)
    have e : Ra.fill f p n x (p + n) = f (p + n) := by unfold Ra.fill; rw [if_neg (by omega)]
    have h1 := cw_upf (P := P) (f := Ra.fill f p n x) (k := p + n) (x := x) (n := N) (by omega)
    rw [e, h (p + n) (by omega) (by omega)] at h1
    rw [Ra.fill_succ]
    cases b <;> cases hx : P x <;> simp only [hx, Bool.false_eq_true, if_false, if_true] at ih h1 ⊢ <;> omega
theorem cw_run {P : Int → Bool} {f : Ra.Ws} {p : Nat} {b : Bool} : ∀ {n : Nat}, (∀ i, p ≤ i → i < p + n → P (f i) = b) → cw P f (p + n) = cw P f p + (if b = true then n else 0)
  | 0, _ => by simp
  | n + 1, h => by
    have ih := cw_run (P := P) (f := f) (p := p) (b := b) (n := n) (fun i h1 h2 => h i h1 (by omega))
    rw [show p + (n + 1) = p + n + 1 by omega, show cw P f (p + n + 1) = cw P f (p + n) + (if P (f (p + n)) = true then 1 else 0) from rfl, ih, h (p + n) (by omega) (by omega)]
    cases b <;> simp only [Bool.false_eq_true, if_false, if_true] <;> omega
def nz (W : Int) : Bool := W != 0
def ver (v : Int) (W : Int) : Bool := W != 0 && Ra.verOf W == v
theorem ver_zero (v : Int) : ver v 0 = false := rfl
theorem ver_iff {v W : Int} : ver v W = true ↔ W ≠ 0 ∧ Ra.verOf W = v := by simp [ver]
theorem ver_word {v W : Int} (h : W ≠ 0) : ver v W = (Ra.verOf W == v) := by simp [ver, h]
theorem cw_parts (f : Ra.Ws) : ∀ n, cw (ver 0) f n + cw (ver 1) f n + cw (ver 2) f n + cw (ver 3) f n = cw nz f n ∧ (∀ k : Nat, 4 ≤ k → cw (ver (k : Int)) f n = 0)
  | 0 => ⟨rfl, fun _ _ => rfl⟩
  | n + 1 => by
    obtain ⟨h1, h2⟩ := cw_parts f n
    have hv := (Ra.part_bd (f n)).2.1
    constructor
    · unfold cw
      by_cases h0 : f n = 0
      · simp only [h0, ver_zero, nz, bne_self_eq_false, Bool.false_eq_true, if_false]; omega
      · simp only [ver_word h0]
        have e : nz (f n) = true := by simp [nz, h0]
        rw [e]
        generalize Ra.verOf (f n) = v at hv ⊢
        obtain rfl | rfl | rfl | rfl : v = 0 ∨ v = 1 ∨ v = 2 ∨ v = 3 := by omega
        all_goals simp; omega
    · intro k hk
      unfold cw
      rw [h2 k hk]
      by_cases h0 : f n = 0
      · simp [h0, ver_zero]
      · rw [ver_word h0]
        have : (Ra.verOf (f n) == (k : Int)) = false := by rw [beq_eq_false_iff_ne]; omega
        rw [this]; rfl
/-! ### Pages and words -/
def Pg (L : List Sp.Rn) (f : Ra.Ws) (x : Nat) : Prop :=
  (Sp.pf L x = 0 ∧ f x = 0) ∨ ∃ a : Nat, Sp.pf L x = (a : Int) + 1 ∧ f x ≠ 0 ∧ Ra.spanOf (f x) = a ∧ (Ra.verOf (f x) ≤ 2 ∧ Ra.staOf (f x) ≤ 1) ∧ f x = f a
structure Inv (N : Int) (L : List Sp.Rn) (f : Ra.Ws) (S : List Le.Row) : Prop where
  n0 : 0 ≤ N
  n1 : N ≤ 4096
  wf : Sp.WF N L
  pg : ∀ x : Nat, (x : Int) < N → Pg L f x
  bk : ∀ k : Nat, k < 8 → Le.hd S k = (cw (ver k) f N.toNat : Int)
  bw : Le.Wf N S
section
variable {N : Int} {L : List Sp.Rn} {f : Ra.Ws} {S : List Le.Row}
theorem Inv.at (h : Inv N L f S) {k : Nat} (hk : k < L.length) : 0 ≤ (Sp.el L k).p ∧ 1 ≤ (Sp.el L k).n ∧ (Sp.el L k).p + (Sp.el L k).n ≤ N := Sp.chain_at h.wf.chain hk
theorem Inv.run (h : Inv N L f S) {x : Int} (h0 : 0 ≤ x) (h1 : x < N) : ∃ j, j < L.length ∧ (Sp.el L j).p ≤ x ∧ x < (Sp.el L j).p + (Sp.el L j).n ∧ Sp.pf L x = Sp.vl (Sp.el L j) := by
  obtain ⟨j, hj, a, b⟩ := Sp.chain_find h.wf.chain h0 h1
  exact ⟨j, hj, a, b, Sp.pf_at h.wf.chain hj a b⟩
/-- A free run's words. -/
theorem Inv.free (h : Inv N L f S) {k : Nat} (hk : k < L.length) (ht : (Sp.el L k).t = false) {x : Nat} (h1 : (Sp.el L k).p ≤ x) (h2 : (x : Int) < (Sp.el L k).p + (Sp.el L k).n) : f x = 0 := by
  have hb := h.at hk
  have e := Sp.pf_at h.wf.chain hk h1 h2
  have e0 : Sp.vl (Sp.el L k) = 0 := by unfold Sp.vl; rw [ht]; rfl
  rcases h.pg x (by omega) with ⟨_, h0⟩ | ⟨a, ha, _⟩
  · exact h0
  · omega
/-- A span's words. -/
theorem Inv.taken (h : Inv N L f S) {k : Nat} (hk : k < L.length) (ht : (Sp.el L k).t = true) {x : Nat} (h1 : (Sp.el L k).p ≤ x) (h2 : (x : Int) < (Sp.el L k).p + (Sp.el L k).n) :
    Sp.pf L x = (Sp.el L k).p + 1 ∧ f x ≠ 0 ∧ Ra.spanOf (f x) = (Sp.el L k).p ∧ (Ra.verOf (f x) ≤ 2 ∧ Ra.staOf (f x) ≤ 1) ∧ f x = f (Sp.el L k).p.toNat := by
  have hb := h.at hk
  have e := Sp.pf_at h.wf.chain hk h1 h2
  have e0 : Sp.vl (Sp.el L k) = (Sp.el L k).p + 1 := by unfold Sp.vl; rw [ht]; rfl
  rcases h.pg x (by omega) with ⟨h0, _⟩ | ⟨a, ha, b1, b2, b3, b4⟩
  · omega
  · have ea : (a : Int) = (Sp.el L k).p := by omega
    have eb : (Sp.el L k).p.toNat = a := by omega
    rw [eb]
    exact ⟨by omega, b1, by omega, b3, b4⟩
/-- Whose first page is it? -/
theorem Inv.owner (h : Inv N L f S) {x a : Nat} (hx : (x : Int) < N) (ha : Sp.pf L x = (a : Int) + 1) : ∃ j, j < L.length ∧ (Sp.el L j).p = a ∧ (Sp.el L j).t = true ∧ (Sp.el L j).p ≤ x ∧ (x : Int) < (Sp.el L j).p + (Sp.el L j).n := by
  obtain ⟨j, hj, b1, b2, b3⟩ := h.run (x := x) (by omega) hx
  rw [ha] at b3
  unfold Sp.vl at b3
  split at b3
  · exact ⟨j, hj, by omega, by assumption, b1, b2⟩
  · omega
theorem Inv.tot (h : Inv N L f S) : Le.tot (Le.hd S) = (cw nz f N.toNat : Int) := by
  obtain ⟨h1, h2⟩ := cw_parts f N.toNat
  rw [Le.tot_is, h.bk 0 (by omega), h.bk 1 (by omega), h.bk 2 (by omega), h.bk 3 (by omega), h.bk 4 (by omega), h.bk 5 (by omega), h.bk 6 (by omega), h.bk 7 (by omega), h2 4 (by omega), h2 5 (by omega), h2 6 (by omega), h2 7 (by omega)]
  have e0 : ((0 : Nat) : Int) = 0 := rfl
  have e1 : ((1 : Nat) : Int) = 1 := rfl
  have e2 : ((2 : Nat) : Int) = 2 := rfl
  have e3 : ((3 : Nat) : Int) = 3 := rfl
  rw [e0, e1, e2, e3]
  omega
theorem fill_at {f : Ra.Ws} {p n i : Nat} (x : Int) (h1 : p ≤ i) (h2 : i < p + n) : Ra.fill f p n x i = x := by unfold Ra.fill; rw [if_pos ⟨h1, h2⟩]
theorem fill_far {f : Ra.Ws} {p n i : Nat} (x : Int) (h : ¬ (p ≤ i ∧ i < p + n)) : Ra.fill f p n x i = f i := by unfold Ra.fill; rw [if_neg h]
/-- How the numbers of words change where a run of them that are alike becomes another word. -/
theorem cw_turn {N p n k : Nat} {f : Ra.Ws} {x W : Int} (h : ∀ i, p ≤ i → i < p + n → f i = W) (hN : p + n ≤ N) :
    (cw (ver k) (Ra.fill f p n x) N : Int) = cw (ver k) f N + (if ver k x = true then (n : Int) else 0) - (if ver k W = true then (n : Int) else 0) := by
  have := cw_fill (P := ver k) (f := f) (p := p) (N := N) (x := x) (b := ver k W) (n := n) (fun i h1 h2 => by rw [h i h1 h2]) hN
  cases h1 : ver k W <;> cases h2 : ver k x <;> rw [h1, h2] at this <;> simp only [Bool.false_eq_true, if_false, if_true] at this ⊢ <;> omega
theorem up_row (f : Le.Row) (k : Nat) (v : Int) (j : Nat) : Le.up f k v j = if j = k then v else f j := rfl
section
variable {L : List Sp.Rn}
/-- Pages of a free run become a span. -/
theorem Inv.take (h : Inv N L f S) {k : Nat} (hk : k < L.length) (ht : (Sp.el L k).t = false) {u n : Nat} {v c t : Int} (h1 : (Sp.el L k).p ≤ u) (hn : 1 ≤ n) (h2 : (u : Int) + n ≤ (Sp.el L k).p + (Sp.el L k).n)
    (hv : 0 ≤ v ∧ v ≤ 2) (hc : 0 ≤ c ∧ c ≤ 63) :
    Le.resE N (Le.hd S) v n = 0 ∧ Inv N (Sp.takeL L k u n) (Ra.fill f u n (Ra.wd u v c 0 t)) (Le.resF (Le.hd S) v n :: S) := by
  have hb := h.at hk
  have hz : ∀ i, u ≤ i → i < u + n → f i = 0 := fun i a b => h.free hk ht (by omega) (by omega)
  have hok : Ra.okB u v c 0 = true := Ra.okB_iff.2 (by have := h.n1; omega)
  obtain ⟨w1, w2, _, w4⟩ := Ra.wd_parts (t := t) hok
  have hw0 : Ra.wd u v c 0 t ≠ 0 := by unfold Ra.wd; omega
  obtain ⟨V, rfl⟩ : ∃ V : Nat, v = V := ⟨v.toNat, by omega⟩
  have hver : ∀ j : Nat, ver j (Ra.wd u V c 0 t) = decide (j = V) := fun j => by
    rw [ver_word hw0, w2, Bool.eq_iff_iff]; simp; omega
  have hcw : ∀ j : Nat, (cw (ver j) (Ra.fill f u n (Ra.wd u V c 0 t)) N.toNat : Int) = cw (ver j) f N.toNat + (if j = V then (n : Int) else 0) := fun j => by
    rw [cw_turn hz (by omega), hver j, ver_zero]
    by_cases e : j = V <;> simp [e]
  have hroom : Le.tot (Le.hd S) + n ≤ N := by
    rw [h.tot]
    have := cw_fill (P := nz) (f := f) (p := u) (N := N.toNat) (x := 1) (b := false) (n := n) (fun i a b => by rw [hz i a b]; rfl) (by omega)
    have h3 := cw_le nz (Ra.fill f u n 1) N.toNat
    have e1 : nz 1 = true := rfl
    rw [e1] at this
    simp only [Bool.false_eq_true, if_false, if_true] at this
    have := h.n0
    omega
  have hE : Le.resE N (Le.hd S) V n = 0 := by
    unfold Le.resE
    rw [if_pos ⟨Le.kindB_iff.2 (by omega), by omega⟩, if_neg (by omega)]
  refine ⟨hE, h.n0, h.n1, Sp.take_wf h.wf hk ht h1 (by omega) h2, fun x hx => ?_, fun j hj => ?_, ?_⟩
  · have hp := Sp.pf_take h.wf hk ht h1 (n := n) (by omega) h2 (x := x) (by omega) hx
    by_cases hin : u ≤ x ∧ x < u + n
    · rw [if_pos (by omega)] at hp
      right
      refine ⟨u, hp, ?_⟩
      rw [fill_at _ hin.1 hin.2, fill_at _ (Nat.le_refl u) (by omega)]
      exact ⟨hw0, w1, ⟨by rw [w2]; omega, by rw [w4]; omega⟩, rfl⟩
    · rw [if_neg (by omega)] at hp
      unfold Pg
      rw [hp, fill_far _ hin]
      rcases h.pg x hx with h3 | ⟨a, a1, a2, a3, a4, a5⟩
      · exact .inl h3
      · right
        refine ⟨a, a1, a2, a3, a4, ?_⟩
        rw [fill_far _ (fun hh => ?_)]
        · exact a5
        · have := hz a hh.1 hh.2
          rw [this] at a5
          exact a2 a5
  · have := h.bk j hj
    show Le.resF (Le.hd S) V n j = _
    unfold Le.resF
    rw [up_row, hcw j]
    simp only [Int.toNat_natCast]
    by_cases e : j = V
    · subst e; rw [if_pos rfl, if_pos rfl, this]
    · rw [if_neg e, if_neg e, this]; omega
  · exact h.bw.cons (Le.res_gd h.bw.hd hE)
theorem Inv.gi (h : Inv N L f S) {x : Int} (hx : Sp.gi L x < L.length) : (Sp.el L (Sp.gi L x)).p = x ∧ (Sp.el L (Sp.gi L x)).t = true ∧ 0 ≤ x ∧ 1 ≤ Sp.gvv L x ∧ x + Sp.gvv L x ≤ N ∧ (Sp.el L (Sp.gi L x)).n = Sp.gvv L x := by
  obtain ⟨h1, h2⟩ := Sp.gi_yes hx
  have hb := h.at hx
  have e : (Sp.el L (Sp.gi L x)).n = Sp.gvv L x := by unfold Sp.gvv; rw [if_pos hx]
  rw [h1, e] at hb
  exact ⟨h1, h2, hb.1, hb.2.1, hb.2.2, e⟩
/-- All words of a span are that of its first page. -/
theorem Inv.same (h : Inv N L f S) {x : Int} (hx : Sp.gi L x < L.length) {i : Nat} (h1 : x ≤ i) (h2 : (i : Int) < x + Sp.gvv L x) : f i = f x.toNat := by
  obtain ⟨e1, e2, _, _, _, e3⟩ := h.gi hx
  have := (h.taken hx e2 (x := i) (by rw [e1]; exact h1) (by rw [e1, e3]; exact h2)).2.2.2.2
  rwa [e1] at this
theorem Inv.word (h : Inv N L f S) {x : Int} (hx : Sp.gi L x < L.length) : f x.toNat ≠ 0 ∧ Ra.spanOf (f x.toNat) = x ∧ 0 ≤ Ra.verOf (f x.toNat) ∧ Ra.verOf (f x.toNat) ≤ 2 := by
  obtain ⟨e1, e2, e4, e5, _, e3⟩ := h.gi hx
  have := h.taken hx e2 (x := x.toNat) (by rw [e1]; omega) (by rw [e1, e3]; omega)
  rw [e1] at this
  exact ⟨this.2.1, this.2.2.1, (Ra.part_bd _).2.1.1, this.2.2.2.1.1⟩
theorem Inv.sta (h : Inv N L f S) {x : Int} (hx : Sp.gi L x < L.length) : Ra.staOf (f x.toNat) ≤ 1 := by
  obtain ⟨e1, e2, e4, e5, _, e3⟩ := h.gi hx
  have := h.taken hx e2 (x := x.toNat) (by rw [e1]; omega) (by rw [e1, e3]; omega)
  exact this.2.2.2.1.2
theorem cw_cong {P : Int → Bool} {f g : Ra.Ws} : ∀ {n : Nat}, (∀ i, i < n → P (f i) = P (g i)) → cw P f n = cw P g n
  | 0, _ => rfl
  | n + 1, h => by unfold cw; rw [cw_cong (n := n) (fun i hi => h i (by omega)), h n (by omega)]
theorem Inv.held (h : Inv N L f S) {x : Int} (hx : Sp.gi L x < L.length) {V : Nat} (hV : Ra.verOf (f x.toNat) = V) : Sp.gvv L x ≤ Le.hd S V := by
  obtain ⟨e1, e2, e4, e5, e6, e3⟩ := h.gi hx
  obtain ⟨w1, _, _, w4⟩ := h.word hx
  have hW : ver V (f x.toNat) = true := ver_iff.2 ⟨w1, hV⟩
  have := cw_turn (N := N.toNat) (p := x.toNat) (n := (Sp.gvv L x).toNat) (k := V) (f := f) (x := 0) (W := f x.toNat) (fun i a b => h.same hx (by omega) (by omega)) (by omega)
  rw [hW, ver_zero] at this
  rw [h.bk V (by omega)]
  simp only [Bool.false_eq_true, if_false, if_true] at this
  omega
theorem Inv.room (h : Inv N L f S) {x : Int} (hx : Sp.gi L x < L.length) : Le.relE (Le.hd S) (Ra.verOf (f x.toNat)) (Sp.gvv L x) = 0 := by
  obtain ⟨_, _, w3, w4⟩ := h.word hx
  obtain ⟨_, _, _, e5, _, _⟩ := h.gi hx
  obtain ⟨V, hV⟩ : ∃ V : Nat, Ra.verOf (f x.toNat) = V := ⟨(Ra.verOf (f x.toNat)).toNat, by omega⟩
  have := h.held hx hV
  unfold Le.relE
  rw [hV, if_pos ⟨Le.kindB_iff.2 (by omega), by omega⟩, if_neg (by rw [Int.toNat_natCast]; omega)]
/-- A span's pages are free. -/
theorem Inv.give (h : Inv N L f S) {x : Int} (hx : Sp.gi L x < L.length) :
    Inv N (Sp.gvL L x) (Ra.fill f x.toNat (Sp.gvv L x).toNat 0) (Le.relF (Le.hd S) (Ra.verOf (f x.toNat)) (Sp.gvv L x) :: S) := by
  obtain ⟨e1, e2, e4, e5, e6, e3⟩ := h.gi hx
  obtain ⟨w1, w2, w3, w4⟩ := h.word hx
  have hE := h.room hx
  have hsame : ∀ i, x.toNat ≤ i → i < x.toNat + (Sp.gvv L x).toNat → f i = f x.toNat := fun i a b => h.same hx (by omega) (by omega)
  have eL : Sp.gvL L x = Sp.giveL L (Sp.gi L x) := by unfold Sp.gvL; rw [if_pos hx]
  obtain ⟨V, hV⟩ : ∃ V : Nat, Ra.verOf (f x.toNat) = V := ⟨(Ra.verOf (f x.toNat)).toNat, by omega⟩
  refine ⟨h.n0, h.n1, Sp.gv_wf h.wf x, fun i hi => ?_, fun j hj => ?_, h.bw.cons (Le.rel_gd h.bw.hd hE).1⟩
  · have hp := Sp.pf_give h.wf hx e2 (x := i) (by omega) hi
    rw [← eL, e1, e3] at hp
    by_cases hin : x.toNat ≤ i ∧ i < x.toNat + (Sp.gvv L x).toNat
    · rw [if_pos (by omega)] at hp
      exact .inl ⟨hp, fill_at _ hin.1 hin.2⟩
    · rw [if_neg (by omega)] at hp
      unfold Pg
      rw [hp, fill_far _ hin]
      rcases h.pg i hi with h3 | ⟨a, a1, a2, a3, a4, a5⟩
      · exact .inl h3
      · right
        refine ⟨a, a1, a2, a3, a4, ?_⟩
        rw [fill_far _ (fun hh => ?_)]
        · exact a5
        · obtain ⟨j, hj, b1, b2, b3, b4⟩ := h.owner hi a1
          have hbj := h.at hj
          have := Sp.chain_one h.wf.chain hj hx (x := a) (by omega) (by omega) (by omega) (by omega)
          subst this
          omega
  · have := h.bk j hj
    show Le.relF (Le.hd S) (Ra.verOf (f x.toNat)) (Sp.gvv L x) j = _
    unfold Le.relF
    rw [hV, up_row, cw_turn hsame (by omega), ver_zero, Int.toNat_natCast]
    have hvj : ver j (f x.toNat) = decide (j = V) := by rw [ver_word w1, hV, Bool.eq_iff_iff]; simp; omega
    rw [hvj]
    by_cases e : j = V
    · subst e; rw [if_pos rfl, this]; simp; omega
    · rw [if_neg e, this]; simp [e]
/-- A span's pages have another word. -/
theorem Inv.mark (h : Inv N L f S) {x : Int} (hx : Sp.gi L x < L.length) {v c s t : Int} (hv : 0 ≤ v ∧ v ≤ 2) (hc : 0 ≤ c ∧ c ≤ 63) (hs : 0 ≤ s ∧ s ≤ 1) :
    Le.shE (Le.hd S) (Ra.verOf (f x.toNat)) v (Sp.gvv L x) = 0 ∧
    Inv N L (Ra.fill f x.toNat (Sp.gvv L x).toNat (Ra.wd x v c s t)) (Le.shF (Le.hd S) (Ra.verOf (f x.toNat)) v (Sp.gvv L x) :: S) := by
  obtain ⟨e1, e2, e4, e5, e6, e3⟩ := h.gi hx
  obtain ⟨w1, w2, w3, w4⟩ := h.word hx
  have hR := h.room hx
  have hE : Le.shE (Le.hd S) (Ra.verOf (f x.toNat)) v (Sp.gvv L x) = 0 := by
    unfold Le.shE; rw [if_pos (Le.kindB_iff.2 (by omega))]; exact hR
  have hsame : ∀ i, x.toNat ≤ i → i < x.toNat + (Sp.gvv L x).toNat → f i = f x.toNat := fun i a b => h.same hx (by omega) (by omega)
  obtain ⟨V, hV⟩ : ∃ V : Nat, Ra.verOf (f x.toNat) = V := ⟨(Ra.verOf (f x.toNat)).toNat, by omega⟩
  have hok : Ra.okB x v c s = true := Ra.okB_iff.2 (by have := h.n1; omega)
  obtain ⟨y1, y2, _, y4⟩ := Ra.wd_parts (t := t) hok
  have hw0 : Ra.wd x v c s t ≠ 0 := by unfold Ra.wd; omega
  refine ⟨hE, h.n0, h.n1, h.wf, fun i hi => ?_, fun j hj => ?_, h.bw.cons (Le.sh_gd h.bw.hd hE)⟩
  · by_cases hin : x.toNat ≤ i ∧ i < x.toNat + (Sp.gvv L x).toNat
    · have := (h.taken hx e2 (x := i) (by rw [e1]; omega) (by rw [e1, e3]; omega)).1
      rw [e1] at this
      right
      refine ⟨x.toNat, by omega, ?_⟩
      rw [fill_at _ hin.1 hin.2, fill_at _ (Nat.le_refl _) (by omega)]
      exact ⟨hw0, by omega, ⟨by rw [y2]; omega, by rw [y4]; omega⟩, rfl⟩
    · unfold Pg
      rw [fill_far _ hin]
      rcases h.pg i hi with h3 | ⟨a, a1, a2, a3, a4, a5⟩
      · exact .inl h3
      · right
        refine ⟨a, a1, a2, a3, a4, ?_⟩
        rw [fill_far _ (fun hh => ?_)]
        · exact a5
        · obtain ⟨j, hj, b1, b2, b3, b4⟩ := h.owner hi a1
          have hbj := h.at hj
          have := Sp.chain_one h.wf.chain hj hx (x := a) (by omega) (by omega) (by omega) (by omega)
          subst this
          omega
  · have := h.bk j hj
    obtain ⟨U, rfl⟩ : ∃ U : Nat, v = U := ⟨v.toNat, by omega⟩
    show Le.shF (Le.hd S) (Ra.verOf (f x.toNat)) U (Sp.gvv L x) j = _
    unfold Le.shF Le.resF Le.relF
    rw [hV]
    simp only [up_row, Int.toNat_natCast]
    rw [cw_turn hsame (by omega)]
    have hvj : ver j (f x.toNat) = decide (j = V) := by rw [ver_word w1, hV, Bool.eq_iff_iff]; simp; omega
    have hvu : ver j (Ra.wd x U c s t) = decide (j = U) := by rw [ver_word hw0, y2, Bool.eq_iff_iff]; simp; omega
    rw [hvj, hvu]
    by_cases e : j = V <;> by_cases e' : j = U
    · subst e; subst e'; simp [this]
    · subst e; simp [e', this]; omega
    · subst e'; simp [e, this]; omega
    · simp [e, e', this]
/-- A ground without spans. -/
theorem Inv.new (h0 : 0 ≤ N) (h1 : N ≤ 4096) : Inv N (Sp.newL N) (fun _ => 0) [Le.z8] := by
  refine ⟨h0, h1, Sp.new_wf h0, fun x _ => .inl ⟨Sp.pf_new, rfl⟩, fun k _ => ?_, Le.new_wf h0 (by omega)⟩
  have : ∀ n, cw (ver k) (fun _ => 0) n = 0 := by
    intro n
    induction n with
    | zero => rfl
    | succ n ih => unfold cw; rw [ih]; rfl
  rw [this]; rfl
end
end
end Go.Proofs.YtckcgaliphpgeaaGreatDoor.Gr

/-
  What a ground is in memory: laws that the claimed proofs use.
-/
namespace Go.Proofs.YtckcgaliphpgeaaGreatDoor.Gr
set_option maxRecDepth 100000
open Go.RowKit

theorem up_trans {w W w2 : World} (h : Below w.heap.size w W) (h2 : Below W.heap.size W w2) : Below w.heap.size w w2 := h.trans (h2.mono h.size)
theorem up_alloc {w W : World} (h : Below w.heap.size w W) (o : Obj) : Below w.heap.size w (W.alloc o) := h.alloc h.size o
theorem up_drew {w W : World} (h : Below w.heap.size w W) : ∀ k, Below w.heap.size w (W.drewN k)
  | 0 => h
  | k + 1 => (up_drew h k).drew
theorem i64_in (n : Int) (h0 : -4611686018427387904 ≤ n) (h1 : n ≤ 4611686018427387904) : IntKind.i64.wrap n = n := by rw [IntKind.wrap_i64]; omega
abbrev Blk (w : World) (g : Nat) (vs : List Value) (t : TypeId) : Prop := Sp.Blk w g vs t
theorem Blk.below {w w' : World} {g : Nat} {vs : List Value} {t : TypeId} (h : Blk w g vs t) (hb : Below w.heap.size w w') : Blk w' g vs t := Sp.Blk.of h (hb.block g (Sp.Blk.lt h))
theorem Blk.new (w : World) (vs : List Value) (t : TypeId) : Blk (w.alloc (.cells vs.toArray t)) w.heap.size vs t := heap_alloc_last w _
/-- Of what kind a block is; 0: it is no row of cells. -/
def kind (w : World) (k : Nat) : Nat := match w.heap[k]? with
  | some (.cells _ t _) => t
  | _ => 0
theorem kind_of {w : World} {k t : Nat} {a : Array Value} {fr : Nat × Nat} (h : w.heap[k]? = some (.cells a t fr)) : kind w k = t := by unfold kind; rw [h]
theorem kind_blk {w : World} {g : Nat} {vs : List Value} {t : TypeId} (h : Blk w g vs t) : kind w g = t := kind_of h
theorem kne {w : World} {a b x y : Nat} (h1 : kind w a = x) (h2 : kind w b = y) (h : x ≠ y) : a ≠ b := fun e => h (by rw [← h1, ← h2, e])
theorem kind_map {w : World} {b : Nat} {S : List Le.Row} (h : Le.Mp w b S) : kind w b = 0 := by
  obtain ⟨_, _, ⟨es, c, hb, _⟩, _⟩ := h
  unfold kind; rw [hb]

/-! ### A ground's parts -/
structure Pl where
  qs : Nat
  gs : Nat
  qm : Nat
  gm : Ra.Gs
  ql : Nat
  bl : Nat
  qc : Nat
  gc : Nat
def Pl.put (p : Pl) (g : Nat) (m : Ra.Gs) : Pl := ⟨p.qs, g, p.qm, m, p.ql, p.bl, p.qc, p.gc⟩
/-- The blocks that a call may change. -/
def Own (p : Pl) (k : Nat) : Prop := k = p.qs ∨ k = p.gs ∨ k = p.qm ∨ (∃ i, i < 64 ∧ p.gm i = some k) ∨ k = p.ql ∨ k = p.bl
structure Fe (p : Pl) (w w' : World) : Prop where
  os : w'.os = w.os
  tape : w'.tape = w.tape
  output : w'.output = w.output
  size : w.heap.size ≤ w'.heap.size
  block : ∀ k, k < w.heap.size → ¬ Own p k → w'.heap[k]? = w.heap[k]?
def Nw (B : Nat) (p p' : Pl) : Prop := ∀ k, Own p' k → Own p k ∨ B ≤ k
theorem Nw.refl (B : Nat) (p : Pl) : Nw B p p := fun _ h => .inl h
theorem Nw.trans {B B' : Nat} {p p' p'' : Pl} (h : Nw B p p') (k : Nw B' p' p'') (hB : B ≤ B') : Nw B p p'' := fun x hx => by
  rcases k x hx with h1 | h1
  · exact h x h1
  · exact .inr (by omega)
theorem Nw.put {B : Nat} {p : Pl} {g : Nat} {m : Ra.Gs} (hg : g = p.gs ∨ B ≤ g) (hm : Ra.Newer B p.gm m) : Nw B p (p.put g m) := fun k hk => by
  rcases hk with h | h | h | ⟨i, hi, h⟩ | h | h
  · exact .inl (.inl h)
  · rcases hg with e | e
    · exact .inl (.inr (.inl (h.trans e)))
    · right; have h' : k = g := h; omega
  · exact .inl (.inr (.inr (.inl h)))
  · rcases hm i k hi h with e | e
    · exact .inl (.inr (.inr (.inr (.inl ⟨i, hi, e⟩))))
    · exact .inr e
  · exact .inl (.inr (.inr (.inr (.inr (.inl h)))))
  · exact .inl (.inr (.inr (.inr (.inr (.inr h)))))
theorem Fe.refl (p : Pl) (w : World) : Fe p w w := ⟨rfl, rfl, rfl, Nat.le_refl _, fun _ _ _ => rfl⟩
theorem Fe.of {p : Pl} {a b : World} (h : Below a.heap.size a b) : Fe p a b := ⟨h.os, h.tape, h.output, h.size, fun k hk _ => h.block k hk⟩
theorem Fe.trans {p p' : Pl} {a b c : World} (h : Fe p a b) (k : Fe p' b c) (hn : Nw a.heap.size p p') : Fe p a c :=
  ⟨k.os.trans h.os, k.tape.trans h.tape, k.output.trans h.output, Nat.le_trans h.size k.size, fun i hi h1 => (k.block i (Nat.lt_of_lt_of_le hi h.size) (fun ho => by
    rcases hn i ho with e | e
    · exact h1 e
    · omega)).trans (h.block i hi h1)⟩
theorem Fe.below {p : Pl} {B : Nat} {a b : World} (h : Fe p a b) (h1 : ∀ k, Own p k → B ≤ k) (hB : B ≤ a.heap.size) : Below B a b :=
  ⟨h.os, h.tape, h.output, h.size, fun k hk => h.block k (by omega) (fun ho => by have := h1 k ho; omega)⟩
theorem Fe.sp {p : Pl} {a b : World} (h : Sp.Fr p.qs p.gs a b) : Fe p a b := ⟨h.os, h.tape, h.output, h.size, fun k hk ho => h.block k hk (fun e => ho (.inl e)) (fun e => ho (.inr (.inl e)))⟩
theorem Fe.ra {p : Pl} {a b : World} (h : Ra.Fr p.qm p.gm a b) : Fe p a b := ⟨h.os, h.tape, h.output, h.size, fun k hk ho => h.block k hk (fun e => ho (.inr (.inr (.inl e)))) (fun i hi e => ho (.inr (.inr (.inr (.inl ⟨i, hi, e⟩)))))⟩
theorem Fe.le {p : Pl} {a b : World} (h : Le.Fr p.ql p.bl a b) : Fe p a b := ⟨h.os, h.tape, h.output, h.size, fun k hk ho => h.block k hk (fun e => ho (.inr (.inr (.inr (.inr (.inl e)))))) (fun e => ho (.inr (.inr (.inr (.inr (.inr e))))))⟩
structure Gx (w : World) (q : Nat) (p : Pl) (N : Int) (L : List Sp.Rn) (f : Ra.Ws) (t : Int) (S : List Le.Row) (bs : List (BitVec 8)) : Prop where
  blk : Blk w q [.pointer (some ⟨p.qs, 0, none⟩), .pointer (some ⟨p.qm, 0, none⟩), .pointer (some ⟨p.ql, 0, none⟩), .pointer (some ⟨p.qc, 0, none⟩)] 92
  sp : Sp.Sp w p.qs p.gs L
  mp : Ra.Mp w p.qm N t p.gm f
  led : Le.Led w p.ql p.bl N S
  mem : Ce.Mem w p.qc p.gc bs
section
variable {w w' : World} {q : Nat} {p : Pl} {N t : Int} {L : List Sp.Rn} {f : Ra.Ws} {S : List Le.Row} {bs : List (BitVec 8)}
theorem Gx.kinds (h : Gx w q p N L f t S bs) : kind w q = 92 ∧ kind w p.qs = 165 ∧ kind w p.gs = 108 ∧ kind w p.qm = 171 ∧ (∀ i b, i < 64 → p.gm i = some b → kind w b = 212) ∧ kind w p.ql = 156 ∧ kind w p.bl = 0 ∧ kind w p.qc = 173 ∧ kind w p.gc = 5 := by
  obtain ⟨cap, h1, ⟨cur, h2, _⟩, _⟩ := h.sp
  exact ⟨kind_of h.blk, kind_of h1, kind_of h2, kind_of h.mp.lay.blk, fun i b hi hb => kind_of (h.mp.lay.leaf i b hi hb), kind_of h.led.blk, kind_map h.led.mp, kind_of h.mem.1, kind_of h.mem.2.1⟩
theorem Gx.lt (h : Gx w q p N L f t S bs) : q < w.heap.size ∧ p.qs < w.heap.size ∧ p.gs < w.heap.size ∧ p.qm < w.heap.size ∧ (∀ i b, i < 64 → p.gm i = some b → b < w.heap.size) ∧ p.ql < w.heap.size ∧ p.bl < w.heap.size ∧ p.qc < w.heap.size ∧ p.gc < w.heap.size :=
  ⟨Sp.Blk.lt h.blk, h.sp.lt.1, h.sp.lt.2, h.mp.lay.blk.lt, fun i b hi hb => (h.mp.lay.leaf i b hi hb).lt, h.led.blk.lt, h.led.mp.lt, h.mem.lt, h.mem.2.1.lt⟩
/-- What a ground's block is of. -/
theorem Gx.own (h : Gx w q p N L f t S bs) {k : Nat} (ho : Own p k) : k < w.heap.size ∧ (kind w k = 165 ∨ kind w k = 108 ∨ kind w k = 171 ∨ kind w k = 212 ∨ kind w k = 156 ∨ kind w k = 0) := by
  obtain ⟨_, a1, a2, a3, a4, a5, a6, _, _⟩ := h.kinds
  obtain ⟨_, b1, b2, b3, b4, b5, b6, _, _⟩ := h.lt
  rcases ho with e | e | e | ⟨i, hi, e⟩ | e | e
  · subst e; exact ⟨b1, .inl a1⟩
  · subst e; exact ⟨b2, .inr (.inl a2)⟩
  · subst e; exact ⟨b3, .inr (.inr (.inl a3))⟩
  · exact ⟨b4 i k hi e, .inr (.inr (.inr (.inl (a4 i k hi e))))⟩
  · subst e; exact ⟨b5, .inr (.inr (.inr (.inr (.inl a5))))⟩
  · subst e; exact ⟨b6, .inr (.inr (.inr (.inr (.inr a6))))⟩
/-- A block of another kind is none of a ground's that a call may change. -/
theorem Gx.other (h : Gx w q p N L f t S bs) {k t' : Nat} (hk : kind w k = t') (ht : t' ≠ 165 ∧ t' ≠ 108 ∧ t' ≠ 171 ∧ t' ≠ 212 ∧ t' ≠ 156 ∧ t' ≠ 0) : ¬ Own p k := fun ho => by
  have := (h.own ho).2; omega
theorem Gx.of (h : Gx w q p N L f t S bs) (hb : ∀ k, k < w.heap.size → (k = q ∨ Own p k ∨ k = p.qc ∨ k = p.gc) → w'.heap[k]? = w.heap[k]?) : Gx w' q p N L f t S bs := by
  obtain ⟨a0, a1, a2, a3, a4, a5, a6, a7, a8⟩ := h.lt
  refine ⟨Sp.Blk.of h.blk (hb _ a0 (.inl rfl)), h.sp.of (hb _ a1 (.inr (.inl (.inl rfl)))) (hb _ a2 (.inr (.inl (.inr (.inl rfl))))), ⟨h.mp.lay.of (hb _ a3 (.inr (.inl (.inr (.inr (.inl rfl)))))) (fun i b hi e => hb _ (a4 i b hi e) (.inr (.inl (.inr (.inr (.inr (.inl ⟨i, hi, e⟩))))))), h.mp.kept, h.mp.st⟩,
    h.led.of (hb _ a5 (.inr (.inl (.inr (.inr (.inr (.inr (.inl rfl)))))))) (hb _ a6 (.inr (.inl (.inr (.inr (.inr (.inr (.inr rfl)))))))), h.mem.of_blocks (hb _ a7 (.inr (.inr (.inl rfl)))) (hb _ a8 (.inr (.inr (.inr rfl))))⟩
theorem Gx.below (h : Gx w q p N L f t S bs) (hb : Below w.heap.size w w') : Gx w' q p N L f t S bs := h.of (fun k hk _ => hb.block k hk)
/-- Spans have changed. -/
theorem Gx.spans (h : Gx w q p N L f t S bs) {g' : Nat} {L' : List Sp.Rn} (hs : Sp.Sp w' p.qs g' L') (hf : Sp.Fr p.qs p.gs w w') : Gx w' q (p.put g' p.gm) N L' f t S bs := by
  obtain ⟨k0, k1, k2, k3, k4, k5, k6, k7, k8⟩ := h.kinds
  obtain ⟨a0, a1, a2, a3, a4, a5, a6, a7, a8⟩ := h.lt
  have far : ∀ k t', kind w k = t' → t' ≠ 165 → t' ≠ 108 → k < w.heap.size → w'.heap[k]? = w.heap[k]? := fun k t' hk h1 h2 hl => hf.block k hl (kne hk k1 h1) (kne hk k2 h2)
  exact ⟨Sp.Blk.of h.blk (far _ _ k0 (by decide) (by decide) a0), hs, ⟨h.mp.lay.of (far _ _ k3 (by decide) (by decide) a3) (fun i b hi e => far _ _ (k4 i b hi e) (by decide) (by decide) (a4 i b hi e)), h.mp.kept, h.mp.st⟩,
    h.led.of (far _ _ k5 (by decide) (by decide) a5) (far _ _ k6 (by decide) (by decide) a6), h.mem.of_blocks (far _ _ k7 (by decide) (by decide) a7) (far _ _ k8 (by decide) (by decide) a8)⟩
/-- The map has changed. -/
theorem Gx.radix (h : Gx w q p N L f t S bs) {m' : Ra.Gs} {f' : Ra.Ws} {t' : Int} (hm : Ra.Mp w' p.qm N t' m' f') (hf : Ra.Fr p.qm p.gm w w') : Gx w' q (p.put p.gs m') N L f' t' S bs := by
  obtain ⟨k0, k1, k2, k3, k4, k5, k6, k7, k8⟩ := h.kinds
  obtain ⟨a0, a1, a2, a3, a4, a5, a6, a7, a8⟩ := h.lt
  have far : ∀ k t', kind w k = t' → t' ≠ 171 → t' ≠ 212 → k < w.heap.size → w'.heap[k]? = w.heap[k]? := fun k t' hk h1 h2 hl => hf.block k hl (kne hk k3 h1) (fun i hi e => kne hk (k4 i k hi e) h2 rfl)
  exact ⟨Sp.Blk.of h.blk (far _ _ k0 (by decide) (by decide) a0), h.sp.of (far _ _ k1 (by decide) (by decide) a1) (far _ _ k2 (by decide) (by decide) a2), hm,
    h.led.of (far _ _ k5 (by decide) (by decide) a5) (far _ _ k6 (by decide) (by decide) a6), h.mem.of_blocks (far _ _ k7 (by decide) (by decide) a7) (far _ _ k8 (by decide) (by decide) a8)⟩
/-- The book has changed. -/
theorem Gx.book (h : Gx w q p N L f t S bs) {S' : List Le.Row} (hl : Le.Led w' p.ql p.bl N S') (hf : Le.Fr p.ql p.bl w w') : Gx w' q p N L f t S' bs := by
  obtain ⟨k0, k1, k2, k3, k4, k5, k6, k7, k8⟩ := h.kinds
  obtain ⟨a0, a1, a2, a3, a4, a5, a6, a7, a8⟩ := h.lt
  have far : ∀ k t', kind w k = t' → t' ≠ 156 → t' ≠ 0 → k < w.heap.size → w'.heap[k]? = w.heap[k]? := fun k t' hk h1 h2 hl => hf.block k hl (kne hk k5 h1) (kne hk k6 h2)
  exact ⟨Sp.Blk.of h.blk (far _ _ k0 (by decide) (by decide) a0), h.sp.of (far _ _ k1 (by decide) (by decide) a1) (far _ _ k2 (by decide) (by decide) a2), ⟨h.mp.lay.of (far _ _ k3 (by decide) (by decide) a3) (fun i b hi e => far _ _ (k4 i b hi e) (by decide) (by decide) (a4 i b hi e)), h.mp.kept, h.mp.st⟩,
    hl, h.mem.of_blocks (far _ _ k7 (by decide) (by decide) a7) (far _ _ k8 (by decide) (by decide) a8)⟩
/-- The memory's bytes have changed. -/
theorem Gx.bytes (h : Gx w q p N L f t S bs) {cs : List (BitVec 8)} (hm : Ce.Mem w' p.qc p.gc cs) (hf : w.grownBy w' (some p.gc)) : Gx w' q p N L f t S cs := by
  obtain ⟨k0, k1, k2, k3, k4, k5, k6, k7, k8⟩ := h.kinds
  obtain ⟨a0, a1, a2, a3, a4, a5, a6, a7, a8⟩ := h.lt
  have far : ∀ k t', kind w k = t' → t' ≠ 5 → k < w.heap.size → w'.heap[k]? = w.heap[k]? := fun k t' hk h1 hl => hf.block k hl (fun e => kne hk k8 h1 (Option.some.inj e))
  exact ⟨Sp.Blk.of h.blk (far _ _ k0 (by decide) a0), h.sp.of (far _ _ k1 (by decide) a1) (far _ _ k2 (by decide) a2), ⟨h.mp.lay.of (far _ _ k3 (by decide) a3) (fun i b hi e => far _ _ (k4 i b hi e) (by decide) (a4 i b hi e)), h.mp.kept, h.mp.st⟩,
    h.led.of (far _ _ k5 (by decide) a5) (far _ _ k6 (by decide) a6), hm⟩
theorem Gx.cells (h : Gx w q p N L f t S bs) : w.cell? ⟨q, 0, none⟩ = some (.pointer (some ⟨p.qs, 0, none⟩)) ∧ w.cell? ⟨q, 1, none⟩ = some (.pointer (some ⟨p.qm, 0, none⟩)) ∧ w.cell? ⟨q, 2, none⟩ = some (.pointer (some ⟨p.ql, 0, none⟩)) ∧ w.cell? ⟨q, 3, none⟩ = some (.pointer (some ⟨p.qc, 0, none⟩)) :=
  ⟨Sp.Blk.cell h.blk, Sp.Blk.cell h.blk, Sp.Blk.cell h.blk, Sp.Blk.cell h.blk⟩
end
/-- A ground, and what is true of its numbers. -/
structure Gm (w : World) (q : Nat) (p : Pl) (N : Int) (L : List Sp.Rn) (f : Ra.Ws) (t : Int) (S : List Le.Row) (bs : List (BitVec 8)) : Prop where
  gx : Gx w q p N L f t S bs
  inv : Inv N L f S
  len : (bs.length : Int) = 256 * N
theorem Gm.below {w w' : World} {q : Nat} {p : Pl} {N t : Int} {L : List Sp.Rn} {f : Ra.Ws} {S : List Le.Row} {bs : List (BitVec 8)} (h : Gm w q p N L f t S bs) (hb : Below w.heap.size w w') : Gm w' q p N L f t S bs := ⟨h.gx.below hb, h.inv, h.len⟩
end Go.Proofs.YtckcgaliphpgeaaGreatDoor.Gr
