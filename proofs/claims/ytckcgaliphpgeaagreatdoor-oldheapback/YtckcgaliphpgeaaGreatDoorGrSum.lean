/-
  Sums over a ground's spans, no program in sight: facts that the claimed proofs use.
-/
import Derived.Test.YtckcgaliphpgeaaGreatDoorGrA
import Derived.Test.YtckcgaliphpgeaaGreatDoorSpEach
namespace Go.Proofs.YtckcgaliphpgeaaGreatDoor.Gr
set_option maxRecDepth 100000
/-- How many pages the runs have whose first word is such. -/
def sm (P : Int → Bool) (f : Ra.Ws) (L : List Sp.Rn) : Int := ((L.filter fun r => P (f r.p.toNat)).map (·.n)).sum
theorem sm_nil (P : Int → Bool) (f : Ra.Ws) : sm P f [] = 0 := rfl
theorem sm_cons (P : Int → Bool) (f : Ra.Ws) (r : Sp.Rn) (L : List Sp.Rn) : sm P f (r :: L) = (if P (f r.p.toNat) = true then r.n else 0) + sm P f L := by
  unfold sm
  cases h : P (f r.p.toNat) <;> simp [h]
theorem cw_chain {P : Int → Bool} {f : Ra.Ws} : ∀ {L : List Sp.Rn} {a e : Int}, Sp.Chain a L e → 0 ≤ a → (∀ r ∈ L, ∀ x : Nat, r.p ≤ x → (x : Int) < r.p + r.n → P (f x) = P (f r.p.toNat)) → (cw P f e.toNat : Int) = cw P f a.toNat + sm P f L
  | [], a, e, h, _, _ => by have : a = e := h; subst this; rw [sm_nil]; omega
  | r :: L, a, e, h, h0, hs => by
    obtain ⟨h1, h2, h3⟩ := h
    have ih := cw_chain (P := P) (f := f) h3 (by omega) (fun x hx => hs x (List.mem_cons_of_mem _ hx))
    have hr := cw_run (P := P) (f := f) (p := r.p.toNat) (b := P (f r.p.toNat)) (n := r.n.toNat) (fun i a b => hs r (List.mem_cons_self ..) i (by omega) (by omega))
    have e1 : (a + r.n).toNat = r.p.toNat + r.n.toNat := by omega
    have e2 : a.toNat = r.p.toNat := by omega
    rw [ih, sm_cons, e1, e2, hr]
    cases P (f r.p.toNat) <;> simp only [Bool.false_eq_true, if_false, if_true] <;> omega
section
variable {N : Int} {L : List Sp.Rn} {f : Ra.Ws} {S : List Le.Row}
theorem Inv.even (h : Inv N L f S) (P : Int → Bool) : ∀ r ∈ L, ∀ x : Nat, r.p ≤ x → (x : Int) < r.p + r.n → P (f x) = P (f r.p.toNat) := fun r hr x h1 h2 => by
  obtain ⟨k, hk, rfl⟩ := Sp.el_of_mem hr
  have hb := h.at hk
  cases ht : (Sp.el L k).t with
  | false => rw [h.free hk ht h1 h2, h.free hk ht (x := (Sp.el L k).p.toNat) (by omega) (by omega)]
  | true => rw [(h.taken hk ht h1 h2).2.2.2.2]
theorem Inv.cw (h : Inv N L f S) (P : Int → Bool) : (Gr.cw P f N.toNat : Int) = sm P f L := by
  have := cw_chain h.wf.chain (Int.le_refl 0) (h.even P)
  rw [this]
  show ((Gr.cw P f 0 : Nat) : Int) + _ = _
  have e : Gr.cw P f 0 = 0 := rfl
  rw [e]; omega
theorem fo_zero {f : Ra.Ws} : ∀ {L : List Sp.Rn} (a : Int), (∀ r ∈ L, (f r.p.toNat == 0) = !r.t) → L.foldl (fun a r => if r.t = true then a else a + r.n) a = a + sm (· == 0) f L
  | [], a, _ => by rw [sm_nil]; simp
  | r :: L, a, h => by
    rw [List.foldl_cons, fo_zero _ (fun x hx => h x (List.mem_cons_of_mem _ hx)), sm_cons, h r (List.mem_cons_self ..)]
    cases r.t <;> simp <;> omega
theorem Inv.word0 (h : Inv N L f S) : ∀ r ∈ L, (f r.p.toNat == 0) = !r.t := fun r hr => by
  obtain ⟨k, hk, rfl⟩ := Sp.el_of_mem hr
  have hb := h.at hk
  cases ht : (Sp.el L k).t with
  | false => rw [h.free hk ht (x := (Sp.el L k).p.toNat) (by omega) (by omega)]; rfl
  | true => have := (h.taken hk ht (x := (Sp.el L k).p.toNat) (by omega) (by omega)).2.1; simpa using this
theorem cw_zn (f : Ra.Ws) : ∀ n, Gr.cw (· == 0) f n + Gr.cw nz f n = n
  | 0 => rfl
  | n + 1 => by
    have ih := cw_zn f n
    unfold Gr.cw
    by_cases h : f n = 0
    · have e : nz (f n) = false := by simp [nz, h]
      rw [e]; simp [h]; omega
    · have e : nz (f n) = true := by simp [nz, h]
      rw [e]; simp [h]; omega
theorem Inv.fsum (h : Inv N L f S) : Sp.fsum L + Gr.cw nz f N.toNat = N := by
  have h1 : Sp.fsum L = sm (· == 0) f L := by
    show L.foldl (fun a r => if r.t = true then a else a + r.n) 0 = _
    rw [fo_zero 0 h.word0]; omega
  have h2 := h.cw (· == 0)
  have h3 := cw_zn f N.toNat
  have := h.n0
  rw [h1]; omega
/-- Of the three versions are all words that there are. -/
theorem cw_zero {P : Int → Bool} {f : Ra.Ws} : ∀ {n : Nat}, (∀ i, i < n → P (f i) = false) → Gr.cw P f n = 0
  | 0, _ => rfl
  | n + 1, h => by unfold Gr.cw; rw [cw_zero (n := n) (fun i hi => h i (by omega)), h n (by omega)]; rfl
theorem Inv.three (h : Inv N L f S) : Gr.cw (ver 0) f N.toNat + Gr.cw (ver 1) f N.toNat + Gr.cw (ver 2) f N.toNat = Gr.cw nz f N.toNat := by
  have h1 := (cw_parts f N.toNat).1
  have h2 : Gr.cw (ver 3) f N.toNat = 0 := cw_zero fun i hi => by
    rcases h.pg i (by omega) with ⟨_, h0⟩ | ⟨a, _, _, _, hv, _⟩
    · rw [h0]; rfl
    · cases hh : ver 3 (f i) with
      | false => rfl
      | true => have := (ver_iff.1 hh).2; omega
  omega
/-- The runs of a version. -/
def vL (L : List Sp.Rn) (f : Ra.Ws) (v : Int) : List Sp.Rn := L.filter fun r => ver v (f r.p.toNat)
theorem Inv.vrun (h : Inv N L f S) {v : Int} {r : Sp.Rn} (hr : r ∈ vL L f v) : Sp.gvv L r.p = r.n ∧ 0 ≤ r.p ∧ 1 ≤ r.n ∧ r.p + r.n ≤ N ∧
    (∀ x : Nat, r.p ≤ x → (x : Int) < r.p + r.n → f x = f r.p.toNat ∧ (r.p < x → Sp.gvv L x = 0)) ∧ f r.p.toNat ≠ 0 ∧ Ra.spanOf (f r.p.toNat) = r.p ∧ Ra.verOf (f r.p.toNat) = v := by
  obtain ⟨hm, hv⟩ := List.mem_filter.1 hr
  obtain ⟨k, hk, rfl⟩ := Sp.el_of_mem hm
  obtain ⟨v1, v2⟩ := ver_iff.1 hv
  have hb := h.at hk
  have ht : (Sp.el L k).t = true := by
    cases ht : (Sp.el L k).t with
    | true => rfl
    | false => exact absurd (h.free hk ht (x := (Sp.el L k).p.toNat) (by omega) (by omega)) v1
  have hg := Sp.gi_is h.wf hk rfl ht
  have hgv : Sp.gvv L (Sp.el L k).p = (Sp.el L k).n := by unfold Sp.gvv; rw [hg, if_pos hk]
  have hsp := (h.taken hk ht (x := (Sp.el L k).p.toNat) (by omega) (by omega)).2.2.1
  refine ⟨hgv, hb.1, hb.2.1, hb.2.2, fun x h1 h2 => ⟨(h.taken hk ht h1 h2).2.2.2.2, fun h3 => ?_⟩, v1, hsp, v2⟩
  unfold Sp.gvv
  rw [if_neg]
  intro hc
  obtain ⟨g1, g2⟩ := Sp.gi_yes hc
  have hbc := h.at hc
  have := Sp.chain_one h.wf.chain hc hk (x := x) (by omega) (by omega) h1 h2
  rw [this] at g1
  omega
theorem sm_take (L : List Sp.Rn) (f : Ra.Ws) (v : Int) : sm (ver v) f L = ((vL L f v).map (·.n)).sum := rfl
/-- The first i of them have so many pages. -/
def cum (l : List Sp.Rn) (i : Nat) : Int := ((l.take i).map (·.n)).sum
theorem cum_zero (l : List Sp.Rn) : cum l 0 = 0 := by simp [cum]
theorem cum_succ {l : List Sp.Rn} {i : Nat} (h : i < l.length) : cum l (i + 1) = cum l i + l[i].n := by
  unfold cum
  rw [List.take_succ_eq_append_getElem h, List.map_append, List.sum_append]; simp
theorem cum_all (l : List Sp.Rn) : cum l l.length = (l.map (·.n)).sum := by unfold cum; rw [List.take_length]
theorem cum_le {l : List Sp.Rn} (h : ∀ r ∈ l, 0 ≤ r.n) : ∀ {i : Nat}, i ≤ l.length → 0 ≤ cum l i ∧ cum l i ≤ (l.map (·.n)).sum := by
  have mono : ∀ d i, i + d ≤ l.length → cum l i ≤ cum l (i + d) := by
    intro d
    induction d with
    | zero => intro i _; exact Int.le_refl _
    | succ d ih =>
      intro i hi
      have := ih i (by omega)
      have e := cum_succ (l := l) (i := i + d) (by omega)
      have := h _ (List.getElem_mem (show i + d < l.length by omega))
      rw [show i + (d + 1) = i + d + 1 by omega, e]; omega
  intro i hi
  have h1 := mono i 0 (by omega)
  have h2 := mono (l.length - i) i (by omega)
  rw [cum_zero, Nat.zero_add] at h1
  rw [show i + (l.length - i) = l.length by omega, cum_all] at h2
  exact ⟨h1, h2⟩
end
end Go.Proofs.YtckcgaliphpgeaaGreatDoor.Gr
