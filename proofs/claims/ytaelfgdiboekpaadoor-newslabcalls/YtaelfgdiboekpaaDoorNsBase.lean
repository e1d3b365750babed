/-
  Plain facts on words of free slots and on lists that go from slot to slot, of which no statement of its own is claimed.
-/
import Derived.Test.YtaelfgdiboekpaaDoorCeA
namespace Go.Proofs.YtaelfgdiboekpaaDoor.Ns
set_option maxRecDepth 100000
open Ce (ldW ld ld_congr ld_by8_whole by8 bytesOf bytesOf_length bytesOf_getD splice_length splice_getD)

/-! ### Words -/
/-- What each word has in its highest bits. -/
def MK : Nat := 440005911841
/-- A free slot's word: n is the next one's number and 1. -/
def wd (s n c : Nat) : BitVec 64 := BitVec.ofNat 64 (n + 256 * s + 65536 * c + 16777216 * MK)
theorem wd_nat {s n c : Nat} (hs : s < 256) (hn : n < 256) (hc : c < 256) : (wd s n c).toNat = n + 256 * s + 65536 * c + 16777216 * MK := by
  unfold wd MK; rw [BitVec.toNat_ofNat]; omega
def unN (x : BitVec 64) : Nat := x.toNat % 256
def unS (x : BitVec 64) : Nat := x.toNat / 256 % 256
def unC (x : BitVec 64) : Nat := x.toNat / 65536 % 256
def unM (x : BitVec 64) : Nat := x.toNat / 16777216
/-- Is it a word? -/
def unOk (x : BitVec 64) : Bool := decide (unM x = MK ∧ unS x < 128 ∧ unN x ≤ 128 ∧ unC x < 12)
theorem unOk_iff {x : BitVec 64} : unOk x = true ↔ unM x = MK ∧ unS x < 128 ∧ unN x ≤ 128 ∧ unC x < 12 := by simp [unOk]
theorem un_wd {s n c : Nat} (hs : s < 256) (hn : n < 256) (hc : c < 256) : unS (wd s n c) = s ∧ unN (wd s n c) = n ∧ unC (wd s n c) = c ∧ unM (wd s n c) = MK := by
  have h := wd_nat hs hn hc
  unfold unS unN unC unM
  rw [h]; unfold MK; omega
theorem wd_un {x : BitVec 64} (h : unM x = MK) : wd (unS x) (unN x) (unC x) = x := by
  apply BitVec.eq_of_toNat_eq
  rw [wd_nat (by unfold unS; omega) (by unfold unN; omega) (by unfold unC; omega), ← h]
  unfold unS unN unC unM; omega
theorem wd_ok {s n c : Nat} (hs : s < 128) (hn : n ≤ 128) (hc : c < 12) : unOk (wd s n c) = true := by
  obtain ⟨h1, h2, h3, h4⟩ := un_wd (s := s) (n := n) (c := c) (by omega) (by omega) (by omega)
  rw [unOk_iff]; omega
theorem un_lt (x : BitVec 64) : unS x < 256 ∧ unN x < 256 ∧ unC x < 256 ∧ unM x < 1099511627776 := by
  have := x.isLt
  unfold unS unN unC unM; omega

/-! ### Sizes -/
/-- A class's size, and how many slots it has. -/
def zN (c : Nat) : Nat := [8, 16, 24, 32, 48, 64, 96, 128, 192, 256, 384, 512].getD c 0
def nS (c : Nat) : Nat := 1024 / zN c
theorem cls : ∀ c, c < 12 → 8 ≤ zN c ∧ zN c ≤ 512 ∧ 2 ≤ nS c ∧ nS c ≤ 128 ∧ nS c * zN c ≤ 1024 := by decide +kernel
theorem slot_in {c k : Nat} (hc : c < 12) (hk : k < nS c) : k * zN c + zN c ≤ 1024 := by
  have h := (cls c hc).2.2.2.2
  have : (k + 1) * zN c ≤ nS c * zN c := Nat.mul_le_mul_right _ hk
  rw [Nat.succ_mul] at this; omega
theorem slots_apart {z j k : Nat} (h : j < k) : j * z + z ≤ k * z := by
  have : (j + 1) * z ≤ k * z := Nat.mul_le_mul_right _ h
  rw [Nat.succ_mul] at this; omega

/-! ### Ways from slot to slot -/
theorem len_le : ∀ (n : Nat) {l : List Nat}, l.Nodup → (∀ x ∈ l, x < n) → l.length ≤ n
  | 0, l, _, hl => by
    cases l with
    | nil => simp
    | cons x l => have := hl x (by simp); omega
  | n + 1, l, hn, hl => by
    by_cases h : n ∈ l
    · have := len_le n (l := l.erase n) (hn.erase n) (fun x hx => by
        rw [hn.mem_erase_iff] at hx
        have := hl x hx.2
        omega)
      rw [List.length_erase_of_mem h] at this
      omega
    · have := len_le n hn (fun x hx => by
        have := hl x hx
        have : x ≠ n := fun e => h (e ▸ hx)
        omega)
      omega
/-- The slots xs are the way from one link (a slot and 1, or 0) to another. -/
def Rch (F : Nat → Option Nat) : Nat → List Nat → Nat → Prop
  | h, [], h' => h = h'
  | h, k :: xs, h' => h = k + 1 ∧ ∃ h1, F k = some h1 ∧ Rch F h1 xs h'
theorem Rch.snoc {F : Nat → Option Nat} {k a : Nat} (hF : F k = some a) : ∀ {xs : List Nat} {h : Nat}, Rch F h xs (k + 1) → Rch F h (xs ++ [k]) a
  | [], h, e => ⟨e, a, hF, rfl⟩
  | x :: xs, h, ⟨e, h1, h2, h3⟩ => ⟨e, h1, h2, h3.snoc hF⟩
theorem Rch.cut {F : Nat → Option Nat} {b : Nat} : ∀ {xs ys : List Nat} {h : Nat}, Rch F h (xs ++ ys) b → ∃ a, Rch F h xs a ∧ Rch F a ys b
  | [], ys, h, r => ⟨h, rfl, r⟩
  | x :: xs, ys, h, ⟨e, h1, h2, h3⟩ => by
    obtain ⟨a, r1, r2⟩ := h3.cut
    exact ⟨a, ⟨e, h1, h2, r1⟩, r2⟩
theorem Rch.det {F : Nat → Option Nat} {a b : Nat} : ∀ {xs ys : List Nat} {h : Nat}, Rch F h xs a → Rch F h ys b → xs.length ≤ ys.length → ∃ zs, ys = xs ++ zs ∧ Rch F a zs b
  | [], ys, h, e, r, _ => ⟨ys, rfl, by rw [← show h = a from e]; exact r⟩
  | x :: xs, [], h, _, _, hl => by simp at hl
  | x :: xs, y :: ys, h, ⟨e, h1, h2, h3⟩, ⟨e', h1', h2', h3'⟩, hl => by
    obtain rfl : x = y := by omega
    rw [h2] at h2'
    obtain rfl := Option.some.inj h2'
    obtain ⟨zs, e2, r⟩ := h3.det h3' (by simpa using hl)
    exact ⟨zs, by rw [e2]; rfl, r⟩
theorem Rch.end_ {F : Nat → Option Nat} {zs : List Nat} {b : Nat} (h : Rch F 0 zs b) : zs = [] := by
  cases zs with
  | nil => rfl
  | cons z zs => exact absurd h.1 (by omega)
theorem Rch.len {F : Nat → Option Nat} {xs ys : List Nat} {h : Nat} (h1 : Rch F h xs 0) (h2 : Rch F h ys 0) : xs = ys := by
  rcases Nat.le_total xs.length ys.length with hl | hl
  · obtain ⟨zs, e, r⟩ := h1.det h2 hl
    rw [r.end_, List.append_nil] at e; exact e.symm
  · obtain ⟨zs, e, r⟩ := h2.det h1 hl
    rw [r.end_, List.append_nil] at e; exact e
theorem Rch.nodup {F : Nat → Option Nat} : ∀ {xs : List Nat} {h : Nat}, Rch F h xs 0 → xs.Nodup
  | [], _, _ => List.nodup_nil
  | x :: xs, h, r => by
    obtain ⟨e, h1, h2, h3⟩ := r
    refine List.nodup_cons.2 ⟨fun hx => ?_, h3.nodup⟩
    obtain ⟨us, vs, rfl⟩ := List.append_of_mem hx
    obtain ⟨a, r1, r2⟩ := h3.cut
    have ea := r2.1
    subst ea
    have r3 : Rch F (x + 1) (x :: (us ++ x :: vs)) 0 := ⟨rfl, h1, h2, h3⟩
    have := congrArg List.length (r2.len r3)
    simp at this
    omega
theorem Rch.mem {F : Nat → Option Nat} {b : Nat} : ∀ {xs : List Nat} {h : Nat}, Rch F h xs b → ∀ k ∈ xs, (F k).isSome = true
  | [], _, _, k, hk => by cases hk
  | x :: xs, h, ⟨e, h1, h2, h3⟩, k, hk => by
    rcases List.mem_cons.1 hk with rfl | hk
    · rw [h2]; rfl
    · exact h3.mem k hk
theorem Rch.congr {F G : Nat → Option Nat} {b : Nat} : ∀ {xs : List Nat} {h : Nat}, (∀ k ∈ xs, G k = F k) → Rch F h xs b → Rch G h xs b
  | [], _, _, e => e
  | x :: xs, h, hc, ⟨e, h1, h2, h3⟩ => ⟨e, h1, by rw [hc x (by simp)]; exact h2, h3.congr fun k hk => hc k (by simp [hk])⟩
/-- The list: the slots from a link on, so many, and then none. -/
def Rt (F : Nat → Option Nat) (h f : Nat) (L : List Nat) : Prop := Rch F h L 0 ∧ L.length = f
theorem Rt.one {F : Nat → Option Nat} {h f : Nat} {L M : List Nat} (h1 : Rt F h f L) (h2 : Rt F h f M) : L = M := h1.1.len h2.1
/-- A way that ends too early. -/
theorem no_early {F : Nat → Option Nat} {h f : Nat} {xs : List Nat} (r : Rch F h xs 0) (hl : xs.length < f) : ¬ ∃ L, Rt F h f L := fun ⟨L, r2, e⟩ => by
  have := r.len r2; subst this; omega
theorem no_next {F : Nat → Option Nat} {h f k : Nat} {xs : List Nat} (r : Rch F h xs (k + 1)) (hF : F k = none) (hl : xs.length < f) : ¬ ∃ L, Rt F h f L := fun ⟨L, r2, e⟩ => by
  obtain ⟨zs, rfl, r3⟩ := r.det r2 (by omega)
  cases zs with
  | nil => simp at e; omega
  | cons z zs =>
    obtain ⟨e1, h1, h2, _⟩ := r3
    obtain rfl : z = k := by omega
    rw [hF] at h2; cases h2
theorem no_end {F : Nat → Option Nat} {h f k : Nat} {xs : List Nat} (r : Rch F h xs (k + 1)) (hl : xs.length = f) : ¬ ∃ L, Rt F h f L := fun ⟨L, r2, e⟩ => by
  obtain ⟨zs, rfl, r3⟩ := r.det r2 (by omega)
  have : zs = [] := List.eq_nil_of_length_eq_zero (by simp at e; omega)
  subst this
  exact absurd r3 (by show ¬ (k + 1 = 0); omega)
theorem Rt.cons {F : Nat → Option Nat} {h f k : Nat} {L : List Nat} (hr : Rt F h f L) (hF : F k = some h) : Rt F (k + 1) (f + 1) (k :: L) := ⟨⟨rfl, h, hF, hr.1⟩, by rw [List.length_cons, hr.2]⟩
theorem Rt.congr {F G : Nat → Option Nat} {h f : Nat} {L : List Nat} (hr : Rt F h f L) (hc : ∀ k ∈ L, G k = F k) : Rt G h f L := ⟨hr.1.congr hc, hr.2⟩
theorem Rt.nil {F : Nat → Option Nat} : Rt F 0 0 [] := ⟨rfl, rfl⟩

/-! ### What a memory tells -/
/-- The next one of a slot, by its word. -/
def nx (bs : List (BitVec 8)) (b c k : Nat) : Option Nat :=
  if k < nS c ∧ unOk (ldW bs (b + k * zN c) 8) = true ∧ unS (ldW bs (b + k * zN c) 8) = k ∧ unC (ldW bs (b + k * zN c) 8) = c then some (unN (ldW bs (b + k * zN c) 8)) else none
theorem nx_lt {bs : List (BitVec 8)} {b c k a : Nat} (h : nx bs b c k = some a) : k < nS c ∧ a ≤ 128 := by
  unfold nx at h
  split at h
  · rename_i h1
    obtain ⟨h1, h2, _⟩ := h1
    have := (unOk_iff.1 h2).2.2.1
    have := Option.some.inj h
    omega
  · cases h
theorem ldW_own (bs : List (BitVec 8)) (s : Nat) (v : BitVec 64) (h : s + 8 ≤ bs.length) : ldW (splice bs s (bytesOf v 8)) s 8 = v := by
  have e : ∀ i, i < 8 → (splice bs s (bytesOf v 8)).getD (s + i) 0#8 = by8 v i := by
    intro i hi
    rw [splice_getD _ _ _ _ (by rw [bytesOf_length]; exact h), if_pos (by rw [bytesOf_length]; omega), show s + i - s = i by omega, bytesOf_getD v 8 i hi]
  unfold ldW
  rw [ld_congr e, ld_by8_whole]
theorem ldW_far (bs cs : List (BitVec 8)) (s o : Nat) (h : s + cs.length ≤ bs.length) (ho : o + 8 ≤ s ∨ s + cs.length ≤ o) : ldW (splice bs s cs) o 8 = ldW bs o 8 := by
  unfold ldW
  apply ld_congr
  intro i hi
  rw [splice_getD _ _ _ _ h, if_neg (by omega)]
/-- A slot's word is written. -/
def lay (bs : List (BitVec 8)) (b c k h : Nat) : List (BitVec 8) := splice bs (b + k * zN c) (bytesOf (wd k h c) 8)
section
variable {bs : List (BitVec 8)} {b c k h : Nat}
theorem lay_len (hc : c < 12) (hk : k < nS c) (hb : b + 1024 ≤ bs.length) : (lay bs b c k h).length = bs.length := by
  have := slot_in hc hk
  have := (cls c hc).1
  exact splice_length (by rw [bytesOf_length]; omega)
theorem lay_own (hc : c < 12) (hk : k < nS c) (hh : h ≤ 128) (hb : b + 1024 ≤ bs.length) : nx (lay bs b c k h) b c k = some h := by
  have h1 := slot_in hc hk
  have h2 := cls c hc
  have e : ldW (lay bs b c k h) (b + k * zN c) 8 = wd k h c := ldW_own bs _ _ (by omega)
  have h3 := un_wd (s := k) (n := h) (c := c) (by omega) (by omega) (by omega)
  unfold nx
  rw [e, if_pos ⟨hk, wd_ok (by omega) hh hc, h3.1, h3.2.2.1⟩, h3.2.1]
theorem lay_far (hc : c < 12) (hk : k < nS c) (hb : b + 1024 ≤ bs.length) {j : Nat} (hj : j ≠ k) : nx (lay bs b c k h) b c j = nx bs b c j := by
  by_cases hn : j < nS c
  · have h1 := slot_in hc hk
    have h2 := (cls c hc).1
    have e : ldW (lay bs b c k h) (b + j * zN c) 8 = ldW bs (b + j * zN c) 8 := by
      apply ldW_far
      · rw [bytesOf_length]; omega
      · rw [bytesOf_length]
        rcases Nat.lt_or_gt_of_ne hj with hl | hl
        · have := slots_apart (z := zN c) hl; omega
        · have := slots_apart (z := zN c) hl; omega
    unfold nx
    rw [e]
  · unfold nx
    rw [if_neg (fun e => hn e.1), if_neg (fun e => hn e.1)]
theorem Rt.push {f : Nat} {L : List Nat} (hr : Rt (nx bs b c) h f L) (hc : c < 12) (hk : k < nS c) (hh : h ≤ 128) (hb : b + 1024 ≤ bs.length) (hn : k ∉ L) : Rt (nx (lay bs b c k h) b c) (k + 1) (f + 1) (k :: L) :=
  (hr.congr fun j hj => lay_far hc hk hb (fun e => hn (by rw [← e]; exact hj))).cons (lay_own hc hk hh hb)
theorem Rt.in_ {f : Nat} {L : List Nat} (hr : Rt (nx bs b c) h f L) : ∀ k ∈ L, k < nS c := fun k hk => by
  have := hr.1.mem k hk
  cases e : nx bs b c k with
  | none => rw [e] at this; cases this
  | some a => exact (nx_lt e).1
theorem Rt.le {f : Nat} {L : List Nat} (hr : Rt (nx bs b c) h f L) : f ≤ nS c := by
  have := len_le (nS c) hr.1.nodup hr.in_
  rw [hr.2] at this
  exact this
end
end Go.Proofs.YtaelfgdiboekpaaDoor.Ns
