/-
  What a client writes into taken slots: laws that the claimed proofs use.
-/
import Derived.Test.YtaelfgdiboekpaaDoorNsBegun
import Derived.Test.YtaelfgdiboekpaaDoorNsWords
namespace Go.Proofs.YtaelfgdiboekpaaDoor.Ns
set_option maxRecDepth 100000
open Go.RowKit
open Ce (u y ldW Mem bytesOf bytesOf_length splice_length)
open Bi (Blk Drawn hasB hasB_iff hasB_not up_alloc up_drew up_trans i64_in ret_i ret_b grown_refl grown_trans grown_below)

/-- Eight bytes are written at a slot. -/
def put8 (bs : List (BitVec 8)) (b c k : Nat) (v : BitVec 64) : List (BitVec 8) := splice bs (b + k * zN c) (bytesOf v 8)
theorem put8_len {bs : List (BitVec 8)} {b c k : Nat} {v : BitVec 64} (hc : c < 12) (hk : k < nS c) (hb : b + 1024 ≤ bs.length) : (put8 bs b c k v).length = bs.length := by
  have := slot_in hc hk
  have := (cls c hc).1
  exact splice_length (by rw [bytesOf_length]; omega)
theorem put8_far {bs : List (BitVec 8)} {b c k : Nat} {v : BitVec 64} (hc : c < 12) (hk : k < nS c) (hb : b + 1024 ≤ bs.length) {j : Nat} (hj : j ≠ k) : nx (put8 bs b c k v) b c j = nx bs b c j := by
  by_cases hn : j < nS c
  · have h1 := slot_in hc hk
    have h2 := (cls c hc).1
    have e : ldW (put8 bs b c k v) (b + j * zN c) 8 = ldW bs (b + j * zN c) 8 := by
      apply ldW_far
      · rw [bytesOf_length]; omega
      · rw [bytesOf_length]
        rcases Nat.lt_or_gt_of_ne hj with hl | hl
        · have := slots_apart (z := zN c) hl; omega
        · have := slots_apart (z := zN c) hl; omega
    unfold nx
    rw [e]
  · unfold nx
    rw [if_neg (fun e => hn e.1), if_neg (fun e => hn e.1)]
/-- Lists without doubles. -/
theorem sub_len : ∀ (l1 l2 : List Nat), l1.Nodup → (∀ x ∈ l1, x ∈ l2) → l1.length ≤ l2.length
  | [], l2, _, _ => Nat.zero_le _
  | x :: l1, l2, hn, hs => by
    obtain ⟨h1, h2⟩ := List.nodup_cons.1 hn
    have hx : x ∈ l2 := hs x (by simp)
    have := sub_len l1 (l2.erase x) h2 (fun z hz => (List.mem_erase_of_ne (fun e => h1 (by rw [← e]; exact hz))).2 (hs z (by simp [hz])))
    rw [List.length_erase_of_mem hx] at this
    have hp : 0 < l2.length := List.length_pos_of_mem hx
    rw [List.length_cons]; omega
theorem all_len {N : Nat} {M : List Nat} (hn : M.Nodup) (hin : ∀ k ∈ M, k < N) (hall : ∀ k, k < N → k ∈ M) : M.length = N := by
  have h1 := len_le N hn hin
  have h2 := sub_len (List.range N) M List.nodup_range (fun x hx => hall x (List.mem_range.1 hx))
  rw [List.length_range] at h2
  omega
theorem mem_nats {xs : List Nat} {k : Nat} : (k : Int) ∈ nats xs ↔ k ∈ xs := by
  unfold nats
  rw [List.mem_map]
  constructor
  · rintro ⟨x, hx, e⟩
    have : x = k := by omega
    rw [← this]; exact hx
  · intro h; exact ⟨k, h, rfl⟩
theorem wdV_is (s n c : Int) : ∃ (x : BitVec 64) (o : Bool), wdV s n c = .tuple #[.int .u64 (u x), .bool o] := by
  unfold wdV
  split
  · exact ⟨_, _, rfl⟩
  · exact ⟨0#64, false, rfl⟩
section
variable {w0 w w' : World} {s q g b c : Nat} {S S' : SS} {L L' : List Nat}
theorem ev_store (k : Nat) (v : BitVec 64) (h : Ev w0 w s q g b c S L) (hk : k < nS c) (hn : k ∉ L) : Calls Tryd.prog 44 #[.pointer (some ⟨q, 0, none⟩), .int .i64 ((b + k * zN c : Nat) : Int), .int .i64 8, .int .u64 (u v)] w fun e w' =>
    e = .returned (.int .i64 0) ∧ Ev w0 w' s q g b c ⟨put8 S.bs b c k v, S.h, S.f⟩ L ∧ Fr s g w w' := by
  have h1 := slot_in h.sb.hc hk
  have h2 := (cls c h.sb.hc).1
  have h3 := h.sb.bd
  refine (store8 (b + k * zN c) v h.sb.mem (by omega)).mono fun e w' ⟨he, hm, hg⟩ => ?_
  have m := h.sb
  obtain ⟨k1, k2, k3⟩ := m.kinds
  have hf : Fr s g w w' := Fr.grown hg
  refine ⟨he, h.step (S' := ⟨put8 S.bs b c k v, S.h, S.f⟩) ⟨m.blk.far hg (kne k1 k3 (by decide)), hm, m.hc, m.hb, ?_, m.hh, m.hf, m.pos⟩ (h.rt.congr fun j hj => put8_far m.hc hk m.fit (fun e => hn (by rw [← e]; exact hj))) hf, hf⟩
  show b + 1024 ≤ (put8 S.bs b c k v).length
  rw [put8_len m.hc hk m.fit]; exact m.fit
theorem ev_address (k : Nat) (h : Ev w0 w s q g b c S L) (hk : k < nS c) : Calls Tryd.prog 33 #[.pointer (some ⟨s, 0, none⟩), .int .i64 (k : Int)] w fun e w' => e = .returned (.tuple #[.int .i64 ((b + k * zN c : Nat) : Int), .bool true]) ∧ Below w.heap.size w w' :=
  (address_yes k h.sb h.tb hk).mono fun _ _ ⟨he, hd⟩ => ⟨he, hd.below⟩
theorem ev_taken (h : Ev w0 w s q g b c S L) : Calls Tryd.prog 26 #[.pointer (some ⟨s, 0, none⟩)] w fun e w' =>
    (∃ A cap, e = .returned (.tuple #[.slice A (tkn L (nS c)).length cap, .int .i64 0]) ∧ Li w' A (nats (tkn L (nS c)))) ∧ Below w.heap.size w w' := taken_yes h.sb h.tb h.rt
theorem ev_list (h : Ev w0 w s q g b c S L) : Calls Tryd.prog 31 #[.pointer (some ⟨s, 0, none⟩)] w fun e w' =>
    (∃ A cap, e = .returned (.tuple #[.slice A L.length cap, .int .i64 0]) ∧ Li w' A (nats L)) ∧ Below w.heap.size w w' := list_yes h.sb h.tb h.rt
theorem ev_addr (h : Ev w0 w s q g b c S L) {k : Nat} (hk : k < nS c) : I64 ((b + k * zN c : Nat) : Int) := by
  have := slot_in h.sb.hc hk
  have := h.sb.bd
  unfold I64; omega
/-- A slot that is not in the list is given; one that is, is told. -/
theorem ev_give_out (k : Nat) (h : Ev w0 w s q g b c S L) (hk : k < nS c) (hn : k ∉ L) : Calls Tryd.prog 34 #[.pointer (some ⟨s, 0, none⟩), .int .i64 ((b + k * zN c : Nat) : Int)] w fun e w' =>
    e = .returned (.int .i64 0) ∧ Ev w0 w' s q g b c (S.push b c k) (k :: L) ∧ Fr s g w w' :=
  (ev_give _ (ev_addr h hk) h).mono fun _ _ ⟨he, hE, hf⟩ => by
    have e := slotO_at (b := b) h.sb.hc hk
    have e1 : gvE b c L ((b + k * zN c : Nat) : Int) = 0 := by unfold gvE; rw [e]; exact if_neg hn
    have e2 : gvS b c S L ((b + k * zN c : Nat) : Int) = S.push b c k := by unfold gvS; rw [e]; exact if_neg hn
    have e3 : gvL b c L ((b + k * zN c : Nat) : Int) = k :: L := by unfold gvL; rw [e]; exact if_neg hn
    rw [e1] at he
    rw [e2, e3] at hE
    exact ⟨he, hE, hf⟩
theorem ev_give_in (k : Nat) (h : Ev w0 w s q g b c S L) (hk : k < nS c) (hn : k ∈ L) : Calls Tryd.prog 34 #[.pointer (some ⟨s, 0, none⟩), .int .i64 ((b + k * zN c : Nat) : Int)] w fun e w' =>
    e = .returned (.int .i64 19) ∧ Ev w0 w' s q g b c S L ∧ Fr s g w w' :=
  (ev_give _ (ev_addr h hk) h).mono fun _ _ ⟨he, hE, hf⟩ => by
    have e := slotO_at (b := b) h.sb.hc hk
    have e1 : gvE b c L ((b + k * zN c : Nat) : Int) = 19 := by unfold gvE; rw [e]; exact if_pos hn
    have e2 : gvS b c S L ((b + k * zN c : Nat) : Int) = S := by unfold gvS; rw [e]; exact if_pos hn
    have e3 : gvL b c L ((b + k * zN c : Nat) : Int) = L := by unfold gvL; rw [e]; exact if_pos hn
    rw [e1] at he
    rw [e2, e3] at hE
    exact ⟨he, hE, hf⟩
end
/-- The laws' guard. -/
theorem class_split (x : Int) : (x < 0) ∨ (11 < x) ∨ ∃ c : Nat, x = c ∧ c < 12 := by
  by_cases h0 : x < 0
  · exact .inl h0
  · by_cases h1 : 11 < x
    · exact .inr (.inl h1)
    · exact .inr (.inr ⟨x.toNat, by omega, by omega⟩)
end Go.Proofs.YtaelfgdiboekpaaDoor.Ns
