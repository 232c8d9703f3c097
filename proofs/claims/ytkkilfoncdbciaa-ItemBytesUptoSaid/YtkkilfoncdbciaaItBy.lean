/- Layer 4, plain: an item's bytes taken back: what is an item, and what isn't. -/
import Derived.Test.YtkkilfoncdbciaaItStrm
import Derived.Test.YtkkilfoncdbciaaItRbEv
import Derived.Test.YtkkilfoncdbciaaItRefCheck
namespace Go.Proofs.Ytkkilfoncdbciaa
open Go.RowKit

def listX (x : It) (A : Option Addr) (n c : Nat) : List Value := [.bool x.g, .int .u8 x.o, .int .u64 x.q, .int .u64 x.t, .string x.r, .slice A n c, .int .u8 x.s, .int .u8 x.p, .int .i64 x.v, .int .u8 x.w, .int .u8 x.ga, .int .u64 x.gf, .int .u64 x.gt]
theorem rangeX {w : World} {b : Nat} {x : It} {A : Option Addr} {n c : Nat} {t : TypeId} {fr : Nat × Nat} (hb : w.heap[b]? = some (.cells #[.bool x.g, .int .u8 x.o, .int .u64 x.q, .int .u64 x.t, .string x.r, .slice A n c, .int .u8 x.s, .int .u8 x.p, .int .i64 x.v, .int .u8 x.w, .int .u8 x.ga, .int .u64 x.gf, .int .u64 x.gt] t fr)) : w.rangeAt b 0 (listX x A n c) := fun j v hv => by
  rw [cell_of_row w b (0 + j) _ t fr hb, Nat.zero_add]
  rw [show #[Value.bool x.g, .int .u8 x.o, .int .u64 x.q, .int .u64 x.t, .string x.r, .slice A n c, .int .u8 x.s, .int .u8 x.p, .int .i64 x.v, .int .u8 x.w, .int .u8 x.ga, .int .u64 x.gf, .int .u64 x.gt] = (listX x A n c).toArray from rfl, List.getElem?_toArray]
  exact hv
theorem rangeX2 {w : World} {b k : Nat} {x y : It} {A : Option Addr} {n c : Nat} {A2 : Option Addr} {n2 c2 : Nat} {t : TypeId} {fr : Nat × Nat} (hb : w.heap[b]? = some (.cells (listX x A n c ++ listX y A2 n2 c2).toArray t fr)) (hk : k < 2) :
    ∃ (u : It) (U : Option Addr) (nu cu : Nat), ((k = 0 ∧ u = x ∧ U = A ∧ nu = n ∧ cu = c) ∨ (k = 1 ∧ u = y ∧ U = A2 ∧ nu = n2 ∧ cu = c2)) ∧ w.rangeAt b (k * 13) (listX u U nu cu) := by
  have hk' : k = 0 ∨ k = 1 := by omega
  rcases hk' with rfl | rfl
  · refine ⟨x, A, n, c, .inl ⟨rfl, rfl, rfl, rfl, rfl⟩, fun j v hv => ?_⟩
    rw [cell_of_row w b (0 * 13 + j) _ t fr hb, Nat.zero_mul, Nat.zero_add, List.getElem?_toArray, List.getElem?_append_left (List.getElem?_eq_some_iff.1 hv).1]
    exact hv
  · refine ⟨y, A2, n2, c2, .inr ⟨rfl, rfl, rfl, rfl, rfl⟩, fun j v hv => ?_⟩
    have hl : (listX x A n c).length = 13 := rfl
    rw [cell_of_row w b (1 * 13 + j) _ t fr hb, List.getElem?_toArray, List.getElem?_append_right (by omega), hl, Nat.one_mul, Nat.add_sub_cancel_left]
    exact hv
theorem endE_zero {s : St} (h : endE s = 0) : s = ([], 0) := by
  obtain ⟨l, e⟩ := s
  unfold endE at h
  by_cases he : e = 0
  · subst he
    rw [if_pos rfl] at h
    by_cases hl : l = []
    · rw [hl]
    · rw [if_neg hl] at h; cases h
  · rw [if_neg he] at h; exact absurd h he
/-- bytes that are an item's: that item, and these are its bytes -/
theorem dec_back {l : List Nat} (hok : OkB l) (h : decE l = 0) : itemN (decI l) = 0 ∧ l = itemB (decI l) ∧ OkI (decI l) ∧ ((decI l).g = false → FitI 12 8 8 16 (decI l)) := by
  have hI : decI l = (takeR (l, 0)).1 := by unfold decI; rw [if_pos h]
  have hz := endE_zero (show endE (takeR (l, 0)).2 = 0 from h)
  have ht : takeR (l, 0) = ((takeR (l, 0)).1, ([], 0)) := by rw [← hz]
  obtain ⟨h1, h2, h3, h4⟩ := takeR_b hok ht
  rw [List.append_nil] at h2
  rw [hI]
  exact ⟨h1, h2, h3, h4⟩
theorem dec_wrong {x : It} (hx : OkI x) (hs : ShortI x) (hl : x.l.length ≤ 1048576) (h : itemN x ≠ 0) : decE (itemB x) ≠ 0 := fun e => by
  obtain ⟨h1, h2, h3, h4⟩ := dec_back (itemB_ok hx hs hl) e
  have h5 := itemB_inj hx h3 (fun _ => hs.wide hl) (fun hg => (h4 hg).wide) h2
  rw [← normI_N, h5, normI_N] at h
  exact h h1
/-- an item that was taken is short -/
theorem take_short (l : List Nat) (hf : (takeR (l, 0)).1.g = false → FitI 12 8 8 16 (takeR (l, 0)).1) : ShortI (takeR (l, 0)).1 ∧ (takeR (l, 0)).1.l.length ≤ 1048576 := by
  cases hg : (takeR (l, 0)).1.g with
  | false =>
    have h := hf hg
    exact ⟨⟨h.r2, fun i p hp => (h.l p (List.mem_of_getElem? hp)).2⟩, h.c2⟩
  | true =>
    have key : (takeR (l, 0)).1.r = ⟨#[]⟩ ∧ (takeR (l, 0)).1.l = [] := by
      have hz : zeroI.r = ⟨#[]⟩ ∧ zeroI.l = [] := ⟨rfl, rfl⟩
      have hk : ∀ (y : It) (s : St), (chkR y s).1 = y ∨ (chkR y s).1 = zeroI := fun y s => by
        unfold chkR
        split
        · split
          · exact .inl rfl
          · exact .inr rfl
        · exact .inr rfl
      have ht : (takeR (l, 0)).1 = (chkR (itR 12 8 8 16 (l, 0)).1 (itR 12 8 8 16 (l, 0)).2).1 := rfl
      rcases hk (itR 12 8 8 16 (l, 0)).1 (itR 12 8 8 16 (l, 0)).2 with h1 | h1
      · rw [ht, h1]
        rw [ht, h1] at hg
        cases hb : (rB (l, 0)).1 with
        | false =>
          have e : itR 12 8 8 16 (l, 0) = evR 12 8 8 16 (rB (l, 0)).2 := by unfold itR bnd; rw [hb]; rfl
          rw [e] at hg
          cases hg
        | true =>
          have e : itR 12 8 8 16 (l, 0) = gapR (rB (l, 0)).2 := by unfold itR bnd; rw [hb]; rfl
          rw [e]
          exact ⟨rfl, rfl⟩
      · rw [ht, h1]; exact hz
    refine ⟨⟨by rw [key.1]; exact Nat.zero_le _, fun i p hp => ?_⟩, by rw [key.2]; exact Nat.zero_le _⟩
    rw [key.2] at hp
    simp at hp
/-- an item of a list -/
structure ElOk (W : World) (P o : Nat) (u : It) (U : Option Addr) (nu cu : Nat) : Prop where
  hu : OkI u
  hs : ShortI u
  en : nu = u.l.length
  lu : nu ≤ 1048576
  lb : (itemB u).length ≤ 1999000
  rg : ∀ V, Below W.heap.size W V → V.rangeAt P o (listX u U nu cu)
  rd : ∀ V, Below W.heap.size W V → RdP V V.heap.size U u.l
end Go.Proofs.Ytkkilfoncdbciaa
