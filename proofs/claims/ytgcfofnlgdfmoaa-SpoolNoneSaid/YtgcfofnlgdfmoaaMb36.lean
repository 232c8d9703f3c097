/- Several texts in one: SpUpTo. -/
import Derived.Test.YtgcfofnlgdfmoaaMb35
/- Layer 8: upTo: how many items have an index up to this one; sort.Search (the library's text, walked). -/
namespace Go.Proofs.Ytgcfofnlgdfmoaa
open Go.RowKit

set_option maxRecDepth 100000 in
set_option maxHeartbeats 1000000 in
/-- the first number from which on a function that never turns back is true -/
theorem search_any (g : FuncId) (q1 q2 : Addr) (f : Nat → Bool) (n : Nat) (hn : n ≤ 1000000) (w : World)
    (eg : ∀ (a b c : Value) (w : World), (callFunc g #[a, b, c]).run Try.prog w = .ok (.enter g #[a, b, c]) w)
    (hg : ∀ (k : Nat) (w' : World), k < n → Below w.heap.size w w' → Calls Try.prog g #[.int .i64 k, .pointer (some q1), .pointer (some q2)] w' fun e w2 => e = .returned (.bool (f k)) ∧ Below w'.heap.size w' w2)
    (hmono : ∀ i j, i ≤ j → j < n → f i = true → f j = true) :
    Calls Try.prog 73 #[.int .i64 n, .func (.func g) #[] #[.pointer (some q1), .pointer (some q2)]] w fun e w' => ∃ m : Nat, e = .returned (.int .i64 m) ∧ m ≤ n ∧ (∀ k, k < m → f k = false) ∧ (∀ k, m ≤ k → k < n → f k = true) ∧ Below w.heap.size w w' := by
  have HG := Lib.hid hg
  have HM := Lib.hid hmono
  clear hg hmono
  go_enter Try.func73, Try.ntmps73
  go_wp2
  go_loopw [5, 6] (fun iv jv wx => ∃ i j : Nat, i ≤ j ∧ j ≤ n ∧ iv = .int .i64 i ∧ jv = .int .i64 j ∧ Hid (∀ k, k < i → f k = false) ∧ Hid (∀ k, j ≤ k → k < n → f k = true) ∧ Hid (Below w.heap.size w wx)) (fun iv jv _ => (intOf jv - intOf iv).toNat)
  case atStart => exact ⟨0, n, Nat.zero_le _, Nat.le_refl _, rfl, rfl, fun k hk => absurd hk (by omega), fun k h1 h2 => absurd h1 (by omega), Below.refl _ _⟩
  case round =>
    obtain ⟨i, j, hij, hjn, rfl, rfl, HI, HJ, HB⟩ := hrel
    by_cases hlt : i < j
    · obtain ⟨h, hh⟩ : ∃ h, h = (i + j) / 2 := ⟨_, rfl⟩
      have h1 : i ≤ h := by omega
      have h2 : h < j := by omega
      have hw1 : IntKind.i64.wrap ((i : Int) + (j : Int)) = ((i + j : Nat) : Int) := by rw [IntKind.wrap_i64]; omega
      have hw2 : IntKind.u64.wrap ((i + j : Nat) : Int) = ((i + j : Nat) : Int) := by rw [IntKind.wrap_u64]; omega
      have hw3 : IntKind.i64.wrap (h : Int) = (h : Int) := by rw [IntKind.wrap_i64]; omega
      have HHH := Lib.hid hh
      have HGh := Lib.hid (HG.out h wr (by omega) HB.out)
      clear hh
      have hcast : ((i : Int) + (j : Int)) / 2 = (h : Int) := by have := HHH.out; omega
      have hw4 : IntKind.i64.wrap ((h : Int) + 1) = ((h + 1 : Nat) : Int) := by rw [IntKind.wrap_i64]; omega
      go_wp2_with fail
      refine HGh.out.mono ?_
      rintro _ w1 ⟨rfl, hb1⟩
      have HB1 := Lib.hid (HB.out.trans (hb1.mono HB.out.size))
      clear hb1 HGh hcast
      cases hf : f h with
      | true =>
        have HJ2 : Hid (∀ k, h ≤ k → k < n → f k = true) := fun k h1 h2 => HM.out h k h1 h2 hf
        clear hf
        go_wp2
        go_roundw
        case rel => exact ⟨i, h, h1, by omega, rfl, rfl, HI.out, HJ2.out, HB1.out⟩
        case measure => simp [intOf]; omega
      | false =>
        have HI2 : Hid (∀ k, k < h + 1 → f k = false) := fun k hk => by
          cases hq : f k with
          | false => rfl
          | true => rw [HM.out k h (by omega) (by omega) hq] at hf; cases hf
        clear hf
        go_wp2
        go_roundw
        case rel => exact ⟨h + 1, j, by omega, hjn, by go_num, rfl, HI2.out, HJ.out, HB1.out⟩
        case measure => simp [intOf]; omega
    · obtain rfl : i = j := by omega
      go_wp2
      go_ret
      exact ⟨i, rfl, hjn, HI.out, HJ.out, HB.out⟩

/-- the indexes rise -/
def RiseE (L : List Ett) : Prop := ∀ (i j : Nat) a b, i < j → L[i]? = some a → L[j]? = some b → a.i < b.i
def idxE (L : List Ett) (k : Nat) : Nat := (L[k]?.map fun e => e.i).getD 0
/-- how many have an index up to N -/
def upE (L : List Ett) (N : Nat) : Nat := L.countP fun e => decide (e.i ≤ N)

set_option maxRecDepth 100000 in
set_option maxHeartbeats 1000000 in
theorem upTo1_any {S : Nat → Prop} {s N k : Nat} {X : Sp} {L : List Ett} (q1 q2 : Addr) (w : World) (h : SpAt w S s X L) (h1 : w.cell? q1 = some (.pointer (some ⟨s, 0, none⟩))) (h2 : w.cell? q2 = some (.int .u64 N)) (hk : k < L.length) :
    Calls Try.prog 74 #[.int .i64 k, .pointer (some q1), .pointer (some q2)] w fun e w' => e = .returned (.bool (decide (N < idxE L k))) ∧ Below w.heap.size w w' := by
  obtain ⟨v, k1, r1⟩ := h.sp
  obtain ⟨e, he⟩ : ∃ e, L[k]? = some e := ⟨_, List.getElem?_eq_getElem hk⟩
  obtain ⟨b, c, rfl, -, -, -, hrg, -⟩ := r1.at_ he
  have x0 := hrg 0 _ rfl
  rw [Nat.add_zero] at x0
  have c37 := k1.c37
  have hfew := h.few
  have hi : idxE L k = e.i := by unfold idxE; rw [he]; rfl
  have hd : decide ((N : Int) < (e.i : Int)) = decide (N < e.i) := by congr 1; exact propext ⟨fun h => by omega, fun h => by omega⟩
  rw [hi]
  obtain ⟨n, hn⟩ : ∃ n, n = L.length := ⟨_, rfl⟩
  rw [← hn] at c37 hfew hk
  clear hi k1 r1 hrg he h hn
  go_enter Try.func74, Try.ntmps74
  go_wp2
  go_quiet (fail)
  go_wp2
  go_ret
  exact ⟨rfl, cbelow_drewN (Below.refl _ _) _⟩

set_option maxRecDepth 100000 in
set_option maxHeartbeats 1000000 in
theorem upTo_any {S : Nat → Prop} {s N : Nat} {X : Sp} {L : List Ett} (w : World) (h : SpAt w S s X L) (hrise : RiseE L) :
    Calls Try.prog 47 #[.pointer (some ⟨s, 0, none⟩), .int .u64 N] w fun e w' => ∃ m : Nat, e = .returned (.int .i64 m) ∧ m ≤ L.length ∧ (∀ k, k < m → idxE L k ≤ N) ∧ (∀ k, m ≤ k → k < L.length → N < idxE L k) ∧ Below w.heap.size w w' := by
  obtain ⟨W, hW⟩ : ∃ W, W = (w.alloc (.cells #[.pointer (some ⟨s, 0, none⟩)] 46)).alloc (.cells #[.int .u64 (N : Int)] 52) := ⟨_, rfl⟩
  have hb : Below w.heap.size w W := by rw [hW]; exact ((Below.refl _ _).alloc (Nat.le_refl _) _).alloc (by simp) _
  have hq1 : W.cell? ⟨w.heap.size, 0, none⟩ = some (.pointer (some ⟨s, 0, none⟩)) := by rw [hW]; exact cell_of_row _ _ 0 _ _ _ (heap_alloc2_old _ _ _)
  have hq2 : W.cell? ⟨w.heap.size + 1, 0, none⟩ = some (.int .u64 (N : Int)) := by rw [hW]; exact cell_of_row _ _ 0 _ _ _ (heap_alloc2_new _ _ _)
  have hs := h.below hb
  obtain ⟨v, k1, r1⟩ := hs.sp
  obtain ⟨A, c, rfl⟩ := own_slice r1.own
  have c37 := k1.c37
  have hl1 := World.block_lt_of_cell? W _ hq1
  have hl2 := World.block_lt_of_cell? W _ hq2
  have hS := search_any 74 ⟨w.heap.size, 0, none⟩ ⟨w.heap.size + 1, 0, none⟩ (fun k => decide (N < idxE L k)) L.length (by have := h.few; omega) W (by intros; kernel_rfl)
    (fun k W' hk hW' => upTo1_any _ _ W' (hs.below hW') ((hW'.cell hl1).trans hq1) ((hW'.cell hl2).trans hq2) hk)
    (fun i j hij hj hi => by
      have hi := of_decide_eq_true hi
      by_cases he : i = j
      · subst he; exact decide_eq_true hi
      · have e1 := List.getElem?_eq_getElem (show i < L.length by omega)
        have e2 := List.getElem?_eq_getElem hj
        have := hrise i j _ _ (by omega) e1 e2
        have i1 : idxE L i = (L[i]'(by omega)).i := by unfold idxE; rw [e1]; rfl
        have i2 : idxE L j = L[j].i := by unfold idxE; rw [e2]; rfl
        exact decide_eq_true (by omega))
  have HS := Lib.hid hS
  have HW := Lib.hid hW
  have HB := Lib.hid hb
  have hmf : ∀ (fn : Fn) (first cap : Array Value) (w : World), (Instr.makeFunc fn first cap).run Try.prog w = .ok (.func fn first cap) w := fun _ _ _ _ => rfl
  obtain ⟨n, hn⟩ : ∃ n, n = L.length := ⟨_, rfl⟩
  rw [← hn] at c37 HS ⊢
  clear hW hb hs k1 r1 hS h hrise hn
  go_enter Try.func47, Try.ntmps47
  go_upto_region 1 with fail
  rw [← HW.out]
  go_wp2_with fail
  refine HS.out.mono ?_
  rintro _ w1 ⟨m, rfl, hm, h1, h2, hb1⟩
  have H1 := Lib.hid h1
  have H2 := Lib.hid h2
  have HB1 := Lib.hid (HB.out.trans (hb1.mono HB.out.size))
  clear h1 h2 hb1 HS
  go_wp2
  go_ret
  exact ⟨m, rfl, hm, fun k hk => by have := of_decide_eq_false (H1.out k hk); omega, fun k hk hk2 => of_decide_eq_true (H2.out k hk hk2), HB1.out⟩
end Go.Proofs.Ytgcfofnlgdfmoaa
