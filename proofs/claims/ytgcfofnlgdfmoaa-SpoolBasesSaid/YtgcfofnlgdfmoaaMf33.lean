/- Several texts in one: SpUpTo, SpInv, SpGood. -/
import Derived.Test.YtgcfofnlgdfmoaaMf31
import Derived.Test.YtgcfofnlgdfmoaaMf32
/- Layer 8: upTo: how many items have an index up to this one; sort.Search (the library's text, walked). -/
namespace Go.Proofs.Ytgcfofnlgdfmoaa
open Go.RowKit

set_option maxRecDepth 100000 in
set_option maxHeartbeats 1000000 in
/-- the first number from which on a function that never turns back is true -/
theorem search_any (g : FuncId) (q1 q2 : Addr) (f : Nat → Bool) (n : Nat) (hn : n ≤ 1000000) (w : World)
    (eg : ∀ (a b c : Value) (w : World), (callFunc g #[a, b, c]).run Try.prog w = .ok (.enter g #[a, b, c]) w)
    (hg : ∀ (k : Nat) (w' : World), k < n → Below w.heap.size w w' → Calls Try.prog g #[.int .i64 k, .pointer (some q1), .pointer (some q2)] w' fun e w2 => e = .returned (.bool (f k)) ∧ Below w'.heap.size w' w2)
    (hmono : ∀ i j, i ≤ j → j < n → f i = true → f j = true) :
    Calls Try.prog 73 #[.int .i64 n, .func (.func g) #[] #[.pointer (some q1), .pointer (some q2)]] w fun e w' => ∃ m : Nat, e = .returned (.int .i64 m) ∧ m ≤ n ∧ (∀ k, k < m → f k = false) ∧ (∀ k, m ≤ k → k < n → f k = true) ∧ Below w.heap.size w w' := by
  have HG := Lib.hid hg
  have HM := Lib.hid hmono
  clear hg hmono
  go_enter Try.func73, Try.ntmps73
  go_wp2
  go_loopw [5, 6] (fun iv jv wx => ∃ i j : Nat, i ≤ j ∧ j ≤ n ∧ iv = .int .i64 i ∧ jv = .int .i64 j ∧ Hid (∀ k, k < i → f k = false) ∧ Hid (∀ k, j ≤ k → k < n → f k = true) ∧ Hid (Below w.heap.size w wx)) (fun iv jv _ => (intOf jv - intOf iv).toNat)
  case atStart => exact ⟨0, n, Nat.zero_le _, Nat.le_refl _, rfl, rfl, fun k hk => absurd hk (by omega), fun k h1 h2 => absurd h1 (by omega), Below.refl _ _⟩
  case round =>
    obtain ⟨i, j, hij, hjn, rfl, rfl, HI, HJ, HB⟩ := hrel
    by_cases hlt : i < j
    · obtain ⟨h, hh⟩ : ∃ h, h = (i + j) / 2 := ⟨_, rfl⟩
      have h1 : i ≤ h := by omega
      have h2 : h < j := by omega
      have hw1 : IntKind.i64.wrap ((i : Int) + (j : Int)) = ((i + j : Nat) : Int) := by rw [IntKind.wrap_i64]; omega
      have hw2 : IntKind.u64.wrap ((i + j : Nat) : Int) = ((i + j : Nat) : Int) := by rw [IntKind.wrap_u64]; omega
      have hw3 : IntKind.i64.wrap (h : Int) = (h : Int) := by rw [IntKind.wrap_i64]; omega
      have HHH := Lib.hid hh
      have HGh := Lib.hid (HG.out h wr (by omega) HB.out)
      clear hh
      have hcast : ((i : Int) + (j : Int)) / 2 = (h : Int) := by have := HHH.out; omega
      have hw4 : IntKind.i64.wrap ((h : Int) + 1) = ((h + 1 : Nat) : Int) := by rw [IntKind.wrap_i64]; omega
      go_wp2_with fail
      refine HGh.out.mono ?_
      rintro _ w1 ⟨rfl, hb1⟩
      have HB1 := Lib.hid (HB.out.trans (hb1.mono HB.out.size))
      clear hb1 HGh hcast
      cases hf : f h with
      | true =>
        have HJ2 : Hid (∀ k, h ≤ k → k < n → f k = true) := fun k h1 h2 => HM.out h k h1 h2 hf
        clear hf
        go_wp2
        go_roundw
        case rel => exact ⟨i, h, h1, by omega, rfl, rfl, HI.out, HJ2.out, HB1.out⟩
        case measure => simp [intOf]; omega
      | false =>
        have HI2 : Hid (∀ k, k < h + 1 → f k = false) := fun k hk => by
          cases hq : f k with
          | false => rfl
          | true => rw [HM.out k h (by omega) (by omega) hq] at hf; cases hf
        clear hf
        go_wp2
        go_roundw
        case rel => exact ⟨h + 1, j, by omega, hjn, by go_num, rfl, HI2.out, HJ.out, HB1.out⟩
        case measure => simp [intOf]; omega
    · obtain rfl : i = j := by omega
      go_wp2
      go_ret
      exact ⟨i, rfl, hjn, HI.out, HJ.out, HB.out⟩

/-- the indexes rise -/
def RiseE (L : List Ett) : Prop := ∀ (i j : Nat) a b, i < j → L[i]? = some a → L[j]? = some b → a.i < b.i
def idxE (L : List Ett) (k : Nat) : Nat := (L[k]?.map fun e => e.i).getD 0
/-- how many have an index up to N -/
def upE (L : List Ett) (N : Nat) : Nat := L.countP fun e => decide (e.i ≤ N)

set_option maxRecDepth 100000 in
set_option maxHeartbeats 1000000 in
theorem upTo1_any {S : Nat → Prop} {s N k : Nat} {X : Sp} {L : List Ett} (q1 q2 : Addr) (w : World) (h : SpAt w S s X L) (h1 : w.cell? q1 = some (.pointer (some ⟨s, 0, none⟩))) (h2 : w.cell? q2 = some (.int .u64 N)) (hk : k < L.length) :
    Calls Try.prog 74 #[.int .i64 k, .pointer (some q1), .pointer (some q2)] w fun e w' => e = .returned (.bool (decide (N < idxE L k))) ∧ Below w.heap.size w w' := by
  obtain ⟨v, k1, r1⟩ := h.sp
  obtain ⟨e, he⟩ : ∃ e, L[k]? = some e := ⟨_, List.getElem?_eq_getElem hk⟩
  obtain ⟨b, c, rfl, -, -, -, hrg, -⟩ := r1.at_ he
  have x0 := hrg 0 _ rfl
  rw [Nat.add_zero] at x0
  have c37 := k1.c37
  have hfew := h.few
  have hi : idxE L k = e.i := by unfold idxE; rw [he]; rfl
  have hd : decide ((N : Int) < (e.i : Int)) = decide (N < e.i) := by congr 1; exact propext ⟨fun h => by omega, fun h => by omega⟩
  rw [hi]
  obtain ⟨n, hn⟩ : ∃ n, n = L.length := ⟨_, rfl⟩
  rw [← hn] at c37 hfew hk
  clear hi k1 r1 hrg he h hn
  go_enter Try.func74, Try.ntmps74
  go_wp2
  go_quiet (fail)
  go_wp2
  go_ret
  exact ⟨rfl, cbelow_drewN (Below.refl _ _) _⟩

set_option maxRecDepth 100000 in
set_option maxHeartbeats 1000000 in
theorem upTo_any {S : Nat → Prop} {s N : Nat} {X : Sp} {L : List Ett} (w : World) (h : SpAt w S s X L) (hrise : RiseE L) :
    Calls Try.prog 47 #[.pointer (some ⟨s, 0, none⟩), .int .u64 N] w fun e w' => ∃ m : Nat, e = .returned (.int .i64 m) ∧ m ≤ L.length ∧ (∀ k, k < m → idxE L k ≤ N) ∧ (∀ k, m ≤ k → k < L.length → N < idxE L k) ∧ Below w.heap.size w w' := by
  obtain ⟨W, hW⟩ : ∃ W, W = (w.alloc (.cells #[.pointer (some ⟨s, 0, none⟩)] 46)).alloc (.cells #[.int .u64 (N : Int)] 52) := ⟨_, rfl⟩
  have hb : Below w.heap.size w W := by rw [hW]; exact ((Below.refl _ _).alloc (Nat.le_refl _) _).alloc (by simp) _
  have hq1 : W.cell? ⟨w.heap.size, 0, none⟩ = some (.pointer (some ⟨s, 0, none⟩)) := by rw [hW]; exact cell_of_row _ _ 0 _ _ _ (heap_alloc2_old _ _ _)
  have hq2 : W.cell? ⟨w.heap.size + 1, 0, none⟩ = some (.int .u64 (N : Int)) := by rw [hW]; exact cell_of_row _ _ 0 _ _ _ (heap_alloc2_new _ _ _)
  have hs := h.below hb
  obtain ⟨v, k1, r1⟩ := hs.sp
  obtain ⟨A, c, rfl⟩ := own_slice r1.own
  have c37 := k1.c37
  have hl1 := World.block_lt_of_cell? W _ hq1
  have hl2 := World.block_lt_of_cell? W _ hq2
  have hS := search_any 74 ⟨w.heap.size, 0, none⟩ ⟨w.heap.size + 1, 0, none⟩ (fun k => decide (N < idxE L k)) L.length (by have := h.few; omega) W (by intros; kernel_rfl)
    (fun k W' hk hW' => upTo1_any _ _ W' (hs.below hW') ((hW'.cell hl1).trans hq1) ((hW'.cell hl2).trans hq2) hk)
    (fun i j hij hj hi => by
      have hi := of_decide_eq_true hi
      by_cases he : i = j
      · subst he; exact decide_eq_true hi
      · have e1 := List.getElem?_eq_getElem (show i < L.length by omega)
        have e2 := List.getElem?_eq_getElem hj
        have := hrise i j _ _ (by omega) e1 e2
        have i1 : idxE L i = (L[i]'(by omega)).i := by unfold idxE; rw [e1]; rfl
        have i2 : idxE L j = L[j].i := by unfold idxE; rw [e2]; rfl
        exact decide_eq_true (by omega))
  have HS := Lib.hid hS
  have HW := Lib.hid hW
  have HB := Lib.hid hb
  have hmf : ∀ (fn : Fn) (first cap : Array Value) (w : World), (Instr.makeFunc fn first cap).run Try.prog w = .ok (.func fn first cap) w := fun _ _ _ _ => rfl
  obtain ⟨n, hn⟩ : ∃ n, n = L.length := ⟨_, rfl⟩
  rw [← hn] at c37 HS ⊢
  clear hW hb hs k1 r1 hS h hrise hn
  go_enter Try.func47, Try.ntmps47
  go_upto_region 1 with fail
  rw [← HW.out]
  go_wp2_with fail
  refine HS.out.mono ?_
  rintro _ w1 ⟨m, rfl, hm, h1, h2, hb1⟩
  have H1 := Lib.hid h1
  have H2 := Lib.hid h2
  have HB1 := Lib.hid (HB.out.trans (hb1.mono HB.out.size))
  clear h1 h2 hb1 HS
  go_wp2
  go_ret
  exact ⟨m, rfl, hm, fun k hk => by have := of_decide_eq_false (H1.out k hk); omega, fun k hk hk2 => of_decide_eq_true (H2.out k hk hk2), HB1.out⟩
end Go.Proofs.Ytgcfofnlgdfmoaa
/- Layer 8: what a spool's row keeps through Put: its indexes rise, its counts are bounded. -/
namespace Go.Proofs.Ytgcfofnlgdfmoaa
open Go.RowKit

def idxL (L : List Ett) : List Nat := L.map (·.i)
theorem idx_set {L : List Ett} {p : Nat} {y : Ett} (h : p < L.length → y.i = (L.getD p entD).i) : idxL (L.set p y) = idxL L := by
  unfold idxL
  by_cases hp : p < L.length
  · refine List.ext_getElem? fun j => ?_
    rw [List.getElem?_map, List.getElem?_map, List.getElem?_set]
    split
    · rename_i e
      subst e
      rw [List.getElem?_eq_getElem hp]
      have := h hp
      rw [List.getD_eq_getElem?_getD, List.getElem?_eq_getElem hp] at this
      exact congrArg some this
    · rfl
  · rw [List.set_eq_of_length_le (by omega)]
theorem cut_sub {L : List Ett} {i j : Nat} (h : i ≤ j) : List.Sublist (cutE L i j) L := by
  have h1 : L.drop j = (L.drop i).drop (j - i) := by rw [List.drop_drop]; congr 1; omega
  have h2 : List.Sublist (L.take i ++ (L.drop i).drop (j - i)) (L.take i ++ L.drop i) := (List.Sublist.refl _).append (List.drop_sublist _ _)
  unfold cutE
  rw [h1]
  rwa [List.take_append_drop] at h2
theorem sub_joinK (L : List Ett) (a b : Option Nat) : List.Sublist (idxL (joinK L a b).1) (idxL L) := by
  cases a with
  | none => exact List.Sublist.refl _
  | some a =>
    cases b with
    | none => exact List.Sublist.refl _
    | some b =>
      show List.Sublist (idxL (if joinB (L.getD a entD).x (L.getD b entD).x then (joinL L a b (L.getD a entD) (L.getD b entD), true) else (L, false)).1) _
      by_cases hj : joinB (L.getD a entD).x (L.getD b entD).x = true
      · rw [if_pos hj]
        have h1 : List.Sublist (idxL (joinL L a b (L.getD a entD) (L.getD b entD))) (idxL (L.set a ⟨(L.getD a entD).i, joinI (L.getD a entD).x (L.getD b entD).x, none, 0⟩)) := (cut_sub (Nat.le_succ b)).map _
        have h2 := idx_set (L := L) (p := a) (y := ⟨(L.getD a entD).i, joinI (L.getD a entD).x (L.getD b entD).x, none, 0⟩) (fun _ => rfl)
        rw [h2] at h1
        exact h1
      · rw [if_neg hj]
        exact List.Sublist.refl _
theorem sub_evL {L : List Ett} {p : Nat} {e : Ett} (h : L[p]? = some e) : List.Sublist (idxL (evL L p e)) (idxL L) := by
  refine (sub_joinK _ _ _).trans ((sub_joinK _ _ _).trans ?_)
  rw [idx_set (fun _ => by rw [getD_of h]; rfl)]
  exact List.Sublist.refl _
theorem room_keep {size q : Nat} : ∀ {fuel : Nat} {L : List Ett} {f v : Nat}, List.Sublist (idxL (roomK size q fuel L f v).2.1) (idxL L) ∧ (roomK size q fuel L f v).2.2.2 + cntE (roomK size q fuel L f v).2.1 ≤ v + cntE L
  | fuel, L, f, v => by
    by_cases hf : sumE L + size ≤ q
    · rw [roomK_fit hf]; exact ⟨List.Sublist.refl _, Nat.le_refl _⟩
    · cases hl : leastK L L.length with
      | none => rw [roomK_none hf hl]; exact ⟨List.Sublist.refl _, Nat.le_refl _⟩
      | some p =>
        cases fuel with
        | zero =>
          unfold roomK
          rw [if_neg hf]
          exact ⟨List.Sublist.refl _, Nat.le_refl _⟩
        | succ k =>
          rw [roomK_some hf hl]
          obtain ⟨_, e, he, hle⟩ := leastK_some hl
          rw [getD_of he]
          have h1 := room_keep (size := size) (q := q) (fuel := k) (L := evL L p e) (f := lowE f (evIdx L p e)) (v := v + 1)
          have h2 := cntE_ev he hle
          exact ⟨h1.1.trans (sub_evL he), by omega⟩
theorem sub_addJ (L : List Ett) (e : Ett) : List.Sublist (idxL (addJ L e).1) (idxL L ++ [e.i]) := by
  have h : idxL (L ++ [e]) = idxL L ++ [e.i] := by unfold idxL; rw [List.map_append]; rfl
  unfold addJ
  split
  · rw [← h]; exact sub_joinK _ _ _
  · rw [h]; exact List.Sublist.refl _
theorem cnt_addJ (L : List Ett) (e : Ett) : cntE (addJ L e).1 ≤ cntE L + 1 := by
  have h : cntE (L ++ [e]) ≤ cntE L + 1 := by
    unfold cntE
    rw [List.countP_append]
    have := List.countP_le_length (p := fun e : Ett => !lastB e.x) (l := [e])
    simp only [List.length_cons, List.length_nil] at this
    omega
  unfold addJ
  split
  · exact Nat.le_trans (cntE_joinK _ _ (fun k hk => (prevK_some hk).2)) h
  · exact h
theorem len_addJ (L : List Ett) (e : Ett) : (addJ L e).1.length ≤ L.length + 1 := by
  have h : (L ++ [e]).length = L.length + 1 := by rw [List.length_append]; rfl
  unfold addJ
  split
  · rw [← h]; exact len_joinK _ _ _
  · exact Nat.le_of_eq h
theorem itemN_spT {x : It} (h : itemN x = 0) : spT x ≤ 1099511627776 := by
  unfold itemN at h
  unfold spT
  split at h <;> rename_i hg
  · rw [if_pos hg]
    unfold gapN at h
    repeat' split at h
    all_goals first | omega | cases h
  · rw [if_neg hg]
    unfold evN at h
    repeat' split at h
    all_goals first | omega | cases h
theorem trim_spT {x : It} {N : Nat} (h : N < spT x) : spT (trimI x N) = spT x := by
  unfold trimI
  rw [if_neg (by omega)]
  split <;> rfl
/-- what holds of a spool behind k Puts -/
structure SpOk (X : Sp) (L : List Ett) (k : Nat) : Prop where
  n1 : 1 ≤ X.n
  nk : X.n ≤ k + 1
  rise : (idxL L).Pairwise (· < ·)
  ix : ∀ i ∈ idxL L, X.a < i ∧ i < X.n
  an : X.a < X.n
  hs : ∀ i, X.h i ≤ 1099511627776
  ev : X.v + cntE L ≤ k
  len : L.length ≤ k
theorem SpOk.more {X : Sp} {L : List Ett} {k j : Nat} (h : SpOk X L k) (hj : k ≤ j) : SpOk X L j :=
  ⟨h.n1, by have := h.nk; omega, h.rise, h.ix, h.an, h.hs, by have := h.ev; omega, by have := h.len; omega⟩
theorem SpOk.new (q : Nat) : SpOk ⟨q, 1, 0, 0, fun _ => 0⟩ [] 0 :=
  ⟨Nat.le_refl 1, Nat.le_refl 1, List.Pairwise.nil, fun i hi => (by cases hi), (Nat.zero_lt_one : 0 < 1), fun _ => Nat.zero_le 1099511627776, Nat.le_refl 0, Nat.le_refl 0⟩
theorem SpOk.put {X : Sp} {L : List Ett} {k : Nat} (h : SpOk X L k) (x : It) (A : Option Addr) (c : Nat) : SpOk (putR X L x A c).2.2.2.1 (putR X L x A c).2.2.2.2 (k + 1) := by
  unfold putR
  by_cases h0 : partE x X.h = 0
  · rw [if_neg (by rw [h0]; exact fun h => h rfl)]
    have hk := room_keep (size := (itemB (partI x X.h)).length) (q := X.q) (fuel := cntE L) (L := L) (f := 0) (v := X.v)
    have hl := len_room (size := (itemB (partI x X.h)).length) (q := X.q) (fuel := cntE L) (L := L) (f := 0) (v := X.v)
    obtain ⟨R, hR⟩ : ∃ R, R = roomK (itemB (partI x X.h)).length X.q (cntE L) L 0 X.v := ⟨_, rfl⟩
    rw [← hR] at hk hl ⊢
    obtain ⟨hsub, hcnt⟩ := hk
    have h1 := h.n1
    have h2 := h.nk
    have h3 := h.ev
    have h4 := h.len
    by_cases hb : R.1 = false
    · simp only [if_pos hb]; exact h.more (Nat.le_succ k)
    · simp only [if_neg hb]
      by_cases hn : 1099511627776 ≤ X.n
      · simp only [if_pos hn]; exact h.more (Nat.le_succ k)
      · simp only [if_neg hn]
        obtain ⟨i1, i2, i3⟩ := partE_zero h0
        obtain ⟨e, he⟩ : ∃ e, e = addE { X with v := R.2.2.2 } (partI x X.h) A c := ⟨_, rfl⟩
        have hei : e.i = X.n := by rw [he]; rfl
        have s1 := sub_addJ R.2.1 e
        have s2 := cnt_addJ R.2.1 e
        have s3 := len_addJ R.2.1 e
        rw [← he]
        clear he hR
        have hrow : List.Sublist (idxL (addJ R.2.1 e).1) (idxL L ++ [X.n]) := s1.trans (by rw [hei]; exact hsub.append (List.Sublist.refl _))
        have hall : (idxL L ++ [X.n]).Pairwise (· < ·) := List.pairwise_append.2 ⟨h.rise, List.pairwise_singleton _ _, fun a ha b hb => by
          rw [List.mem_singleton] at hb
          subst hb
          exact (h.ix a ha).2⟩
        have han := h.an
        refine ⟨(show 1 ≤ X.n + 1 by omega), (show X.n + 1 ≤ k + 1 + 1 by omega), hall.sublist hrow, fun i hi => ?_, (show X.a < X.n + 1 by omega), fun i => ?_, (show R.2.2.2 + cntE (addJ R.2.1 e).1 ≤ k + 1 by omega), (show (addJ R.2.1 e).1.length ≤ k + 1 by omega)⟩
        · show X.a < i ∧ i < X.n + 1
          rcases List.mem_append.1 (hrow.subset hi) with hi | hi
          · have := h.ix i hi; omega
          · rw [List.mem_singleton] at hi; omega
        · show upH X.h (spO (partI x X.h)) (spT (partI x X.h)) i ≤ _
          unfold upH
          split
          · rw [i3, trim_spT i2]
            exact itemN_spT i1
          · exact h.hs i
  · rw [if_pos h0]
    exact h.more (Nat.le_succ k)
theorem SpOk.riseE {X : Sp} {L : List Ett} {k : Nat} (h : SpOk X L k) : RiseE L := fun i j a b hij ha hb => by
  obtain ⟨hi, ha⟩ := List.getElem?_eq_some_iff.1 ha
  obtain ⟨hj, hb⟩ := List.getElem?_eq_some_iff.1 hb
  have hr := h.rise
  unfold idxL at hr
  rw [List.pairwise_map] at hr
  have := List.pairwise_iff_getElem.1 hr i j hi hj hij
  rwa [ha, hb] at this
end Go.Proofs.Ytgcfofnlgdfmoaa
/- Layer 8: the statements' own items (Next) are right and short, and Put of one keeps a spool's bounds. -/
namespace Go.Proofs.Ytgcfofnlgdfmoaa
open Go.RowKit

theorem like_len {x : It} (ho : OkI x) (hr : x.r.size ≤ 100) (hl : (labsB x.l).length ≤ 12) (hll : x.l.length ≤ 3) : (itemB x).length ≤ 300 := by
  have b1 := leb_le10 ho.q
  have b2 := leb_le10 ho.t
  have b3 := leb_le10 ho.gf
  have b4 := leb_le10 ho.gt
  have b5 := leb_le10 (zig_lt ho.v0 ho.v1)
  have b6 := leb_le10 (n := x.r.size) (by omega)
  have b7 := leb_le10 (n := x.l.length) (by omega)
  unfold itemB
  split
  · unfold gapB
    simp only [List.length_append, List.length_cons, List.length_nil]
    omega
  · unfold evB headB tailB
    simp only [List.length_append, List.length_cons, List.length_nil, textB_length]
    omega
theorem small_r (s : Sm) : (smallI s).r.size ≤ 100 := by
  cases hg : s.g with
  | true => rw [smallI_gap s hg]; exact (show (⟨#[]⟩ : ByteArray).size ≤ _ by decide)
  | false => rw [smallI_ev s hg]; exact ruleI_size s
theorem small_labs (s : Sm) : (labsB (smallI s).l).length ≤ 12 := by
  cases hg : s.g with
  | true => rw [smallI_gap s hg]; simp [labsB]
  | false =>
    rw [smallI_ev s hg]
    show (labsB (labsS s (s.l % 4))).length ≤ 12
    rw [labsS_len]; omega
theorem nextI_l (s : Sm) (h : Nat) : (nextI s h).l = (smallI (nextS s)).l := by unfold nextI; split <;> rfl
theorem nextI_r (s : Sm) (h : Nat) : (nextI s h).r = (smallI (nextS s)).r := by unfold nextI; split <;> rfl
theorem nextI_ok {s : Sm} (hs : OkS s) {h : Nat} (hh : h ≤ 1099511627776) : OkI (nextI s h) := by
  have q := smallI_ok (nextS s) (nextS_ok hs)
  unfold nextI
  split
  · exact ⟨q.o, q.q, q.t, q.r, q.l, q.s, q.p, q.v0, q.v1, q.w, q.ga, (show h + 1 < 18446744073709551616 by omega), (show h + 1 + s.m % 3 < 18446744073709551616 by omega)⟩
  · exact ⟨q.o, (show h + 1 < 18446744073709551616 by omega), q.t, q.r, q.l, q.s, q.p, q.v0, q.v1, q.w, q.ga, q.gf, q.gt⟩
theorem nextI_good {s : Sm} (hs : OkS s) {h : Nat} (hh : h ≤ 1099511627776) : ShortI (nextI s h) ∧ (nextI s h).l.length ≤ 3 ∧ (itemB (nextI s h)).length ≤ 300 := by
  have q := smallI_short (nextS s)
  have hl : (nextI s h).l.length ≤ 3 := by rw [nextI_l]; exact smallI_labs _
  exact ⟨⟨by rw [nextI_r]; exact q.r, by rw [nextI_l]; exact q.l⟩, hl, like_len (nextI_ok hs hh) (by rw [nextI_r]; exact small_r _) (by rw [nextI_l]; exact small_labs _) hl⟩


/-- Put of what Next gives -/
theorem putNext_any {S : Nat → Prop} {s k : Nat} {X : Sp} {L : List Ett} (m : Sm) (hm : OkS m) (A : Option Addr) (c : Nat) (w : World) (h : SpAt w S s X L) (hk : SpOk X L k) (hk2 : k < 100000)
    (hA : A = none → (smallI (nextS m)).l.length = 0) (hr : RdP w w.heap.size A (smallI (nextS m)).l) :
    Calls Try.prog 24 #[.pointer (some ⟨s, 0, none⟩), .agg (itC (nextI m (X.h (m.o % 4))) A c).toArray] w fun e w' => ∃ A' c' S', e = .returned (.tuple #[.int .u64 (putR X L (nextI m (X.h (m.o % 4))) A' c').2.1, .int .u64 (putR X L (nextI m (X.h (m.o % 4))) A' c').2.2.1, .int .i64 (putR X L (nextI m (X.h (m.o % 4))) A' c').1]) ∧
      SpAt w' S' s (putR X L (nextI m (X.h (m.o % 4))) A' c').2.2.2.1 (putR X L (nextI m (X.h (m.o % 4))) A' c').2.2.2.2 ∧ SpOk (putR X L (nextI m (X.h (m.o % 4))) A' c').2.2.2.1 (putR X L (nextI m (X.h (m.o % 4))) A' c').2.2.2.2 (k + 1) ∧ Step w S w' S' := by
  have hh := hk.hs (m.o % 4)
  obtain ⟨g1, g2, g3⟩ := nextI_good hm hh
  have h1 := hk.ev
  have h2 := hk.len
  refine (put_any (nextI m (X.h (m.o % 4))) A c w h (nextI_ok hm hh) g1 (by omega) (by omega) (fun h => by rw [nextI_l]; exact hA h) (by rw [nextI_l]; exact hr) (fun i _ => hk.hs i) (by omega) (by omega)).mono ?_
  rintro e w' ⟨A', c', he, S', hs', hst⟩
  exact ⟨A', c', S', he, hs', hk.put _ _ _, hst⟩
/-- a spool of k Puts, all of whose blocks are new since w0 -/
structure SpW (w0 w : World) (S : Nat → Prop) (s q k : Nat) (X : Sp) (L : List Ett) : Prop where
  at_ : SpAt w S s X L
  ok : SpOk X L k
  q : X.q = q
  new : ∀ j, S j → w0.heap.size ≤ j
  bl : Below w0.heap.size w0 w
theorem SpW.below {w0 w w' : World} {S : Nat → Prop} {s q k : Nat} {X : Sp} {L : List Ett} (h : SpW w0 w S s q k X L) (hb : Below w.heap.size w w') : SpW w0 w' S s q k X L :=
  ⟨h.at_.below hb, h.ok, h.q, h.new, h.bl.trans (hb.mono h.bl.size)⟩
theorem putR_q (X : Sp) (L : List Ett) (x : It) (A : Option Addr) (c : Nat) : (putR X L x A c).2.2.2.1.q = X.q := by
  unfold putR
  split
  · rfl
  · dsimp only
    split
    · rfl
    · split
      · rfl
      · rfl
theorem SpW.step {w0 w w' : World} {S S' : Nat → Prop} {s q k k' : Nat} {X X' : Sp} {L L' : List Ett} (h : SpW w0 w S s q k X L) (h1 : SpAt w' S' s X' L') (h2 : SpOk X' L' k') (h3 : Step w S w' S') (h4 : X'.q = X.q) : SpW w0 w' S' s q k' X' L' :=
  ⟨h1, h2, h4.trans h.q, fun j hj => (h3.new j hj).elim (h.new j) (fun h' => Nat.le_trans h.bl.size h'),
    h.bl.trans ⟨h3.only.os, h3.only.tape, h3.only.output, h3.only.size, fun i hi => h3.only.block i (Nat.lt_of_lt_of_le hi h.bl.size) (fun hs => by have := h.new i hs; omega)⟩⟩
end Go.Proofs.Ytgcfofnlgdfmoaa
