/- Several texts in one: SpNext, SpUpTo, SpInv, SpGood, SpList, Pairs, Open, ItOpen. -/
import Derived.Deep.SlicePairs
import Derived.Test.YtholdcgkhicdmaaGreatDoorRows
import Derived.ProofKit
import Derived.OpenShut
import Derived.WideKeyArgs
import Derived.ChangeMaps5
import Derived.ChangeSlices
import Derived.Deep.Slices
import Derived.Test.YtholdcgkhicdmaaGreatDoorZq15
namespace Go.Proofs.YtholdcgkhicdmaaGreatDoor
open Go.RowKit
def nextS (s : Sm) : Sm := { s with o := s.o % 4, m := s.m % 3 }
def nextI (s : Sm) (h : Nat) : It := if s.g then { smallI (nextS s) with gf := h + 1, gt := h + 1 + s.m % 3 } else { smallI (nextS s) with q := h + 1 }
def smL (s : Sm) : List Value := [.bool s.g, .int .u8 s.o, .int .u8 s.p, .int .u8 s.w, .int .u16 s.q, .int .u16 s.m, .int .u16 s.t, .int .u8 s.r, .int .u8 s.l, .int .u8 s.v, .bool s.s]
theorem nextS_ok {s : Sm} (h : OkS s) : OkS (nextS s) := by
 obtain ⟨h1, h2, h3, h4, h5, h6, h7, h8, h9⟩ := h
 exact ⟨Nat.lt_of_le_of_lt (Nat.mod_le _ _) h1, h2, h3, h4, Nat.lt_of_le_of_lt (Nat.mod_le _ _) h5, h6, h7, h8, h9⟩
theorem Tryz.infoSm : (Tryz.prog.info? 70).map (·.size) = some 11 := by kernel_rfl
theorem next_end {w w2 w3 : World} {x x' : It} {A : Option Addr} {c g1 g2 B : Nat} (h1 : Below w.heap.size w w2) (h2 : w2.ownsRow B 37 2 (.slice A x.l.length c) x.l.length (cellsP x.l)) (hg1 : w.heap.size ≤ g1) (hB : g1 < B) (hlt : ∀ k, (Value.slice A x.l.length c).ownBlock = some k → k < g2) (hg2 : w.heap.size ≤ g2)
  (h3 : Only (fun k => k = g2) w2 w3) (hl : x'.l = x.l) (cs : Array Value) : (A = none → x.l.length = 0) ∧ RdP (w3.setRow g1 cs) (w3.setRow g1 cs).heap.size A x'.l ∧ Below w.heap.size w (w3.setRow g1 cs) := by
 have ho := h3.own h2 (fun k hk e => by have := hlt k hk; have e : k = g2 := e; omega)
 have hr := RdP.of_own ho
 refine ⟨own_nilA h2, ?_, below_setRow (h1.trans ⟨h3.os, h3.tape, h3.output, h3.size, fun k hk => h3.block k (Nat.lt_of_lt_of_le hk h1.size) (fun e => by have e : k = g2 := e; omega)⟩) hg1 _⟩
 rw [hl]
 exact (onlyRow g1 cs w3).rdP hr (fun a ha h0 e => by have h5 := (h2.lt a.block (by rw [ha]; rfl)).1; have e : a.block = g1 := e; omega)
set_option maxRecDepth 100000 in
set_option maxHeartbeats 1000000 in
theorem search_any (g : FuncId) (q1 q2 : Addr) (f : Nat → Bool) (n : Nat) (hn : n ≤ 1000000) (w : World)
  (eg : ∀ (a b c : Value) (w : World), (callFunc g #[a, b, c]).run Tryz.prog w = .ok (.enter g #[a, b, c]) w)
  (hg : ∀ (k : Nat) (w' : World), k < n → Below w.heap.size w w' → Calls Tryz.prog g #[.int .i64 k, .pointer (some q1), .pointer (some q2)] w' fun e w2 => e = .returned (.bool (f k)) ∧ Below w'.heap.size w' w2)
  (hmono : ∀ i j, i ≤ j → j < n → f i = true → f j = true) :
  Calls Tryz.prog 139 #[.int .i64 n, .func (.func g) #[] #[.pointer (some q1), .pointer (some q2)]] w fun e w' => ∃ m : Nat, e = .returned (.int .i64 m) ∧ m ≤ n ∧ (∀ k, k < m → f k = false) ∧ (∀ k, m ≤ k → k < n → f k = true) ∧ Below w.heap.size w w' := by
 have HG := Lib.hid hg
 have HM := Lib.hid hmono
 clear hg hmono
 go_enter Tryz.func139, Tryz.ntmps139
 go_wp2
 go_loopw [5, 6] (fun iv jv wx => ∃ i j : Nat, i ≤ j ∧ j ≤ n ∧ iv = .int .i64 i ∧ jv = .int .i64 j ∧ Hid (∀ k, k < i → f k = false) ∧ Hid (∀ k, j ≤ k → k < n → f k = true) ∧ Hid (Below w.heap.size w wx)) (fun iv jv _ => (intOf jv - intOf iv).toNat)
 case atStart => exact ⟨0, n, Nat.zero_le _, Nat.le_refl _, rfl, rfl, fun k hk => absurd hk (by omega), fun k h1 h2 => absurd h1 (by omega), Below.refl _ _⟩
 case round =>
  obtain ⟨i, j, hij, hjn, rfl, rfl, HI, HJ, HB⟩ := hrel
  by_cases hlt : i < j
  ·obtain ⟨h, hh⟩ : ∃ h, h = (i + j) / 2 := ⟨_, rfl⟩
   have h1 : i ≤ h := by omega
   have h2 : h < j := by omega
   have hw1 : IntKind.i64.wrap ((i : Int) + (j : Int)) = ((i + j : Nat) : Int) := by rw [IntKind.wrap_i64]; omega
   have hw2 : IntKind.u64.wrap ((i + j : Nat) : Int) = ((i + j : Nat) : Int) := by rw [IntKind.wrap_u64]; omega
   have hw3 : IntKind.i64.wrap (h : Int) = (h : Int) := by rw [IntKind.wrap_i64]; omega
   have HHH := Lib.hid hh
   have HGh := Lib.hid (HG.out h wr (by omega) HB.out)
   clear hh
   have hcast : ((i : Int) + (j : Int)) / 2 = (h : Int) := by have := HHH.out; omega
   have hw4 : IntKind.i64.wrap ((h : Int) + 1) = ((h + 1 : Nat) : Int) := by rw [IntKind.wrap_i64]; omega
   go_wp2_with fail
   refine HGh.out.mono ?_
   rintro _ w1 ⟨rfl, hb1⟩
   have HB1 := Lib.hid (HB.out.trans (hb1.mono HB.out.size))
   clear hb1 HGh hcast
   cases hf : f h with
   | true =>
     have HJ2 : Hid (∀ k, h ≤ k → k < n → f k = true) := fun k h1 h2 => HM.out h k h1 h2 hf
     clear hf
     go_wp2
     go_roundw
     case rel => exact ⟨i, h, h1, by omega, rfl, rfl, HI.out, HJ2.out, HB1.out⟩
     case measure => simp [intOf]; omega
   | false =>
     have HI2 : Hid (∀ k, k < h + 1 → f k = false) := fun k hk => by
      cases hq : f k with
      | false => rfl
      | true => rw [HM.out k h (by omega) (by omega) hq] at hf; cases hf
     clear hf
     go_wp2
     go_roundw
     case rel => exact ⟨h + 1, j, by omega, hjn, by go_num, rfl, HI2.out, HJ.out, HB1.out⟩
     case measure => simp [intOf]; omega
  ·obtain rfl : i = j := by omega
   go_wp2
   go_ret
   exact ⟨i, rfl, hjn, HI.out, HJ.out, HB.out⟩
def RiseE (L : List Ett) : Prop := ∀ (i j : Nat) a b, i < j → L[i]? = some a → L[j]? = some b → a.i < b.i
def idxE (L : List Ett) (k : Nat) : Nat := (L[k]?.map fun e => e.i).getD 0
set_option maxRecDepth 100000 in
set_option maxHeartbeats 1000000 in
theorem upTo1_any {S : Nat → Prop} {s N k : Nat} {X : Sp} {L : List Ett} (q1 q2 : Addr) (w : World) (h : SpAt w S s X L) (h1 : w.cell? q1 = some (.pointer (some ⟨s, 0, none⟩))) (h2 : w.cell? q2 = some (.int .u64 N)) (hk : k < L.length) :
  Calls Tryz.prog 140 #[.int .i64 k, .pointer (some q1), .pointer (some q2)] w fun e w' => e = .returned (.bool (decide (N < idxE L k))) ∧ Below w.heap.size w w' := by
 obtain ⟨v, k1, r1⟩ := h.sp
 obtain ⟨e, he⟩ : ∃ e, L[k]? = some e := ⟨_, List.getElem?_eq_getElem hk⟩
 obtain ⟨b, c, rfl, -, -, -, hrg, -⟩ := r1.at_ he
 have x0 := hrg 0 _ rfl
 rw [Nat.add_zero] at x0
 have c37 := k1.c37
 have hfew := h.few
 have hi : idxE L k = e.i := by unfold idxE; rw [he]; rfl
 have hd : decide ((N : Int) < (e.i : Int)) = decide (N < e.i) := by congr 1; exact propext ⟨fun h => by omega, fun h => by omega⟩
 rw [hi]
 obtain ⟨n, hn⟩ : ∃ n, n = L.length := ⟨_, rfl⟩
 rw [← hn] at c37 hfew hk
 clear hi k1 r1 hrg he h hn
 go_enter Tryz.func140, Tryz.ntmps140
 go_wp2
 go_quiet (fail)
 go_wp2
 go_ret
 exact ⟨rfl, cbelow_drewN (Below.refl _ _) _⟩
set_option maxRecDepth 100000 in
set_option maxHeartbeats 1000000 in
theorem upTo_any {S : Nat → Prop} {s N : Nat} {X : Sp} {L : List Ett} (w : World) (h : SpAt w S s X L) (hrise : RiseE L) :
  Calls Tryz.prog 93 #[.pointer (some ⟨s, 0, none⟩), .int .u64 N] w fun e w' => ∃ m : Nat, e = .returned (.int .i64 m) ∧ m ≤ L.length ∧ (∀ k, k < m → idxE L k ≤ N) ∧ (∀ k, m ≤ k → k < L.length → N < idxE L k) ∧ Below w.heap.size w w' := by
 obtain ⟨W, hW⟩ : ∃ W, W = (w.alloc (.cells #[.pointer (some ⟨s, 0, none⟩)] 56)).alloc (.cells #[.int .u64 (N : Int)] 34) := ⟨_, rfl⟩
 have hb : Below w.heap.size w W := by rw [hW]; exact ((Below.refl _ _).alloc (Nat.le_refl _) _).alloc (by simp) _
 have hq1 : W.cell? ⟨w.heap.size, 0, none⟩ = some (.pointer (some ⟨s, 0, none⟩)) := by rw [hW]; exact cell_of_row _ _ 0 _ _ _ (heap_alloc2_old _ _ _)
 have hq2 : W.cell? ⟨w.heap.size + 1, 0, none⟩ = some (.int .u64 (N : Int)) := by rw [hW]; exact cell_of_row _ _ 0 _ _ _ (heap_alloc2_new _ _ _)
 have hs := h.below hb
 obtain ⟨v, k1, r1⟩ := hs.sp
 obtain ⟨A, c, rfl⟩ := own_slice r1.own
 have c37 := k1.c37
 have hl1 := World.block_lt_of_cell? W _ hq1
 have hl2 := World.block_lt_of_cell? W _ hq2
 have hS := search_any 140 ⟨w.heap.size, 0, none⟩ ⟨w.heap.size + 1, 0, none⟩ (fun k => decide (N < idxE L k)) L.length (by have := h.few; omega) W (by intros; kernel_rfl)
  (fun k W' hk hW' => upTo1_any _ _ W' (hs.below hW') ((hW'.cell hl1).trans hq1) ((hW'.cell hl2).trans hq2) hk)
  (fun i j hij hj hi => by
   have hi := of_decide_eq_true hi
   by_cases he : i = j
   ·subst he; exact decide_eq_true hi
   ·have e1 := List.getElem?_eq_getElem (show i < L.length by omega)
    have e2 := List.getElem?_eq_getElem hj
    have := hrise i j _ _ (by omega) e1 e2
    have i1 : idxE L i = (L[i]'(by omega)).i := by unfold idxE; rw [e1]; rfl
    have i2 : idxE L j = L[j].i := by unfold idxE; rw [e2]; rfl
    exact decide_eq_true (by omega))
 have HS := Lib.hid hS
 have HW := Lib.hid hW
 have HB := Lib.hid hb
 have hmf : ∀ (fn : Fn) (first cap : Array Value) (w : World), (Instr.makeFunc fn first cap).run Tryz.prog w = .ok (.func fn first cap) w := fun _ _ _ _ => rfl
 obtain ⟨n, hn⟩ : ∃ n, n = L.length := ⟨_, rfl⟩
 rw [← hn] at c37 HS ⊢
 clear hW hb hs k1 r1 hS h hrise hn
 go_enter Tryz.func93, Tryz.ntmps93
 go_upto_region 1 with fail
 rw [← HW.out]
 go_wp2_with fail
 refine HS.out.mono ?_
 rintro _ w1 ⟨m, rfl, hm, h1, h2, hb1⟩
 have H1 := Lib.hid h1
 have H2 := Lib.hid h2
 have HB1 := Lib.hid (HB.out.trans (hb1.mono HB.out.size))
 clear h1 h2 hb1 HS
 go_wp2
 go_ret
 exact ⟨m, rfl, hm, fun k hk => by have := of_decide_eq_false (H1.out k hk); omega, fun k hk hk2 => of_decide_eq_true (H2.out k hk hk2), HB1.out⟩
def idxL (L : List Ett) : List Nat := L.map (·.i)
theorem idx_set {L : List Ett} {p : Nat} {y : Ett} (h : p < L.length → y.i = (L.getD p entD).i) : idxL (L.set p y) = idxL L := by
 unfold idxL
 by_cases hp : p < L.length
 ·refine List.ext_getElem? fun j => ?_
  rw [List.getElem?_map, List.getElem?_map, List.getElem?_set]
  split
  ·rename_i e
   subst e
   rw [List.getElem?_eq_getElem hp]
   have := h hp
   rw [List.getD_eq_getElem?_getD, List.getElem?_eq_getElem hp] at this
   exact congrArg some this
  ·rfl
 ·rw [List.set_eq_of_length_le (by omega)]
theorem cut_sub {L : List Ett} {i j : Nat} (h : i ≤ j) : List.Sublist (cutE L i j) L := by
 have h1 : L.drop j = (L.drop i).drop (j - i) := by rw [List.drop_drop]; congr 1; omega
 have h2 : List.Sublist (L.take i ++ (L.drop i).drop (j - i)) (L.take i ++ L.drop i) := (List.Sublist.refl _).append (List.drop_sublist _ _)
 unfold cutE
 rw [h1]
 rwa [List.take_append_drop] at h2
theorem sub_joinK (L : List Ett) (a b : Option Nat) : List.Sublist (idxL (joinK L a b).1) (idxL L) := by
 cases a with
 | none => exact List.Sublist.refl _
 | some a =>
   cases b with
   | none => exact List.Sublist.refl _
   | some b =>
     show List.Sublist (idxL (if joinB (L.getD a entD).x (L.getD b entD).x then (joinL L a b (L.getD a entD) (L.getD b entD), true) else (L, false)).1) _
     by_cases hj : joinB (L.getD a entD).x (L.getD b entD).x = true
     ·rw [if_pos hj]
      have h1 : List.Sublist (idxL (joinL L a b (L.getD a entD) (L.getD b entD))) (idxL (L.set a ⟨(L.getD a entD).i, joinI (L.getD a entD).x (L.getD b entD).x, none, 0⟩)) := (cut_sub (Nat.le_succ b)).map _
      have h2 := idx_set (L := L) (p := a) (y := ⟨(L.getD a entD).i, joinI (L.getD a entD).x (L.getD b entD).x, none, 0⟩) (fun _ => rfl)
      rw [h2] at h1
      exact h1
     ·rw [if_neg hj]
      exact List.Sublist.refl _
theorem sub_evL {L : List Ett} {p : Nat} {e : Ett} (h : L[p]? = some e) : List.Sublist (idxL (evL L p e)) (idxL L) := by
 refine (sub_joinK _ _ _).trans ((sub_joinK _ _ _).trans ?_)
 rw [idx_set (fun _ => by rw [getD_of h]; rfl)]
 exact List.Sublist.refl _
theorem room_keep {size q : Nat} : ∀ {fuel : Nat} {L : List Ett} {f v : Nat}, List.Sublist (idxL (roomK size q fuel L f v).2.1) (idxL L) ∧ (roomK size q fuel L f v).2.2.2 + cntE (roomK size q fuel L f v).2.1 ≤ v + cntE L
 | fuel, L, f, v => by
   by_cases hf : sumE L + size ≤ q
   ·rw [roomK_fit hf]; exact ⟨List.Sublist.refl _, Nat.le_refl _⟩
   ·cases hl : leastK L L.length with
    | none => rw [roomK_none hf hl]; exact ⟨List.Sublist.refl _, Nat.le_refl _⟩
    | some p =>
      cases fuel with
      | zero =>
        unfold roomK
        rw [if_neg hf]
        exact ⟨List.Sublist.refl _, Nat.le_refl _⟩
      | succ k =>
        rw [roomK_some hf hl]
        obtain ⟨_, e, he, hle⟩ := leastK_some hl
        rw [getD_of he]
        have h1 := room_keep (size := size) (q := q) (fuel := k) (L := evL L p e) (f := lowE f (evIdx L p e)) (v := v + 1)
        have h2 := cntE_ev he hle
        exact ⟨h1.1.trans (sub_evL he), by omega⟩
theorem sub_addJ (L : List Ett) (e : Ett) : List.Sublist (idxL (addJ L e).1) (idxL L ++ [e.i]) := by
 have h : idxL (L ++ [e]) = idxL L ++ [e.i] := by unfold idxL; rw [List.map_append]; rfl
 unfold addJ
 split
 ·rw [← h]; exact sub_joinK _ _ _
 ·rw [h]; exact List.Sublist.refl _
theorem cnt_addJ (L : List Ett) (e : Ett) : cntE (addJ L e).1 ≤ cntE L + 1 := by
 have h : cntE (L ++ [e]) ≤ cntE L + 1 := by
  unfold cntE
  rw [List.countP_append]
  have := List.countP_le_length (p := fun e : Ett => !lastB e.x) (l := [e])
  simp only [List.length_cons, List.length_nil] at this
  omega
 unfold addJ
 split
 ·exact Nat.le_trans (cntE_joinK _ _ (fun k hk => (prevK_some hk).2)) h
 ·exact h
theorem len_addJ (L : List Ett) (e : Ett) : (addJ L e).1.length ≤ L.length + 1 := by
 have h : (L ++ [e]).length = L.length + 1 := by rw [List.length_append]; rfl
 unfold addJ
 split
 ·rw [← h]; exact len_joinK _ _ _
 ·exact Nat.le_of_eq h
theorem itemN_spT {x : It} (h : itemN x = 0) : spT x ≤ 1099511627776 := by
 unfold itemN at h
 unfold spT
 split at h <;> rename_i hg
 ·rw [if_pos hg]
  unfold gapN at h
  repeat' split at h
  all_goals first | omega | cases h
 ·rw [if_neg hg]
  unfold evN at h
  repeat' split at h
  all_goals first | omega | cases h
theorem trim_spT {x : It} {N : Nat} (h : N < spT x) : spT (trimI x N) = spT x := by
 unfold trimI
 rw [if_neg (by omega)]
 split <;> rfl
structure SpOk (X : Sp) (L : List Ett) (k : Nat) : Prop where
 n1 : 1 ≤ X.n
 nk : X.n ≤ k + 1
 rise : (idxL L).Pairwise (· < ·)
 ix : ∀ i ∈ idxL L, X.a < i ∧ i < X.n
 an : X.a < X.n
 hs : ∀ i, X.h i ≤ 1099511627776
 ev : X.v + cntE L ≤ k
 len : L.length ≤ k
theorem SpOk.more {X : Sp} {L : List Ett} {k j : Nat} (h : SpOk X L k) (hj : k ≤ j) : SpOk X L j :=
 ⟨h.n1, by have := h.nk; omega, h.rise, h.ix, h.an, h.hs, by have := h.ev; omega, by have := h.len; omega⟩
theorem SpOk.new (q : Nat) : SpOk ⟨q, 1, 0, 0, fun _ => 0⟩ [] 0 :=
 ⟨Nat.le_refl 1, Nat.le_refl 1, List.Pairwise.nil, fun i hi => (by cases hi), (Nat.zero_lt_one : 0 < 1), fun _ => Nat.zero_le 1099511627776, Nat.le_refl 0, Nat.le_refl 0⟩
theorem SpOk.put {X : Sp} {L : List Ett} {k : Nat} (h : SpOk X L k) (x : It) (A : Option Addr) (c : Nat) : SpOk (putR X L x A c).2.2.2.1 (putR X L x A c).2.2.2.2 (k + 1) := by
 unfold putR
 by_cases h0 : partE x X.h = 0
 ·rw [if_neg (by rw [h0]; exact fun h => h rfl)]
  have hk := room_keep (size := (itemB (partI x X.h)).length) (q := X.q) (fuel := cntE L) (L := L) (f := 0) (v := X.v)
  have hl := len_room (size := (itemB (partI x X.h)).length) (q := X.q) (fuel := cntE L) (L := L) (f := 0) (v := X.v)
  obtain ⟨R, hR⟩ : ∃ R, R = roomK (itemB (partI x X.h)).length X.q (cntE L) L 0 X.v := ⟨_, rfl⟩
  rw [← hR] at hk hl ⊢
  obtain ⟨hsub, hcnt⟩ := hk
  have h1 := h.n1
  have h2 := h.nk
  have h3 := h.ev
  have h4 := h.len
  by_cases hb : R.1 = false
  ·simp only [if_pos hb]; exact h.more (Nat.le_succ k)
  ·simp only [if_neg hb]
   by_cases hn : 1099511627776 ≤ X.n
   ·simp only [if_pos hn]; exact h.more (Nat.le_succ k)
   ·simp only [if_neg hn]
    obtain ⟨i1, i2, i3⟩ := partE_zero h0
    obtain ⟨e, he⟩ : ∃ e, e = addE { X with v := R.2.2.2 } (partI x X.h) A c := ⟨_, rfl⟩
    have hei : e.i = X.n := by rw [he]; rfl
    have s1 := sub_addJ R.2.1 e
    have s2 := cnt_addJ R.2.1 e
    have s3 := len_addJ R.2.1 e
    rw [← he]
    clear he hR
    have hrow : List.Sublist (idxL (addJ R.2.1 e).1) (idxL L ++ [X.n]) := s1.trans (by rw [hei]; exact hsub.append (List.Sublist.refl _))
    have hall : (idxL L ++ [X.n]).Pairwise (· < ·) := List.pairwise_append.2 ⟨h.rise, List.pairwise_singleton _ _, fun a ha b hb => by
     rw [List.mem_singleton] at hb
     subst hb
     exact (h.ix a ha).2⟩
    have han := h.an
    refine ⟨(show 1 ≤ X.n + 1 by omega), (show X.n + 1 ≤ k + 1 + 1 by omega), hall.sublist hrow, fun i hi => ?_, (show X.a < X.n + 1 by omega), fun i => ?_, (show R.2.2.2 + cntE (addJ R.2.1 e).1 ≤ k + 1 by omega), (show (addJ R.2.1 e).1.length ≤ k + 1 by omega)⟩
    ·show X.a < i ∧ i < X.n + 1
     rcases List.mem_append.1 (hrow.subset hi) with hi | hi
     ·have := h.ix i hi; omega
     ·rw [List.mem_singleton] at hi; omega
    ·show upH X.h (spO (partI x X.h)) (spT (partI x X.h)) i ≤ _
     unfold upH
     split
     ·rw [i3, trim_spT i2]
      exact itemN_spT i1
     ·exact h.hs i
 ·rw [if_pos h0]
  exact h.more (Nat.le_succ k)
theorem SpOk.riseE {X : Sp} {L : List Ett} {k : Nat} (h : SpOk X L k) : RiseE L := fun i j a b hij ha hb => by
 obtain ⟨hi, ha⟩ := List.getElem?_eq_some_iff.1 ha
 obtain ⟨hj, hb⟩ := List.getElem?_eq_some_iff.1 hb
 have hr := h.rise
 unfold idxL at hr
 rw [List.pairwise_map] at hr
 have := List.pairwise_iff_getElem.1 hr i j hi hj hij
 rwa [ha, hb] at this
theorem like_len {x : It} (ho : OkI x) (hr : x.r.size ≤ 100) (hl : (labsB x.l).length ≤ 12) (hll : x.l.length ≤ 3) : (itemB x).length ≤ 300 := by
 have b1 := leb_le10 ho.q
 have b2 := leb_le10 ho.t
 have b3 := leb_le10 ho.gf
 have b4 := leb_le10 ho.gt
 have b5 := leb_le10 (zig_lt ho.v0 ho.v1)
 have b6 := leb_le10 (n := x.r.size) (by omega)
 have b7 := leb_le10 (n := x.l.length) (by omega)
 unfold itemB
 split
 ·unfold gapB
  simp only [List.length_append, List.length_cons, List.length_nil]
  omega
 ·unfold evB headB tailB
  simp only [List.length_append, List.length_cons, List.length_nil, textB_length]
  omega
theorem small_r (s : Sm) : (smallI s).r.size ≤ 100 := by
 cases hg : s.g with
 | true => rw [smallI_gap s hg]; exact (show (⟨#[]⟩ : ByteArray).size ≤ _ by decide)
 | false => rw [smallI_ev s hg]; exact ruleI_size s
theorem small_labs (s : Sm) : (labsB (smallI s).l).length ≤ 12 := by
 cases hg : s.g with
 | true => rw [smallI_gap s hg]; simp [labsB]
 | false =>
   rw [smallI_ev s hg]
   show (labsB (labsS s (s.l % 4))).length ≤ 12
   rw [labsS_len]; omega
theorem nextI_l (s : Sm) (h : Nat) : (nextI s h).l = (smallI (nextS s)).l := by unfold nextI; split <;> rfl
theorem nextI_r (s : Sm) (h : Nat) : (nextI s h).r = (smallI (nextS s)).r := by unfold nextI; split <;> rfl
theorem nextI_ok {s : Sm} (hs : OkS s) {h : Nat} (hh : h ≤ 1099511627776) : OkI (nextI s h) := by
 have q := smallI_ok (nextS s) (nextS_ok hs)
 unfold nextI
 split
 ·exact ⟨q.o, q.q, q.t, q.r, q.l, q.s, q.p, q.v0, q.v1, q.w, q.ga, (show h + 1 < 18446744073709551616 by omega), (show h + 1 + s.m % 3 < 18446744073709551616 by omega)⟩
 ·exact ⟨q.o, (show h + 1 < 18446744073709551616 by omega), q.t, q.r, q.l, q.s, q.p, q.v0, q.v1, q.w, q.ga, q.gf, q.gt⟩
theorem nextI_good {s : Sm} (hs : OkS s) {h : Nat} (hh : h ≤ 1099511627776) : ShortI (nextI s h) ∧ (nextI s h).l.length ≤ 3 ∧ (itemB (nextI s h)).length ≤ 300 := by
 have q := smallI_short (nextS s)
 have hl : (nextI s h).l.length ≤ 3 := by rw [nextI_l]; exact smallI_labs _
 exact ⟨⟨by rw [nextI_r]; exact q.r, by rw [nextI_l]; exact q.l⟩, hl, like_len (nextI_ok hs hh) (by rw [nextI_r]; exact small_r _) (by rw [nextI_l]; exact small_labs _) hl⟩
theorem putR_q (X : Sp) (L : List Ett) (x : It) (A : Option Addr) (c : Nat) : (putR X L x A c).2.2.2.1.q = X.q := by
 unfold putR
 split
 ·rfl
 ·dsimp only
  split
  ·rfl
  ·split
   ·rfl
   ·rfl
def SameE (L M : List Ett) : Prop := L.map (fun e => (e.i, e.x)) = M.map (fun e => (e.i, e.x))
structure RowE (w : World) (base : Nat) (v : Value) (M : List Ett) : Prop where
 own : w.ownsRow base 74 14 v M.length (cellsE M)
 ok : ∀ e ∈ M, EntOk w (fun k => v.ownBlock = some k) e
theorem SameE.len {L M : List Ett} (h : SameE L M) : L.length = M.length := by have := congrArg List.length h; simpa using this
theorem SameE.get {L M : List Ett} (h : SameE L M) (k : Nat) : (L[k]?.map fun e => (e.i, e.x)) = M[k]?.map fun e => (e.i, e.x) := by
 have := congrArg (·[k]?) h
 simpa using this
theorem SameE.set {L M : List Ett} {k : Nat} {e m : Ett} (h : SameE L M) (hk : M[k]? = some m) (he : e.i = m.i ∧ e.x = m.x) : SameE L (M.set k e) := by
 unfold SameE at h ⊢
 rw [h]
 refine List.ext_getElem? fun j => ?_
 rw [List.getElem?_map, List.getElem?_map, List.getElem?_set]
 split
 ·rename_i hj
  subst hj
  split
  ·rw [hk]; simp [he.1, he.2]
  ·rename_i hl; rw [List.getElem?_eq_none (by omega)]
 ·rfl
set_option maxRecDepth 100000 in
set_option maxHeartbeats 400000 in
theorem clone_S (A : Option Addr) (n c : Nat) (L : List Ett) (w : World) (hn : n = L.length) (hm : n ≤ 100000) (hA : A = none → n = 0) (hs : ∀ W, Below w.heap.size w W → Src W A n 14 (cellsE L)) :
  Calls Tryz.prog 66 #[.slice A n c] w fun e w' => ∃ A' c', e = .returned (.slice A' n c') ∧ w'.ownsRow w.heap.size 74 14 (.slice A' n c') n (cellsE L) ∧ Below w.heap.size w w' := by
 obtain ⟨i0, hi0, hz0, hz1, hz2⟩ := info_parts Tryz.infoEnt
 have q22 : ∀ (w : World) (a : Option Addr) (n c n' c' : Nat), (binOp .eql 61 (.slice a n c) (.slice none n' c')).run Tryz.prog w = .ok (.bool a.isNone) w := fun w a n c n' c' => Lib.run_eql_slice_nil w _ _ a n c n' c' Tryz.underlying61
 cases A with
 | none =>
   obtain rfl : n = 0 := hA rfl
   obtain rfl : L = [] := List.eq_nil_of_length_eq_zero hn.symm
   clear hn hs hA
   go_enter Tryz.func66, Tryz.ntmps66
   go_wp2
   go_ret
   exact ⟨none, 0, rfl, World.ownsRow_nil _ _ _ _, Below.refl _ _⟩
 | some a =>
   have hba : Below w.heap.size w (w.alloc (.cells #[] 74)) := (Below.refl _ _).alloc (Nat.le_refl _) _
   have HS := Lib.hid (hs _ hba)
   have HBA := Lib.hid hba
   clear hs hba hn hA
   go_enter Tryz.func66, Tryz.ntmps66
   go_wp2_with (at_builtin; (
    refine wpList_append_src (base := w.heap.size) rfl _ _ rfl Tryz.underlying61 hi0 hz0 hz1 hz2 rfl (by decide) rfl (World.ownsRow_made w #[] 0 (Nat.le_refl _) (by decide) rfl) rfl HS.out (cellsE_one L) (by unfold maxLen; omega) (by omega) HBA.out.size ?_
    intro v9 w9 ho9 hg9 hb9
    have hlow : Below w.heap.size w w9 := HBA.out.trans ⟨hg9.os, hg9.tape, hg9.output, hg9.size, fun k hk => hg9.block k (Nat.lt_of_lt_of_le hk HBA.out.size) (fun e => by injection e with e; have e : k = w.heap.size := e; omega)⟩
    rw [Nat.zero_add, List.nil_append] at ho9
    have HO9 := Lib.hid ho9
    have HL9 := Lib.hid hlow
    clear ho9 hlow hg9 hb9))
   obtain ⟨A', c', hv⟩ := own_slice HO9.out
   subst hv
   go_wp2
   go_ret
   exact ⟨A', c', rfl, HO9.out, HL9.out⟩
theorem iclone_C (x : It) (A : Option Addr) (n c : Nat) (w : World) (hn : n = x.l.length) (hA : A = none → n = 0) (hm : n * 32 ≤ 140737488351232) (hr : RdP w w.heap.size A x.l) :
  Calls Tryz.prog 82 #[.agg (itC x A c).toArray] w fun e w' => ∃ A' c', e = .returned (.agg (itC x A' c').toArray) ∧ w'.ownsRow w.heap.size 37 2 (.slice A' x.l.length c') x.l.length (cellsP x.l) ∧ Below w.heap.size w w' := by
 subst hn
 refine (iclone_any x A x.l.length c w rfl hA hm hr).mono ?_
 rintro e w' ⟨A', n', c', h1, h2, h3, h4⟩
 subst h2
 exact ⟨A', c', h1, h3, h4⟩
end Go.Proofs.YtholdcgkhicdmaaGreatDoor
namespace Go.Proofs.YtholdcgkhicdmaaGreatDoor
open Go.RowKit Go.ChangeShapes Go.WideShapes
end Go.Proofs.YtholdcgkhicdmaaGreatDoor
namespace Go.Proofs.YtholdcgkhicdmaaGreatDoor
open Go.RowKit
theorem ownKnob_ : ownKnob Tryz.prog.godebug = none := by kernel_rfl
theorem laidOut_ : laidOutB Tryz.prog = true := by kernel_rfl
section
open Go.WideShapes Go.ChangeShapes
variable {H : Type} {enc : TypeId × Value → H}
theorem reads_on {W W' : World} {sp : Nat → Bool} : ∀ (ts : List TypeId) (vs : List Value) (ds : List (DataW H)) (ps : List MemPlace),
  (∀ t ∈ ts, Tryz.prog.readableRec t = true ∧ t < Tryz.prog.types.size) → DataW.TrodAll enc Tryz.prog W 0 (fun _ => true) true ts vs ds ps → (∀ p ∈ ps, W.sameAt W' p) → (∀ p ∈ ps, sp p.block = true) →
  DataW.TrodAll enc Tryz.prog W' 0 sp true ts vs ds ps
 | [], vs, ds, ps, _, h, _, _ => by
   obtain ⟨rfl, rfl, rfl⟩ := trodAll_nil h
   exact trodAll_mk0
 | t :: ts, vs, ds, ps, ht, h, h1, h2 => by
   obtain ⟨v, vs', d, ds', p, q, rfl, rfl, rfl, hd, hr⟩ := trodAll_cons h
   obtain ⟨ha, hb⟩ := ht t (by simp)
   exact trodAll_cons_mk (WideElems.Trod_stays laidOut_ ha hb hd (fun x hx => h1 x (by simp [hx])) (fun x hx => h2 x (by simp [hx])))
    (reads_on ts vs' ds' q (fun t' ht' => ht t' (by simp [ht'])) hr (fun x hx => h1 x (by simp [hx])) (fun x hx => h2 x (by simp [hx])))
set_option maxRecDepth 100000 in
theorem law_post {f : Func} {s : ChangeSpec} {apart fresh handsOn again : Bool} {W W' : World} {args : Array Value} {ds gs : List (DataW H)} {before : List MemPlace}
  (hpar : ∀ t ∈ f.params.toList, Tryz.prog.readableRec t = true ∧ t < Tryz.prog.types.size) (hres : f.resultTypes = #[4]) (hvars : s.vars = [])
  (hspec : s.fn H (ds ++ gs) = { results := [.lit (.bool true)], args := ds })
  (hW : DataW.Whole enc Tryz.prog f.params.toList s.vars apart W args.toList ds gs before) (hb : Below W.heap.size W W') :
  s.post enc Tryz.prog f apart fresh handsOn again W args (.bool true) W' := by
 have hlt : ∀ p ∈ before, p.block < W.heap.size := fun p hp => hW.lt p hp
 have hW' := hW
 obtain ⟨p, q, hA, hV, hpq, hz, hn⟩ := hW
 rw [hvars] at hV
 obtain ⟨rfl, rfl⟩ := trodVars_none hV
 have hpp : before = p := by rw [hpq]; simp
 have hargs : ∀ sp : Nat → Bool, (∀ x ∈ before, sp x.block = true) → DataW.TrodAll enc Tryz.prog W' 0 sp true f.params.toList args.toList ds p := fun sp hsp =>
  reads_on _ _ _ _ hpar hA (fun x hx => hb.same (hlt x (by rw [hpp]; exact hx))) (fun x hx => hsp x (by rw [hpp]; exact hx))
 have hr : ∀ (b : Nat) (sp : Nat → Bool) (hd : Bool), DataW.TrodAll enc Tryz.prog W' b sp hd f.resultTypes.toList ((Value.bool true).resultList f.resultTypes.size) [.lit (.bool true)] [] := fun b sp hd => by
  rw [hres]
  exact trodAll_mk1 (shut_bool Tryz.underlying4 _)
 have hold : ∀ x ∈ before, (fun b => decide (b < W.heap.size)) x.block = true := fun x hx => by simpa using hlt x hx
 have hv : ∀ sp : Nat → Bool, DataW.TrodVars enc Tryz.prog W' sp s.vars ([] : List (DataW H)) [] := fun sp => by rw [hvars]; rfl
 have e1 : (s.fn H (ds ++ [])).results = [.lit (.bool true)] := by rw [hspec]
 have e2 : (s.fn H (ds ++ [])).args = ds := by rw [hspec]
 have e3 : (s.fn H (ds ++ [])).vars = [] := by rw [hspec]
 refine ⟨ds, [], before, [], p, [], hW', by rw [e1]; exact hr _ _ _, by rw [e2]; exact hargs _ hold, by rw [e3]; exact hv _, World.keptBut_mono (fun x hx => ⟨hx, Or.inr (Or.inl (by rw [← hpp]; exact hx))⟩) (hb.frame (· ∈ before)), fun _ => ?_⟩
 refine ⟨?_, _, _, ([] ++ p) ++ [], ⟨[] ++ p, [], trodAll_append (hargs _ (fun _ _ => rfl)) (hr _ _ _), hv _, rfl, ?_, ?_⟩, ?_⟩
 ·intro j t r h1 h2
  rw [hres] at h1 h2
  match j, h1, h2 with
  | 0, h1, h2 =>
    obtain rfl : 4 = t := by simpa using h1
    obtain rfl : Value.bool true = r := by simpa [Value.resultList] using h2
    exact okWide_bool_mk Tryz.underlying4 _
  | j + 1, h1, _ => simp at h1
 ·intro b off hx
  have hin : MemPlace.cell b off ∈ before := by rw [hpp]; simpa using hx
  rw [hb.frozen (hlt _ hin)]
  exact hz b off hin
 ·intro ha
  have h1 := hn ha
  rw [hpp] at h1
  simpa using h1
 ·intro x hx _
  rw [hpp]
  simpa using hx
theorem nat_of_u8 {z : Int} (h : (Lit.int .u8 z).wf = true) : ∃ x : Nat, z = x ∧ x < 256 := by
 have hmin : IntKind.u8.min = 0 := rfl
 have hmax : IntKind.u8.max = 255 := rfl
 simp only [Lit.wf, Bool.and_eq_true, decide_eq_true_eq, hmin, hmax] at h
 exact ⟨z.toNat, by omega, by omega⟩
theorem nat_of_u16 {z : Int} (h : (Lit.int .u16 z).wf = true) : ∃ x : Nat, z = x ∧ x < 65536 := by
 have hmin : IntKind.u16.min = 0 := rfl
 have hmax : IntKind.u16.max = 65535 := rfl
 simp only [Lit.wf, Bool.and_eq_true, decide_eq_true_eq, hmin, hmax] at h
 exact ⟨z.toNat, by omega, by omega⟩
end
end Go.Proofs.YtholdcgkhicdmaaGreatDoor
namespace Go.Proofs.YtholdcgkhicdmaaGreatDoor
open Go.RowKit Go.ChangeShapes Go.WideShapes
section
variable {H : Type} {enc : TypeId × Value → H} {W : World} {base : Nat} {sp : Nat → Bool} {hd : Bool}
set_option maxRecDepth 100000 in
theorem small_cells {fuel : Nat} {cs : List Value} {x : DataW H × List MemPlace} (hf : DataW.trod enc Tryz.prog W base sp hd fuel 70 cs = some x) :
  ∃ s : Sm, cs = [.bool s.g, .int .u8 s.o, .int .u8 s.p, .int .u8 s.w, .int .u16 s.q, .int .u16 s.m, .int .u16 s.t, .int .u8 s.r, .int .u8 s.l, .int .u8 s.v, .bool s.s] ∧ OkS s := by
 have hc : Tryz.prog.cellsOf 70 = 11 := by kernel_rfl
 have k4 : Tryz.prog.cellsOf 4 = 1 := by kernel_rfl
 have k5 : Tryz.prog.cellsOf 5 = 1 := by kernel_rfl
 have k31 : Tryz.prog.cellsOf 22 = 1 := by kernel_rfl
 obtain ⟨xs, n, _, hx, hl, hlen, hg⟩ := DataW.trod_struct Tryz.underlying70 hf
 rw [hc] at hl
 match cs, hl with
 | [c0, c1, c2, c3, c4, c5, c6, c7, c8, c9, c10], _ =>
   match xs, hlen with
   | [y0, y1, y2, y3, y4, y5, y6, y7, y8, y9, y10], _ =>
     have t0 : DataW.trod enc Tryz.prog W base sp hd n 4 (([c0, c1, c2, c3, c4, c5, c6, c7, c8, c9, c10].drop 0).take (Tryz.prog.cellsOf 4)) = some y0 := hg 0 _ rfl
     rw [k4] at t0
     have t1 : DataW.trod enc Tryz.prog W base sp hd n 5 (([c0, c1, c2, c3, c4, c5, c6, c7, c8, c9, c10].drop 1).take (Tryz.prog.cellsOf 5)) = some y1 := hg 1 _ rfl
     rw [k5] at t1
     have t2 : DataW.trod enc Tryz.prog W base sp hd n 5 (([c0, c1, c2, c3, c4, c5, c6, c7, c8, c9, c10].drop 2).take (Tryz.prog.cellsOf 5)) = some y2 := hg 2 _ rfl
     rw [k5] at t2
     have t3 : DataW.trod enc Tryz.prog W base sp hd n 5 (([c0, c1, c2, c3, c4, c5, c6, c7, c8, c9, c10].drop 3).take (Tryz.prog.cellsOf 5)) = some y3 := hg 3 _ rfl
     rw [k5] at t3
     have t4 : DataW.trod enc Tryz.prog W base sp hd n 22 (([c0, c1, c2, c3, c4, c5, c6, c7, c8, c9, c10].drop 4).take (Tryz.prog.cellsOf 22)) = some y4 := hg 4 _ rfl
     rw [k31] at t4
     have t5 : DataW.trod enc Tryz.prog W base sp hd n 22 (([c0, c1, c2, c3, c4, c5, c6, c7, c8, c9, c10].drop 5).take (Tryz.prog.cellsOf 22)) = some y5 := hg 5 _ rfl
     rw [k31] at t5
     have t6 : DataW.trod enc Tryz.prog W base sp hd n 22 (([c0, c1, c2, c3, c4, c5, c6, c7, c8, c9, c10].drop 6).take (Tryz.prog.cellsOf 22)) = some y6 := hg 6 _ rfl
     rw [k31] at t6
     have t7 : DataW.trod enc Tryz.prog W base sp hd n 5 (([c0, c1, c2, c3, c4, c5, c6, c7, c8, c9, c10].drop 7).take (Tryz.prog.cellsOf 5)) = some y7 := hg 7 _ rfl
     rw [k5] at t7
     have t8 : DataW.trod enc Tryz.prog W base sp hd n 5 (([c0, c1, c2, c3, c4, c5, c6, c7, c8, c9, c10].drop 8).take (Tryz.prog.cellsOf 5)) = some y8 := hg 8 _ rfl
     rw [k5] at t8
     have t9 : DataW.trod enc Tryz.prog W base sp hd n 5 (([c0, c1, c2, c3, c4, c5, c6, c7, c8, c9, c10].drop 9).take (Tryz.prog.cellsOf 5)) = some y9 := hg 9 _ rfl
     rw [k5] at t9
     have t10 : DataW.trod enc Tryz.prog W base sp hd n 4 (([c0, c1, c2, c3, c4, c5, c6, c7, c8, c9, c10].drop 10).take (Tryz.prog.cellsOf 4)) = some y10 := hg 10 _ rfl
     rw [k4] at t10
     obtain ⟨n0, e0, _⟩ := DataW.trod_bool Tryz.underlying4 t0
     obtain rfl := (List.cons.inj e0).1
     obtain ⟨z1, e1, _, g1⟩ := DataW.trod_int Tryz.underlying5 t1
     obtain ⟨n1, rfl, h1⟩ := nat_of_u8 g1
     obtain rfl := (List.cons.inj e1).1
     obtain ⟨z2, e2, _, g2⟩ := DataW.trod_int Tryz.underlying5 t2
     obtain ⟨n2, rfl, h2⟩ := nat_of_u8 g2
     obtain rfl := (List.cons.inj e2).1
     obtain ⟨z3, e3, _, g3⟩ := DataW.trod_int Tryz.underlying5 t3
     obtain ⟨n3, rfl, h3⟩ := nat_of_u8 g3
     obtain rfl := (List.cons.inj e3).1
     obtain ⟨z4, e4, _, g4⟩ := DataW.trod_int Tryz.underlying22 t4
     obtain ⟨n4, rfl, h4⟩ := nat_of_u16 g4
     obtain rfl := (List.cons.inj e4).1
     obtain ⟨z5, e5, _, g5⟩ := DataW.trod_int Tryz.underlying22 t5
     obtain ⟨n5, rfl, h5⟩ := nat_of_u16 g5
     obtain rfl := (List.cons.inj e5).1
     obtain ⟨z6, e6, _, g6⟩ := DataW.trod_int Tryz.underlying22 t6
     obtain ⟨n6, rfl, h6⟩ := nat_of_u16 g6
     obtain rfl := (List.cons.inj e6).1
     obtain ⟨z7, e7, _, g7⟩ := DataW.trod_int Tryz.underlying5 t7
     obtain ⟨n7, rfl, h7⟩ := nat_of_u8 g7
     obtain rfl := (List.cons.inj e7).1
     obtain ⟨z8, e8, _, g8⟩ := DataW.trod_int Tryz.underlying5 t8
     obtain ⟨n8, rfl, h8⟩ := nat_of_u8 g8
     obtain rfl := (List.cons.inj e8).1
     obtain ⟨z9, e9, _, g9⟩ := DataW.trod_int Tryz.underlying5 t9
     obtain ⟨n9, rfl, h9⟩ := nat_of_u8 g9
     obtain rfl := (List.cons.inj e9).1
     obtain ⟨n10, e10, _⟩ := DataW.trod_bool Tryz.underlying4 t10
     obtain rfl := (List.cons.inj e10).1
     exact ⟨⟨n0, n1, n2, n3, n4, n5, n6, n7, n8, n9, n10⟩, rfl, ⟨h1, h2, h3, h4, h5, h6, h7, h8, h9⟩⟩
end
end Go.Proofs.YtholdcgkhicdmaaGreatDoor