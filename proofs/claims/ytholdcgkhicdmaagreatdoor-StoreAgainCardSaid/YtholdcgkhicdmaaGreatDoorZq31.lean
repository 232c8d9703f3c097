/- Several texts in one: StAck, PkRdr, PkUint. -/
import Derived.Test.YtholdcgkhicdmaaGreatDoorZq21
import Derived.Test.YtholdcgkhicdmaaGreatDoorZq30
namespace Go.Proofs.YtholdcgkhicdmaaGreatDoor
open Go.RowKit
theorem sl_zero3 {w : World} {A : Option Addr} {n c : Nat} {xs : List Value} (ho : w.ownsRow 0 74 14 (.slice A n c) n xs) (hnc : n ≤ c) (W : World) : ∃ v, (Instr.sliceAt 61 (.slice A n c) (some (.int .i64 0)) (some (.int .i64 0)) (some (.int .i64 n))).run Tryz.prog W = .ok v W := by
 rcases ho.2 with ⟨e1, _⟩ | ⟨g, cap, cur, e1, _⟩
 ·injection e1 with e1 e2 e3
  subst e1; subst e2; subst e3
  refine ⟨.slice none 0 0, ?_⟩
  kernel_rfl
 ·injection e1 with e1 e2 e3
  subst e1; subst e3
  exact ⟨_, slE_lhm g n c 0 0 n (Nat.le_refl _) (Nat.zero_le _) hnc W⟩
theorem sl_zero2 {w : World} {A : Option Addr} {n c : Nat} {xs : List Value} (ho : w.ownsRow 0 74 14 (.slice A n c) n xs) : ∃ (A' : Option Addr) (c' : Nat), ∀ W, (Instr.sliceAt 61 (.slice A n c) (some (.int .i64 0)) (some (.int .i64 0)) none).run Tryz.prog W = .ok (.slice A' 0 c') W := by
 rcases ho.2 with ⟨e1, _⟩ | ⟨g, cap, cur, e1, _⟩
 ·injection e1 with e1 e2 e3
  subst e1; subst e2; subst e3
  refine ⟨none, 0, fun W => ?_⟩
  kernel_rfl
 ·injection e1 with e1 e2 e3
  subst e1; subst e3
  exact ⟨_, _, fun W => slE_lh g n c 0 0 (Nat.le_refl _) (Nat.zero_le _) W⟩
set_option maxRecDepth 100000 in
set_option maxHeartbeats 1000000 in
theorem delete_none {A : Option Addr} {n c : Nat} {xs : List Value} (w : World) (ho : w.ownsRow 0 74 14 (.slice A n c) n xs) :
  Calls Tryz.prog 138 #[.slice A n c, .int .i64 0, .int .i64 0] w fun e w' => e = .returned (.slice A n c) ∧ w = w' := by
 obtain ⟨hcap, hcm⟩ := own_capE ho
 obtain ⟨v, hv⟩ := sl_zero3 ho hcap w
 clear ho
 go_enter Tryz.func138, Tryz.ntmps138
 go_wp2
 go_ret
 exact ⟨rfl, rfl⟩
set_option maxRecDepth 100000 in
set_option maxHeartbeats 2000000 in
theorem sremove_none {S : Nat → Prop} {s : Nat} {X : Sp} {L : List Ett} (w : World) (h : SpAt w S s X L) :
  Calls Tryz.prog 92 #[.pointer (some ⟨s, 0, none⟩), .int .i64 0, .int .i64 0] w fun e w' => e = .returned (.tuple #[]) ∧ SpAt w' S s X L ∧ Step w S w' S := by
 obtain ⟨v, h1, h2⟩ := h.sp
 obtain ⟨A, c, rfl⟩ := own_slice h2.own
 obtain ⟨n, hn⟩ : ∃ n, n = L.length := ⟨_, rfl⟩
 have hsum := sumE_le h
 have hsl := h1.slt
 have hown := h2.own
 have hvs := h2.vs
 have hvS := h2.vS
 rw [← hn] at h1 hown hvs hvS
 obtain ⟨u, hu⟩ : ∃ u, u = sumE L := ⟨_, rfl⟩
 rw [← hu] at h1 hsum
 obtain ⟨A2, c2, e1⟩ := sl_zero2 hown
 have HSL := Lib.hid e1
 have HC1 : Hid (∀ W, Below w.heap.size w W → W.cell? ⟨s, 1, none⟩ = some (.int .i64 (u : Int))) := fun W hW => (hW.cell (p := ⟨s, 1, none⟩) hsl).trans h1.c1
 have HC37 : Hid (∀ W, Below w.heap.size w W → W.cell? ⟨s, 37, none⟩ = some (.slice A n c)) := fun W hW => (hW.cell (p := ⟨s, 37, none⟩) hsl).trans h1.c37
 have HFZ : Hid (∀ W, Below w.heap.size w W → W.frozen? ⟨s, 1, none⟩ = false) := fun W hW => (hW.frozen (p := ⟨s, 1, none⟩) hsl).trans (h1.fz 1)
 have HH := Lib.hid h
 have HN := Lib.hid hn
 have HU := Lib.hid hu
 have H1 := Lib.hid h1
 have HOWN := Lib.hid hown
 have HVS := Lib.hid hvs
 have HVSS := Lib.hid hvS
 have hw1 : IntKind.i64.wrap (u : Int) = (u : Int) := by rw [IntKind.wrap_i64]; omega
 clear h1 h2 h hn hu e1 hown hvs hvS
 go_enter Tryz.func92, Tryz.ntmps92
 go_upto_region 0 with fail
 refine wp_region_noPanic ?_
 refine keepBegin (S := fun W => Below w.heap.size w W) 16 (by kernel_rfl) ?_ (fun hHeld => ?_)
 ·exact (RowKit.Below.refl _ _).drew
 try simp only [keepPut, List.set, Nat.zero_add]
 refine kT 0 (v := ?_) [0] rfl (Or.inl ⟨by rfl, ?_⟩) ?_
 rotate_left
 ·(intro W hSw; (try dsimp only at hSw); have f1 := HC1.out W hSw; have f2 := HC37.out W hSw; go_simp; try with_reducible rfl)
 try simp only [keepPut, List.set, Nat.zero_add]
 refine kT 1 (v := ?_) [1] rfl (Or.inl ⟨by rfl, ?_⟩) ?_
 rotate_left
 ·(intro W hSw; (try dsimp only at hSw); have f1 := HC1.out W hSw; have f2 := HC37.out W hSw; go_simp; try with_reducible rfl)
 try simp only [keepPut, List.set, Nat.zero_add]
 refine kT 2 (v := ?_) [2] rfl (Or.inl ⟨by rfl, ?_⟩) ?_
 rotate_left
 ·(intro W hSw; (try dsimp only at hSw); have f1 := HC1.out W hSw; have f2 := HC37.out W hSw; go_simp; try with_reducible rfl)
 try simp only [keepPut, List.set, Nat.zero_add]
 refine kT 3 (v := ?_) [3] rfl (Or.inl ⟨by rfl, ?_⟩) ?_
 rotate_left
 ·(intro W hSw; (try dsimp only at hSw); have f1 := HC1.out W hSw; have f2 := HC37.out W hSw; go_simp; try with_reducible rfl)
 try simp only [keepPut, List.set, Nat.zero_add]
 refine kT 4 (v := ?_) [4] rfl (Or.inl ⟨by rfl, ?_⟩) ?_
 rotate_left
 ·(intro W hSw; (try dsimp only at hSw); have f1 := HC1.out W hSw; have f2 := HC37.out W hSw; go_simp; try with_reducible rfl)
 try simp only [keepPut, List.set, Nat.zero_add]
 refine kT 5 (v := ?_) [5] rfl (Or.inl ⟨by rfl, ?_⟩) ?_
 rotate_left
 ·(intro W hSw; (try dsimp only at hSw); have f1 := HC1.out W hSw; have f2 := HC37.out W hSw; go_simp; try with_reducible rfl)
 try simp only [keepPut, List.set, Nat.zero_add]
 refine kT 6 (v := ?_) [6] rfl (Or.inl ⟨by rfl, ?_⟩) ?_
 rotate_left
 ·(intro W hSw; (try dsimp only at hSw); have f1 := HC1.out W hSw; have f2 := HC37.out W hSw; go_simp; try with_reducible rfl)
 try simp only [keepPut, List.set, Nat.zero_add]
 refine kT 7 (v := ?_) [7] rfl (Or.inl ⟨by rfl, ?_⟩) ?_
 rotate_left
 ·(intro W hSw; (try dsimp only at hSw); have f1 := HC1.out W hSw; have f2 := HC37.out W hSw; go_simp; try with_reducible rfl)
 try simp only [keepPut, List.set, Nat.zero_add]
 refine kT 8 (v := ?_) [8] rfl (Or.inl ⟨by rfl, ?_⟩) ?_
 rotate_left
 ·(intro W hSw; (try dsimp only at hSw); have f1 := HC1.out W hSw; have f2 := HC37.out W hSw; go_simp; try with_reducible rfl)
 try simp only [keepPut, List.set, Nat.zero_add]
 refine kT 9 (v := ?_) [9] rfl (Or.inl ⟨by rfl, ?_⟩) ?_
 rotate_left
 ·(intro W hSw; (try dsimp only at hSw); have f1 := HC1.out W hSw; have f2 := HC37.out W hSw; go_simp; try with_reducible rfl)
 try simp only [keepPut, List.set, Nat.zero_add]
 refine kT 10 (v := ?_) [10] rfl (Or.inl ⟨by rfl, ?_⟩) ?_
 rotate_left
 ·(intro W hSw; (try dsimp only at hSw); have f1 := HC1.out W hSw; have f2 := HC37.out W hSw; go_simp; try with_reducible rfl)
 try simp only [keepPut, List.set, Nat.zero_add]
 refine kT 11 (v := ?_) [11] rfl (Or.inl ⟨by rfl, ?_⟩) ?_
 rotate_left
 ·(intro W hSw; (try dsimp only at hSw); have f3 := HSL.out W; go_simp; try with_reducible rfl)
 try simp only [keepPut, List.set, Nat.zero_add]
 refine keepAll (rs := [12]) (by kernel_rfl) (by simp) (AllReadyK.cons rfl (fun K hK => ?_) AllReadyK.nil)
 go_simp
 refine (sizes_any A2 0 c2 [] _ rfl (by omega) (fun h => absurd h (by decide)) (fun e he => by cases he)).mono ?_
 rintro e' w5 ⟨rfl, hb5⟩
 have HB5 : Hid (Below w.heap.size w w5) := hHeld.trans (hb5.mono hHeld.size)
 clear hb5
 go_wp2_with fail
 refine hK.out _ _ (HB5.out) (fun hHeld => ?_)
 clear hK K
 try simp only [keepPut, List.set, Nat.zero_add]
 rw [show sumE [] = 0 from rfl]
 try simp only [keepPut, List.set, Nat.zero_add]
 refine kT 13 (v := ?_) [13] rfl (Or.inl ⟨by rfl, ?_⟩) ?_
 rotate_left
 ·(intro W hSw; (try dsimp only at hSw); go_simp; try with_reducible rfl)
 try simp only [keepPut, List.set, Nat.zero_add]
 refine kT 14 (v := ?_) [15, 14] rfl (Or.inl ⟨by rfl, ?_⟩) ?_
 rotate_left
 ·(intro W hSw; (try dsimp only at hSw); go_simp; try with_reducible rfl)
 try simp only [keepPut, List.set, Nat.zero_add]
 refine kT 15 (v := ?_) [15] rfl (Or.inl ⟨by rfl, ?_⟩) ?_
 rotate_left
 ·(intro W hSw; (try dsimp only at hSw); go_simp; try with_reducible rfl)
 try simp only [keepPut, List.set, Nat.zero_add]
 refine keepLast rfl (by kernel_rfl) (fun K hK => ?_)
 have f1 := HC1.out w5 HB5.out
 have f4 := HFZ.out w5 HB5.out
 go_simp
 refine hK.out _ _ ?_
 clear hK K
 try simp only [keepPut, List.set, Nat.zero_add]
 refine keepDone (by kernel_rfl) ?_ _
 refine NoPanic.normal ?_
 have f5 := (H1.out.below HB5.out).setU u
 obtain ⟨w7, hw7⟩ : ∃ w7, w7 = w5.setCell ⟨s, 1, none⟩ (.int .i64 (u : Int)) := ⟨_, rfl⟩
 have ho7 : Only (fun k => k = s) w5 w7 := by rw [hw7]; exact Only.setCell _ _ _ rfl
 rw [← hw7] at f5 ⊢
 have ho67 : Only (fun k => k = s) w w7 := (Only.of_below HB5.out _).trans ho7 (fun i hi => .inl hi)
 have hown7 := ho67.own HOWN.out (fun k hk e => HVS.out (by rw [hk]; exact congrArg some e))
 have x37 := f5.c37
 have fz37 := f5.fz 37
 have HD := Lib.hid (delete_none w7 hown7)
 have H5 := Lib.hid f5
 have HO7 := Lib.hid ho67
 have HOW7 := Lib.hid hown7
 clear f1 f4 f5 hw7 ho7 ho67 hown7 HC1 HC37 HFZ HB5 hHeld
 go_wp2_with fail
 refine HD.out.mono ?_
 rintro e' w8 ⟨rfl, rfl⟩
 go_wp2
 have ho9 : Only (fun k => k = s) w7 (w7.setCell ⟨s, 37, none⟩ (.slice A n c)) := Only.setCell _ _ _ rfl
 have ho : Only S w (w7.setCell ⟨s, 37, none⟩ (.slice A n c)) := ((Only.refl S w).trans HO7.out (fun i hi => .inl (by have hi : i = s := hi; rw [hi]; exact HH.out.sS))).trans ho9 (fun i hi => .inl (by have hi : i = s := hi; rw [hi]; exact HH.out.sS))
 have hst : Step w S (w7.setCell ⟨s, 37, none⟩ (.slice A n c)) S := ⟨ho, fun _ hk => .inl hk⟩
 have hown9 := ho9.own HOW7.out (fun k hk e => HVS.out (by rw [hk]; exact congrArg some e))
 have hc9 := H5.out.setL (.slice A n c)
 go_end0
 refine ⟨rfl, ⟨⟨.slice A n c, by rw [← HU.out]; exact hc9, by rw [← HN.out]; exact hown9, HVS.out, HVSS.out⟩, HH.out.sS, fun k hk => Nat.lt_of_lt_of_le (HH.out.lt k hk) ho.size, HH.out.few, fun e he => (HH.out.ent e he).step hst, HH.out.q⟩, hst⟩
def aboveK (L : List Ett) (N : Nat) : List Ett := L.filter fun e => decide (N < e.i)
theorem above_drop {L : List Ett} {N m : Nat} (h : CutAt L N m) : cutE L 0 m = aboveK L N := by
 have e0 : cutE L 0 m = L.drop m := by unfold cutE; rw [List.take_zero]; rfl
 rw [e0]
 unfold aboveK
 have e1 : L = L.take m ++ L.drop m := (List.take_append_drop _ _).symm
 have e2 : (L.take m).filter (fun e => decide (N < e.i)) = [] := by
  rw [List.filter_eq_nil_iff]
  intro e he
  obtain ⟨k, hk⟩ := List.mem_iff_getElem?.1 he
  have hkm : k < m := by
   have := (List.getElem?_eq_some_iff.1 hk).1
   rw [List.length_take] at this
   omega
  rw [List.getElem?_take_of_lt hkm] at hk
  have := h.lo k hkm
  rw [idxE_at hk] at this
  simp; omega
 have e3 : (L.drop m).filter (fun e => decide (N < e.i)) = L.drop m := by
  rw [List.filter_eq_self]
  intro e he
  obtain ⟨k, hk⟩ := List.mem_iff_getElem?.1 he
  rw [List.getElem?_drop] at hk
  have hkl := (List.getElem?_eq_some_iff.1 hk).1
  have := h.hi (m + k) (by omega) hkl
  rw [idxE_at hk] at this
  simp; exact this
 conv => rhs; rw [e1, List.filter_append, e2, e3, List.nil_append]
def ackE (X : Sp) (N : Nat) : Nat := if X.n ≤ N then 6 else if N ≤ X.a then 17 else 0
def ackX (X : Sp) (N : Nat) : Sp := if ackE X N = 0 then { X with a := N } else X
def ackK (X : Sp) (L : List Ett) (N : Nat) : List Ett := if ackE X N = 0 then aboveK L N else L
theorem ack_no {X : Sp} {N : Nat} (h : ackE X N ≠ 0) (L : List Ett) : ackX X N = X ∧ ackK X L N = L := by unfold ackX ackK; rw [if_neg h, if_neg h]; exact ⟨rfl, rfl⟩
theorem ack_yes {X : Sp} {N : Nat} (h : ackE X N = 0) (L : List Ett) : ackX X N = { X with a := N } ∧ ackK X L N = aboveK L N := by unfold ackX ackK; rw [if_pos h, if_pos h]; exact ⟨rfl, rfl⟩
set_option maxRecDepth 100000 in
set_option maxHeartbeats 1000000 in
theorem ack_new {S : Nat → Prop} {s N : Nat} {X : Sp} {L : List Ett} (w : World) (h : SpAt w S s X L) (hrise : RiseE L) :
  Calls Tryz.prog 46 #[.pointer (some ⟨s, 0, none⟩), .int .u64 N] w fun e w' => e = .returned (.int .i64 (ackE X N : Nat)) ∧ SpAt w' S s (ackX X N) (ackK X L N) ∧ Step w S w' S := by
 have HU := Lib.hid (upTo_any (N := N) w h hrise)
 obtain ⟨v, k1, -⟩ := h.sp
 have c2 := k1.c2
 have c3 := k1.c3
 have HH := Lib.hid h
 clear k1 h
 by_cases h1 : X.n ≤ N
 ·have d1 : decide ((X.n : Int) ≤ (N : Int)) = true := decide_eq_true (by omega)
  have e1 : decide (X.n ≤ N) = true := decide_eq_true (by omega)
  have HE : Hid (ackE X N = 6) := by show _ = _; unfold ackE; rw [if_pos h1]
  go_enter Tryz.func46, Tryz.ntmps46
  go_wp2_with fail
  go_ret
  obtain ⟨q1, q2⟩ := ack_no (X := X) (N := N) (by rw [HE.out]; decide) L
  rw [HE.out, q1, q2]
  exact ⟨rfl, HH.out, ⟨Only.refl _ _, fun _ h => .inl h⟩⟩
 by_cases h2 : N ≤ X.a
 ·have d1 : decide ((X.n : Int) ≤ (N : Int)) = false := decide_eq_false (by omega)
  have d3 : decide ((N : Int) ≤ (X.a : Int)) = true := decide_eq_true (by omega)
  have e3 : decide (N ≤ X.a) = true := decide_eq_true (by omega)
  have HE : Hid (ackE X N = 17) := by show _ = _; unfold ackE; rw [if_neg h1, if_pos h2]
  go_enter Tryz.func46, Tryz.ntmps46
  go_wp2_with fail
  go_ret
  obtain ⟨q1, q2⟩ := ack_no (X := X) (N := N) (by rw [HE.out]; decide) L
  rw [HE.out, q1, q2]
  exact ⟨rfl, HH.out, ⟨Only.refl _ _, fun _ h => .inl h⟩⟩
 have HE : Hid (ackE X N = 0) := by show _ = _; unfold ackE; rw [if_neg h1, if_neg h2]
 have d1 : decide ((X.n : Int) ≤ (N : Int)) = false := decide_eq_false (by omega)
 have e1 : decide (X.n ≤ N) = false := decide_eq_false (by omega)
 have d3 : decide ((N : Int) ≤ (X.a : Int)) = false := decide_eq_false (by omega)
 have e3 : decide (N ≤ X.a) = false := decide_eq_false (by omega)
 go_enter Tryz.func46, Tryz.ntmps46
 go_wp2_with fail
 refine HU.out.mono ?_
 rintro _ w1 ⟨m, rfl, hm1, hlo, hhi, hb1⟩
 have HCUT : Hid (cutE L 0 m = aboveK L N) := above_drop ⟨hm1, hlo, hhi⟩
 have hs1 := HH.out.below hb1
 have hrem : Calls Tryz.prog 92 #[.pointer (some ⟨s, 0, none⟩), .int .i64 0, .int .i64 (m : Nat)] w1 fun e w' => e = .returned (.tuple #[]) ∧ SpAt w' S s X (cutE L 0 m) ∧ Step w1 S w' S := by
  by_cases hm : m = 0
  ·subst hm
   have e0 : cutE L 0 0 = L := by unfold cutE; rw [List.take_zero]; rfl
   rw [e0]
   exact sremove_none w1 hs1
  ·exact remove_any (i := 0) (j := m) w1 hs1 (by omega) hm1
 have HR := Lib.hid hrem
 have HB1 := Lib.hid hb1
 clear hlo hhi hs1 HU c2 c3 hb1 d1 d3 e1 e3 hrem
 go_wp2_with fail
 refine HR.out.mono ?_
 rintro _ w2 ⟨rfl, hs2, hst2⟩
 obtain ⟨v2, k2, r2⟩ := hs2.sp
 have c3 := k2.c3
 have fz := k2.fz 3
 have HK2 := Lib.hid k2
 have HR2 := Lib.hid r2
 have HS2 := Lib.hid hs2
 have HT2 := Lib.hid hst2
 clear hs2 hst2 k2 r2 HR
 go_wp2_with fail
 go_ret
 obtain ⟨h5, t5⟩ := HS2.out.of_set (X' := { X with a := N }) 3 (.int .u64 (N : Int)) (fun v hv => hv.setA N) rfl
 obtain ⟨q1, q2⟩ := ack_yes HE.out L
 rw [HE.out, q1, q2]
 refine ⟨rfl, ?_, ((⟨Only.of_below HB1.out S, fun _ h => .inl h⟩ : Step w S w1 S).trans HT2.out).trans t5⟩
 rw [← HCUT.out]
 exact h5
structure Rdr (w : World) (g : Nat) (l : List Nat) (er : Int) : Prop where
 lt : g < w.heap.size
 c0 : ∃ A n c, w.cell? ⟨g, 0, none⟩ = some (.slice A n c) ∧ Hid (n = l.length) ∧ n ≤ c ∧ Hid (A = none → n = 0 ∧ c = 0) ∧ RdB w g A l ∧ n ≤ 2097152 ∧ (∀ a, A = some a → ∃ b o, a = ⟨b, o, none⟩)
 c1 : w.cell? ⟨g, 1, none⟩ = some (.int .i64 er)
 f0 : w.frozen? ⟨g, 0, none⟩ = false
 f1 : w.frozen? ⟨g, 1, none⟩ = false
 ok : OkB l
 none_ : er ≠ 0 → l = []
section
variable {w w' : World} {g : Nat} {l : List Nat} {er : Int}
theorem Rdr.keep (h : Rdr w g l er) (hb : w'.heap.size ≥ w.heap.size) (hk : ∀ k, k ≤ g → w'.heap[k]? = w.heap[k]?) : Rdr w' g l er := by
 obtain ⟨h1, ⟨A, n, c, h2, h3, h4, h5, h6, h7⟩, h8, h9, h10, h11, h12⟩ := h
 have hc : ∀ o, w'.cell? ⟨g, o, none⟩ = w.cell? ⟨g, o, none⟩ := fun o => World.cell?_of_block (hk g (Nat.le_refl _))
 have hf : ∀ o, w'.frozen? ⟨g, o, none⟩ = w.frozen? ⟨g, o, none⟩ := fun o => World.frozen?_of_block (hk g (Nat.le_refl _))
 exact ⟨by omega, ⟨A, n, c, (hc 0).trans h2, h3, h4, h5, h6.keep fun p hp => World.cell?_of_block (hk _ (by omega)), h7⟩, (hc 1).trans h8, (hf 0).trans h9, (hf 1).trans h10, h11, h12⟩
theorem Rdr.below (h : Rdr w g l er) (hb : Below w.heap.size w w') : Rdr w' g l er := h.keep hb.size fun k hk => hb.block k (by have := h.lt; omega)
theorem Rdr.cut (h : Rdr w g l er) {A : Option Addr} {n c : Nat} {l2 : List Nat} (hn : n = l2.length) (hc : n ≤ c) (hA : A = none → n = 0 ∧ c = 0) (hr : RdB w g A l2) (hm : n ≤ 2097152) (hs : ∀ a, A = some a → ∃ b o, a = ⟨b, o, none⟩) (hok : OkB l2) (he : er ≠ 0 → l2 = []) : Rdr (w.setCell ⟨g, 0, none⟩ (.slice A n c)) g l2 er := by
 obtain ⟨h1, ⟨A0, n0, c0, h2, h3, h4, h5, h6, h7⟩, h8, h9, h10, h11, h12⟩ := h
 exact ⟨by simpa using h1, ⟨A, n, c, World.cell?_setCell_same _ _ _ h2, hn, hc, hA, hr.keep fun p hp => World.cell?_setCell_other _ _ _ _ (fun e => by rw [← e] at hp; simp at hp), hm, hs⟩, (World.cell?_setCell_other _ ⟨g, 0, none⟩ ⟨g, 1, none⟩ _ (by simp)).trans h8, by simpa using h9, by simpa using h10, hok, he⟩
theorem Rdr.failed (h : Rdr w g l er) (e : Int) : Rdr ((w.setCell ⟨g, 0, none⟩ (.slice none 0 0)).setCell ⟨g, 1, none⟩ (.int .i64 e)) g [] e := by
 obtain ⟨h1, ⟨A0, n0, c0, h2, h3, h4, h5, h6, h7⟩, h8, h9, h10, h11, h12⟩ := h
 exact ⟨by simpa using h1, ⟨none, 0, 0, (World.cell?_setCell_other _ ⟨g, 1, none⟩ ⟨g, 0, none⟩ _ (by simp)).trans (World.cell?_setCell_same _ _ _ h2), rfl, Nat.le_refl _, fun _ => ⟨rfl, rfl⟩, RdB.empty, by omega, fun a e => (by cases e)⟩, World.cell?_setCell_same _ _ _ ((World.cell?_setCell_other _ ⟨g, 0, none⟩ ⟨g, 1, none⟩ _ (by simp)).trans h8), by simpa using h9, by simpa using h10, OkB.nil, fun _ => rfl⟩
end
theorem grown_set (w : World) (g o : Nat) (v : Value) : w.grownBy (w.setCell ⟨g, o, none⟩ v) (some g) := ⟨rfl, rfl, rfl, by simp, fun k _ hne => Below.heap_setCell _ _ _ k (fun e => hne (by rw [e]))⟩
set_option maxHeartbeats 400000 in
theorem rleft_any (g : Nat) (l : List Nat) (er : Int) (w : World) (h : Rdr w g l er) :
  Calls Tryz.prog 151 #[.pointer (some ⟨g, 0, none⟩)] w fun e w' => e = .returned (.int .i64 (l.length : Nat)) ∧ w = w' := by
 obtain ⟨A, n, c, hc, hn, _⟩ := h.c0
 clear h
 go_enter Tryz.func151, Tryz.ntmps151
 go_wp2
 go_ret
 exact ⟨by rw [← hn.out]; rfl, rfl⟩
set_option maxHeartbeats 400000 in
theorem rerr_any (g : Nat) (l : List Nat) (er : Int) (w : World) (h : Rdr w g l er) :
  Calls Tryz.prog 149 #[.pointer (some ⟨g, 0, none⟩)] w fun e w' => e = .returned (.int .i64 er) ∧ w = w' := by
 have hc := h.c1
 clear h
 go_enter Tryz.func149, Tryz.ntmps149
 go_wp2
 go_ret
 exact ⟨rfl, rfl⟩
set_option maxHeartbeats 400000 in
theorem rfail_keep (g : Nat) (l : List Nat) (er z : Int) (hz : er ≠ 0 ∨ z = 0) (w : World) (h : Rdr w g l er) :
  Calls Tryz.prog 150 #[.pointer (some ⟨g, 0, none⟩), .int .i64 z] w fun e w' => e = .returned (.tuple #[]) ∧ w = w' := by
 have hc := h.c1
 clear h
 by_cases he : er = 0
 ·subst he
  obtain rfl : z = 0 := by omega
  go_enter Tryz.func150, Tryz.ntmps150
  go_wp2
  refine bodyPost_ret (results_none rfl _ _ _) rfl ?_
  exact ⟨rfl, rfl⟩
 ·have he2 : (er != 0) = true := by simpa using he
  clear he hz
  go_enter Tryz.func150, Tryz.ntmps150
  go_wp2
  refine bodyPost_ret (results_none rfl _ _ _) rfl ?_
  exact ⟨rfl, rfl⟩
set_option maxHeartbeats 400000 in
theorem rfail_set (g : Nat) (l : List Nat) (z : Int) (hz : z ≠ 0) (w : World) (h : Rdr w g l 0) :
  Calls Tryz.prog 150 #[.pointer (some ⟨g, 0, none⟩), .int .i64 z] w fun e w' => e = .returned (.tuple #[]) ∧ Rdr w' g [] z ∧ w.grownBy w' (some g) := by
 have hc := h.c1
 have f0 := h.f0
 have f1 := h.f1
 obtain ⟨A, n, c, c0, _⟩ := h.c0
 have H := Lib.hid h
 clear h
 have hz2 : (z == 0) = false := by simpa using hz
 clear hz
 go_enter Tryz.func150, Tryz.ntmps150
 go_wp2
 go_end0
 exact ⟨rfl, H.out.failed z, grownBy_trans (grown_set _ _ _ _) (grown_set _ _ _ _)⟩
set_option maxHeartbeats 400000 in
theorem rbyte_err (g : Nat) (er : Int) (he : er ≠ 0) (w : World) (h : Rdr w g [] er) :
  Calls Tryz.prog 148 #[.pointer (some ⟨g, 0, none⟩)] w fun e w' => e = .returned (.int .u8 0) ∧ w = w' := by
 have H := Lib.hid h
 clear h
 go_enter Tryz.func148, Tryz.ntmps148
 go_wp2_with fail
 refine (rleft_any g [] er w H.out).mono ?_
 rintro e w1 ⟨rfl, rfl⟩
 go_wp2_with fail
 refine (rfail_keep g [] er 3 (.inl he) w H.out).mono ?_
 rintro e w1 ⟨rfl, rfl⟩
 go_wp2
 go_ret
 exact ⟨rfl, rfl⟩
set_option maxHeartbeats 400000 in
theorem rbyte_short (g : Nat) (w : World) (h : Rdr w g [] 0) :
  Calls Tryz.prog 148 #[.pointer (some ⟨g, 0, none⟩)] w fun e w' => e = .returned (.int .u8 0) ∧ Rdr w' g [] 3 ∧ w.grownBy w' (some g) := by
 have H := Lib.hid h
 clear h
 go_enter Tryz.func148, Tryz.ntmps148
 go_wp2_with fail
 refine (rleft_any g [] 0 w H.out).mono ?_
 rintro e w1 ⟨rfl, rfl⟩
 go_wp2_with fail
 refine (rfail_set g [] 3 (by decide) w H.out).mono ?_
 rintro e w1 ⟨rfl, h1, h2⟩
 have H1 := Lib.hid h1
 have H2 := Lib.hid h2
 clear h1 h2
 go_wp2
 go_ret
 exact ⟨rfl, H1.out, H2.out⟩
set_option maxHeartbeats 400000 in
theorem rbyte_cons (g : Nat) (x : Nat) (l : List Nat) (w : World) (h : Rdr w g (x :: l) 0) :
  Calls Tryz.prog 148 #[.pointer (some ⟨g, 0, none⟩)] w fun e w' => e = .returned (.int .u8 x) ∧ Rdr w' g l 0 ∧ w.grownBy w' (some g) := by
 have H := Lib.hid h
 have f0 := h.f0
 obtain ⟨A, n, c, c0, hn, hnc, hA, hr, hm, hs⟩ := h.c0
 obtain ⟨b, o, rfl, hb, hcs⟩ := hr (by simp)
 have cx : w.cell? ⟨b, o, none⟩ = some (.int .u8 x) := hcs 0 x rfl
 have Hcs := Lib.hid hcs
 have Hr := Lib.hid hr
 have hpos : 0 < n := by rw [hn.out]; simp
 obtain ⟨m, rfl⟩ : ∃ m, n = m + 1 := ⟨n - 1, by omega⟩
 clear h hcs hr hs
 go_enter Tryz.func148, Tryz.ntmps148
 go_wp2_with fail
 refine (rleft_any g (x :: l) 0 w H.out).mono ?_
 rintro e w1 ⟨rfl, rfl⟩
 go_wp2
 ·go_ret
  have hl : m = l.length := by have := hn.out; simpa using this
  obtain rfl : l = [] := List.eq_nil_of_length_eq_zero (by omega)
  obtain rfl : m = 0 := by simpa using hl
  exact ⟨rfl, H.out.cut rfl (Nat.le_refl _) (fun e => by cases e) RdB.empty (by omega) (fun a e => by cases e; exact ⟨_, _, rfl⟩) OkB.nil (fun _ => rfl), grown_set _ _ _ _⟩
 ·go_ret
  have hl : m = l.length := by have := hn.out; simpa using this
  exact ⟨rfl, H.out.cut hl (by omega) (fun e => by cases e) (Hr.out.drop 1) (by omega) (fun a e => by cases e; exact ⟨_, _, rfl⟩) (fun y hy => H.out.ok y (by simp [hy])) (fun e => absurd rfl e), grown_set _ _ _ _⟩
theorem ret_u64 {x y : Int} (h : x = y) : Ending.returned (.int .u64 x) = .returned (.int .u64 y) := by rw [h]
theorem and127 : ∀ c, c < 256 → c &&& 127 = c % 128 := by decide +kernel
theorem getU_bits (k acc c : Nat) (ha : acc < 128 ^ k) :
  acc ||| 128 ^ k * (c % 128) = acc + 128 ^ k * (c % 128) := by
 have e : (128 : Nat) ^ k = 2 ^ (7 * k) := by rw [Nat.pow_mul]
 rw [e] at ha ⊢
 have := Nat.two_pow_add_eq_or_of_lt (i := 7 * k) (b := acc) ha (c % 128)
 rw [Nat.or_comm, ← this, Nat.add_comm]
theorem getU_val (k acc c : Nat) (hk : k ≤ 9) (hc : c < 256) (h9 : k = 9 → c ≤ 1) (ha : acc < 128 ^ k) :
  bits .or .u64 (acc : Int) (IntKind.u64.wrap (IntKind.u64.wrap (bits .andNot .u8 (c : Int) 128) * 2 ^ (7 * k))) = ((acc + 128 ^ k * (c % 128) : Nat) : Int) := by
 have hroom := getU_room k acc c hk hc h9 ha
 have e0 : (128 : Nat) ^ k = 2 ^ (7 * k) := by rw [Nat.pow_mul]
 have e1 : bits .andNot .u8 (c : Int) 128 = ((c % 128 : Nat) : Int) := by
  have h := u8_andNot_nat c 128 hc (by decide)
  rw [show (255 - 128 : Nat) = 127 from rfl, and127 c hc] at h
  exact h
 have e2 : IntKind.u64.wrap ((c % 128 : Nat) : Int) = ((c % 128 : Nat) : Int) := by rw [IntKind.wrap_u64]; omega
 have e3 : ((c % 128 : Nat) : Int) * 2 ^ (7 * k) = ((128 ^ k * (c % 128) : Nat) : Int) := by rw [e0, Int.natCast_mul, Int.natCast_pow]; exact Int.mul_comm _ _
 have e4 : IntKind.u64.wrap ((128 ^ k * (c % 128) : Nat) : Int) = ((128 ^ k * (c % 128) : Nat) : Int) := by
  rw [IntKind.wrap_u64]
  exact Int.emod_eq_of_lt (by omega) (by omega)
 rw [e1, e2, e3, e4, u64_or_nat _ _ (by omega) (by omega), getU_bits k acc c ha]
set_option maxRecDepth 100000 in
set_option maxHeartbeats 1000000 in
theorem ruint_any (g : Nat) (l : List Nat) (w : World) (h : Rdr w g l 0) :
  Calls Tryz.prog 105 #[.pointer (some ⟨g, 0, none⟩)] w fun e w' => e = .returned (.int .u64 ((getU 0 0 l).1 : Nat)) ∧ Rdr w' g (getU 0 0 l).2.1 ((getU 0 0 l).2.2 : Nat) ∧ w.grownBy w' (some g) := by
 have H := Lib.hid h
 clear h
 obtain ⟨n', l', e', hR⟩ : ∃ n' l' e', getU 0 0 l = (n', l', e') := ⟨_, _, _, rfl⟩
 rw [hR]
 have HR := Lib.hid hR
 clear hR
 go_enter Tryz.func105, Tryz.ntmps105
 go_wp2
 go_loopw [3, 6] (fun nv iv wr => ∃ (k acc : Nat) (l2 : List Nat), iv = .int .i64 k ∧ nv = .int .u64 acc ∧ k ≤ 9 ∧ Hid (acc < 128 ^ k) ∧ Hid (getU k acc l2 = (n', l', e')) ∧ Hid (Rdr wr g l2 0) ∧ Hid (w.grownBy wr (some g))) (fun _ iv _ => 10 - (intOf iv).toNat)
 case atStart => exact ⟨0, 0, l, rfl, rfl, by omega, by show _ < _; decide, HR.out, H.out, World.grownBy.refl _ _⟩
 case round =>
  obtain ⟨k, acc, l2, rfl, rfl, hk, Ha, Hg, Hr, Hw⟩ := hrel
  have hk10 : (k : Int) < 10 := by omega
  cases l2 with
  | nil =>
    go_wp2_with fail
    refine (rbyte_short g wr Hr.out).mono ?_
    rintro e w1 ⟨rfl, h1, h2⟩
    have H1 := Lib.hid h1
    have H2 := Lib.hid h2
    clear h1 h2
    go_wp2_with fail
    refine (rerr_any g [] 3 w1 H1.out).mono ?_
    rintro e w2 ⟨rfl, rfl⟩
    go_wp2
    go_ret
    have h := Hg.out
    simp only [getU] at h
    obtain ⟨rfl, rfl, rfl⟩ : 0 = n' ∧ [] = l' ∧ 3 = e' := by simpa using h
    exact ⟨rfl, H1.out, grownBy_trans Hw.out H2.out⟩
  | cons c t =>
    go_wp2_with fail
    refine (rbyte_cons g c t wr Hr.out).mono ?_
    rintro e w1 ⟨rfl, h1, h2⟩
    have H1 := Lib.hid h1
    have H2 := Lib.hid (grownBy_trans Hw.out h2)
    have hc256 : c < 256 := Hr.out.ok c (by simp)
    clear h1 h2
    by_cases hq1 : k = 9 ∧ 1 < c
    ·obtain ⟨rfl, hc1⟩ := hq1
     go_wp2_with fail
     refine (rerr_any g t 0 w1 H1.out).mono ?_
     rintro e w2 ⟨rfl, rfl⟩
     go_wp2_with fail
     refine (rfail_set g t 6 (by decide) w1 H1.out).mono ?_
     rintro e w3 ⟨rfl, h1, h2⟩
     have H3 := Lib.hid h1
     have H4 := Lib.hid (grownBy_trans H2.out h2)
     clear h1 h2
     go_wp2
     go_ret
     have h := Hg.out
     rw [getU, if_pos ⟨rfl, hc1⟩] at h
     obtain ⟨rfl, rfl, rfl⟩ : 0 = n' ∧ [] = l' ∧ 6 = e' := by simpa using h
     exact ⟨rfl, H3.out, H4.out⟩
    ·by_cases hq2 : 0 < k ∧ c = 0
     ·obtain ⟨hk0, rfl⟩ := hq2
      go_wp2_with fail
      refine (rerr_any g t 0 w1 H1.out).mono ?_
      rintro e w2 ⟨rfl, rfl⟩
      go_wp2_with fail
      all_goals (
       refine (rfail_set g t 2 (by decide) w1 H1.out).mono ?_
       rintro e w3 ⟨rfl, h1, h2⟩
       have H3 := Lib.hid h1
       have H4 := Lib.hid (grownBy_trans H2.out h2)
       clear h1 h2
       go_wp2
       go_ret
       have h := Hg.out
       rw [getU, if_neg hq1, if_pos ⟨hk0, rfl⟩] at h
       obtain ⟨rfl, rfl, rfl⟩ : 0 = n' ∧ [] = l' ∧ 2 = e' := by simpa using h
       exact ⟨rfl, H3.out, H4.out⟩)
     ·have HX := Lib.hid (getU_val k acc c hk hc256 (by omega) Ha.out)
      have h := Hg.out
      rw [getU, if_neg hq1, if_neg hq2] at h
      have Hn := Lib.hid h
      have Hq1 := Lib.hid hq1
      have Hq2 := Lib.hid hq2
      clear h hq1 hq2
      go_wp2_with fail
      refine (rerr_any g t 0 w1 H1.out).mono ?_
      rintro e w2 ⟨rfl, rfl⟩
      have Hk := Lib.hid hk
      clear hk
      have h9 : ((k : Int) == 9) = decide (k = 9) := by rw [Bool.eq_iff_iff, beq_iff_eq, decide_eq_true_iff]; omega
      have hc1 : k = 9 → ((1 : Int) < c) = False := fun e => eq_false (by have := Hq1.out; omega)
      have hk0 : ((0 : Int) < k) = (0 < k) := by rw [eq_iff_iff]; omega
      have hc0 : 0 < k → ((c : Int) == 0) = false := fun e => by rw [beq_eq_false_iff_ne]; have := Hq2.out; omega
      by_cases hlt : c < 128
      ·have done_ : bits .or .u64 (acc : Int) (IntKind.u64.wrap (IntKind.u64.wrap (bits .andNot .u8 (c : Int) 128) * 2 ^ (7 * k))) = (n' : Int) ∧ t = l' ∧ 0 = e' := by
        have h := Hn.out
        rw [if_pos hlt] at h
        have e3 : c % 128 = c := Nat.mod_eq_of_lt hlt
        obtain ⟨h1, h2, h3⟩ : acc + 128 ^ k * c = n' ∧ t = l' ∧ 0 = e' := by simpa using h
        exact ⟨HX.out.trans (by rw [e3, h1]), h2, h3⟩
       obtain ⟨hX, rfl, rfl⟩ := done_
       have HX2 := Lib.hid hX
       clear hX Hn HX
       by_cases hk9 : k = 9
       ·rw [decide_eq_true hk9] at h9
        replace hc1 := hc1 hk9
        rw [eq_true (show 0 < k by omega)] at hk0
        replace hc0 := hc0 (by omega)
        have hkp : 0 < k := by omega
        replace hk9 := Lib.hid hk9
        go_wp2
        go_ret
        exact ⟨ret_u64 HX2.out, H1.out, H2.out⟩
       ·rw [decide_eq_false hk9] at h9
        clear hc1
        replace hk9 := Lib.hid hk9
        by_cases hkz : 0 < k
        ·rw [eq_true hkz] at hk0
         replace hc0 := hc0 hkz
         replace hkz := Lib.hid hkz
         go_wp2
         go_ret
         exact ⟨ret_u64 HX2.out, H1.out, H2.out⟩
        ·rw [eq_false hkz] at hk0
         clear hc0
         replace hkz := Lib.hid hkz
         go_wp2
         go_ret
         exact ⟨ret_u64 HX2.out, H1.out, H2.out⟩
      ·have hk9 : k ≠ 9 := fun e => by have := Hq1.out; omega
       rw [decide_eq_false hk9] at h9
       clear hc1
       replace hk9 := Lib.hid hk9
       have next_ : acc + 128 ^ k * (c % 128) < 128 ^ (k + 1) := by
        have := Ha.out
        have hm : c % 128 + 1 ≤ 128 := by omega
        have hm2 := Nat.mul_le_mul_left (128 ^ k) hm
        rw [Nat.mul_add, Nat.mul_one] at hm2
        rw [Nat.pow_succ]
        omega
       replace next_ := Lib.hid next_
       have h := Hn.out
       rw [if_neg hlt] at h
       replace Hn := Lib.hid h
       clear h
       by_cases hkz : 0 < k
       ·rw [eq_true hkz] at hk0
        replace hc0 := hc0 hkz
        replace hkz := Lib.hid hkz
        go_wp2
        exact ⟨⟨k + 1, _, t, by go_num, congrArg (Value.int .u64) HX.out, by have := Hk.out; have := hk9.out; omega, next_, Hn, H1.out, H2.out⟩, by simp [intOf]; omega⟩
       ·rw [eq_false hkz] at hk0
        clear hc0
        replace hkz := Lib.hid hkz
        go_wp2
        exact ⟨⟨k + 1, _, t, by go_num, congrArg (Value.int .u64) HX.out, by have := Hk.out; have := hk9.out; omega, next_, Hn, H1.out, H2.out⟩, by simp [intOf]; omega⟩
set_option maxHeartbeats 400000 in
theorem ruint_err (g : Nat) (er : Int) (he : er ≠ 0) (w : World) (h : Rdr w g [] er) :
  Calls Tryz.prog 105 #[.pointer (some ⟨g, 0, none⟩)] w fun e w' => e = .returned (.int .u64 0) ∧ w = w' := by
 have H := Lib.hid h
 have he2 : (er != 0) = true := by simpa using he
 have He := Lib.hid he
 clear h he
 go_enter Tryz.func105, Tryz.ntmps105
 go_wp2
 refine wp_loop_rounds 1 ?_
 rw [rounds_succ]
 go_wp2_with fail
 refine (rbyte_err g er He.out w H.out).mono ?_
 rintro e w1 ⟨rfl, rfl⟩
 go_wp2_with fail
 refine (rerr_any g [] er w H.out).mono ?_
 rintro e w1 ⟨rfl, rfl⟩
 go_wp2
 go_ret
 exact ⟨rfl, rfl⟩
end Go.Proofs.YtholdcgkhicdmaaGreatDoor