/- Several texts in one: SpRem, SpJoin. -/
import Derived.Test.YtholdcgkhicdmaaGreatDoorZq11
namespace Go.Proofs.YtholdcgkhicdmaaGreatDoor
open Go.RowKit
theorem sumE_cut {L : List Ett} {i j : Nat} (h : i ≤ j) : sumE (cutE L i j) + sumE ((L.drop i).take (j - i)) = sumE L := by
 have e1 : L = L.take i ++ L.drop i := (List.take_append_drop _ _).symm
 have e2 : L.drop i = (L.drop i).take (j - i) ++ L.drop j := by
  conv => lhs; rw [← List.take_append_drop (j - i) (L.drop i)]
  rw [List.drop_drop, show i + (j - i) = j by omega]
 have h1 : sumE L = sumE (L.take i) + sumE (L.drop i) := by conv => lhs; rw [e1, sumE_append]
 have h2 : sumE (L.drop i) = sumE ((L.drop i).take (j - i)) + sumE (L.drop j) := by conv => lhs; rw [e2, sumE_append]
 unfold cutE
 rw [sumE_append]
 omega
theorem cutE_mem {L : List Ett} {i j : Nat} {e : Ett} (h : e ∈ cutE L i j) : e ∈ L := by
 unfold cutE at h
 rcases List.mem_append.1 h with h | h
 ·exact List.mem_of_mem_take h
 ·exact List.mem_of_mem_drop h
theorem EntOk.free {w : World} {S : Nat → Prop} {e : Ett} (h : EntOk w S e) : EntOk w (fun _ => False) e := ⟨h.ok, h.sh, h.ln, h.lb, h.ix, h.nil, h.rd, fun _ _ _ h => h⟩
set_option maxRecDepth 100000 in
set_option maxHeartbeats 2000000 in
theorem remove_any {S : Nat → Prop} {s i j : Nat} {X : Sp} {L : List Ett} (w : World) (h : SpAt w S s X L) (hij : i < j) (hj : j ≤ L.length) :
  Calls Tryz.prog 92 #[.pointer (some ⟨s, 0, none⟩), .int .i64 i, .int .i64 j] w fun e w' => e = .returned (.tuple #[]) ∧ SpAt w' S s X (cutE L i j) ∧ Step w S w' S := by
 obtain ⟨v, h1, h2⟩ := h.sp
 obtain ⟨b, c, rfl, hb, hbs, hbS, _⟩ := h2.at_ (List.getElem?_eq_getElem (show 0 < L.length by omega))
 obtain ⟨n, hn⟩ : ∃ n, n = L.length := ⟨_, rfl⟩
 have hfew := h.few
 have hsum := sumE_le h
 have hcut := sumE_cut (L := L) (i := i) (j := j) (by omega)
 have hclen := cutE_length (L := L) (i := i) (j := j) (by omega) hj
 have hsl := h1.slt
 have hown := h2.own
 rw [← hn] at hfew h1 hj hclen hown
 obtain ⟨u, hu⟩ : ∃ u, u = sumE L := ⟨_, rfl⟩
 obtain ⟨u2, hu2⟩ : ∃ u, u = sumE (cutE L i j) := ⟨_, rfl⟩
 obtain ⟨z, hz⟩ : ∃ z, z = sumE ((L.drop i).take (j - i)) := ⟨_, rfl⟩
 rw [← hu] at h1 hsum hcut
 rw [← hu2, ← hz] at hcut
 obtain ⟨hcap, -⟩ := own_capE hown
 have e1 := slE_lh b n c i j (by omega) (by omega)
 have hse : subE b c i = ⟨b, i * 14, none⟩ := by unfold subE; rw [if_neg (by omega)]
 rw [hse] at e1
 have HSL := Lib.hid e1
 have HRD : Hid (RdE w (some ⟨b, i * 14, none⟩) ((L.drop i).take (j - i))) := fun _ => ⟨b, i * 14, rfl, hb, fun k e hk => by
  rw [List.getElem?_take] at hk
  split at hk
  ·rw [List.getElem?_drop] at hk
   obtain ⟨b', c', hv', _, _, _, q1, q2⟩ := h2.at_ hk
   injection hv' with hv'
   injection hv' with hv'
   have e : b = b' := congrArg Addr.block hv'
   subst e
   rw [show i * 14 + k * 14 = (i + k) * 14 by omega]
   exact ⟨q1, q2⟩
  ·cases hk⟩
 have HOE : Hid (OkE w ((L.drop i).take (j - i))) := fun e he => (h.ent e (List.mem_of_mem_drop (List.mem_of_mem_take he))).free
 have HLL : Hid (j - i = ((L.drop i).take (j - i)).length) := by show _ = _; rw [List.length_take, List.length_drop, ← hn]; omega
 have HC1 : Hid (∀ W, Below w.heap.size w W → W.cell? ⟨s, 1, none⟩ = some (.int .i64 (u : Int))) := fun W hW => (hW.cell (p := ⟨s, 1, none⟩) hsl).trans h1.c1
 have HC37 : Hid (∀ W, Below w.heap.size w W → W.cell? ⟨s, 37, none⟩ = some (.slice (some ⟨b, 0, none⟩) n c)) := fun W hW => (hW.cell (p := ⟨s, 37, none⟩) hsl).trans h1.c37
 have HFZ : Hid (∀ W, Below w.heap.size w W → W.frozen? ⟨s, 1, none⟩ = false) := fun W hW => (hW.frozen (p := ⟨s, 1, none⟩) hsl).trans (h1.fz 1)
 have HH := Lib.hid h
 have HN := Lib.hid hn
 have HU2 := Lib.hid hu2
 have HZ := Lib.hid hz
 have H1 := Lib.hid h1
 have H2 := Lib.hid h2
 have HOWN := Lib.hid hown
 have HCL := Lib.hid hclen
 have hw1 : IntKind.i64.wrap ((u : Int) - (z : Int)) = (u2 : Int) := by rw [IntKind.wrap_i64]; omega
 clear h1 h2 h hn hu hu2 hz e1 hse hown hclen
 go_enter Tryz.func92, Tryz.ntmps92
 go_upto_region 0 with fail
 refine wp_region_noPanic ?_
 refine keepBegin (S := fun W => Below w.heap.size w W) 16 (by kernel_rfl) ?_ (fun hHeld => ?_)
 ·exact (RowKit.Below.refl _ _).drew
 refine kT 0 (v := ?_) [0] rfl (Or.inl ⟨by rfl, ?_⟩) ?_
 rotate_left
 ·(intro W hSw; (try dsimp only at hSw); have f1 := HC1.out W hSw; have f2 := HC37.out W hSw; go_simp; try with_reducible rfl)
 try simp only [keepPut, List.set]
 refine kT 1 (v := ?_) [1] rfl (Or.inl ⟨by rfl, ?_⟩) ?_
 rotate_left
 ·(intro W hSw; (try dsimp only at hSw); have f1 := HC1.out W hSw; have f2 := HC37.out W hSw; go_simp; try with_reducible rfl)
 try simp only [keepPut, List.set]
 refine kT 2 (v := ?_) [2] rfl (Or.inl ⟨by rfl, ?_⟩) ?_
 rotate_left
 ·(intro W hSw; (try dsimp only at hSw); have f1 := HC1.out W hSw; have f2 := HC37.out W hSw; go_simp; try with_reducible rfl)
 try simp only [keepPut, List.set]
 refine kT 3 (v := ?_) [3] rfl (Or.inl ⟨by rfl, ?_⟩) ?_
 rotate_left
 ·(intro W hSw; (try dsimp only at hSw); have f1 := HC1.out W hSw; have f2 := HC37.out W hSw; go_simp; try with_reducible rfl)
 try simp only [keepPut, List.set]
 refine kT 4 (v := ?_) [4] rfl (Or.inl ⟨by rfl, ?_⟩) ?_
 rotate_left
 ·(intro W hSw; (try dsimp only at hSw); have f1 := HC1.out W hSw; have f2 := HC37.out W hSw; go_simp; try with_reducible rfl)
 try simp only [keepPut, List.set]
 refine kT 5 (v := ?_) [5] rfl (Or.inl ⟨by rfl, ?_⟩) ?_
 rotate_left
 ·(intro W hSw; (try dsimp only at hSw); have f1 := HC1.out W hSw; have f2 := HC37.out W hSw; go_simp; try with_reducible rfl)
 try simp only [keepPut, List.set]
 refine kT 6 (v := ?_) [6] rfl (Or.inl ⟨by rfl, ?_⟩) ?_
 rotate_left
 ·(intro W hSw; (try dsimp only at hSw); have f1 := HC1.out W hSw; have f2 := HC37.out W hSw; go_simp; try with_reducible rfl)
 try simp only [keepPut, List.set]
 refine kT 7 (v := ?_) [7] rfl (Or.inl ⟨by rfl, ?_⟩) ?_
 rotate_left
 ·(intro W hSw; (try dsimp only at hSw); have f1 := HC1.out W hSw; have f2 := HC37.out W hSw; go_simp; try with_reducible rfl)
 try simp only [keepPut, List.set]
 refine kT 8 (v := ?_) [8] rfl (Or.inl ⟨by rfl, ?_⟩) ?_
 rotate_left
 ·(intro W hSw; (try dsimp only at hSw); have f1 := HC1.out W hSw; have f2 := HC37.out W hSw; go_simp; try with_reducible rfl)
 try simp only [keepPut, List.set]
 refine kT 9 (v := ?_) [9] rfl (Or.inl ⟨by rfl, ?_⟩) ?_
 rotate_left
 ·(intro W hSw; (try dsimp only at hSw); have f1 := HC1.out W hSw; have f2 := HC37.out W hSw; go_simp; try with_reducible rfl)
 try simp only [keepPut, List.set]
 refine kT 10 (v := ?_) [10] rfl (Or.inl ⟨by rfl, ?_⟩) ?_
 rotate_left
 ·(intro W hSw; (try dsimp only at hSw); have f1 := HC1.out W hSw; have f2 := HC37.out W hSw; go_simp; try with_reducible rfl)
 try simp only [keepPut, List.set]
 refine kT 11 (v := ?_) [11] rfl (Or.inl ⟨by rfl, ?_⟩) ?_
 rotate_left
 ·(intro W hSw; (try dsimp only at hSw); have f3 := HSL.out W; go_simp; try with_reducible rfl)
 try simp only [keepPut, List.set]
 refine keepAll (rs := [12]) (by kernel_rfl) (by simp) (AllReadyK.cons rfl (fun K hK => ?_) AllReadyK.nil)
 go_simp
 refine (sizes_any (some ⟨b, i * 14, none⟩) (j - i) (c - i) ((L.drop i).take (j - i)) _ HLL.out (by omega) (HRD.out.below hHeld) (HOE.out.below hHeld)).mono ?_
 rintro e' w5 ⟨rfl, hb5⟩
 have HB5 : Hid (Below w.heap.size w w5) := hHeld.trans (hb5.mono hHeld.size)
 clear hb5
 go_wp2_with fail
 refine hK.out _ _ HB5.out (fun hHeld2 => ?_)
 clear hK K
 rw [← HZ.out]
 try simp only [keepPut, List.set, Nat.zero_add]
 refine kT 13 (v := ?_) [13] rfl (Or.inl ⟨by rfl, ?_⟩) ?_
 rotate_left
 ·(intro W hSw; (try dsimp only at hSw);  go_simp; try with_reducible rfl)
 try simp only [keepPut, List.set]
 refine kT 14 (v := ?_) [15, 14] rfl (Or.inl ⟨by rfl, ?_⟩) ?_
 rotate_left
 ·(intro W hSw; (try dsimp only at hSw);  go_simp; try with_reducible rfl)
 try simp only [keepPut, List.set]
 refine kT 15 (v := ?_) [15] rfl (Or.inl ⟨by rfl, ?_⟩) ?_
 rotate_left
 ·(intro W hSw; (try dsimp only at hSw);  go_simp; try with_reducible rfl)
 try simp only [keepPut, List.set]
 refine keepLast rfl (by kernel_rfl) (fun K hK => ?_)
 have f1 := HC1.out w5 HB5.out
 have f4 := HFZ.out w5 HB5.out
 go_simp
 refine hK.out _ _ ?_
 clear hK K
 try simp only [keepPut, List.set, Nat.zero_add]
 refine keepDone (by kernel_rfl) ?_ _
 refine NoPanic.normal ?_
 have f5 := (H1.out.below HB5.out).setU u2
 obtain ⟨w7, hw7⟩ : ∃ w7, w7 = w5.setCell ⟨s, 1, none⟩ (.int .i64 (u2 : Int)) := ⟨_, rfl⟩
 have ho7 : Only (fun k => k = s) w5 w7 := by rw [hw7]; exact Only.setCell _ _ _ rfl
 rw [← hw7] at f5 ⊢
 have ho67 : Only (fun k => k = s) w w7 := (Only.of_below HB5.out _).trans ho7 (fun i hi => .inl hi)
 have hown7 : w7.ownsRow 0 74 14 (.slice (some ⟨b, 0, none⟩) n c) n (cellsE L) := ho67.own HOWN.out (fun k hk e => by injection hk with hk; have hk : b = k := hk; have e : k = s := e; omega)
 have x37 := f5.c37
 have hD := delete_any b n c i j L w7 HN.out hfew hij hj hown7
 have HD := Lib.hid hD
 have H5 := Lib.hid f5
 have HO7 := Lib.hid ho67
 clear f1 f4 f5 hw7 ho7 ho67 hown7 hD HC1 HC37 HFZ HB5 hHeld hHeld2
 go_wp2_with fail
 refine HD.out.mono ?_
 rintro e' w8 ⟨rfl, ho8, hn8⟩
 have f8 := H5.out.only hn8 H5.out.slt (fun e => hbs e.symm)
 have x37 := f8.c37
 have fz37 := f8.fz 37
 have H8 := Lib.hid f8
 have HO8 := Lib.hid ho8
 have HN8 := Lib.hid hn8
 clear ho8 hn8 f8
 go_wp2
 have ho9 : Only (fun k => k = s) w8 (w8.setCell ⟨s, 37, none⟩ (.slice (some ⟨b, 0, none⟩) (n - (j - i)) c)) := Only.setCell _ _ _ rfl
 have ho : Only S w (w8.setCell ⟨s, 37, none⟩ (.slice (some ⟨b, 0, none⟩) (n - (j - i)) c)) := (((Only.refl S w).trans HO7.out (fun i hi => .inl (by have hi : i = s := hi; rw [hi]; exact HH.out.sS))).trans HN8.out (fun i hi => .inl (by have hi : i = b := hi; rw [hi]; exact hbS))).trans ho9 (fun i hi => .inl (by have hi : i = s := hi; rw [hi]; exact HH.out.sS))
 have hst : Step w S (w8.setCell ⟨s, 37, none⟩ (.slice (some ⟨b, 0, none⟩) (n - (j - i)) c)) S := ⟨ho, fun _ hk => .inl hk⟩
 have hown9 := ho9.own HO8.out (fun k hk e => by injection hk with hk; have hk : b = k := hk; have e : k = s := e; omega)
 have hc9 := H8.out.setL (.slice (some ⟨b, 0, none⟩) (n - (j - i)) c)
 go_end0
 refine ⟨rfl, ⟨⟨.slice (some ⟨b, 0, none⟩) (n - (j - i)) c, by rw [← HU2.out]; exact hc9, by rw [HCL.out]; exact hown9, H2.out.vs, H2.out.vS⟩, HH.out.sS, fun k hk => Nat.lt_of_lt_of_le (HH.out.lt k hk) ho.size, by rw [HCL.out]; omega, fun e he => (HH.out.ent e (cutE_mem he)).step hst, HH.out.q⟩, hst⟩
theorem joinI_short (x y : It) : ShortI (joinI x y) := by
 unfold joinI
 split <;> exact ⟨(Nat.zero_le 1048576 : 0 ≤ 1048576), fun i p hp => by simp [zeroI] at hp⟩
theorem join_C (x y : It) (hy : OkI y) (A : Option Addr) (n c : Nat) (A2 : Option Addr) (n2 c2 : Nat) (w : World) :
  Calls Tryz.prog 158 #[.agg #[.bool x.g, .int .u8 x.o, .int .u64 x.q, .int .u64 x.t, .string x.r, .slice A n c, .int .u8 x.s, .int .u8 x.p, .int .i64 x.v, .int .u8 x.w, .int .u8 x.ga, .int .u64 x.gf, .int .u64 x.gt], .agg #[.bool y.g, .int .u8 y.o, .int .u64 y.q, .int .u64 y.t, .string y.r, .slice A2 n2 c2, .int .u8 y.s, .int .u8 y.p, .int .i64 y.v, .int .u8 y.w, .int .u8 y.ga, .int .u64 y.gf, .int .u64 y.gt]] w fun e w' => e = .returned (.tuple #[.agg (itC (joinI x y) none 0).toArray, .bool (joinB x y)]) ∧ Below w.heap.size w w' := by
 refine (join_new x y hy A n c A2 n2 c2 w).mono ?_
 rintro e w' ⟨h1, h2⟩
 refine ⟨?_, h2⟩
 rw [h1]
 have e1 : (joinI x y).l.length = 0 := by rw [joinI_l]; rfl
 unfold itC
 rw [e1]
set_option maxRecDepth 100000 in
set_option maxHeartbeats 400000 in
theorem sjoin_none1 (v : Value) (z : Int) (w : World) :
  Calls Tryz.prog 114 #[v, .int .i64 (-1), .int .i64 z] w fun e w' => e = .returned (.bool false) ∧ w = w' := by
 go_enter Tryz.func114, Tryz.ntmps114
 go_wp2
 go_ret
 exact ⟨rfl, rfl⟩
set_option maxRecDepth 100000 in
set_option maxHeartbeats 400000 in
theorem sjoin_none2 (v : Value) (k : Nat) (w : World) :
  Calls Tryz.prog 114 #[v, .int .i64 k, .int .i64 (-1)] w fun e w' => e = .returned (.bool false) ∧ w = w' := by
 have d1 : decide ((k : Int) < 0) = false := decide_eq_false (by omega)
 go_enter Tryz.func114, Tryz.ntmps114
 go_wp2
 go_ret
 exact ⟨rfl, rfl⟩
def joinL (L : List Ett) (a b : Nat) (ea eb : Ett) : List Ett := cutE (L.set a ⟨ea.i, joinI ea.x eb.x, none, 0⟩) b (b + 1)
set_option maxRecDepth 100000 in
set_option maxHeartbeats 2000000 in
theorem sjoin_any {S : Nat → Prop} {s a b : Nat} {X : Sp} {L : List Ett} {ea eb : Ett} (w : World) (h : SpAt w S s X L) (ha : L[a]? = some ea) (hb : L[b]? = some eb) (hy : OkI (joinI ea.x eb.x)) (hz : (itemB (joinI ea.x eb.x)).length ≤ 100000) :
  Calls Tryz.prog 114 #[.pointer (some ⟨s, 0, none⟩), .int .i64 a, .int .i64 b] w fun e w' => e = .returned (.bool (joinB ea.x eb.x)) ∧ SpAt w' S s X (if joinB ea.x eb.x then joinL L a b ea eb else L) ∧ Step w S w' S := by
 obtain ⟨v, h1, h2⟩ := h.sp
 obtain ⟨r, c, rfl, hr, hrs, hrS, hr0, hr1⟩ := h2.at_ ha
 obtain ⟨r', c', hv', _, _, _, _, hr2⟩ := h2.at_ hb
 injection hv' with hv'
 injection hv' with hv'
 have e : r = r' := congrArg Addr.block hv'
 subst e
 clear hv' hr0
 obtain ⟨n, hn⟩ : ∃ n, n = L.length := ⟨_, rfl⟩
 have hal := (List.getElem?_eq_some_iff.1 ha).1
 have hbl := (List.getElem?_eq_some_iff.1 hb).1
 have hfew := h.few
 have hsl := h1.slt
 rw [← hn] at hfew hal hbl h1
 have d1 : decide ((a : Int) < 0) = false := decide_eq_false (by omega)
 have d2 : decide ((b : Int) < 0) = false := decide_eq_false (by omega)
 have HC37 : Hid (∀ W, Below w.heap.size w W → W.cell? ⟨s, 37, none⟩ = some (.slice (some ⟨r, 0, none⟩) n c)) := fun W hW => (hW.cell (p := ⟨s, 37, none⟩) hsl).trans h1.c37
 have HRA : Hid (∀ W, Below w.heap.size w W → W.rangeAt r (a * 14 + 1) (itC ea.x ea.A ea.c)) := fun W hW => rangeAt_below hr1 hr hW
 have HRB : Hid (∀ W, Below w.heap.size w W → W.rangeAt r (b * 14 + 1) (itC eb.x eb.A eb.c)) := fun W hW => rangeAt_below hr2 hr hW
 have HH := Lib.hid h
 have HA := Lib.hid ha
 have HB := Lib.hid hb
 have HOB := Lib.hid (h.ent eb (List.mem_iff_getElem?.2 ⟨b, hb⟩)).ok
 have HIX := Lib.hid (h.ent ea (List.mem_iff_getElem?.2 ⟨a, ha⟩)).ix
 have HN := Lib.hid hn
 have HY := Lib.hid hy
 have HZ := Lib.hid hz
 clear h1 h2 h hn ha hb hr1 hr2 hy hz
 go_enter Tryz.func114, Tryz.ntmps114
 go_upto_region 3 with fail
 go_cut [7, 8] (fun p q wx => ∃ Y, p = .pointer (some ⟨Y, 0, none⟩) ∧ q = .bool (joinB ea.x eb.x) ∧ Hid (Below w.heap.size w wx) ∧ Hid (w.heap.size ≤ Y) ∧ Hid (wx.heap[Y]? = some (.cells (itC (joinI ea.x eb.x) none 0).toArray 47 (0, 0))))
 case first =>
  refine wp_region_noPanic ?_
  refine wp_region_held_drew (S := fun W => Below w.heap.size w W) (by kernel_rfl) ?_ (fun hHeld => ?_)
  ·exact (RowKit.Below.refl _ _).drew
  refine hT 0 (v := ?_) rfl (Or.inl ⟨by rfl, ?_⟩) ?_
  rotate_left
  ·(intro W hSw; (try dsimp only at hSw); have f2 := HC37.out W hSw; go_simp; try with_reducible rfl)
  try simp only [heldPut, List.set]
  refine hT 1 (v := ?_) rfl (Or.inl ⟨by rfl, ?_⟩) ?_
  rotate_left
  ·(intro W hSw; (try dsimp only at hSw); have f2 := HC37.out W hSw; go_simp; try with_reducible rfl)
  try simp only [heldPut, List.set]
  refine hT 2 (v := ?_) rfl (Or.inl ⟨by rfl, ?_⟩) ?_
  rotate_left
  ·(intro W hSw; (try dsimp only at hSw); have f2 := HC37.out W hSw; go_simp; try with_reducible rfl)
  try simp only [heldPut, List.set]
  refine hT 3 (v := ?_) rfl (Or.inl ⟨by rfl, ?_⟩) ?_
  rotate_left
  ·(intro W hSw; (try dsimp only at hSw); have f2 := HC37.out W hSw; go_simp; try with_reducible rfl)
  try simp only [heldPut, List.set]
  refine hT 4 (v := ?_) rfl (Or.inl ⟨by rfl, ?_⟩) ?_
  rotate_left
  ·(intro W hSw; (try dsimp only at hSw); have f2 := HC37.out W hSw; go_simp; try with_reducible rfl)
  try simp only [heldPut, List.set]
  refine hT 5 (v := ?_) rfl (Or.inl ⟨by rfl, ?_⟩) ?_
  rotate_left
  ·(intro W hSw; (try dsimp only at hSw); have f2 := HC37.out W hSw; go_simp; try with_reducible rfl)
  try simp only [heldPut, List.set]
  refine hT 6 (v := ?_) rfl (Or.inl ⟨by rfl, ?_⟩) ?_
  rotate_left
  ·(intro W hSw; (try dsimp only at hSw); have f2 := HC37.out W hSw; go_simp; try with_reducible rfl)
  try simp only [heldPut, List.set]
  refine hT 7 (v := ?_) rfl (Or.inl ⟨by rfl, ?_⟩) ?_
  rotate_left
  ·(intro W hSw; (try dsimp only at hSw); have f2 := HC37.out W hSw; go_simp; try with_reducible rfl)
  try simp only [heldPut, List.set]
  refine hT 8 (v := .agg (itC ea.x ea.A ea.c).toArray) rfl (Or.inl ⟨by rfl, ?_⟩) ?_
  ·(intro W hSw; exact exec_load_mid 47 _ rfl r (a * 14 + 1) rfl _ _ (HRA.out W hSw) Tryz.underlying47 rfl Tryz.infoIt)
  try simp only [heldPut, List.set]
  refine hT 9 (v := ?_) rfl (Or.inl ⟨by rfl, ?_⟩) ?_
  rotate_left
  ·(intro W hSw; (try dsimp only at hSw); have f2 := HC37.out W hSw; go_simp; try with_reducible rfl)
  try simp only [heldPut, List.set]
  refine hT 10 (v := ?_) rfl (Or.inl ⟨by rfl, ?_⟩) ?_
  rotate_left
  ·(intro W hSw; (try dsimp only at hSw); have f2 := HC37.out W hSw; go_simp; try with_reducible rfl)
  try simp only [heldPut, List.set]
  refine hT 11 (v := ?_) rfl (Or.inl ⟨by rfl, ?_⟩) ?_
  rotate_left
  ·(intro W hSw; (try dsimp only at hSw); have f2 := HC37.out W hSw; go_simp; try with_reducible rfl)
  try simp only [heldPut, List.set]
  refine hT 12 (v := ?_) rfl (Or.inl ⟨by rfl, ?_⟩) ?_
  rotate_left
  ·(intro W hSw; (try dsimp only at hSw); have f2 := HC37.out W hSw; go_simp; try with_reducible rfl)
  try simp only [heldPut, List.set]
  refine hT 13 (v := ?_) rfl (Or.inl ⟨by rfl, ?_⟩) ?_
  rotate_left
  ·(intro W hSw; (try dsimp only at hSw); have f2 := HC37.out W hSw; go_simp; try with_reducible rfl)
  try simp only [heldPut, List.set]
  refine hT 14 (v := ?_) rfl (Or.inl ⟨by rfl, ?_⟩) ?_
  rotate_left
  ·(intro W hSw; (try dsimp only at hSw); have f2 := HC37.out W hSw; go_simp; try with_reducible rfl)
  try simp only [heldPut, List.set]
  refine hT 15 (v := ?_) rfl (Or.inl ⟨by rfl, ?_⟩) ?_
  rotate_left
  ·(intro W hSw; (try dsimp only at hSw); have f2 := HC37.out W hSw; go_simp; try with_reducible rfl)
  try simp only [heldPut, List.set]
  refine hT 16 (v := ?_) rfl (Or.inl ⟨by rfl, ?_⟩) ?_
  rotate_left
  ·(intro W hSw; (try dsimp only at hSw); have f2 := HC37.out W hSw; go_simp; try with_reducible rfl)
  try simp only [heldPut, List.set]
  refine hT 17 (v := .agg (itC eb.x eb.A eb.c).toArray) rfl (Or.inl ⟨by rfl, ?_⟩) ?_
  ·(intro W hSw; exact exec_load_mid 47 _ rfl r (b * 14 + 1) rfl _ _ (HRB.out W hSw) Tryz.underlying47 rfl Tryz.infoIt)
  try simp only [heldPut, List.set]
  generalize hw2 : w.drew = w2 at *
  clear hw2
  refine heldTwo (i := 18) (j := 22) rfl rfl (by kernel_rfl) (fun K hK => ?gA) (fun K hK => ?gB)
  case' gA =>
   go_simp
   refine (join_C ea.x eb.x HOB.out ea.A ea.x.l.length ea.c eb.A eb.x.l.length eb.c _).mono ?_
   rintro e V ⟨rfl, hb2⟩
   go_wp2_with fail
   refine hK.out _ _ ?_ (fun hh2 => ?_)
   ·exact hHeld.trans (hb2.mono hHeld.size)
   clear hK K
   try simp only [heldPut, List.set]
   refine hT 19 (v := ?_) rfl (Or.inl ⟨by rfl, ?_⟩) ?_
   rotate_left
   ·(intro W hSw; (try dsimp only at hSw);  go_simp; try with_reducible rfl)
   try simp only [heldPut, List.set]
   refine hT 20 (v := ?_) rfl (Or.inl ⟨by rfl, ?_⟩) ?_
   rotate_left
   ·(intro W hSw; (try dsimp only at hSw);  go_simp; try with_reducible rfl)
   try simp only [heldPut, List.set]
   refine hT 21 (v := ?_) rfl (Or.inl ⟨by rfl, ?_⟩) ?_
   rotate_left
   ·(intro W hSw; (try dsimp only at hSw);  go_simp; try with_reducible rfl)
   try simp only [heldPut, List.set]
   refine heldOne (i := 22) rfl (by kernel_rfl) (fun K hK => ?_)
   have hb3 : Below V.heap.size V (V.alloc (.cells #[.bool false, .int .u8 0, .int .u64 0, .int .u64 0, .string ⟨#[]⟩, .slice none 0 0, .int .u8 0, .int .u8 0, .int .i64 0, .int .u8 0, .int .u8 0, .int .u64 0, .int .u64 0] 47)) := (Below.refl _ _).alloc (Nat.le_refl _) _
   have hn3 := heap_alloc_new V (.cells #[.bool false, .int .u8 0, .int .u64 0, .int .u64 0, .string ⟨#[]⟩, .slice none 0 0, .int .u8 0, .int .u8 0, .int .i64 0, .int .u8 0, .int .u8 0, .int .u64 0, .int .u64 0] 47)
   have hsz3 := hh2.size
   go_simp
   refine hK.out _ _ ?_ (fun hh3 => ?_)
   ·exact hh2.trans (hb3.mono hh2.size)
   clear hK K
   try simp only [heldPut, List.set]
   refine heldOne (i := 23) rfl (by kernel_rfl) (fun K hK => ?_)
   rw [if_pos (by rfl)]
   refine wp_store_row _ _ _ rfl (V.heap.size) _ rfl rfl _ _ hn3 Tryz.infoIt rfl (by simp [Value.oneCell', itC]) ?_
   refine hK.out _ _ ?_ (fun hh5 => ?_)
   ·exact below_setRow hh3 hsz3 _
   clear hK K
   refine hT 24 (v := ?_) rfl (Or.inl ⟨by rfl, ?_⟩) ?_
   rotate_left
   ·(intro W hSw; (try dsimp only at hSw);  go_simp; try with_reducible rfl)
   try simp only []
   refine wpAnyH_done (by kernel_rfl) ?_ _
   refine NoPanic.normal ?_
   go_wp2_with fail
   go_meet
   exact ⟨V.heap.size, rfl, rfl, hh5, hsz3, setRow_heap _ _ _ _ _ _ hn3⟩
  case' gB =>
   have hb3 : Below w2.heap.size w2 (w2.alloc (.cells #[.bool false, .int .u8 0, .int .u64 0, .int .u64 0, .string ⟨#[]⟩, .slice none 0 0, .int .u8 0, .int .u8 0, .int .i64 0, .int .u8 0, .int .u8 0, .int .u64 0, .int .u64 0] 47)) := (Below.refl _ _).alloc (Nat.le_refl _) _
   have hn3 := heap_alloc_new w2 (.cells #[.bool false, .int .u8 0, .int .u64 0, .int .u64 0, .string ⟨#[]⟩, .slice none 0 0, .int .u8 0, .int .u8 0, .int .i64 0, .int .u8 0, .int .u8 0, .int .u64 0, .int .u64 0] 47)
   have hsz3 := hHeld.size
   go_simp
   refine hK.out _ _ ?_ (fun hh3 => ?_)
   ·exact hHeld.trans (hb3.mono hHeld.size)
   clear hK K
   try simp only [heldPut, List.set]
   refine heldOne (i := 18) rfl (by kernel_rfl) (fun K hK => ?_)
   go_simp
   refine (join_C ea.x eb.x HOB.out ea.A ea.x.l.length ea.c eb.A eb.x.l.length eb.c _).mono ?_
   rintro e V ⟨rfl, hb2⟩
   go_wp2_with fail
   refine hK.out _ _ ?_ (fun hh2 => ?_)
   ·exact hh3.trans (hb2.mono hh3.size)
   clear hK K
   try simp only [heldPut, List.set]
   have hn4 := (hb2.block w2.heap.size (Array.getElem?_eq_some_iff.1 hn3).1).trans hn3
   refine hT 19 (v := ?_) rfl (Or.inl ⟨by rfl, ?_⟩) ?_
   rotate_left
   ·(intro W hSw; (try dsimp only at hSw);  go_simp; try with_reducible rfl)
   try simp only [heldPut, List.set]
   refine hT 20 (v := ?_) rfl (Or.inl ⟨by rfl, ?_⟩) ?_
   rotate_left
   ·(intro W hSw; (try dsimp only at hSw);  go_simp; try with_reducible rfl)
   try simp only [heldPut, List.set]
   refine hT 21 (v := ?_) rfl (Or.inl ⟨by rfl, ?_⟩) ?_
   rotate_left
   ·(intro W hSw; (try dsimp only at hSw);  go_simp; try with_reducible rfl)
   try simp only [heldPut, List.set]
   refine heldOne (i := 23) rfl (by kernel_rfl) (fun K hK => ?_)
   rw [if_pos (by rfl)]
   refine wp_store_row _ _ _ rfl (w2.heap.size) _ rfl rfl _ _ hn4 Tryz.infoIt rfl (by simp [Value.oneCell', itC]) ?_
   refine hK.out _ _ ?_ (fun hh5 => ?_)
   ·exact below_setRow hh2 hsz3 _
   clear hK K
   refine hT 24 (v := ?_) rfl (Or.inl ⟨by rfl, ?_⟩) ?_
   rotate_left
   ·(intro W hSw; (try dsimp only at hSw);  go_simp; try with_reducible rfl)
   try simp only []
   refine wpAnyH_done (by kernel_rfl) ?_ _
   refine NoPanic.normal ?_
   go_wp2_with fail
   go_meet
   exact ⟨w2.heap.size, rfl, rfl, hh5, hsz3, setRow_heap _ _ _ _ _ _ hn4⟩
 case rest =>
  obtain ⟨Y, rfl, rfl, HBW, HYl, HYc⟩ := hcut
  clear HC37 HRA HRB
  by_cases hj : joinB ea.x eb.x = true
  ·rw [hj]
   have hl0 := joinI_l ea.x eb.x
   have hent : EntOk wc S ⟨ea.i, joinI ea.x eb.x, none, 0⟩ := ⟨HY.out, joinI_short _ _, by simp only [hl0]; decide, HZ.out, HIX.out, fun _ => by simp only [hl0]; rfl, by simp only [hl0]; exact RdP.nil, fun a ha => (by cases ha)⟩
   have hw1 : IntKind.i64.wrap ((b : Int) + 1) = ((b + 1 : Nat) : Int) := by rw [IntKind.wrap_i64]; omega
   have HS0 := Lib.hid (HH.out.below HBW.out)
   have HEN := Lib.hid hent
   clear hl0 hent
   go_wp2_with (first | (refine wpList_load_row rfl _ _ rfl Y rfl _ _ _ _ HYc.out Tryz.underlying47 rfl Tryz.infoIt ?_) | fail)
   refine (set_any (joinI ea.x eb.x) none 0 wc HS0.out HA.out HEN.out).mono ?_
   rintro e' w4 ⟨rfl, hs4, hst4⟩
   have HS4 := Lib.hid hs4
   have HT4 := Lib.hid hst4
   clear hs4 hst4
   go_wp2_with fail
   refine (remove_any w4 HS4.out (Nat.lt_succ_self b) (by rw [List.length_set, ← HN.out]; omega)).mono ?_
   rintro e' w5 ⟨rfl, hs5, hst5⟩
   have HS5 := Lib.hid hs5
   have HT5 : Hid (Step w S w5 S) := ((Step.mk (Only.of_below HBW.out S) (fun _ h => .inl h)).trans HT4.out).trans hst5
   clear hs5 hst5
   go_wp2
   go_ret
   exact ⟨rfl, HS5.out, HT5.out⟩
  ·have hj : joinB ea.x eb.x = false := by simpa using hj
   rw [hj]
   go_wp2
   go_ret
   exact ⟨rfl, HH.out.below HBW.out, ⟨Only.of_below HBW.out _, fun _ h => .inl h⟩⟩
end Go.Proofs.YtholdcgkhicdmaaGreatDoor