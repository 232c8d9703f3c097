/- Several texts in one: SpSet, SpDel. -/
import Derived.BigRegion
import Derived.Test.YtholdcgkhicdmaaGreatDoorZq10
namespace Go.Proofs.YtholdcgkhicdmaaGreatDoor
open Go.RowKit
theorem exec_load_mid {P : Program} {o : Oper} {ev : Operand → Value} {w : World} (ty : TypeId) (x : Operand) (ho : o.op = .load ty x)
  (b off : Nat) (hx : ev x = .pointer (some ⟨b, off, none⟩)) (cs : List Value) (d : TypeDesc) (hc : w.rangeAt b off cs)
  (hu : P.underlying ty = some d) (hd : d.isRow = true) (hi : (P.info? ty).map (·.size) = some cs.length) :
  (execOp ev o).run P w = .ok (.value (.agg cs.toArray)) w := by
 unfold execOp
 simp only [ho, hx, Instr.loadAt, Instr.sureAddr, Sem.run_bind, Sem.run_pure, Result.andThen_ok, run_loadVar_mid w b off ty cs d hc hu hd hi]
theorem own_there {w : World} {base : Nat} {e : TypeId} {n c r size : Nat} {xs : List Value} (h : w.ownsRow base e size (.slice (some ⟨r, 0, none⟩) n c) n xs) {i k : Nat} (hi : i + k ≤ n * size) : w.there r i k := fun j hj => by
 refine ⟨?_, ?_⟩
 ·have hx : xs[i + j]? = some (xs[i + j]'(by rw [h.1]; omega)) := List.getElem?_eq_getElem _
  have := h.cells (g := r) rfl _ _ hx
  rw [Addr.add_lit, Nat.zero_add] at this
  rw [this]
  rfl
 ·rcases h.2 with ⟨e1, _⟩ | ⟨g, cap, cur, e1, h1, h2, _⟩
  ·injection e1 with e1; cases e1
  ·injection e1 with e1
   injection e1 with e1
   have e1 : r = g := congrArg Addr.block e1
   subst e1
   simp [World.frozen?, h2]
set_option maxRecDepth 100000 in
set_option maxHeartbeats 2000000 in
theorem set_any {S : Nat → Prop} {s p : Nat} {X : Sp} {L : List Ett} {e0 : Ett} (y : It) (A' : Option Addr) (c' : Nat) (w : World) (h : SpAt w S s X L) (hp : L[p]? = some e0) (hy : EntOk w S ⟨e0.i, y, A', c'⟩) :
  Calls Tryz.prog 113 #[.pointer (some ⟨s, 0, none⟩), .int .i64 p, .agg (itC y A' c').toArray] w fun e w' => e = .returned (.tuple #[]) ∧ SpAt w' S s X (L.set p ⟨e0.i, y, A', c'⟩) ∧ Step w S w' S := by
 obtain ⟨v, h1, h2⟩ := h.sp
 obtain ⟨b, c, rfl, hb, hbs, hbS, hr0, hr1⟩ := h2.at_ hp
 obtain ⟨n, hn⟩ : ∃ n, n = L.length := ⟨_, rfl⟩
 have hpl := (List.getElem?_eq_some_iff.1 hp).1
 have hfew := h.few
 have hsum := sumE_le h
 have hset := sumE_set hp ⟨e0.i, y, A', c'⟩
 have he0 := h.ent e0 (List.mem_iff_getElem?.2 ⟨p, hp⟩)
 have hsl := h1.slt
 rw [← hn] at hfew hpl h1
 obtain ⟨u, hu⟩ : ∃ u, u = sumE L := ⟨_, rfl⟩
 obtain ⟨z0, hz0⟩ : ∃ z, z = (itemB e0.x).length := ⟨_, rfl⟩
 obtain ⟨z1, hz1⟩ : ∃ z, z = (itemB y).length := ⟨_, rfl⟩
 obtain ⟨u2, hu2⟩ : ∃ u, u = sumE (L.set p ⟨e0.i, y, A', c'⟩) := ⟨_, rfl⟩
 have hset : u2 + z0 = u + z1 := by rw [hu2, hz0, hu, hz1]; exact hset
 rw [← hu] at h1 hsum
 have hlz0 : z0 ≤ 100000 := by rw [hz0]; exact he0.lb
 have hlz1 : z1 ≤ 100000 := by rw [hz1]; exact hy.lb
 obtain ⟨w0, hw0⟩ : ∃ w0, w0 = w.alloc (.cells (itC y A' c').toArray 47) := ⟨_, rfl⟩
 have hb0 : Below w.heap.size w w0 := by rw [hw0]; exact (Below.refl _ _).alloc (Nat.le_refl _) _
 have hbox : w0.heap[w.heap.size]? = some (.cells (itC y A' c').toArray 47 (0, 0)) := by rw [hw0]; exact heap_alloc_new _ _
 have hlt0 : w.heap.size < w0.heap.size := (Array.getElem?_eq_some_iff.1 hbox).1
 have h1' := h1.below hb0
 have hsz : s < w0.heap.size := Nat.lt_of_lt_of_le hsl hb0.size
 have HC1 : Hid (∀ W, Below w0.heap.size w0 W → W.cell? ⟨s, 1, none⟩ = some (.int .i64 (u : Int))) := fun W hW => (hW.cell (p := ⟨s, 1, none⟩) hsz).trans h1'.c1
 have HC37 : Hid (∀ W, Below w0.heap.size w0 W → W.cell? ⟨s, 37, none⟩ = some (.slice (some ⟨b, 0, none⟩) n c)) := fun W hW => (hW.cell (p := ⟨s, 37, none⟩) hsz).trans h1'.c37
 have HFZ : Hid (∀ W, Below w0.heap.size w0 W → W.frozen? ⟨s, 1, none⟩ = false) := fun W hW => (hW.frozen (p := ⟨s, 1, none⟩) hsz).trans (h1'.fz 1)
 have HBX : Hid (∀ W, Below w0.heap.size w0 W → W.rangeAt w.heap.size 0 (itC y A' c')) := fun W hW => rangeAt_row (cs := itC y A' c') ((hW.block _ hlt0).trans hbox) 0
 have HRG : Hid (∀ W, Below w0.heap.size w0 W → W.rangeAt b (p * 14 + 1) (itC e0.x e0.A e0.c)) := fun W hW => rangeAt_below (rangeAt_below hr1 hb hb0) (Nat.lt_of_lt_of_le hb hb0.size) hW
 have HY := Lib.hid (hy.below hb0)
 have HY0 := Lib.hid hy
 have HE0 := Lib.hid (he0.below hb0)
 have HW0 := Lib.hid hw0
 have HH := Lib.hid h
 have HP := Lib.hid hp
 have HB0 := Lib.hid hb0
 have HN := Lib.hid hn
 have HU := Lib.hid hu
 have HU2 := Lib.hid hu2
 have HZ0 := Lib.hid hz0
 have HZ1 := Lib.hid hz1
 have H1 := Lib.hid h1'
 have H2 := Lib.hid (h2.below hb0)
 have hw1 : IntKind.i64.wrap ((z1 : Int) - (z0 : Int)) = (z1 : Int) - (z0 : Int) := by rw [IntKind.wrap_i64]; omega
 have hw2 : IntKind.i64.wrap ((u : Int) + ((z1 : Int) - (z0 : Int))) = (u2 : Int) := by rw [IntKind.wrap_i64]; omega
 clear h1 h1' h2 h hp hy he0 hw0 hb0 hbox hn hu hu2 hz0 hz1 hr0 hr1
 go_enter Tryz.func113, Tryz.ntmps113
 go_upto_region 1 with fail
 rw [← HW0.out]
 refine wp_region_noPanic ?_
 refine keepBegin (S := fun W => Below w0.heap.size w0 W) 20 (by kernel_rfl) ?_ (fun hHeld => ?_)
 ·exact (RowKit.Below.refl _ _).drew
 refine kT 0 (v := ?_) [0] rfl (Or.inl ⟨by rfl, ?_⟩) ?_
 rotate_left
 ·(intro W hSw; (try dsimp only at hSw); have f1 := HC1.out W hSw; have f2 := HC37.out W hSw; go_simp; try with_reducible rfl)
 try simp only [keepPut, List.set]
 refine kT 1 (v := ?_) [1] rfl (Or.inl ⟨by rfl, ?_⟩) ?_
 rotate_left
 ·(intro W hSw; (try dsimp only at hSw); have f1 := HC1.out W hSw; have f2 := HC37.out W hSw; go_simp; try with_reducible rfl)
 try simp only [keepPut, List.set]
 refine kT 2 (v := ?_) [2] rfl (Or.inl ⟨by rfl, ?_⟩) ?_
 rotate_left
 ·(intro W hSw; (try dsimp only at hSw); have f1 := HC1.out W hSw; have f2 := HC37.out W hSw; go_simp; try with_reducible rfl)
 try simp only [keepPut, List.set]
 refine kT 3 (v := ?_) [3] rfl (Or.inl ⟨by rfl, ?_⟩) ?_
 rotate_left
 ·(intro W hSw; (try dsimp only at hSw); have f1 := HC1.out W hSw; have f2 := HC37.out W hSw; go_simp; try with_reducible rfl)
 try simp only [keepPut, List.set]
 refine kT 4 (v := .agg (itC y A' c').toArray) [4] rfl (Or.inl ⟨by rfl, ?_⟩) ?_
 ·(intro W hSw; exact exec_load_mid 47 _ rfl w.heap.size 0 rfl _ _ (HBX.out W hSw) Tryz.underlying47 rfl Tryz.infoIt)
 try simp only [keepPut, List.set]
 refine kT 6 (v := ?_) [6] rfl (Or.inl ⟨by rfl, ?_⟩) ?_
 rotate_left
 ·(intro W hSw; (try dsimp only at hSw); have f1 := HC1.out W hSw; have f2 := HC37.out W hSw; go_simp; try with_reducible rfl)
 try simp only [keepPut, List.set]
 refine kT 7 (v := ?_) [7] rfl (Or.inl ⟨by rfl, ?_⟩) ?_
 rotate_left
 ·(intro W hSw; (try dsimp only at hSw); have f1 := HC1.out W hSw; have f2 := HC37.out W hSw; go_simp; try with_reducible rfl)
 try simp only [keepPut, List.set]
 refine kT 8 (v := ?_) [8] rfl (Or.inl ⟨by rfl, ?_⟩) ?_
 rotate_left
 ·(intro W hSw; (try dsimp only at hSw); have f1 := HC1.out W hSw; have f2 := HC37.out W hSw; go_simp; try with_reducible rfl)
 try simp only [keepPut, List.set]
 refine kT 9 (v := ?_) [9] rfl (Or.inl ⟨by rfl, ?_⟩) ?_
 rotate_left
 ·(intro W hSw; (try dsimp only at hSw); have f1 := HC1.out W hSw; have f2 := HC37.out W hSw; go_simp; try with_reducible rfl)
 try simp only [keepPut, List.set]
 refine kT 10 (v := ?_) [10] rfl (Or.inl ⟨by rfl, ?_⟩) ?_
 rotate_left
 ·(intro W hSw; (try dsimp only at hSw); have f1 := HC1.out W hSw; have f2 := HC37.out W hSw; go_simp; try with_reducible rfl)
 try simp only [keepPut, List.set]
 refine kT 11 (v := ?_) [11] rfl (Or.inl ⟨by rfl, ?_⟩) ?_
 rotate_left
 ·(intro W hSw; (try dsimp only at hSw); have f1 := HC1.out W hSw; have f2 := HC37.out W hSw; go_simp; try with_reducible rfl)
 try simp only [keepPut, List.set]
 refine kT 12 (v := ?_) [12] rfl (Or.inl ⟨by rfl, ?_⟩) ?_
 rotate_left
 ·(intro W hSw; (try dsimp only at hSw); have f1 := HC1.out W hSw; have f2 := HC37.out W hSw; go_simp; try with_reducible rfl)
 try simp only [keepPut, List.set]
 refine kT 13 (v := ?_) [13] rfl (Or.inl ⟨by rfl, ?_⟩) ?_
 rotate_left
 ·(intro W hSw; (try dsimp only at hSw); have f1 := HC1.out W hSw; have f2 := HC37.out W hSw; go_simp; try with_reducible rfl)
 try simp only [keepPut, List.set]
 refine kT 14 (v := .agg (itC e0.x e0.A e0.c).toArray) [14] rfl (Or.inl ⟨by rfl, ?_⟩) ?_
 ·(intro W hSw; exact exec_load_mid 47 _ rfl b (p * 14 + 1) rfl _ _ (HRG.out W hSw) Tryz.underlying47 rfl Tryz.infoIt)
 try simp only [keepPut, List.set]
 refine keepAll (rs := [5]) (by kernel_rfl) (by simp) (AllReadyK.cons rfl (fun K hK => ?_) AllReadyK.nil)
 go_simp
 have q5 := HY.out.below hHeld
 refine (size_any y A' y.l.length c' q5.ok q5.sh rfl (by have := q5.ln; simp only at this; omega) _ (by have := q5.lb; simp only at this; omega) q5.rd).mono ?_
 rintro e' w5 ⟨rfl, hb5⟩
 clear q5
 have HB5 : Hid (Below w0.heap.size w0 w5) := hHeld.trans (hb5.mono hHeld.size)
 clear hb5
 go_wp2_with fail
 refine hK.out _ _ HB5.out (fun hHeld2 => ?_)
 clear hK K
 try simp only [keepPut, List.set, Nat.zero_add]
 refine keepAll (rs := [15]) (by kernel_rfl) (by simp) (AllReadyK.cons rfl (fun K hK => ?_) AllReadyK.nil)
 go_simp
 have q5 := HE0.out.below HB5.out
 refine (size_any e0.x e0.A e0.x.l.length e0.c q5.ok q5.sh rfl (by have := q5.ln; omega) _ (by have := q5.lb; omega) q5.rd).mono ?_
 rintro e' w6 ⟨rfl, hb6⟩
 clear q5
 have HB6 : Hid (Below w0.heap.size w0 w6) := HB5.out.trans (hb6.mono HB5.out.size)
 clear hb6
 go_wp2_with fail
 refine hK.out _ _ HB6.out (fun hHeld3 => ?_)
 clear hK K
 rw [← HZ0.out, ← HZ1.out]
 try simp only [keepPut, List.set, Nat.zero_add]
 refine kT 16 (v := ?_) [16] rfl (Or.inl ⟨by rfl, ?_⟩) ?_
 rotate_left
 ·(intro W hSw; (try dsimp only at hSw);  go_simp; try with_reducible rfl)
 try simp only [keepPut, List.set]
 refine kT 17 (v := ?_) [17] rfl (Or.inl ⟨by rfl, ?_⟩) ?_
 rotate_left
 ·(intro W hSw; (try dsimp only at hSw);  go_simp; try with_reducible rfl)
 try simp only [keepPut, List.set]
 refine kT 18 (v := ?_) [19, 18] rfl (Or.inl ⟨by rfl, ?_⟩) ?_
 rotate_left
 ·(intro W hSw; (try dsimp only at hSw);  go_simp; try with_reducible rfl)
 try simp only [keepPut, List.set]
 refine kT 19 (v := ?_) [19] rfl (Or.inl ⟨by rfl, ?_⟩) ?_
 rotate_left
 ·(intro W hSw; (try dsimp only at hSw);  go_simp; try with_reducible rfl)
 try simp only [keepPut, List.set]
 refine keepLast rfl (by kernel_rfl) (fun K hK => ?_)
 have f1 := HC1.out w6 HB6.out
 have f4 := HFZ.out w6 HB6.out
 go_simp
 refine hK.out _ _ ?_
 clear hK K
 try simp only [keepPut, List.set, Nat.zero_add]
 refine keepDone (by kernel_rfl) ?_ _
 refine NoPanic.normal ?_
 have f5 := (H1.out.below HB6.out).setU u2
 have f6 : Below w0.heap.size w0 w6 := HB6.out
 obtain ⟨w7, hw7⟩ : ∃ w7, w7 = w6.setCell ⟨s, 1, none⟩ (.int .i64 (u2 : Int)) := ⟨_, rfl⟩
 have ho7 : Only (fun k => k = s) w6 w7 := by rw [hw7]; exact Only.setCell _ _ _ rfl
 rw [← hw7] at f5 ⊢
 have ho67 : Only (fun k => k = s) w0 w7 := (Only.of_below f6 _).trans ho7 (fun i hi => .inl hi)
 have hbx7 : w7.rangeAt w.heap.size 0 (itC y A' c') := fun j v hv => (ho67.cell (p := ⟨w.heap.size, 0 + j, none⟩) hlt0 (fun e => by have e : w.heap.size = s := e; omega)).trans (HBX.out w0 (Below.refl _ _) j v hv)
 have hro7 := H2.out.own
 rw [← HN.out] at hro7
 have hown7 : w7.ownsRow 0 74 14 (.slice (some ⟨b, 0, none⟩) n c) n (cellsE L) := ho67.own hro7 (fun k hk e => by injection hk with hk; have hk : b = k := hk; have e : k = s := e; omega)
 have hth : w7.there b (p * 14 + 1) 13 := own_there hown7 (by omega)
 have HC7 : Hid (∀ W, Below w7.heap.size w7 W → W.cell? ⟨s, 37, none⟩ = some (.slice (some ⟨b, 0, none⟩) n c)) := fun W hW => (hW.cell (p := ⟨s, 37, none⟩) f5.slt).trans f5.c37
 have hbl7 : b < w7.heap.size := Nat.lt_of_lt_of_le (Nat.lt_of_lt_of_le hb HB0.out.size) ho67.size
 have hwl7 : w.heap.size < w7.heap.size := Nat.lt_of_lt_of_le hlt0 ho67.size
 have HBX7 : Hid (∀ W, Below w7.heap.size w7 W → W.rangeAt w.heap.size 0 (itC y A' c')) := fun W hW => rangeAt_below hbx7 hwl7 hW
 have HTH : Hid (w7.there b (p * 14 + 1) (itC y A' c').toArray.size) := hth
 have H5 := Lib.hid f5
 have HO7 := Lib.hid ho67
 have HOWN := Lib.hid hown7
 clear f1 f4 f5 f6 hw7 ho7 ho67 hro7 hown7 hbx7 hth HC1 HC37 HFZ HBX HRG HB6 HB5 hHeld hHeld2 hHeld3
 go_upto_region 2 with fail
 refine wp_region_noPanic ?_
 refine keepBegin (S := fun W => Below w7.heap.size w7 W) 9 (by kernel_rfl) ?_ (fun hHeld => ?_)
 ·exact (RowKit.Below.refl _ _).drew
 refine kT 0 (v := ?_) [0] rfl (Or.inl ⟨by rfl, ?_⟩) ?_
 rotate_left
 ·(intro W hSw; (try dsimp only at hSw); have f2 := HC7.out W hSw; go_simp; try with_reducible rfl)
 try simp only [keepPut, List.set]
 refine kT 1 (v := ?_) [1] rfl (Or.inl ⟨by rfl, ?_⟩) ?_
 rotate_left
 ·(intro W hSw; (try dsimp only at hSw); have f2 := HC7.out W hSw; go_simp; try with_reducible rfl)
 try simp only [keepPut, List.set]
 refine kT 2 (v := ?_) [2] rfl (Or.inl ⟨by rfl, ?_⟩) ?_
 rotate_left
 ·(intro W hSw; (try dsimp only at hSw); have f2 := HC7.out W hSw; go_simp; try with_reducible rfl)
 try simp only [keepPut, List.set]
 refine kT 3 (v := ?_) [3] rfl (Or.inl ⟨by rfl, ?_⟩) ?_
 rotate_left
 ·(intro W hSw; (try dsimp only at hSw); have f2 := HC7.out W hSw; go_simp; try with_reducible rfl)
 try simp only [keepPut, List.set]
 refine kT 4 (v := ?_) [4] rfl (Or.inl ⟨by rfl, ?_⟩) ?_
 rotate_left
 ·(intro W hSw; (try dsimp only at hSw); have f2 := HC7.out W hSw; go_simp; try with_reducible rfl)
 try simp only [keepPut, List.set]
 refine kT 5 (v := ?_) [5] rfl (Or.inl ⟨by rfl, ?_⟩) ?_
 rotate_left
 ·(intro W hSw; (try dsimp only at hSw); have f2 := HC7.out W hSw; go_simp; try with_reducible rfl)
 try simp only [keepPut, List.set]
 refine kT 6 (v := .agg (itC y A' c').toArray) [6] rfl (Or.inl ⟨by rfl, ?_⟩) ?_
 ·(intro W hSw; exact exec_load_mid 47 _ rfl w.heap.size 0 rfl _ _ (HBX7.out W hSw) Tryz.underlying47 rfl Tryz.infoIt)
 try simp only [keepPut, List.set]
 refine kT 7 (v := ?_) [8, 7] rfl (Or.inl ⟨by rfl, ?_⟩) ?_
 rotate_left
 ·(intro W hSw; (try dsimp only at hSw); have f2 := HC7.out W hSw; go_simp; try with_reducible rfl)
 try simp only [keepPut, List.set]
 refine kT 8 (v := ?_) [8] rfl (Or.inl ⟨by rfl, ?_⟩) ?_
 rotate_left
 ·(intro W hSw; (try dsimp only at hSw); have f2 := HC7.out W hSw; go_simp; try with_reducible rfl)
 try simp only [keepPut, List.set]
 refine keepLast rfl (by kernel_rfl) (fun K hK => ?_)
 rw [if_pos (by rfl)]
 refine wp_store_mid 47 _ _ rfl b (p * 14 + 1) (itC y A' c').toArray rfl rfl HTH.out Tryz.infoIt (by simp [Value.oneCell', itC]) ?_
 refine hK.out _ _ ?_
 clear hK K
 rw [act_put_no]
 refine keepDone (by kernel_rfl) ?_ _
 refine NoPanic.normal ?_
 have hsz7 : b ≠ s := hbs
 obtain ⟨w8, hw8⟩ : ∃ w8, w8 = w7.drew.setCells b (p * 14 + 1) (itC y A' c').toArray.toList := ⟨_, rfl⟩
 rw [← hw8]
 have hbd : Below w7.heap.size w7 w7.drew := (RowKit.Below.refl _ _).drew
 have ho8 : Only (fun k => k = b) w7 w8 := by rw [hw8]; exact (Only.of_below hbd _).trans (onlyCells (T := fun k => k = b) rfl _ _ _) (fun _ hi => .inl hi)
 have hown8 : w8.ownsRow 0 74 14 (.slice (some ⟨b, 0, none⟩) n c) n (cellsE (L.set p ⟨e0.i, y, A', c'⟩)) := by
  have := own_setCells (itC y A' c') (p * 14 + 1) (ownB_below HOWN.out hbd)
  rw [cellsE_setL y A' c' HP.out] at this
  rw [hw8]
  exact this
 have h58 := H5.out.only ho8 H5.out.slt (fun e => hsz7 e.symm)
 have ho : Only S w w8 := ((Only.of_below HB0.out S).trans HO7.out (fun i hi => .inl (by have hi : i = s := hi; rw [hi]; exact HH.out.sS))).trans ho8 (fun i hi => .inl (by have hi : i = b := hi; rw [hi]; exact hbS))
 have hst : Step w S w8 S := ⟨ho, fun _ hk => .inl hk⟩
 have HST := Lib.hid hst
 have hfin : SpAt w8 S s X (L.set p ⟨e0.i, y, A', c'⟩) := by
  refine ⟨⟨_, (by rw [← HU2.out, ← HN.out]; exact h58), (by rw [List.length_set, ← HN.out]; exact hown8), H2.out.vs, H2.out.vS⟩, HH.out.sS, fun k hk => Nat.lt_of_lt_of_le (HH.out.lt k hk) ho.size, by rw [List.length_set]; exact HH.out.few, fun e he => ?_, HH.out.q⟩
  rcases List.mem_or_eq_of_mem_set he with he | rfl
  ·exact (HH.out.ent e he).step hst
  ·exact HY0.out.step hst
 have HF := Lib.hid hfin
 clear ho hst hfin h58 hown8 ho8 hw8
 go_wp2
 go_end0
 exact ⟨rfl, HF.out, HST.out⟩
theorem step_append_fits {P : Program} {w : World} {ops : Array Oper} {o : Oper} {a : Act} {K : Act → World → Prop} {Q : Exit → Act → World → Prop} {E : Prop} (s x : Operand) (t : TypeId) (hop : o.op = Op.call { callee := Callee.builtin Builtin.append, args := #[s, x], argTypes := #[t, t] })
  (base : Nat) (e : TypeId) (i : TypeInfo) (size : Nat) (h1 : P.underlying t = some (.slice e)) (h2 : P.info? e = some i) (h4 : i.size = size)
  (g k cap : Nat) (xs : List Value) (hs : a.eval s = .slice (some ⟨g, 0, none⟩) k cap) (hown : w.ownsRow base e size (.slice (some ⟨g, 0, none⟩) k cap) k xs) (ad : Addr) (m c : Nat) (news : List Value) (hx : a.eval x = .slice (some ad) m c) (hn : news.length = m * size)
  (hc : ∀ j u, news[j]? = some u → w.cell? (ad.add j) = some u) (h1c : ∀ u ∈ news, u.oneCell' = true) (b1 : k + m ≤ cap) (hw : Region.wanted o (yielded ops a.tmps) = true)
  (hK : ∀ w', w'.ownsRow base e size (.slice (some ⟨g, 0, none⟩) (k + m) cap) (k + m) (xs ++ news) → w.grownBy w' (some g) → K (a.put o.dst (.slice (some ⟨g, 0, none⟩) (k + m) cap)) w') :
  if Region.wanted o (yielded ops a.tmps) = true then Oper.wp P o a w K Q else E := by
 rw [if_pos hw]
 obtain ⟨w', hrun, r1, r2⟩ := run_append_fits (P := P) w base t o.type e i size h1 h2 h4 g k cap xs hown ad m c news hn hc h1c b1
 unfold Oper.wp
 simp [execOp, hop, resolve, invoke, builtin, hs, hx, hrun, Result.andThen]
 exact hK w' r1 r2
theorem sizeOfE (w : World) : (sizeOf (Tryz.prog.elem 61)).run Tryz.prog w = .ok 14 w := by kernel_rfl
def subE (b c lo : Nat) : Addr := if c = lo then ⟨b, 0, none⟩ else ⟨b, lo * 14, none⟩
theorem huE : Tryz.prog.underlying 61 = some (.slice (Tryz.prog.elem 61)) := by kernel_rfl
theorem slE_lhm (b n c lo hi mx : Nat) (h1 : lo ≤ hi) (h2 : hi ≤ mx) (h3 : mx ≤ c) (w : World) :
  (Instr.sliceAt 61 (.slice (some ⟨b, 0, none⟩) n c) (some (.int .i64 lo)) (some (.int .i64 hi)) (some (.int .i64 mx))).run Tryz.prog w = .ok (.slice (some (subE b mx lo)) (hi - lo) (mx - lo)) w := by
 rw [run_sliceAt_slice _ _ _ _ _ _ huE, run_slice_lhm _ _ _ _ _ huE .i64 .i64 .i64 (lo : Int) (hi : Int) (mx : Int) (by omega) (by omega) (by omega) (by omega), sizeOfE]
 simp [Result.andThen, sliced, subE, Addr.add]
 split
 ·rfl
 ·split <;> simp_all
theorem slE_lh (b n c lo hi : Nat) (h1 : lo ≤ hi) (h2 : hi ≤ c) (w : World) :
  (Instr.sliceAt 61 (.slice (some ⟨b, 0, none⟩) n c) (some (.int .i64 lo)) (some (.int .i64 hi)) none).run Tryz.prog w = .ok (.slice (some (subE b c lo)) (hi - lo) (c - lo)) w := by
 rw [run_sliceAt_slice _ _ _ _ _ _ huE, run_slice_lh _ _ _ _ _ huE .i64 .i64 (lo : Int) (hi : Int) (by omega) (by omega) (by omega), sizeOfE]
 simp [Result.andThen, sliced, subE, Addr.add]
 split
 ·rfl
 ·split <;> simp_all
theorem slE_l (b n c lo : Nat) (h1 : lo ≤ n) (w : World) :
  (Instr.sliceAt 61 (.slice (some ⟨b, 0, none⟩) n c) (some (.int .i64 lo)) none none).run Tryz.prog w = .ok (.slice (some (subE b c lo)) (n - lo) (c - lo)) w := by
 rw [run_sliceAt_slice _ _ _ _ _ _ huE, run_slice_l _ _ _ _ _ huE .i64 (lo : Int) (by omega) (by omega), sizeOfE]
 simp [Result.andThen, sliced, subE, Addr.add]
 split
 ·rfl
 ·split <;> simp_all
theorem slE_h (A : Option Addr) (n c hi : Nat) (h2 : hi ≤ c) (w : World) :
  (Instr.sliceAt 61 (.slice A n c) none (some (.int .i64 hi)) none).run Tryz.prog w = .ok (.slice A hi c) w := by
 rw [run_sliceAt_slice _ _ _ _ _ _ huE, run_slice_h _ _ _ _ _ huE .i64 (hi : Int) (by omega) (by omega), sizeOfE]
 cases A <;> simp [Result.andThen, sliced, Addr.add]
theorem Tryz.infoEnt : (Tryz.prog.info? 74).map (fun i => (i.zero, i.size, i.bytes)) = some (some (.agg #[.int .u64 0, .bool false, .int .u8 0, .int .u64 0, .int .u64 0, .string ⟨#[]⟩, .slice none 0 0, .int .u8 0, .int .u8 0, .int .i64 0, .int .u8 0, .int .u8 0, .int .u64 0, .int .u64 0]), 14, 128) := by kernel_rfl
theorem own_takeE {w : World} {base : Nat} {e : TypeId} {g n c k : Nat} {xs : List Value} (h : w.ownsRow base e 14 (.slice (some ⟨g, 0, none⟩) n c) n xs) (hk : k ≤ n) : w.ownsRow base e 14 (.slice (some ⟨g, 0, none⟩) k c) k (xs.take (k * 14)) := by
 refine ⟨by rw [List.length_take, h.1]; omega, ?_⟩
 rcases h.2 with ⟨e1, _⟩ | ⟨g', cap, cur, e1, h1, h2, h3, h4, h5, h6⟩
 ·injection e1 with e1; cases e1
 ·injection e1 with e1 e2 e3
  subst e3
  refine .inr ⟨g', c, cur, by rw [e1], h1, h2, by omega, h4, h5, ?_⟩
  rw [← h6, List.take_take, Nat.min_eq_left (by omega)]
theorem own_thereCap {w : World} {base : Nat} {e : TypeId} {g n c : Nat} {xs : List Value} (h : w.ownsRow base e 14 (.slice (some ⟨g, 0, none⟩) n c) n xs) {i k : Nat} (hi : i + k ≤ c * 14) : w.there g i k := fun j hj => by
 rcases h.2 with ⟨e1, _⟩ | ⟨g', cap, cur, e1, h1, h2, h3, h4, h5, h6⟩
 ·injection e1 with e1; cases e1
 ·injection e1 with e1 e2 e3
  injection e1 with e1
  have e1 : g = g' := congrArg Addr.block e1
  subst e1
  subst e3
  refine ⟨?_, by simp [World.frozen?, h2]⟩
  rw [cell_of_row w g (i + j) cur e (0, 0) h2]
  rw [Array.getElem?_eq_getElem (by omega)]
  rfl
theorem own_capE {w : World} {base : Nat} {e : TypeId} {A : Option Addr} {n c : Nat} {xs : List Value} (h : w.ownsRow base e 14 (.slice A n c) n xs) : n ≤ c ∧ c ≤ maxLen := by
 rcases h.2 with ⟨e1, _⟩ | ⟨g', cap, cur, e1, h1, h2, h3, h4, h5, h6⟩
 ·injection e1 with e1 e2 e3
  subst e2; subst e3
  exact ⟨Nat.le_refl _, Nat.zero_le _⟩
 ·injection e1 with e1 e2 e3
  subst e3
  exact ⟨h3, h4⟩
theorem putL_out : ∀ (vs xs : List Value) (i : Nat), xs.length ≤ i → putL xs i vs = xs
 | [], _, _, _ => rfl
 | v :: vs, xs, i, h => by
   rw [putL, List.set_eq_of_length_le h]
   exact putL_out vs xs (i + 1) (by omega)
def zeroE : Value := .agg #[.int .u64 0, .bool false, .int .u8 0, .int .u64 0, .int .u64 0, .string ⟨#[]⟩, .slice none 0 0, .int .u8 0, .int .u8 0, .int .i64 0, .int .u8 0, .int .u8 0, .int .u64 0, .int .u64 0]
theorem zeroE_run (w : World) : (zeroValue (Tryz.prog.elem 61)).run Tryz.prog w = .ok zeroE w := by kernel_rfl
theorem run_clear_E (b o k c : Nat) (hk : 0 < k) (ty : TypeId) (w : World) (ht : w.there b o (k * 14)) :
  ∃ Z : List Value, Z.length = k * 14 ∧ (Builtin.clear_ #[61] ty #[.slice (some ⟨b, o, none⟩) k c]).run Tryz.prog w = .ok (.tuple #[]) (w.setCells b o Z) := by
 have hzl : (Builtin.zeroCells zeroE.cells k).toList.length = k * 14 := by
  simp [Builtin.zeroCells, zeroE, Value.cells]
 have h1 : ∀ v ∈ (Builtin.zeroCells zeroE.cells k).toList, v.oneCell' = true := by
  intro v hv
  unfold Builtin.zeroCells at hv
  rw [Array.toList_map] at hv
  obtain ⟨i, _, rfl⟩ := List.mem_map.1 hv
  have hi : i % 14 < 14 := Nat.mod_lt _ (by decide)
  show (zeroE.cells[i % 14]!).oneCell' = true
  generalize i % 14 = m at hi
  match m, hi with
  | 0, _ => rfl | 1, _ => rfl | 2, _ => rfl | 3, _ => rfl | 4, _ => rfl | 5, _ => rfl | 6, _ => rfl | 7, _ => rfl | 8, _ => rfl | 9, _ => rfl | 10, _ => rfl | 11, _ => rfl | 12, _ => rfl | 13, _ => rfl
  | m + 14, h => exact absurd h (by omega)
 have hst := run_storeCells_cells (P := Tryz.prog) b o (Builtin.zeroCells zeroE.cells k).toList 0 w (fun j hj => by rw [hzl] at hj; simpa using (ht j hj).1) (fun j hj => by rw [hzl] at hj; simpa using (ht j hj).2) h1
 simp only [Nat.add_zero] at hst
 refine ⟨_, hzl, ?_⟩
 obtain ⟨m, rfl⟩ : ∃ m, k = m + 1 := ⟨k - 1, by omega⟩
 simp [Builtin.clear_, run_underlying huE, zeroE_run, hst]
def cutE (L : List Ett) (i j : Nat) : List Ett := L.take i ++ L.drop j
theorem cutE_length {L : List Ett} {i j : Nat} (h : i ≤ j) (hj : j ≤ L.length) : (cutE L i j).length = L.length - (j - i) := by
 unfold cutE
 rw [List.length_append, List.length_take, List.length_drop]
 omega
set_option maxRecDepth 100000 in
set_option maxHeartbeats 2000000 in
theorem delete_any (b n c i j : Nat) (L : List Ett) (w : World) (hn : n = L.length) (_ : n ≤ 100000) (hij : i < j) (hj : j ≤ n) (ho : w.ownsRow 0 74 14 (.slice (some ⟨b, 0, none⟩) n c) n (cellsE L)) :
  Calls Tryz.prog 138 #[.slice (some ⟨b, 0, none⟩) n c, .int .i64 i, .int .i64 j] w fun e w' => e = .returned (.slice (some ⟨b, 0, none⟩) (n - (j - i)) c) ∧ w'.ownsRow 0 74 14 (.slice (some ⟨b, 0, none⟩) (n - (j - i)) c) (n - (j - i)) (cellsE (cutE L i j)) ∧ Only (fun k => k = b) w w' := by
 obtain ⟨i0, hi0, hz0, hz1, hz2⟩ := info_parts Tryz.infoEnt
 obtain ⟨hcap, hcm⟩ := own_capE ho
 have hbl := (ho.lt b rfl).2
 have e1 := slE_lhm b n c i j n (by omega) (by omega) (by omega)
 have e2 := slE_h (some ⟨b, 0, none⟩) n c i (by omega)
 have e3 := slE_l b n c j (by omega)
 have e4 := slE_lh b (n - (j - i)) c (n - (j - i)) n (by omega) hcap
 have hsub : n - (n - (j - i)) = j - i := by omega
 have hse : subE b c (n - (j - i)) = ⟨b, (n - (j - i)) * 14, none⟩ := by unfold subE; rw [if_neg (by omega)]
 rw [hsub, hse] at e4
 have hij2 : i + (n - j) = n - (j - i) := by omega
 have d0 : ((i : Int) == (j : Int)) = false := by simp; omega
 have HO := Lib.hid ho
 have HN := Lib.hid hn
 have HE2 := Lib.hid e2
 have HE3 := Lib.hid e3
 have HE4 := Lib.hid e4
 have HIJ := Lib.hid hij2
 clear hn ho e2 e3 e4 hsub hse hij2
 go_enter Tryz.func138, Tryz.ntmps138
 go_upto_region 5 with fail
 refine wp_region_noPanic ?_
 refine wp_region_held_drew (S := fun W => Only (fun k => k = b) w W) (by kernel_rfl) ?_ (fun hHeld => ?_)
 ·exact Only.of_below (RowKit.Below.refl _ _).drew _
 refine hT 0 (v := ?_) rfl (Or.inl ⟨by rfl, ?_⟩) ?_
 rotate_left
 ·(intro W hSw; (try dsimp only at hSw);  go_simp; try with_reducible rfl)
 try simp only [heldPut, List.set]
 refine hT 1 (v := ?_) rfl (Or.inl ⟨by rfl, ?_⟩) ?_
 rotate_left
 ·(intro W hSw; (try dsimp only at hSw);  go_simp; try with_reducible rfl)
 try simp only [heldPut, List.set]
 refine hT 2 (v := ?_) rfl (Or.inl ⟨by rfl, ?_⟩) ?_
 rotate_left
 ·(intro W hSw; (try dsimp only at hSw); have f2 := HE2.out W; go_simp; try with_reducible rfl)
 try simp only [heldPut, List.set]
 refine hT 3 (v := ?_) rfl (Or.inl ⟨by rfl, ?_⟩) ?_
 rotate_left
 ·(intro W hSw; (try dsimp only at hSw);  go_simp; try with_reducible rfl)
 try simp only [heldPut, List.set]
 refine hT 4 (v := ?_) rfl (Or.inl ⟨by rfl, ?_⟩) ?_
 rotate_left
 ·(intro W hSw; (try dsimp only at hSw);  go_simp; try with_reducible rfl)
 try simp only [heldPut, List.set]
 refine hT 5 (v := ?_) rfl (Or.inl ⟨by rfl, ?_⟩) ?_
 rotate_left
 ·(intro W hSw; (try dsimp only at hSw); have f3 := HE3.out W; go_simp; try with_reducible rfl)
 try simp only [heldPut, List.set]
 refine heldOne (i := 6) rfl (by kernel_rfl) (fun K hK => ?_)
 have hnews : (cellsE (L.drop j)).length = (n - j) * 14 := by rw [cellsE_length, List.length_drop, HN.out]
 refine step_append_fits (.tmp 22) (.tmp 25) 61 rfl 0 74 i0 14 Tryz.underlying61 hi0 hz1 b i c ((cellsE L).take (i * 14)) rfl (own_takeE (ownB_below HO.out (RowKit.Below.refl _ _).drew) (by omega)) (subE b c j) (n - j) (c - j) (cellsE (L.drop j)) rfl hnews (fun t u ht => ?_) (cellsE_one _) (by omega) (by rfl) ?_
 ·have htl := (List.getElem?_eq_some_iff.1 ht).1
  rw [hnews] at htl
  have hs : subE b c j = ⟨b, j * 14, none⟩ := by unfold subE; rw [if_neg (by omega)]
  rw [hs, Addr.add_mid]
  rw [cellsE_drop, List.getElem?_drop] at ht
  have := HO.out.cells (g := b) rfl _ _ ht
  rw [Addr.add_lit, Nat.zero_add] at this
  exact this
 intro w5 ho5 hg5
 rw [HIJ.out]
 rw [HIJ.out, ← cellsE_take, ← cellsE_append] at ho5
 have hon5 : Only (fun k => k = b) w w5 := ⟨hg5.os, hg5.tape, hg5.output, hg5.size, fun k hk hne => hg5.block k hk (fun e => hne (by injection e))⟩
 have HO5 : Hid (w5.ownsRow 0 74 14 (.slice (some ⟨b, 0, none⟩) (n - (j - i)) c) (n - (j - i)) (cellsE (cutE L i j))) := ho5
 have HON5 := Lib.hid hon5
 clear ho5 hg5 hnews
 refine hK.out _ _ hon5 (fun hHeld2 => ?_)
 clear hK K hon5
 try simp only [heldPut, List.set]
 refine hT 7 (v := ?_) rfl (Or.inl ⟨by rfl, ?_⟩) ?_
 rotate_left
 ·(intro W hSw; (try dsimp only at hSw);  go_simp; try with_reducible rfl)
 try simp only [heldPut, List.set]
 refine wpAnyH_done (by kernel_rfl) ?_ _
 refine NoPanic.normal ?_
 have hb5 := HON5.out.size
 have ht5 : w5.there b ((n - (j - i)) * 14) ((j - i) * 14) := own_thereCap HO5.out (by omega)
 obtain ⟨Z, hZ, hcl⟩ := run_clear_E b ((n - (j - i)) * 14) (j - i) (c - (n - (j - i))) (by omega) 0 w5 ht5
 have f4 := HE4.out w5
 have hsub : n - (n - (j - i)) = j - i := by omega
 go_wp2
 go_ret
 refine ⟨rfl, ?_, HON5.out.trans (onlyCells (T := fun k => k = b) rfl Z _ w5) (fun _ hi => .inl hi)⟩
 have := own_setCells Z ((n - (j - i)) * 14) HO5.out
 rw [putL_out _ _ _ (by rw [HO5.out.1]; exact Nat.le_refl _)] at this
 exact this
end Go.Proofs.YtholdcgkhicdmaaGreatDoor