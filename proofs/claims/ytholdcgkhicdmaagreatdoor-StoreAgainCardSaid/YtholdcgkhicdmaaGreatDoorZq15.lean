/- Several texts in one: SpAdd, SpPut, ItSmallOk. -/
import Derived.Test.YtholdcgkhicdmaaGreatDoorZq14
namespace Go.Proofs.YtholdcgkhicdmaaGreatDoor
open Go.RowKit
def upH (h : Nat → Nat) (o t : Nat) : Nat → Nat := fun i => if i = o then t else h i
def addX (X : Sp) (y : It) : Sp := { X with n := X.n + 1, h := upH X.h (spO y) (spT y) }
def addE (X : Sp) (y : It) (A : Option Addr) (c : Nat) : Ett := ⟨X.n, y, A, c⟩
def addJ (L : List Ett) (e : Ett) : List Ett × Bool := if e.x.g then joinK (L ++ [e]) (prevK (L ++ [e]) (spO e.x) L.length) (some L.length) else (L ++ [e], false)
def addF (L : List Ett) (e : Ett) : Nat := if (addJ L e).2 then ((addJ L e).1.getD ((prevK (L ++ [e]) (spO e.x) L.length).getD 0) entD).i else 0
theorem exec_load_row {P : Program} {o : Oper} {ev : Operand → Value} {w : World} (ty : TypeId) (x : Operand) (ho : o.op = .load ty x)
  (g : Nat) (hx : ev x = .pointer (some ⟨g, 0, none⟩)) (t : TypeId) (cs : Array Value) (fr : Nat × Nat) (d : TypeDesc) (hg : w.heap[g]? = some (.cells cs t fr))
  (hu : P.underlying ty = some d) (hd : (match d with | .struct _ | .array _ _ => true | _ => false) = true) (hi : (P.info? ty).map (·.size) = some cs.size) :
  (execOp ev o).run P w = .ok (.value (.agg cs)) w := by
 unfold execOp
 simp only [ho, hx, Instr.loadAt, Instr.sureAddr, Sem.run_bind, Sem.run_pure, Result.andThen_ok, run_loadVar_row w g t ty cs fr d hg hu hd hi]
theorem src_ent {w : World} {g : Nat} {e : Ett} {t : TypeId} {fr : Nat × Nat} (h : w.heap[g]? = some (.cells (entC e).toArray t fr)) : Src w (some ⟨g, 0, none⟩) 1 14 (cellsE [e]) :=
 ⟨rfl, fun _ => ⟨_, rfl, fun j u hj => by
  rw [cellsE_cons, cellsE_nil, List.append_nil] at hj
  rw [Addr.add_mid, Nat.zero_add]
  have := rangeAt_row h 0 j u hj
  rw [Nat.zero_add] at this
  exact this⟩⟩
set_option maxRecDepth 100000 in
set_option maxHeartbeats 2000000 in
theorem add_any {S : Nat → Prop} {s : Nat} {X : Sp} {L : List Ett} (y : It) (A' : Option Addr) (c' : Nat) (w : World) (h : SpAt w S s X L) (hy : EntOk w S (addE X y A' c')) (ho : spO y < 32) (hf : L.length < 100000) (hn : X.n < 1099511627776) :
  Calls Tryz.prog 72 #[.pointer (some ⟨s, 0, none⟩), .agg (itC y A' c').toArray] w fun e' w' => e' = .returned (.tuple #[.int .u64 X.n, .int .u64 (addF L (addE X y A' c'))]) ∧ ∃ S', SpAt w' S' s (addX X y) (addJ L (addE X y A' c')).1 ∧ Step w S w' S' := by
 obtain ⟨i0, hi0, hz0, hz1, hz2⟩ := info_parts Tryz.infoEnt
 obtain ⟨w0, hw0⟩ : ∃ w0, w0 = w.alloc (.cells (itC y A' c').toArray 47) := ⟨_, rfl⟩
 have hb0 : Below w.heap.size w w0 := by rw [hw0]; exact (Below.refl _ _).alloc (Nat.le_refl _) _
 have hbox : w0.heap[w.heap.size]? = some (.cells (itC y A' c').toArray 47 (0, 0)) := by rw [hw0]; exact heap_alloc_new _ _
 have HW0 := Lib.hid hw0
 have hs0 := h.below hb0
 obtain ⟨v0, k0, -⟩ := hs0.sp
 have c2 := k0.c2
 have fz2 := k0.fz 2
 have HS0 := Lib.hid hs0
 have HSW := Lib.hid h
 have HY := Lib.hid hy
 have HBOX := Lib.hid hbox
 have HT0 : Hid (Step w S w0 S) := ⟨Only.of_below hb0 S, fun _ h => .inl h⟩
 have hw1 : IntKind.u64.wrap ((X.n : Int) + 1) = ((X.n + 1 : Nat) : Int) := by rw [IntKind.wrap_u64]; omega
 clear hw0 hb0 hbox hs0 k0 h hy
 go_enter Tryz.func72, Tryz.ntmps72
 go_upto_region 1 with fail
 rw [← HW0.out]
 go_wp2_with (first | (refine wpList_load_row rfl _ _ rfl w.heap.size rfl _ _ _ _ HBOX.out Tryz.underlying47 rfl Tryz.infoIt ?_) | fail)
 refine (span_any y A' y.l.length c' w0).mono ?_
 rintro _ w1 ⟨rfl, hb1⟩
 have hs1 := HS0.out.below hb1
 obtain ⟨v1, k1, -⟩ := hs1.sp
 have c2 := k1.c2
 have fz2 := k1.fz 2
 have f5 := k1.fz (5 + spO y)
 have c5 := k1.hi (spO y) ho
 have hwl : w.heap.size < w0.heap.size := (Array.getElem?_eq_some_iff.1 HBOX.out).1
 have hbx1 := (hb1.block _ hwl).trans HBOX.out
 have HB1 := Lib.hid hb1
 have HBX1 := Lib.hid hbx1
 have HS1 := Lib.hid hs1
 have HT1 : Hid (Step w S w1 S) := HT0.out.trans ⟨Only.of_below hb1 S, fun _ h => .inl h⟩
 have hne5 : (⟨s, 5 + spO y, none⟩ : Addr) ≠ ⟨s, 2, none⟩ := by simp
 clear hb1 hs1 k1 hbx1 HS0 HT0 HBOX
 go_upto_region 5 with fail
 obtain ⟨h2, t2⟩ := HS1.out.of_set (X' := { X with n := X.n + 1 }) 2 (.int .u64 ((X.n : Int) + 1)) (fun v hv => hv.setN (X.n + 1)) rfl
 obtain ⟨h3, t3⟩ := h2.of_set (X' := addX X y) (5 + spO y) (.int .u64 ((spT y : Nat) : Int)) (fun v hv => hv.setH ho (spT y)) rfl
 obtain ⟨w2, hw2⟩ : ∃ w2, w2 = (w1.setCell ⟨s, 2, none⟩ (.int .u64 ((X.n : Int) + 1))).setCell ⟨s, 5 + spO y, none⟩ (.int .u64 ((spT y : Nat) : Int)) := ⟨_, rfl⟩
 rw [← hw2] at h3 t3 ⊢
 have ho12 : Only (fun k => k = s) w1 w2 := by rw [hw2]; exact (Only.setCell (T := fun k => k = s) _ _ _ rfl).trans (Only.setCell (T := fun k => k = s) _ _ _ rfl) (fun _ hi => .inl hi)
 have hsl := HS1.out.lt s HS1.out.sS
 have hswl : s < w.heap.size := HSW.out.lt s HSW.out.sS
 have hb01 := HB1.out.size
 have hbx2 := (ho12.block w.heap.size (by omega) (by omega)).trans HBX1.out
 have hl12 := ho12.size
 have hwl2 : w.heap.size < w2.heap.size := by omega
 obtain ⟨v, k2, r2⟩ := h3.sp
 obtain ⟨A, c, rfl⟩ := own_slice r2.own
 obtain ⟨n, hnl⟩ : ∃ n, n = L.length := ⟨_, rfl⟩
 have hown2 := r2.own
 rw [← hnl] at k2 r2 hown2 hf
 obtain ⟨R, hR⟩ : ∃ R : Nat → Prop, R = fun k => (Value.slice A n c).ownBlock = some k := ⟨_, rfl⟩
 have hRs : ¬ R s := by rw [hR]; exact r2.vs
 have hRS : ∀ k, R k → S k := fun k hk => r2.vS k (by rw [hR] at hk; exact hk)
 have hRw : ¬ R w.heap.size := fun hk => by have := HSW.out.lt _ (hRS _ hk); omega
 have HC37 : Hid (∀ W, Only R w2 W → W.cell? ⟨s, 37, none⟩ = some (.slice A n c)) := fun W hW => (hW.cell (p := ⟨s, 37, none⟩) k2.slt hRs).trans k2.c37
 have HFZ : Hid (∀ W, Only R w2 W → W.frozen? ⟨s, 37, none⟩ = false) := fun W hW => by
  have e : W.heap[s]? = w2.heap[s]? := hW.block s k2.slt hRs
  rw [World.frozen?_of_block (a := ⟨s, 37, none⟩) e]
  exact k2.fz 37
 have HBXW : Hid (∀ W, Only R w2 W → W.heap[w.heap.size]? = some (.cells (itC y A' c').toArray 47 (0, 0))) := fun W hW => (hW.block _ hwl2 hRw).trans hbx2
 have HOWN := Lib.hid hown2
 have H3 := Lib.hid h3
 have T3 := Lib.hid ((HT1.out.trans t2).trans t3)
 have K2 := Lib.hid k2
 have R2 := Lib.hid r2
 have HNL := Lib.hid hnl
 have hRr : ∀ k, (Value.slice A n c).ownBlock = some k → R k := fun k hk => by rw [hR]; exact hk
 have HRR := Lib.hid hRr
 clear h2 t2 h3 t3 k2 r2 hown2 hnl hw2 ho12 hbx2 c2 fz2 f5 c5 HS1 HBX1 hne5 hR hRr
 refine wp_region_noPanic ?_
 refine keepBegin (S := fun W => Only R w2 W) 14 (by kernel_rfl) ?_ (fun hHeld => ?_)
 ·exact Only.of_below (RowKit.Below.refl _ _).drew _
 refine kT 0 (v := ?_) [0] rfl (Or.inl ⟨by rfl, ?_⟩) ?_
 rotate_left
 ·(intro W hSw; (try dsimp only at hSw); have f2 := HC37.out W hSw; go_simp; try with_reducible rfl)
 try simp only [keepPut, List.set]
 refine kT 1 (v := ?_) [1] rfl (Or.inl ⟨by rfl, ?_⟩) ?_
 rotate_left
 ·(intro W hSw; (try dsimp only at hSw); have f2 := HC37.out W hSw; go_simp; try with_reducible rfl)
 try simp only [keepPut, List.set]
 refine kT 2 (v := ?_) [2] rfl (Or.inl ⟨by rfl, ?_⟩) ?_
 rotate_left
 ·(intro W hSw; (try dsimp only at hSw); have f2 := HC37.out W hSw; go_simp; try with_reducible rfl)
 try simp only [keepPut, List.set]
 refine kT 3 (v := ?_) [3] rfl (Or.inl ⟨by rfl, ?_⟩) ?_
 rotate_left
 ·(intro W hSw; (try dsimp only at hSw); have f2 := HC37.out W hSw; go_simp; try with_reducible rfl)
 try simp only [keepPut, List.set]
 refine kT 4 (v := ?_) [4] rfl (Or.inl ⟨by rfl, ?_⟩) ?_
 rotate_left
 ·(intro W hSw; (try dsimp only at hSw); have f2 := HC37.out W hSw; go_simp; try with_reducible rfl)
 try simp only [keepPut, List.set]
 refine kT 5 (v := ?_) [5] rfl (Or.inl ⟨by rfl, ?_⟩) ?_
 rotate_left
 ·(intro W hSw; (try dsimp only at hSw); have f2 := HC37.out W hSw; go_simp; try with_reducible rfl)
 try simp only [keepPut, List.set]
 refine kT 6 (v := ?_) [6] rfl (Or.inl ⟨by rfl, ?_⟩) ?_
 rotate_left
 ·(intro W hSw; (try dsimp only at hSw); have f2 := HC37.out W hSw; go_simp; try with_reducible rfl)
 try simp only [keepPut, List.set]
 refine kT 7 (v := .agg (itC y A' c').toArray) [7] rfl (Or.inl ⟨by rfl, ?_⟩) ?_
 ·(intro W hSw; exact exec_load_row 47 _ rfl (w.heap.size) rfl _ _ _ _ (HBXW.out _ hSw) Tryz.underlying47 rfl Tryz.infoIt)
 try simp only [keepPut, List.set]
 refine kT 8 (v := .agg #[.int .u64 (X.n : Int), .bool y.g, .int .u8 y.o, .int .u64 y.q, .int .u64 y.t, .string y.r, .slice A' y.l.length c', .int .u8 y.s, .int .u8 y.p, .int .i64 y.v, .int .u8 y.w, .int .u8 y.ga, .int .u64 y.gf, .int .u64 y.gt]) [8] rfl (Or.inl ⟨by rfl, ?_⟩) ?_
 ·(intro W hSw; go_simp; simp [itC, List.zipIdx])
 try simp only [keepPut, List.set]
 have hb3 : Below w2.heap.size w2 (w2.drew.alloc (.cells #[.int .u64 (X.n : Int), .bool y.g, .int .u8 y.o, .int .u64 y.q, .int .u64 y.t, .string y.r, .slice A' y.l.length c', .int .u8 y.s, .int .u8 y.p, .int .i64 y.v, .int .u8 y.w, .int .u8 y.ga, .int .u64 y.gf, .int .u64 y.gt] 74)) := ((Below.refl _ _).drew).alloc (Nat.le_refl _) _
 have hn3 := heap_alloc_new w2.drew (.cells #[.int .u64 (X.n : Int), .bool y.g, .int .u8 y.o, .int .u64 y.q, .int .u64 y.t, .string y.r, .slice A' y.l.length c', .int .u8 y.s, .int .u8 y.p, .int .i64 y.v, .int .u8 y.w, .int .u8 y.ga, .int .u64 y.gf, .int .u64 y.gt] 74)
 refine keepAll (rs := [9]) (by kernel_rfl) (by simp) (AllReadyK.cons rfl (fun K hK => ?_) AllReadyK.nil)
 go_simp
 have hO3 : Only R w2 (w2.alloc (.cells #[.int .u64 (X.n : Int), .bool y.g, .int .u8 y.o, .int .u64 y.q, .int .u64 y.t, .string y.r, .slice A' y.l.length c', .int .u8 y.s, .int .u8 y.p, .int .i64 y.v, .int .u8 y.w, .int .u8 y.ga, .int .u64 y.gf, .int .u64 y.gt] 74)).drew := Only.of_below (((Below.refl _ _).alloc (Nat.le_refl _) _).drew) R
 obtain ⟨w3, hw3⟩ : ∃ w3, w3 = (w2.alloc (.cells #[.int .u64 (X.n : Int), .bool y.g, .int .u8 y.o, .int .u64 y.q, .int .u64 y.t, .string y.r, .slice A' y.l.length c', .int .u8 y.s, .int .u8 y.p, .int .i64 y.v, .int .u8 y.w, .int .u8 y.ga, .int .u64 y.gf, .int .u64 y.gt] 74)).drew := ⟨_, rfl⟩
 have hsrc : Src w3 (some ⟨w2.heap.size, 0, none⟩) 1 14 (cellsE [addE X y A' c']) := by rw [hw3]; exact src_ent (heap_alloc_new w2 _)
 have hb23 : Below w2.heap.size w2 w3 := by rw [hw3]; exact ((Below.refl _ _).alloc (Nat.le_refl _) _).drew
 rw [← hw3] at hO3 ⊢
 clear hw3 hn3 hb3
 refine hK.out _ _ hO3 (fun hHeld2 => ?_)
 clear hK K
 try simp only [keepPut, List.set, Nat.zero_add]
 refine keepAll (rs := [10]) (by kernel_rfl) (by simp) (AllReadyK.cons rfl (fun K hK => ?_) AllReadyK.nil)
 refine step_append_src rfl (.tmp 43) (.tmp 47) rfl (base := 0) Tryz.underlying61 hi0 hz0 hz1 hz2 rfl (by decide) rfl (ownB_below HOWN.out hb23) rfl hsrc (cellsE_one _) (by unfold maxLen; omega) (by omega) (Nat.zero_le _) ?_
 intro v5 w5 ho5 hg5 hb5
 obtain ⟨A5, c5, rfl⟩ := own_slice ho5
 have hO5 : Only R w2 w5 := hO3.trans ⟨hg5.os, hg5.tape, hg5.output, hg5.size, fun k hk hne => hg5.block k hk (fun e => hne (HRR.out k e.symm))⟩ (fun _ h => .inl h)
 have hl23 := hb23.size
 have hl35 := hg5.size
 have hv5 : ∀ k, (Value.slice A5 (n + 1) c5).ownBlock = some k → R k ∨ w2.heap.size ≤ k := fun k hk => by
  rcases hb5 with h' | h'
  ·rw [h'] at hk; exact .inl (HRR.out k hk)
  ·rw [h'] at hk; injection hk with hk; exact .inr (by omega)
 rw [← cellsE_append] at ho5
 have HO5 := Lib.hid ho5
 have HV5 := Lib.hid hv5
 have HON5 := Lib.hid hO5
 clear ho5 hg5 hb5 hsrc hO3 hb23 hv5 hl23 hl35
 refine hK.out _ _ hO5 (fun hHeld3 => ?_)
 clear hK K
 try simp only [keepPut, List.set]
 refine kT 11 (v := ?_) [13, 12, 11] rfl (Or.inl ⟨by rfl, ?_⟩) ?_
 rotate_left
 ·(intro W hSw; (try dsimp only at hSw);  go_simp; try with_reducible rfl)
 try simp only [keepPut, List.set]
 refine kT 12 (v := ?_) [13, 12] rfl (Or.inl ⟨by rfl, ?_⟩) ?_
 rotate_left
 ·(intro W hSw; (try dsimp only at hSw);  go_simp; try with_reducible rfl)
 try simp only [keepPut, List.set]
 refine kT 13 (v := ?_) [13] rfl (Or.inl ⟨by rfl, ?_⟩) ?_
 rotate_left
 ·(intro W hSw; (try dsimp only at hSw);  go_simp; try with_reducible rfl)
 try simp only [keepPut, List.set]
 refine keepLast rfl (by kernel_rfl) (fun K hK => ?_)
 have f2 := HC37.out w5 HON5.out
 have f4 := HFZ.out w5 HON5.out
 go_simp
 refine hK.out _ _ ?_
 clear hK K
 try simp only [keepPut, List.set, Nat.zero_add]
 refine keepDone (by kernel_rfl) ?_ _
 refine NoPanic.normal ?_
 have hsz5 := HON5.out.size
 have k5 := (K2.out.only HON5.out K2.out.slt hRs).setL (.slice A5 (n + 1) c5)
 obtain ⟨w6, hw6⟩ : ∃ w6, w6 = w5.setCell ⟨s, 37, none⟩ (.slice A5 (n + 1) c5) := ⟨_, rfl⟩
 rw [← hw6] at k5 ⊢
 have ho56 : Only (fun k => k = s) w5 w6 := by rw [hw6]; exact Only.setCell _ _ _ rfl
 have hvs : (Value.slice A5 (n + 1) c5).ownBlock ≠ some s := fun e => by
  rcases HV5.out s e with h' | h'
  ·exact hRs h'
  ·omega
 have hown6 := ho56.own HO5.out (fun k hk e => hvs (by rw [hk, e]))
 have hbx6 := (ho56.block w.heap.size (by omega) (by omega)).trans (HBXW.out w5 HON5.out)
 have h25 : Only S w2 w5 := ⟨HON5.out.os, HON5.out.tape, HON5.out.output, HON5.out.size, fun k hk hne => HON5.out.block k hk (fun e => hne (hRS k e))⟩
 have hst26 : Only S w2 w6 := h25.trans ho56 (fun i hi => .inl (by have hi : i = s := hi; rw [hi]; exact HSW.out.sS))
 have hst : Step w S w6 (fun k => S k ∨ (Value.slice A5 (n + 1) c5).ownBlock = some k) := by
  refine ⟨T3.out.only.trans hst26 (fun _ hi => .inl hi), fun k hk => ?_⟩
  rcases hk with hk | hk
  ·exact .inl hk
  ·rcases HV5.out k hk with h' | h'
   ·exact .inl (hRS k h')
   ·exact .inr (by omega)
 have hltn : ∀ k, (Value.slice A5 (n + 1) c5).ownBlock = some k → k < w6.heap.size := fun k hk => (hown6.lt k hk).2
 have hns : ∀ k, S k → k < w6.heap.size := fun k hk => Nat.lt_of_lt_of_le (Nat.lt_of_lt_of_le (H3.out.lt k hk) hst26.size) (Nat.le_refl _)
 have hent : ∀ e ∈ L ++ [addE X y A' c'], EntOk w6 (fun k => S k ∨ (Value.slice A5 (n + 1) c5).ownBlock = some k) e := fun e he => by
  rcases List.mem_append.1 he with he | he
  ·exact (HSW.out.ent e he).step hst
  ·rw [List.mem_singleton] at he
   rw [he]
   exact HY.out.step hst
 have HK6 := Lib.hid k5
 have HOW6 := Lib.hid hown6
 have HBX6 := Lib.hid hbx6
 have HST6 := Lib.hid hst
 have HENT := Lib.hid hent
 have HLT6 : Hid (∀ k, S k ∨ (Value.slice A5 (n + 1) c5).ownBlock = some k → k < w6.heap.size) := fun k hk => hk.elim (hns k) (hltn k)
 have HVS := Lib.hid hvs
 have hyl := HY.out.lb
 have hsum := sumE_le HSW.out
 have hs2 : sumE (L ++ [addE X y A' c']) = sumE L + (itemB y).length := by rw [sumE_append, sumE_cons]; rfl
 obtain ⟨u, hu⟩ : ∃ u, u = sumE L := ⟨_, rfl⟩
 obtain ⟨z, hz⟩ : ∃ z, z = (itemB y).length := ⟨_, rfl⟩
 have hyl : z ≤ 100000 := by rw [hz]; exact hyl
 rw [← hu, ← hz] at hs2
 rw [← hu] at hsum HK6
 have HZ := Lib.hid hz
 have HS2 := Lib.hid hs2
 have hwz : IntKind.i64.wrap ((u : Int) + (z : Int)) = ((u + z : Nat) : Int) := by rw [IntKind.wrap_i64]; omega
 clear k5 hown6 hbx6 hst hent hns hltn hvs hu hz hs2 hst26 h25 ho56 hw6 hHeld hHeld2 hHeld3 f2 f4 HC37 HFZ HBXW HOWN
 go_upto_region 6 with fail
 have hsl6 := HK6.out.slt
 have HC1 : Hid (∀ W, Below w6.heap.size w6 W → W.cell? ⟨s, 1, none⟩ = some (.int .i64 (u : Int))) := fun W hW => (hW.cell (p := ⟨s, 1, none⟩) hsl6).trans HK6.out.c1
 have HF1 : Hid (∀ W, Below w6.heap.size w6 W → W.frozen? ⟨s, 1, none⟩ = false) := fun W hW => (hW.frozen (p := ⟨s, 1, none⟩) hsl6).trans (HK6.out.fz 1)
 have HB1 : Hid (∀ W, Below w6.heap.size w6 W → W.heap[w.heap.size]? = some (.cells (itC y A' c').toArray 47 (0, 0))) := fun W hW => (hW.block _ (Array.getElem?_eq_some_iff.1 HBX6.out).1).trans HBX6.out
 refine wp_region_noPanic ?_
 refine keepBegin (S := fun W => Below w6.heap.size w6 W) 9 (by kernel_rfl) ?_ (fun hHeld => ?_)
 ·exact (RowKit.Below.refl _ _).drew
 refine kT 0 (v := ?_) [0] rfl (Or.inl ⟨by rfl, ?_⟩) ?_
 rotate_left
 ·(intro W hSw; (try dsimp only at hSw); have f1 := HC1.out W hSw; go_simp; try with_reducible rfl)
 try simp only [keepPut, List.set]
 refine kT 1 (v := ?_) [1] rfl (Or.inl ⟨by rfl, ?_⟩) ?_
 rotate_left
 ·(intro W hSw; (try dsimp only at hSw); have f1 := HC1.out W hSw; go_simp; try with_reducible rfl)
 try simp only [keepPut, List.set]
 refine kT 2 (v := ?_) [2] rfl (Or.inl ⟨by rfl, ?_⟩) ?_
 rotate_left
 ·(intro W hSw; (try dsimp only at hSw); have f1 := HC1.out W hSw; go_simp; try with_reducible rfl)
 try simp only [keepPut, List.set]
 refine kT 3 (v := ?_) [3] rfl (Or.inl ⟨by rfl, ?_⟩) ?_
 rotate_left
 ·(intro W hSw; (try dsimp only at hSw); have f1 := HC1.out W hSw; go_simp; try with_reducible rfl)
 try simp only [keepPut, List.set]
 refine kT 4 (v := .agg (itC y A' c').toArray) [4] rfl (Or.inl ⟨by rfl, ?_⟩) ?_
 ·(intro W hSw; exact exec_load_row 47 _ rfl (w.heap.size) rfl _ _ _ _ (HB1.out _ hSw) Tryz.underlying47 rfl Tryz.infoIt)
 try simp only [keepPut, List.set]
 refine keepAll (rs := [5]) (by kernel_rfl) (by simp) (AllReadyK.cons rfl (fun K hK => ?_) AllReadyK.nil)
 go_simp
 have q5 := (HENT.out (addE X y A' c') (List.mem_append_right _ List.mem_cons_self)).below hHeld
 refine (size_any y A' y.l.length c' q5.ok q5.sh rfl (by have := q5.ln; simp only [addE] at this; omega) _ (by have := q5.lb; simp only [addE] at this; omega) q5.rd).mono ?_
 rintro _ w7 ⟨rfl, hb7⟩
 clear q5
 have HB7 : Hid (Below w6.heap.size w6 w7) := hHeld.trans (hb7.mono hHeld.size)
 clear hb7
 go_wp2_with fail
 refine hK.out _ _ HB7.out (fun hHeld2 => ?_)
 clear hK K
 rw [← HZ.out]
 try simp only [keepPut, List.set, Nat.zero_add]
 refine kT 6 (v := ?_) [6] rfl (Or.inl ⟨by rfl, ?_⟩) ?_
 rotate_left
 ·(intro W hSw; (try dsimp only at hSw);  go_simp; try with_reducible rfl)
 try simp only [keepPut, List.set]
 refine kT 7 (v := ?_) [8, 7] rfl (Or.inl ⟨by rfl, ?_⟩) ?_
 rotate_left
 ·(intro W hSw; (try dsimp only at hSw);  go_simp; try with_reducible rfl)
 try simp only [keepPut, List.set]
 refine kT 8 (v := ?_) [8] rfl (Or.inl ⟨by rfl, ?_⟩) ?_
 rotate_left
 ·(intro W hSw; (try dsimp only at hSw);  go_simp; try with_reducible rfl)
 try simp only [keepPut, List.set]
 refine keepLast rfl (by kernel_rfl) (fun K hK => ?_)
 have f1 := HC1.out w7 HB7.out
 have f4 := HF1.out w7 HB7.out
 go_simp
 refine hK.out _ _ ?_
 clear hK K
 try simp only [keepPut, List.set, Nat.zero_add]
 refine keepDone (by kernel_rfl) ?_ _
 refine NoPanic.normal ?_
 have k8 := (HK6.out.below HB7.out).setU (u + z)
 obtain ⟨w8, hw8⟩ : ∃ w8, w8 = w7.setCell ⟨s, 1, none⟩ (.int .i64 ((u : Int) + (z : Int))) := ⟨_, rfl⟩
 have ho78 : Only (fun k => k = s) w7 w8 := by rw [hw8]; exact Only.setCell _ _ _ rfl
 have k8 : SpC (w7.setCell ⟨s, 1, none⟩ (.int .i64 ((u : Int) + (z : Int)))) s (addX X y) (u + z) (.slice A5 (n + 1) c5) := k8
 rw [← hw8] at k8 ⊢
 have hbx8 : w8.cell? ⟨w.heap.size, 0, none⟩ = some (.bool y.g) := cell_of_row _ _ 0 _ _ _ ((ho78.block w.heap.size (by have := HB7.out.size; have := (Array.getElem?_eq_some_iff.1 HBX6.out).1; omega) (by omega)).trans (HB1.out w7 HB7.out))
 have hst68 : Step w6 (fun k => S k ∨ (Value.slice A5 (n + 1) c5).ownBlock = some k) w8 (fun k => S k ∨ (Value.slice A5 (n + 1) c5).ownBlock = some k) := ⟨(Only.of_below HB7.out _).trans ho78 (fun i hi => .inl (.inl (by have hi : i = s := hi; rw [hi]; exact HSW.out.sS))), fun _ h => .inl h⟩
 have hs8 : SpAt w8 (fun k => S k ∨ (Value.slice A5 (n + 1) c5).ownBlock = some k) s (addX X y) (L ++ [addE X y A' c']) := by
  have hlen : (L ++ [addE X y A' c']).length = n + 1 := by rw [List.length_append, ← HNL.out]; rfl
  refine ⟨⟨_, by rw [HS2.out]; exact k8, by rw [hlen]; exact ho78.own (ownB_below HOW6.out HB7.out) (fun k hk e => HVS.out (by rw [hk, e])), HVS.out, fun k hk => .inr hk⟩, .inl HSW.out.sS, fun k hk => Nat.lt_of_lt_of_le (HLT6.out k hk) (Nat.le_trans HB7.out.size ho78.size), by rw [hlen]; omega, fun e he => (HENT.out e he).step hst68, HSW.out.q⟩
 have HS8 := Lib.hid hs8
 have HT8 := Lib.hid (HST6.out.trans hst68)
 have x37 := k8.c37
 have hgl : (L ++ [addE X y A' c'])[n]? = some (addE X y A' c') := by rw [HNL.out, List.getElem?_append_right (Nat.le_refl _), Nat.sub_self]; rfl
 have HGL := Lib.hid hgl
 have hwn : IntKind.i64.wrap (((n : Int) + 1) - 1) = (n : Int) := by rw [IntKind.wrap_i64]; omega
 clear f1 f4 k8 hw8 ho78 hst68 hs8 hgl HC1 HF1 HB1 HB7 HK6 HENT hHeld hHeld2
 cases hg : y.g with
 | false =>
   rw [hg] at hbx8
   have hJ : addJ L (addE X y A' c') = (L ++ [addE X y A' c'], false) := by unfold addJ; rw [if_neg (by show ¬ y.g = true; rw [hg]; decide)]
   have hF : addF L (addE X y A' c') = 0 := by unfold addF; rw [hJ]; rfl
   have HJ := Lib.hid hJ
   have HF := Lib.hid hF
   clear hJ hF x37
   go_wp2
   go_ret2
   exact ⟨by rw [HF.out]; rfl, _, by rw [HJ.out]; exact HS8.out, HT8.out⟩
 | true =>
   rw [hg] at hbx8
   have hJ : addJ L (addE X y A' c') = joinK (L ++ [addE X y A' c']) (prevK (L ++ [addE X y A' c']) (spO y) n) (some n) := by unfold addJ; rw [if_pos (by show y.g = true; exact hg), HNL.out]; rfl
   have hF : addF L (addE X y A' c') = if (addJ L (addE X y A' c')).2 then ((addJ L (addE X y A' c')).1.getD ((prevK (L ++ [addE X y A' c']) (spO y) n).getD 0) entD).i else 0 := by unfold addF; rw [HNL.out]; rfl
   have HJ := Lib.hid hJ
   have HF := Lib.hid hF
   clear hJ hF
   go_wp2_with fail
   refine (near_down w8 HS8.out HGL.out).mono ?_
   rintro _ w9 ⟨rfl, hb9⟩
   have hs9 := HS8.out.below hb9
   have HS9 := Lib.hid hs9
   have HT9 : Hid (Step w S w9 (fun k => S k ∨ (Value.slice A5 (n + 1) c5).ownBlock = some k)) := HT8.out.trans ⟨Only.of_below hb9 _, fun _ h => .inl h⟩
   obtain ⟨dn, hdn⟩ : ∃ dn, dn = prevK (L ++ [addE X y A' c']) (spO y) n := ⟨_, rfl⟩
   have hdn' : dn = prevK (L ++ [addE X y A' c']) (spO (addE X y A' c').x) n := hdn
   rw [← hdn']
   rw [← hdn] at HJ HF
   have HDN := Lib.hid hdn
   clear hb9 hs9 hdn hdn'
   go_wp2_with fail
   refine (sjoinK dn (some n) w9 HS9.out (fun k hk => (prevK_some (by rw [← HDN.out]; exact hk)).2) (fun k hk => by injection hk with hk; rw [← hk]; exact (List.getElem?_eq_some_iff.1 HGL.out).1)).mono ?_
   rintro _ wa ⟨rfl, hsa, hsta⟩
   rw [← HJ.out] at hsa ⊢
   have HSa := Lib.hid hsa
   have HTa := Lib.hid (HT9.out.trans hsta)
   clear hsa hsta x37
   by_cases hj : (addJ L (addE X y A' c')).2 = true
   ·obtain ⟨k, hk⟩ : ∃ k, dn = some k := by
     cases dn with
     | none => rw [HJ.out] at hj; cases hj
     | some k => exact ⟨k, rfl⟩
    subst hk
    have hkk := prevK_some HDN.out.symm
    obtain ⟨e2, he2⟩ : ∃ e2, (addJ L (addE X y A' c')).1[k]? = some e2 := by
     rw [HJ.out] at hj ⊢
     unfold joinK at hj ⊢
     simp only at hj ⊢
     split <;> rename_i hc
     ·exact ⟨_, joinL_keep hkk.1 (List.getElem?_eq_some_iff.1 HGL.out).1⟩
     ·rw [if_neg hc] at hj; cases hj
    have hfi : addF L (addE X y A' c') = e2.i := by rw [HF.out, if_pos hj]; show ((addJ L (addE X y A' c')).1.getD k entD).i = _; rw [getD_of he2]
    obtain ⟨v9, k9, r9⟩ := HSa.out.sp
    obtain ⟨r2, c2, rfl, -, -, -, hrg2, -⟩ := r9.at_ he2
    have x0 := hrg2 0 _ rfl
    rw [Nat.add_zero] at x0
    have c37 := k9.c37
    have hql := (List.getElem?_eq_some_iff.1 he2).1
    have hfw := HSa.out.few
    have HFI := Lib.hid hfi
    rw [hj]
    rw [show idxV (some k) = Value.int .i64 (k : Int) from rfl]
    clear hj hfi k9 r9 hrg2 he2
    go_wp2
    go_quiet (fail)
    go_wp2
    go_ret2
    exact ⟨by rw [HFI.out]; rfl, _, HSa.out.below (cbelow_drewN (RowKit.Below.refl _ _) _), HTa.out.trans ⟨Only.of_below (cbelow_drewN (RowKit.Below.refl _ _) _) _, fun _ h => .inl h⟩⟩
   ·have hj : (addJ L (addE X y A' c')).2 = false := by simpa using hj
    have hfi : addF L (addE X y A' c') = 0 := by rw [HF.out, hj]; rfl
    have HFI := Lib.hid hfi
    rw [hj]
    clear hj hfi
    go_wp2
    go_ret2
    exact ⟨by rw [HFI.out]; rfl, _, HSa.out, HTa.out⟩
theorem mem_joinK {L : List Ett} {a b : Option Nat} {e : Ett} (h : e ∈ (joinK L a b).1) : e ∈ L ∨ e.x.l = [] := by
 cases a with
 | none => exact .inl h
 | some a =>
   cases b with
   | none => exact .inl h
   | some b =>
     unfold joinK at h
     simp only at h
     split at h
     ·have h1 := cutE_mem h
      rcases List.mem_or_eq_of_mem_set h1 with h2 | rfl
      ·exact .inl h2
      ·exact .inr (joinI_l _ _)
     ·exact .inl h
theorem mem_evL {L : List Ett} {p : Nat} {e0 e : Ett} (h : e ∈ evL L p e0) : e ∈ L ∨ e.x.l = [] := by
 rcases mem_joinK h with h | h
 ·rcases mem_joinK h with h | h
  ·rcases List.mem_or_eq_of_mem_set h with h | rfl
   ·exact .inl h
   ·exact .inr rfl
  ·exact .inr h
 ·exact .inr h
theorem mem_room {size q : Nat} : ∀ {fuel : Nat} {L : List Ett} {f v : Nat} {e : Ett}, e ∈ (roomK size q fuel L f v).2.1 → e ∈ L ∨ e.x.l = []
 | fuel, L, f, v, e, h => by
   by_cases hf : sumE L + size ≤ q
   ·rw [roomK_fit hf] at h; exact .inl h
   ·cases hl : leastK L L.length with
    | none => rw [roomK_none hf hl] at h; exact .inl h
    | some p =>
      cases fuel with
      | zero =>
        unfold roomK at h
        rw [if_neg hf] at h
        exact .inl h
      | succ k =>
        rw [roomK_some hf hl] at h
        rcases mem_room h with h | h
        ·exact mem_evL h
        ·exact .inr h
theorem mem_addJ {L : List Ett} {e0 e : Ett} (h : e ∈ (addJ L e0).1) : e ∈ L ∨ e = e0 ∨ e.x.l = [] := by
 unfold addJ at h
 split at h
 ·rcases mem_joinK h with h | h
  ·rcases List.mem_append.1 h with h | h
   ·exact .inl h
   ·exact .inr (.inl (by simpa using h))
  ·exact .inr (.inr h)
 ·rcases List.mem_append.1 h with h | h
  ·exact .inl h
  ·exact .inr (.inl (by simpa using h))
theorem len_joinK (L : List Ett) (a b : Option Nat) : (joinK L a b).1.length ≤ L.length := by
 cases a with
 | none => exact Nat.le_refl _
 | some a =>
   cases b with
   | none => exact Nat.le_refl _
   | some b =>
     show (if joinB (L.getD a entD).x (L.getD b entD).x then (joinL L a b (L.getD a entD) (L.getD b entD), true) else (L, false)).1.length ≤ _
     by_cases hj : joinB (L.getD a entD).x (L.getD b entD).x = true
     ·rw [if_pos hj]
      show (cutE _ _ _).length ≤ _
      unfold cutE
      rw [List.length_append, List.length_take, List.length_drop, List.length_set]
      omega
     ·rw [if_neg hj]; exact Nat.le_refl _
theorem len_evL (L : List Ett) (p : Nat) (e : Ett) : (evL L p e).length ≤ L.length := by
 refine Nat.le_trans (len_joinK _ _ _) (Nat.le_trans (len_joinK _ _ _) ?_)
 rw [List.length_set]
 exact Nat.le_refl _
theorem len_room {size q : Nat} : ∀ {fuel : Nat} {L : List Ett} {f v : Nat}, (roomK size q fuel L f v).2.1.length ≤ L.length
 | fuel, L, f, v => by
   by_cases hf : sumE L + size ≤ q
   ·rw [roomK_fit hf]; exact Nat.le_refl _
   ·cases hl : leastK L L.length with
    | none => rw [roomK_none hf hl]; exact Nat.le_refl _
    | some p =>
      cases fuel with
      | zero =>
        unfold roomK
        rw [if_neg hf]
        exact Nat.le_refl _
      | succ k =>
        rw [roomK_some hf hl]
        exact Nat.le_trans len_room (len_evL _ _ _)
theorem SpAt.copyTo {w : World} {S2 : Nat → Prop} {s s2 : Nat} {X : Sp} {L : List Ett} {cs old : Array Value} (h : SpAt w S2 s2 X L) (hk : ∀ k, w.cell? ⟨s2, k, none⟩ = cs[k]?) (hz : cs.size = 38) (hold : w.heap[s]? = some (.cells old 121 (0, 0)))
  (hne : ∀ v, w.cell? ⟨s2, 37, none⟩ = some v → v.ownBlock ≠ some s) (hs : ∀ e ∈ L, ∀ a, e.A = some a → 0 < e.x.l.length → a.block ≠ s) : SpAt (w.setRow s cs) (fun k => k = s ∨ S2 k) s X L := by
 have hon := onlyRow s cs w
 have hsl : s < w.heap.size := (Array.getElem?_eq_some_iff.1 hold).1
 obtain ⟨v, h1, h2⟩ := h.sp
 refine ⟨⟨v, h1.as hk hz (setRow_heap _ _ _ _ _ _ hold), hon.own h2.own (fun k hk e => hne v h1.c37 (by rw [hk, e])), hne v h1.c37, fun i hi => .inr (h2.vS i hi)⟩, .inl rfl, fun k hk => Nat.lt_of_lt_of_le (hk.elim (fun e => by rw [e]; exact hsl) (h.lt k)) hon.size, h.few, fun e he => ?_, h.q⟩
 have q := h.ent e he
 exact ⟨q.ok, q.sh, q.ln, q.lb, q.ix, q.nil, hon.rdP q.rd (fun a ha h0 e' => hs e he a ha h0 e'), fun a ha h0 hk => hk.elim (hs e he a ha h0) (q.ap a ha h0)⟩
def putR (X : Sp) (L : List Ett) (x : It) (A : Option Addr) (c : Nat) : Nat × Nat × Nat × Sp × List Ett :=
 if partE x X.h ≠ 0 then (partE x X.h, 0, 0, X, L) else
 let R := roomK (itemB (partI x X.h)).length X.q (cntE L) L 0 X.v
 if R.1 = false then (13, 0, 0, X, L) else
 if 1099511627776 ≤ X.n then (6, 0, 0, X, L) else
 let X1 : Sp := { X with v := R.2.2.2 }
 let e := addE X1 (partI x X.h) A c
 (0, X.n, lowE R.2.2.1 (addF R.2.1 e), addX X1 (partI x X.h), (addJ R.2.1 e).1)
theorem trim_good {x : It} {N : Nat} (ho : OkI x) (hs : ShortI x) (hl : x.l.length ≤ 1000) (hb : (itemB x).length ≤ 100000) (hN : N ≤ 1099511627776) : OkI (trimI x N) ∧ ShortI (trimI x N) ∧ (trimI x N).l.length ≤ 1000 ∧ (itemB (trimI x N)).length ≤ 100000 := by
 unfold trimI
 split
 ·exact ⟨zeroI_ok, ⟨(Nat.zero_le 1048576 : 0 ≤ 1048576), fun i p hp => by simp [zeroI] at hp⟩, Nat.zero_le 1000, Nat.le_trans zeroI_len (by decide)⟩
 ·split
  ·exact ⟨ho, hs, hl, hb⟩
  ·exact ⟨gapI_ok (spO_lt ho) (by omega) (spT_lt ho), ⟨(Nat.zero_le 1048576 : 0 ≤ 1048576), fun i p hp => by simp at hp⟩, Nat.zero_le 1000, Nat.le_trans (gapI_len _ _ _ (by omega) (spT_lt ho)) (by decide)⟩
theorem trim_spO {x : It} {N : Nat} (h : N < spT x) : spO (trimI x N) = spO x := by
 unfold trimI
 rw [if_neg (by omega)]
 split <;> rfl
theorem partE_zero {x : It} {h : Nat → Nat} (h0 : partE x h = 0) : itemN x = 0 ∧ h (spO x) < spT x ∧ partI x h = trimI x (h (spO x)) := by
 refine ⟨?_, ?_, by unfold partI; rw [if_pos h0]⟩
 ·unfold partE at h0
  split at h0
  ·assumption
  ·rename_i hc; simpa using hc
 ·unfold partE at h0
  split at h0
  ·rename_i hc; exact absurd h0 hc
  ·split at h0
   ·cases h0
   ·omega
theorem labS_size (s : Sm) (i : Nat) : (labS s i).1.size = 1 ∧ (labS s i).2.size = 1 := ⟨rfl, rfl⟩
theorem smallI_gap (s : Sm) (h : s.g = true) : smallI s = ⟨true, 0, 0, 0, ⟨#[]⟩, [], 0, 0, 0, 0, s.o % 32, 1 + s.q, 1 + s.q + s.m⟩ := if_pos h
theorem smallI_ev (s : Sm) (h : s.g = false) : smallI s = ⟨false, s.o % 32, 1 + s.q, s.t, if s.w % 8 = 7 then ownX else ruleS s.r, labsS s (s.l % 4), if s.s then 2 else 0, s.p % 8, (s.v : Int) - 100, if s.w % 8 = 7 then 1 + s.w / 8 % 2 else 0, 0, 0, 0⟩ := if_neg (by rw [h]; decide)
theorem labsS_get (s : Sm) (k i : Nat) (p : Pr) (h : (labsS s k)[i]? = some p) : p.1.size = 1 ∧ p.2.size = 1 := by
 unfold labsS at h
 rw [List.getElem?_map] at h
 obtain ⟨j, _, rfl⟩ := Option.map_eq_some_iff.1 h
 exact labS_size s j
theorem ruleI_size (s : Sm) : (if s.w % 8 = 7 then ownX else ruleS s.r).size ≤ 100 := by
 split
 ·decide
 ·exact ruleS_size s.r
theorem smallI_ok (s : Sm) (hs : OkS s) : OkI (smallI s) := by
 have a1 := hs.q
 have a2 := hs.m
 have a3 := hs.t
 have a4 := hs.v
 have a5 := ruleI_size s
 cases hg : s.g with
 | true =>
   rw [smallI_gap s hg]
   exact ⟨by simp, by simp, by simp, (show (⟨#[]⟩ : ByteArray).size ≤ _ by decide), (fun i p h => by simp at h), by simp, by simp, by simp, by simp, by simp, by simp only; omega, by simp only; omega, by simp only; omega⟩
 | false =>
   rw [smallI_ev s hg]
   exact ⟨by simp only; omega, by simp only; omega, by simp only; omega, by simp only; unfold maxLen; omega, fun i p h => by
     obtain ⟨h1, h2⟩ := labsS_get s _ i p h
     rw [h1, h2]; decide, by simp only; split <;> decide, by simp only; omega, by simp only; omega, by simp only; omega, by simp only; split <;> omega, by simp, by simp, by simp⟩
theorem smallI_short (s : Sm) : ShortI (smallI s) := by
 have a5 := ruleI_size s
 cases hg : s.g with
 | true =>
   rw [smallI_gap s hg]
   exact ⟨(show (⟨#[]⟩ : ByteArray).size ≤ _ by decide), fun i p h => by simp at h⟩
 | false =>
   rw [smallI_ev s hg]
   exact ⟨by simp only; omega, fun i p h => by
    obtain ⟨h1, h2⟩ := labsS_get s _ i p h
    rw [h1, h2]; decide⟩
theorem smallI_labs (s : Sm) : (smallI s).l.length ≤ 3 := by
 cases hg : s.g with
 | true => rw [smallI_gap s hg]; simp
 | false =>
   rw [smallI_ev s hg]
   simp only [labsS_length]
   omega
theorem labsS_len (s : Sm) (k : Nat) : (labsB (labsS s k)).length = 4 * k := by
 induction k with
 | zero => rfl
 | succ k ih =>
   rw [labsS_succ, labsB_append, List.length_append, ih]
   have h1 : leb 1 = [1] := leb_lt (by decide)
   have h2 : (textB (labS s k).1).length = 2 := by rw [textB_length, (labS_size s k).1, h1]; rfl
   have h3 : (textB (labS s k).2).length = 2 := by rw [textB_length, (labS_size s k).2, h1]; rfl
   simp only [labsB, List.length_append, h2, h3, List.length_nil]
   omega
end Go.Proofs.YtholdcgkhicdmaaGreatDoor