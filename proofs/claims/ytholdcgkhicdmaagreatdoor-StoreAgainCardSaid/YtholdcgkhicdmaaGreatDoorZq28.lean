/- Several texts in one: StDel. -/
import Derived.Test.YtholdcgkhicdmaaGreatDoorZq27
namespace Go.Proofs.YtholdcgkhicdmaaGreatDoor
open Go.RowKit
theorem cellsV_set {L : List Ett} {p : Nat} (e : Ett) (hp : p < L.length) : putL (cellsV L) (p * 9) (evC e) = cellsV (L.set p e) := by
 have h : L = L.take p ++ (L[p] :: L.drop (p + 1)) := by rw [← List.drop_eq_getElem_cons hp, List.take_append_drop]
 have hs : L.set p e = L.take p ++ (e :: L.drop (p + 1)) := by
  rw [List.set_eq_take_append_cons_drop, if_pos hp]
 have h1 : cellsV L = cellsV (L.take p) ++ (evC L[p] ++ cellsV (L.drop (p + 1))) := by
  conv => lhs; rw [h]
  rw [cellsV_append, cellsV_cons]
 rw [h1, hs, cellsV_append, cellsV_cons]
 have hl : (cellsV (L.take p)).length = p * 9 := by rw [cellsV_length, List.length_take]; congr 1; omega
 rw [← hl]
 exact putL_mid _ _ _ _ rfl
theorem own_take9 {w : World} {base : Nat} {e : TypeId} {g n c k : Nat} {xs : List Value} (h : w.ownsRow base e 9 (.slice (some ⟨g, 0, none⟩) n c) n xs) (hk : k ≤ n) : w.ownsRow base e 9 (.slice (some ⟨g, 0, none⟩) k c) k (xs.take (k * 9)) := by
 refine ⟨by rw [List.length_take, h.1]; omega, ?_⟩
 rcases h.2 with ⟨e1, _⟩ | ⟨g', cap, cur, e1, h1, h2, h3, h4, h5, h6⟩
 ·injection e1 with e1; cases e1
 ·injection e1 with e1 e2 e3
  subst e3
  refine .inr ⟨g', c, cur, by rw [e1], h1, h2, by omega, h4, h5, ?_⟩
  rw [← h6, List.take_take, Nat.min_eq_left (by omega)]
theorem own_there9 {w : World} {base : Nat} {e : TypeId} {g n c : Nat} {xs : List Value} (h : w.ownsRow base e 9 (.slice (some ⟨g, 0, none⟩) n c) n xs) {i k : Nat} (hi : i + k ≤ c * 9) : w.there g i k := fun j hj => by
 rcases h.2 with ⟨e1, _⟩ | ⟨g', cap, cur, e1, h1, h2, h3, h4, h5, h6⟩
 ·injection e1 with e1; cases e1
 ·injection e1 with e1 e2 e3
  injection e1 with e1
  have e1 : g = g' := congrArg Addr.block e1
  subst e1
  subst e3
  refine ⟨?_, by simp [World.frozen?, h2]⟩
  rw [cell_of_row w g (i + j) cur e (0, 0) h2]
  rw [Array.getElem?_eq_getElem (by omega)]
  rfl
theorem own_cap9 {w : World} {base : Nat} {e : TypeId} {A : Option Addr} {n c : Nat} {xs : List Value} (h : w.ownsRow base e 9 (.slice A n c) n xs) : n ≤ c ∧ c ≤ maxLen := by
 rcases h.2 with ⟨e1, _⟩ | ⟨g', cap, cur, e1, h1, h2, h3, h4, h5, h6⟩
 ·injection e1 with e1 e2 e3
  subst e2; subst e3
  exact ⟨Nat.le_refl _, Nat.zero_le _⟩
 ·injection e1 with e1 e2 e3
  subst e3
  exact ⟨h3, h4⟩
theorem putL_take : ∀ (vs xs : List Value) (i : Nat), (putL xs i vs).take i = xs.take i
 | [], _, _ => rfl
 | v :: vs, xs, i => by
   rw [putL]
   have h := congrArg (List.take i) (putL_take vs (xs.set i v) (i + 1))
   rw [List.take_take, List.take_take, Nat.min_eq_left (Nat.le_succ i)] at h
   rw [h, List.take_set_of_le (Nat.le_refl _)]
theorem huV : Tryz.prog.underlying 78 = some (.slice (Tryz.prog.elem 78)) := by kernel_rfl
theorem sizeOfV (w : World) : (sizeOf (Tryz.prog.elem 78)).run Tryz.prog w = .ok 9 w := by kernel_rfl
def subV (b c lo : Nat) : Addr := if c = lo then ⟨b, 0, none⟩ else ⟨b, lo * 9, none⟩
theorem slV_l (b n c lo : Nat) (h1 : lo ≤ n) (w : World) :
  (Instr.sliceAt 78 (.slice (some ⟨b, 0, none⟩) n c) (some (.int .i64 lo)) none none).run Tryz.prog w = .ok (.slice (some (subV b c lo)) (n - lo) (c - lo)) w := by
 rw [run_sliceAt_slice _ _ _ _ _ _ huV, run_slice_l _ _ _ _ _ huV .i64 (lo : Int) (by omega) (by omega), sizeOfV]
 simp [Result.andThen, sliced, subV, Addr.add]
 split
 ·rfl
 ·split <;> simp_all
theorem slV_h (A : Option Addr) (n c hi : Nat) (h2 : hi ≤ c) (w : World) :
  (Instr.sliceAt 78 (.slice A n c) none (some (.int .i64 hi)) none).run Tryz.prog w = .ok (.slice A hi c) w := by
 rw [run_sliceAt_slice _ _ _ _ _ _ huV, run_slice_h _ _ _ _ _ huV .i64 (hi : Int) (by omega) (by omega), sizeOfV]
 cases A <;> simp [Result.andThen, sliced, Addr.add]
def zeroV9 : Value := .agg #[.int .u8 0, .int .u64 0, .int .u64 0, .string ⟨#[]⟩, .slice none 0 0, .int .u8 0, .int .u8 0, .int .i64 0, .int .u8 0]
theorem zeroV9_run (w : World) : (zeroValue (Tryz.prog.elem 78)).run Tryz.prog w = .ok zeroV9 w := by kernel_rfl
theorem run_clear_V (b o k c : Nat) (hk : 0 < k) (ty : TypeId) (w : World) (ht : w.there b o (k * 9)) :
  ∃ Z : List Value, Z.length = k * 9 ∧ (Builtin.clear_ #[78] ty #[.slice (some ⟨b, o, none⟩) k c]).run Tryz.prog w = .ok (.tuple #[]) (w.setCells b o Z) := by
 have hzl : (Builtin.zeroCells zeroV9.cells k).toList.length = k * 9 := by
  simp [Builtin.zeroCells, zeroV9, Value.cells]
 have h1 : ∀ v ∈ (Builtin.zeroCells zeroV9.cells k).toList, v.oneCell' = true := by
  intro v hv
  unfold Builtin.zeroCells at hv
  rw [Array.toList_map] at hv
  obtain ⟨i, _, rfl⟩ := List.mem_map.1 hv
  have hi : i % 9 < 9 := Nat.mod_lt _ (by decide)
  show (zeroV9.cells[i % 9]!).oneCell' = true
  generalize i % 9 = m at hi
  match m, hi with
  | 0, _ => rfl | 1, _ => rfl | 2, _ => rfl | 3, _ => rfl | 4, _ => rfl | 5, _ => rfl | 6, _ => rfl | 7, _ => rfl | 8, _ => rfl
  | m + 9, h => exact absurd h (by omega)
 have hst := run_storeCells_cells (P := Tryz.prog) b o (Builtin.zeroCells zeroV9.cells k).toList 0 w (fun j hj => by rw [hzl] at hj; simpa using (ht j hj).1) (fun j hj => by rw [hzl] at hj; simpa using (ht j hj).2) h1
 simp only [Nat.add_zero] at hst
 refine ⟨_, hzl, ?_⟩
 obtain ⟨m, rfl⟩ : ∃ m, k = m + 1 := ⟨k - 1, by omega⟩
 simp [Builtin.clear_, run_underlying huV, zeroV9_run, hst]
theorem boxV (W : World) (Z cs : Array Value) : ∃ V, V = (W.alloc (.cells Z 41)).setRow W.heap.size cs ∧ V.heap[W.heap.size]? = some (.cells cs 41 (0, 0)) ∧ Below W.heap.size W V ∧ W.heap.size < V.heap.size := by
 have h := setRow_heap (W.alloc (.cells Z 41)) W.heap.size Z cs _ _ (heap_alloc_new _ _)
 exact ⟨_, rfl, h, below_setRow ((Below.refl _ _).alloc (Nat.le_refl _) _) (Nat.le_refl _) _, (Array.getElem?_eq_some_iff.1 h).1⟩
structure Half9 (x : It) (L M : List Ett) (i j : Nat) : Prop where
 len : M.length = L.length
 ic : i = ((L.take j).filter (keepB x)).length
 low : M.take i = (L.take j).filter (keepB x)
 high : ∀ k, j ≤ k → M[k]? = L[k]?
 mem : ∀ e ∈ M, e ∈ L
 ij : i < j
theorem Half9.drop {x : It} {L M : List Ett} {i j : Nat} {e : Ett} (h : Half9 x L M i j) (he : L[j]? = some e) (ha : alertB e.x x = true) : Half9 x L M i (j + 1) := by
 have hk : (L.take (j + 1)).filter (keepB x) = (L.take j).filter (keepB x) := by
  rw [List.take_add_one, he, List.filter_append]
  simp [keepB, ha]
 exact ⟨h.len, by rw [hk]; exact h.ic, by rw [hk]; exact h.low, fun k hk2 => h.high k (by omega), h.mem, by have := h.ij; omega⟩
theorem Half9.keep {x : It} {L M : List Ett} {i j : Nat} {e : Ett} (h : Half9 x L M i j) (he : L[j]? = some e) (ha : alertB e.x x = false) : Half9 x L (M.set i e) (i + 1) (j + 1) := by
 have hij := h.ij
 have hjl := (List.getElem?_eq_some_iff.1 he).1
 have hk : (L.take (j + 1)).filter (keepB x) = (L.take j).filter (keepB x) ++ [e] := by
  rw [List.take_add_one, he, List.filter_append]
  simp [keepB, ha]
 refine ⟨by rw [List.length_set]; exact h.len, by rw [hk, List.length_append, ← h.ic]; rfl, ?_, fun k hk2 => ?_, fun y hy => ?_, by omega⟩
 ·rw [hk, ← h.low, List.take_add_one, List.getElem?_set_self (by rw [h.len]; omega), List.take_set_of_le (Nat.le_refl _)]
  rfl
 ·rw [List.getElem?_set_ne (by omega)]
  exact h.high k (by omega)
 ·rcases List.mem_or_eq_of_mem_set hy with h1 | rfl
  ·exact h.mem y h1
  ·exact List.mem_iff_getElem?.2 ⟨j, he⟩
theorem first_filter {x : It} {L : List Ett} {k : Nat} (h : firstV x L k) : (L.take k).filter (keepB x) = L.take k := by
 rw [List.filter_eq_self]
 intro e he
 obtain ⟨j, hj⟩ := List.mem_iff_getElem?.1 he
 have hjk : j < k := by
  have := (List.getElem?_eq_some_iff.1 hj).1
  rw [List.length_take] at this
  omega
 rw [List.getElem?_take_of_lt hjk] at hj
 simp [keepB, h j e hjk hj]
set_option maxRecDepth 100000 in
set_option maxHeartbeats 2000000 in
theorem deleteFunc_any (b p n c cx : Nat) (x : It) (A : Option Addr) (L : List Ett) (w : World) (hn : n = L.length) (hm : n ≤ 100000) (hr : Rows9 w b p x A cx L) (ho : w.ownsRow 0 41 9 (.slice (some ⟨b, 0, none⟩) n c) n (cellsV L)) :
  Calls Tryz.prog 79 #[.slice (some ⟨b, 0, none⟩) n c, .func (.func 80) #[] #[.pointer (some ⟨p, 0, none⟩)]] w fun r w' =>
   r = .returned (.slice (some ⟨b, 0, none⟩) (L.filter (keepB x)).length c) ∧ w'.ownsRow 0 41 9 (.slice (some ⟨b, 0, none⟩) (L.filter (keepB x)).length c) (L.filter (keepB x)).length (cellsV (L.filter (keepB x))) ∧ Only (fun k => k = b) w w' := by
 have hent := ent80
 have HN := Lib.hid hn
 have HR := Lib.hid hr
 have HO := Lib.hid ho
 have HI := Lib.hid (indexFunc_any b p n c cx x A L w hn hm hr ho)
 have hbl := (ho.lt b rfl).2
 obtain ⟨hcap, hcm⟩ := own_cap9 ho
 clear hn hr ho
 go_enter Tryz.func79, Tryz.ntmps79
 go_wp2_with fail
 refine HI.out.mono ?_
 rintro _ w1 ⟨hcase, hb1⟩
 have HB1 := Lib.hid hb1
 have HO1 : Hid (w1.ownsRow 0 41 9 (.slice (some ⟨b, 0, none⟩) n c) n (cellsV L)) := (Only.of_below hb1 (fun _ => False)).own HO.out (fun _ _ h => h)
 clear hb1 HI
 rcases hcase with ⟨rfl, hf⟩ | ⟨k, e, rfl, he, hal, hf⟩
 ·have hfl : L.filter (keepB x) = L := by
   have := first_filter hf
   rw [HN.out, List.take_length] at this
   exact this
  have HFL := Lib.hid hfl
  clear hf hfl
  go_wp2
  go_ret
  rw [HFL.out, ← HN.out]
  exact ⟨rfl, HO1.out, Only.of_below HB1.out _⟩
 ·have hkl := (List.getElem?_eq_some_iff.1 he).1
  rw [← HN.out] at hkl
  have hH : Half9 x L L k (k + 1) := by
   have h1 : (L.take (k + 1)).filter (keepB x) = L.take k := by
    rw [List.take_add_one, he, List.filter_append, first_filter hf]
    simp [keepB, hal]
   refine ⟨rfl, ?_, by rw [h1], fun _ _ => rfl, fun _ h => h, by omega⟩
   rw [h1, List.length_take, ← HN.out]
   omega
  have HH := Lib.hid hH
  have HR1 := Lib.hid (HR.out.below HB1.out)
  have hwk : IntKind.i64.wrap ((k : Int) + 1) = ((k + 1 : Nat) : Int) := by rw [IntKind.wrap_i64]; omega
  have d1 : ((k : Int) == -1) = false := by rw [beq_eq_false_iff_ne]; omega
  clear he hal hf hH
  go_upto_region 5 with fail
  go_loopw [5, 6] (fun iv jv wx => ∃ (i j : Nat) (M : List Ett), j ≤ n ∧ iv = .int .i64 i ∧ jv = .int .i64 j ∧ Hid (Half9 x L M i j) ∧ Hid (wx.ownsRow 0 41 9 (.slice (some ⟨b, 0, none⟩) n c) n (cellsV M)) ∧ Hid (Only (fun k => k = b) w wx)) (fun _ jv _ => n - (intOf jv).toNat)
  case atStart => exact ⟨k, k + 1, L, hkl, rfl, rfl, HH.out, HO1.out, Only.of_below HB1.out _⟩
  case round =>
   obtain ⟨i, j, M, hj, rfl, rfl, HH, HO2, HON⟩ := hrel
   have hij := HH.out.ij
   have hR := HR.out.only HON.out
   by_cases hlt : j < n
   ·obtain ⟨e, he⟩ : ∃ e, L[j]? = some e := ⟨L[j]'(by rw [← HN.out]; exact hlt), List.getElem?_eq_getElem _⟩
    have hem := List.mem_iff_getElem?.2 ⟨j, he⟩
    have heM : M[j]? = some e := by rw [HH.out.high j (Nat.le_refl _)]; exact he
    have HRG := Lib.hid (rangeV HO2.out heM)
    have hbl2 := (HO2.out.lt b rfl).2
    have HE := Lib.hid he
    have HRX := Lib.hid hR
    clear heM he hR
    go_upto_region 8 with (first
     | (refine wpList_load_mid rfl _ _ rfl b (j * 9) rfl (evC e) _ HRG.out Tryz.underlying41 rfl infoEvP ?_)
     | (refine wpList_store_row rfl _ _ _ rfl wr.heap.size (evC e).toArray rfl rfl _ _ (heap_alloc_new _ _) infoEvP rfl (by simp [Value.oneCell', evC]) ?_)
     | fail)
    obtain ⟨w2, hw2, hc2, hb2, hl2⟩ := boxV wr #[.int .u8 0, .int .u64 0, .int .u64 0, .string ⟨#[]⟩, .slice none 0 0, .int .u8 0, .int .u8 0, .int .i64 0, .int .u8 0] (evC e).toArray
    rw [← hw2]
    obtain ⟨g, hg⟩ : ∃ g, g = wr.heap.size := ⟨_, rfl⟩
    rw [← hg] at hc2 hl2 ⊢
    have hgb : b < g := by rw [hg]; exact hbl2
    have HC2 := Lib.hid hc2
    have HB2 := Lib.hid hb2
    have HG := Lib.hid hg
    have hr2 := HRX.out.below hb2
    have HCALL := Lib.hid (note1_any e x A cx p w2 (hr2.ln e hem) (hr2.re e hem) hr2.box hr2.rx)
    clear hw2 hc2 hb2 hr2 hg HRX
    go_wp2_with (first | (refine wpList_load_row rfl _ _ rfl g rfl _ _ _ _ HC2.out Tryz.underlying41 rfl infoEvP ?_) | fail)
    refine HCALL.out.mono ?_
    rintro _ w3 ⟨rfl, hb3⟩
    have HC3 := Lib.hid ((hb3.block g hl2).trans HC2.out)
    have hb23 := HB2.out.trans (hb3.mono HB2.out.size)
    have HO3 := Lib.hid ((Only.of_below hb23 (fun _ => False)).own HO2.out (fun _ _ h => h))
    have HON3 : Hid (Only (fun k => k = b) w w3) := HON.out.trans (Only.of_below hb23 (fun k => k = b)) (fun _ h => .inl h)
    have hl3 : g < w3.heap.size := Nat.lt_of_lt_of_le hl2 hb3.size
    clear hb3 hb23 HC2 HCALL hl2
    cases hal : alertB e.x x with
    | true =>
      have HH4 := Lib.hid (HH.out.drop HE.out hal)
      clear hal
      go_wp2
      go_roundw
      case rel => exact ⟨i, j + 1, M, by omega, by go_num, by go_num, HH4.out, HO3.out, HON3.out⟩
      case measure => simp [intOf]; omega
    | false =>
      have HH4 := Lib.hid (HH.out.keep HE.out hal)
      have hth : w3.there b (i * 9) 9 := own_there9 HO3.out (by omega)
      have hset := cellsV_set (L := M) (p := i) e (by rw [HH.out.len, ← HN.out]; omega)
      have ho4 := own_setCells (evC e) (i * 9) HO3.out
      rw [hset] at ho4
      have HO4 := Lib.hid ho4
      have HON4 : Hid (Only (fun k => k = b) w (w3.setCells b (i * 9) (evC e))) := HON3.out.trans (onlyCells (T := fun k => k = b) rfl _ _ _) (fun _ h => .inl h)
      have hw1 : IntKind.i64.wrap ((i : Int) + 1) = ((i + 1 : Nat) : Int) := by rw [IntKind.wrap_i64]; omega
      clear hal hset ho4
      go_upto_region 10 with (first
       | (refine wpList_load_row rfl _ _ rfl g rfl _ _ _ _ HC3.out Tryz.underlying41 rfl infoEvP ?_)
       | (refine wpList_store_mid rfl _ _ _ rfl b (i * 9) (evC e).toArray rfl rfl hth infoEvP (by simp [Value.oneCell', evC]) ?_)
       | fail)
      obtain ⟨w4, hw4⟩ : ∃ V, V = w3.setCells b (i * 9) (evC e) := ⟨_, rfl⟩
      rw [← hw4] at HO4 HON4
      rw [act_put_no, show w3.setCells b (i * 9) (evC e).toArray.toList = w4 from hw4.symm]
      clear hw4
      go_wp2
      go_roundw
      case rel => exact ⟨i + 1, j + 1, M.set i e, by omega, by go_num, by go_num, HH4.out, HO4.out, HON4.out⟩
      case measure => simp [intOf]; omega
   ·obtain rfl : j = n := by omega
    have hil : i < j := hij
    have hfin : (L.filter (keepB x)).length = i ∧ M.take i = L.filter (keepB x) := by
     have h1 := HH.out.ic
     have h2 := HH.out.low
     rw [HN.out, List.take_length] at h1 h2
     exact ⟨h1.symm, h2⟩
    have HFIN := Lib.hid hfin
    have hth : wr.there b (i * 9) ((j - i) * 9) := own_there9 HO2.out (by omega)
    obtain ⟨Z, hZ, hcl⟩ := run_clear_V b (i * 9) (j - i) (c - i) (by omega) 0 wr hth
    have hsub : subV b c i = ⟨b, i * 9, none⟩ := by unfold subV; rw [if_neg (by omega)]
    have e4 := slV_l b j c i (by omega) wr
    rw [hsub] at e4
    have e5 := slV_h (some ⟨b, 0, none⟩) j c i (by omega) (wr.setCells b (i * 9) Z)
    have hrow := own_take9 (own_setCells Z (i * 9) HO2.out) (k := i) (by omega)
    have HROW := Lib.hid hrow
    have HON4 : Hid (Only (fun k => k = b) w (wr.setCells b (i * 9) Z)) := HON.out.trans (onlyCells (T := fun k => k = b) rfl _ _ _) (fun _ h => .inl h)
    clear hfin hth hsub hrow
    go_wp2
    go_ret
    rw [HFIN.out.1]
    refine ⟨rfl, ?_, HON4.out⟩
    have hr := HROW.out
    rw [show (putL (cellsV M) (i * 9) Z).take (i * 9) = (cellsV M).take (i * 9) from putL_take _ _ _, ← cellsV_take, HFIN.out.2] at hr
    exact hr
end Go.Proofs.YtholdcgkhicdmaaGreatDoor