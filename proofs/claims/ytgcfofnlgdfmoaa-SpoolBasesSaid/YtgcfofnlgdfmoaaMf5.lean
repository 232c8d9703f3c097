/- Several texts in one: ItOf, Bcl, Held. -/
import Derived.Laws.Rows
import Derived.Laws.Tables
import Derived.Laws.CopyOwn
import Derived.Deep.DeepCutAuto
import Derived.Test.YtgcfofnlgdfmoaaChecked
import Derived.WalkKit
import Derived.WalkSpells
import Derived.Lib.AppendZeros
import Derived.Lib.SliceRun
import Derived.Laws.IdiomStrings
import Derived.Deep.RegionHeld3
import Derived.Test.YtgcfofnlgdfmoaaMf3
import Derived.Test.YtgcfofnlgdfmoaaMf4
/- Layer 4: item.Of, item.Clone. -/
namespace Go.Proofs.Ytgcfofnlgdfmoaa
open Go.RowKit

theorem own_setRow {W : World} {base : Nat} {e : TypeId} {size n g : Nat} {v : Value} {xs : List Value} (h : W.ownsRow base e size v n xs) (hg : g < base) (cs : Array Value) : (W.setRow g cs).ownsRow base e size v n xs := by
  refine ⟨h.1, ?_⟩
  rcases h.2 with hn | ⟨k, cap, cur, rfl, hb, hgg, rest⟩
  · exact .inl hn
  · exact .inr ⟨k, cap, cur, rfl, hb, (setRow_other W g k cs (by omega)).trans hgg, rest⟩
theorem Try.infoI : (Try.prog.info? 60).map (·.size) = some 13 := by kernel_rfl

set_option maxRecDepth 100000 in
set_option maxHeartbeats 1000000 in
theorem of_any (o q t : Int) (r : ByteArray) (A : Option Addr) (n c : Nat) (l : List Pr) (st p v ow : Int) (w : World) (hn : n = l.length) (hA : A = none → n = 0) (hm : n * 32 ≤ 140737488351232) (hr : RdP w w.heap.size A l) :
    Calls Try.prog 46 #[.agg #[.int .u8 o, .int .u64 q, .int .u64 t, .string r, .slice A n c, .int .u8 st, .int .u8 p, .int .i64 v, .int .u8 ow]] w fun e w' => ∃ L, e = .returned (.agg #[.bool false, .int .u8 o, .int .u64 q, .int .u64 t, .string r, L, .int .u8 st, .int .u8 p, .int .i64 v, .int .u8 ow, .int .u8 0, .int .u64 0, .int .u64 0]) ∧ w'.ownsRow w.heap.size 151 2 L n (cellsP l) ∧ Below w.heap.size w w' := by
  obtain ⟨W, hW⟩ : ∃ W, W = ((w.alloc (.cells #[.int .u8 o, .int .u64 q, .int .u64 t, .string r, .slice A n c, .int .u8 st, .int .u8 p, .int .i64 v, .int .u8 ow] 56)).alloc (.cells #[.bool false, .int .u8 0, .int .u64 0, .int .u64 0, .string ⟨#[]⟩, .slice none 0 0, .int .u8 0, .int .u8 0, .int .i64 0, .int .u8 0, .int .u8 0, .int .u64 0, .int .u64 0] 60)) := ⟨_, rfl⟩
  have hb : Below w.heap.size w W := by rw [hW]; exact ((Below.refl _ _).alloc (Nat.le_refl _) _).alloc (by simp) _
  have hz : W.heap.size = w.heap.size + 2 := by rw [hW]; simp
  have h0 : W.heap[w.heap.size]? = some (.cells #[.int .u8 o, .int .u64 q, .int .u64 t, .string r, .slice A n c, .int .u8 st, .int .u8 p, .int .i64 v, .int .u8 ow] 56 (0, 0)) := by rw [hW]; exact heap_alloc2_old _ _ _
  have h1 : W.heap[w.heap.size + 1]? = some (.cells #[.bool false, .int .u8 0, .int .u64 0, .int .u64 0, .string ⟨#[]⟩, .slice none 0 0, .int .u8 0, .int .u8 0, .int .i64 0, .int .u8 0, .int .u8 0, .int .u64 0, .int .u64 0] 60 (0, 0)) := by rw [hW]; exact heap_alloc2_new _ _ _
  have hc := clone_any A n c l W hn hA hm ((hr.below hb).more (by omega))
  have c4 : W.cell? ⟨w.heap.size, 4, none⟩ = some (.slice A n c) := cell_of_row _ _ 4 _ _ _ h0
  have HC := Lib.hid hc
  have HB := Lib.hid hb
  have HZ := Lib.hid hz
  have H0 := Lib.hid h0
  have H1 := Lib.hid h1
  have HW := Lib.hid hW
  clear hn hA hr hb hz h0 h1 hc hW
  go_enter Try.func46, Try.ntmps46
  go_upto_region 1 with fail
  rw [← HW.out]
  go_wp2_with fail
  refine HC.out.mono ?_
  rintro e w1 ⟨L, rfl, ho, hb⟩
  obtain ⟨A2, c2, rfl⟩ := own_slice ho
  have hz := HZ.out
  have g0 := (hb.block w.heap.size (by omega)).trans H0.out
  have g1 := (hb.block (w.heap.size + 1) (by omega)).trans H1.out
  have hs := hb.size
  have G1 := Lib.hid ((heap_setCell_other w1 ⟨w.heap.size, 4, none⟩ (w.heap.size + 1) (.slice A2 n c2) (by simp)).trans g1)
  have G0 := Lib.hid (heap_setCell_same w1 w.heap.size 4 _ _ (.slice A2 n c2) g0)
  have d4 := cell_of_row _ _ 4 _ _ _ g0
  have f4 := frozen_of_row _ _ 4 _ _ g0
  simp at d4
  have HO := Lib.hid ho
  have HB1 := Lib.hid (HB.out.trans (hb.mono (by omega)))
  clear g0 g1 ho hb c4 hz hs
  go_wp2_with (first
    | (refine wpList_load_row rfl _ _ rfl w.heap.size rfl _ _ _ _ G0.out Try.underlying56 rfl (by kernel_rfl) ?_)
    | (refine wpList_store_row rfl _ _ _ rfl (w.heap.size + 1) _ rfl rfl _ _ G1.out Try.infoI rfl (by simp [Value.oneCell']) ?_))
  refine bodyPost_ret (v := .agg #[.bool false, .int .u8 o, .int .u64 q, .int .u64 t, .string r, .slice A2 n c2, .int .u8 st, .int .u8 p, .int .i64 v, .int .u8 ow, .int .u8 0, .int .u64 0, .int .u64 0]) ?_ rfl ⟨_, rfl, ?_, ?_⟩
  · exact results_cell_row rfl _ _ (w.heap.size + 1) _ _ _ _ rfl (setRow_heap _ _ _ _ _ _ G1.out) Try.underlying60 rfl (by kernel_rfl)
  · exact ownB_mono (own_setRow (ownsRow_setCell_below HO.out (by have := HZ.out; simp; omega) _) (by have := HZ.out; omega) _) (by have := HZ.out; omega)
  · exact below_setRow (HB1.out.setCell (p := ⟨w.heap.size, 4, none⟩) (Nat.le_refl _) _) (by omega) _
end Go.Proofs.Ytgcfofnlgdfmoaa
/- bytes.Clone; bytes as a text. -/
namespace Go.Proofs.Ytgcfofnlgdfmoaa
open Go.RowKit

theorem Try.infoB : (Try.prog.info? 5).map (fun i => (i.zero, i.size, i.bytes)) = some (some (.int .u8 0), 1, 1) := by kernel_rfl
set_option maxRecDepth 100000 in
set_option maxHeartbeats 400000 in
theorem bclone_any (A : Option Addr) (n c : Nat) (l : List Nat) (w : World) (B : Nat) (hn : n = l.length) (hA : A = none → n = 0) (hm : n ≤ 140737488351232) (hr : RdB w B A l) (hB : B ≤ w.heap.size) :
    Calls Try.prog 87 #[.slice A n c] w fun e w' => ∃ v, e = .returned v ∧ w'.ownsRow w.heap.size 5 1 v n (cellsB l) ∧ Below w.heap.size w w' := by
  obtain ⟨i0, hi, hz0, hz1, hz2⟩ := info_parts Try.infoB
  have q22 : ∀ (w : World) (a : Option Addr) (n c n' c' : Nat), (binOp .eql 37 (.slice a n c) (.slice none n' c')).run Try.prog w = .ok (.bool a.isNone) w := fun w a n c n' c' => Lib.run_eql_slice_nil w _ _ a n c n' c' Try.underlying37
  cases A with
  | none =>
    obtain rfl := hA rfl
    obtain rfl : l = [] := List.eq_nil_of_length_eq_zero hn.symm
    clear hm hn hA hr
    go_enter Try.func87, Try.ntmps87
    go_wp2
    go_ret
    exact ⟨_, rfl, World.ownsRow_nil _ _ _ _, Below.refl _ _⟩
  | some a =>
    have hs1 : Src (w.alloc (.cells #[] 5)) (some a) n 1 (cellsB l) := src_of_rdB (hr.below (((Below.refl _ w).alloc (Nat.le_refl _) _).mono hB)) hn
    have HS := Lib.hid hs1
    have Hm := Lib.hid hm
    clear hs1 hr hA hn hm
    go_enter Try.func87, Try.ntmps87
    go_wp2_with (at_builtin; refine wpList_append_src (base := w.heap.size) rfl _ _ rfl Try.underlying37 hi hz0 hz1 hz2 rfl (by decide) rfl (World.ownsRow_made _ #[] 0 (Nat.le_refl _) (Nat.zero_le _) rfl) rfl HS.out (cellsB_one _) (by have := Hm.out; unfold maxLen; omega) (by have := Hm.out; omega) (by simp) ?_; intro v1 w1 hr1 hg1 hb1; replace hb1 : Below w.heap.size w w1 := ((Below.refl _ w).alloc (Nat.le_refl _) _).grown hg1 (by simp) (fun q hq => by cases hq; exact Nat.le_refl _); replace hr1 := Lib.hid hr1; clear hg1)
    go_ret
    have h := hr1.out
    rw [Nat.zero_add, List.nil_append] at h
    exact ⟨_, rfl, h, hb1⟩

theorem conv_any {w : World} {B : Nat} {A : Option Addr} {n c : Nat} {l : List Nat} (hr : RdB w B A l) (hn : n = l.length) (hA : A = none → n = 0) :
    (convert 37 9 (.slice A n c)).run Try.prog w = .ok (.string (strB l)) w := by
  rw [run_convert_bytes_string w _ _ _ _ _ _ Try.underlying37 Try.underlying5 Try.underlying9]
  cases A with
  | none =>
    obtain rfl := hA rfl
    obtain rfl : l = [] := List.eq_nil_of_length_eq_zero hn.symm
    rfl
  | some a =>
    have hl := run_loadCells_list (P := Try.prog) w a ((l.map (fun x : Nat => (x : Int))).map (Value.int .u8)) (fun j v hj => by
      have hjl : j < l.length := by have := (List.getElem?_eq_some_iff.1 hj).1; simpa using this
      obtain ⟨b, o, e, _, hc⟩ := hr (by omega)
      injection e with e
      subst e
      rw [Addr.add_lit, hc j _ (List.getElem?_eq_getElem hjl), ← hj]
      simp [List.getElem?_eq_getElem hjl])
    rw [List.length_map, List.length_map, ← hn] at hl
    rw [run_bytesToString w a n c _ hl, foldl_push_ints]
    have he0 : ByteArray.empty.data = #[] := rfl
    rw [he0]
    simp [strB]
end Go.Proofs.Ytgcfofnlgdfmoaa
/- A region that draws its order, walked under one condition on the world: the laws of Derived/OrdersHeld.lean with the operation read out of the list. No program is named here. -/
namespace Go.Proofs.Ytgcfofnlgdfmoaa

section
variable {P : Program} {md : Region.Mode} {ops : Array Oper} {Q : Exit → Act → World → Prop} {S : World → Prop}

theorem heldTake {i : Nat} {oi : Oper} {v : Value} {fuel : Nat} {listed : Array Bool} {a : Act} {w : World} (hi : ops.toList[i]? = some oi)
    (hs : Region.noSelect ops = true) (hf : Region.free md ops listed i = true) (hr : (Region.ready md ops listed).contains i = true)
    (hQ : ∀ c a w, Q (.panic c) (a.put oi.dst v) w → Q (.panic c) a w) (hy : YieldsIf P ops S oi v a) (hS : S w)
    (h : wpAnyH P md ops Q S fuel (listed.setIfInBounds i true) (a.put oi.dst v) w) : wpAnyH P md ops Q S (fuel + 1) listed a w :=
  wpAnyH_take (by rw [← Array.getElem?_toList]; exact hi) hs hf hr hQ hy hS h

theorem heldOne {i : Nat} {o : Oper} {fuel : Nat} {listed : Array Bool} {a : Act} {w : World} (ho : ops.toList[i]? = some o) (hr : Region.ready md ops listed = [i])
    (h : ∀ K' : Act → World → Prop, Shut (∀ a w, S w → (S w → wpAnyH P md ops Q S fuel (listed.setIfInBounds i true) a w) → K' a w) → if Region.wanted o (yielded ops a.tmps) = true then Oper.wp P o a w K' Q else K' (a.put o.dst undef) w) :
    wpAnyH P md ops Q S (fuel + 1) listed a w :=
  wpAnyH_ready hr (by simp) (AllReadyH.cons (by rw [← Array.getElem?_toList]; exact ho) h AllReadyH.nil)

theorem heldTwo {i j : Nat} {o o' : Oper} {fuel : Nat} {listed : Array Bool} {a : Act} {w : World} (ho : ops.toList[i]? = some o) (ho' : ops.toList[j]? = some o') (hr : Region.ready md ops listed = [i, j])
    (h : ∀ K' : Act → World → Prop, Shut (∀ a w, S w → (S w → wpAnyH P md ops Q S fuel (listed.setIfInBounds i true) a w) → K' a w) → if Region.wanted o (yielded ops a.tmps) = true then Oper.wp P o a w K' Q else K' (a.put o.dst undef) w)
    (h' : ∀ K' : Act → World → Prop, Shut (∀ a w, S w → (S w → wpAnyH P md ops Q S fuel (listed.setIfInBounds j true) a w) → K' a w) → if Region.wanted o' (yielded ops a.tmps) = true then Oper.wp P o' a w K' Q else K' (a.put o'.dst undef) w) :
    wpAnyH P md ops Q S (fuel + 1) listed a w :=
  wpAnyH_ready hr (by simp) (AllReadyH.cons (by rw [← Array.getElem?_toList]; exact ho) h (AllReadyH.cons (by rw [← Array.getElem?_toList]; exact ho') h' AllReadyH.nil))

theorem heldThree {i j k : Nat} {o o' o2 : Oper} {fuel : Nat} {listed : Array Bool} {a : Act} {w : World} (ho : ops.toList[i]? = some o) (ho' : ops.toList[j]? = some o') (ho2 : ops.toList[k]? = some o2) (hr : Region.ready md ops listed = [i, j, k])
    (h : ∀ K' : Act → World → Prop, Shut (∀ a w, S w → (S w → wpAnyH P md ops Q S fuel (listed.setIfInBounds i true) a w) → K' a w) → if Region.wanted o (yielded ops a.tmps) = true then Oper.wp P o a w K' Q else K' (a.put o.dst undef) w)
    (h' : ∀ K' : Act → World → Prop, Shut (∀ a w, S w → (S w → wpAnyH P md ops Q S fuel (listed.setIfInBounds j true) a w) → K' a w) → if Region.wanted o' (yielded ops a.tmps) = true then Oper.wp P o' a w K' Q else K' (a.put o'.dst undef) w)
    (h2 : ∀ K' : Act → World → Prop, Shut (∀ a w, S w → (S w → wpAnyH P md ops Q S fuel (listed.setIfInBounds k true) a w) → K' a w) → if Region.wanted o2 (yielded ops a.tmps) = true then Oper.wp P o2 a w K' Q else K' (a.put o2.dst undef) w) :
    wpAnyH P md ops Q S (fuel + 1) listed a w :=
  wpAnyH_ready hr (by simp) (AllReadyH.cons (by rw [← Array.getElem?_toList]; exact ho) h (AllReadyH.cons (by rw [← Array.getElem?_toList]; exact ho') h' (AllReadyH.cons (by rw [← Array.getElem?_toList]; exact ho2) h2 AllReadyH.nil)))

/-- the condition on the world may be turned into one that says more, wherever it holds -/
theorem heldMore {S2 : World → Prop} (himp : ∀ w, S2 w → S w) : ∀ {fuel : Nat} {listed : Array Bool} {a : Act} {w : World}, wpAnyH P md ops Q S2 fuel listed a w → wpAnyH P md ops Q S fuel listed a w
  | 0, _, _, _, h => h
  | _ + 1, _, _, _, h => ⟨h.1, fun i hi => wpOp_mono (fun _ _ h' => ⟨himp _ h'.1, heldMore himp h'.2⟩) (h.2 i hi)⟩

theorem heldPut (l : List Value) (ds : List Deferred) (d : Nat) (v : Value) : Act.put { tmps := l.toArray, defers := ds } (some d) v = { tmps := (l.set d v).toArray, defers := ds } := by
  simp [Act.put]
end
end Go.Proofs.Ytgcfofnlgdfmoaa
