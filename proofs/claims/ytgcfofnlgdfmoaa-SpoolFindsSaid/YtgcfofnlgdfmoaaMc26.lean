/- Several texts in one: SpLoop. -/
import Derived.Test.YtgcfofnlgdfmoaaMc25
/- Layer 8: the sizes of entries; the first of the least; the nearest of an origin. -/
namespace Go.Proofs.Ytgcfofnlgdfmoaa
open Go.RowKit

/-- entries at A, of a row from entry lo on -/
def RdE (w : World) (A : Option Addr) (L : List Ett) : Prop :=
  0 < L.length → ∃ b o, A = some ⟨b, o, none⟩ ∧ b < w.heap.size ∧ ∀ (k : Nat) e, L[k]? = some e → w.rangeAt b (o + k * 14) (entC e) ∧ w.rangeAt b (o + k * 14 + 1) (itC e.x e.A e.c)
def OkE (w : World) (L : List Ett) : Prop := ∀ e ∈ L, EntOk w (fun _ => False) e
theorem rangeAt_below {w w' : World} {b o : Nat} {cs : List Value} (h : w.rangeAt b o cs) (hb : b < w.heap.size) (hw : Below w.heap.size w w') : w'.rangeAt b o cs := fun j v hv => (hw.cell (p := ⟨b, o + j, none⟩) hb).trans (h j v hv)
theorem RdE.below {w w' : World} {A : Option Addr} {L : List Ett} (h : RdE w A L) (hb : Below w.heap.size w w') : RdE w' A L := fun h0 => by
  obtain ⟨b, o, e, hl, hc⟩ := h h0
  exact ⟨b, o, e, Nat.lt_of_lt_of_le hl hb.size, fun k x hx => ⟨rangeAt_below (hc k x hx).1 hl hb, rangeAt_below (hc k x hx).2 hl hb⟩⟩
theorem OkE.below {w w' : World} {L : List Ett} (h : OkE w L) (hb : Below w.heap.size w w') : OkE w' L := fun e he => (h e he).below hb

theorem act_put_no (a : Act) (v : Value) : a.put none v = a := rfl
theorem rangeAt_row {w : World} {g : Nat} {cs : List Value} {t : TypeId} {fr : Nat × Nat} (h : w.heap[g]? = some (.cells cs.toArray t fr)) (o : Nat) : w.rangeAt g o (cs.drop o) := fun j v hv => by
  rw [List.getElem?_drop] at hv
  simp [World.cell?, h, hv]
/-- a variable of the loop's own, which holds an entry -/
theorem boxE (W : World) (Z : Array Value) (e : Ett) : ∃ V, V = (W.alloc (.cells Z 68)).setRow W.heap.size (entC e).toArray ∧ V.heap[W.heap.size]? = some (.cells (entC e).toArray 68 (0, 0)) ∧ Below W.heap.size W V ∧
    V.rangeAt W.heap.size 1 (itC e.x e.A e.c) ∧ W.heap.size < V.heap.size := by
  have h := setRow_heap (W.alloc (.cells Z 68)) W.heap.size Z (entC e).toArray _ _ (heap_alloc_new _ _)
  refine ⟨_, rfl, h, below_setRow ((Below.refl _ _).alloc (Nat.le_refl _) _) (Nat.le_refl _) _, rangeAt_row h 1, (Array.getElem?_eq_some_iff.1 h).1⟩

set_option maxRecDepth 100000 in
set_option maxHeartbeats 1000000 in
theorem sizes_any (A : Option Addr) (n c : Nat) (L : List Ett) (w : World) (hn : n = L.length) (hm : n ≤ 100000) (hr : RdE w A L) (hok : OkE w L) :
    Calls Try.prog 61 #[.slice A n c] w fun e w' => e = .returned (.int .i64 (sumE L)) ∧ Below w.heap.size w w' := by
  have HN := Lib.hid hn
  have HR := Lib.hid hr
  have HO := Lib.hid hok
  clear hn hr hok
  go_enter Try.func61, Try.ntmps61
  go_wp2
  go_loopw [3, 8] (fun nv iv wx => ∃ k : Nat, k ≤ n ∧ iv = .int .i64 k ∧ nv = .int .i64 ((sumE (L.take k) : Nat) : Int) ∧ Hid (Below w.heap.size w wx)) (fun _ iv _ => n - (intOf iv).toNat)
  case atStart => exact ⟨0, Nat.zero_le _, rfl, rfl, Below.refl _ _⟩
  case round =>
    obtain ⟨k, hk, rfl, rfl, HB⟩ := hrel
    by_cases hlt : k < n
    · obtain ⟨e, he⟩ : ∃ e, L[k]? = some e := ⟨L[k]'(by rw [← HN.out]; exact hlt), List.getElem?_eq_getElem _⟩
      obtain ⟨b, o, rfl, hb, hc⟩ := HR.out (by rw [← HN.out]; omega)
      have hrg := rangeAt_below (hc k e he).1 hb HB.out
      have hq := (HO.out e (List.mem_iff_getElem?.2 ⟨k, he⟩)).below HB.out
      have He := Lib.hid he
      have HQ := Lib.hid hq
      clear hc he hq
      go_upto_region 5 with (first
        | (refine wpList_load_mid rfl _ _ rfl b (o + k * 14) rfl (entC e) _ hrg Try.underlying68 rfl Try.infoEn ?_)
        | (refine wpList_store_row rfl _ _ _ rfl wr.heap.size _ rfl rfl _ _ (heap_alloc_new _ _) Try.infoEn rfl (by simp [Value.oneCell', entC, itC]) ?_)
        | fail)
      obtain ⟨V, hV, -, hbV, hrV, -⟩ := boxE wr _ e
      rw [← hV, act_put_no]
      have hq2 := HQ.out.below hbV
      have HB2 := Lib.hid (HB.out.trans (hbV.mono HB.out.size))
      have hT := size_any e.x e.A e.x.l.length e.c hq2.ok hq2.sh rfl (by have := hq2.ln; omega) V (by have := hq2.lb; omega) hq2.rd
      have HT := Lib.hid hT
      have hs1 : sumE (L.take (k + 1)) = sumE (L.take k) + (itemB e.x).length := by
        rw [List.take_add_one, He.out, sumE_append]
        simp [sumE]
      have hs2 : sumE (L.take k) ≤ 100000 * k := by
        have := sumE_bound (L := L.take k) fun x hx => (HO.out x (List.mem_of_mem_take hx)).lb
        rw [List.length_take] at this
        omega
      obtain ⟨s0, hs0⟩ : ∃ s0, s0 = sumE (L.take k) := ⟨_, rfl⟩
      obtain ⟨z, hz⟩ : ∃ z, z = (itemB e.x).length := ⟨_, rfl⟩
      have hz2 := hq2.lb
      rw [← hs0] at hs1 hs2 ⊢
      rw [← hz] at hs1 hz2 HT
      have Hs1 := Lib.hid hs1
      have hw : IntKind.i64.wrap ((s0 : Int) + (z : Int)) = ((s0 + z : Nat) : Int) := by rw [IntKind.wrap_i64]; omega
      clear hV hbV hq2 hT hs0 hz hrg HQ HB hs1
      go_wp2_with (first | (refine wpList_load_mid rfl _ _ rfl wr.heap.size 1 rfl (itC e.x e.A e.c) _ hrV Try.underlying60 rfl Try.infoIt ?_) | fail)
      refine HT.out.mono ?_
      rintro e' w4 ⟨rfl, hb4⟩
      have HB4 := Lib.hid (HB2.out.trans (hb4.mono HB2.out.size))
      clear hb4 hrV HT
      go_wp2
      go_roundw
      case rel => exact ⟨k + 1, by omega, by go_num, by rw [Hs1.out, Int.natCast_add], HB4.out⟩
      case measure => simp [intOf]; omega
    · obtain rfl : k = n := by omega
      rw [List.take_of_length_le (by rw [← HN.out]; exact Nat.le_refl _)]
      go_wp2
      go_ret
      exact ⟨rfl, HB.out⟩
end Go.Proofs.Ytgcfofnlgdfmoaa
