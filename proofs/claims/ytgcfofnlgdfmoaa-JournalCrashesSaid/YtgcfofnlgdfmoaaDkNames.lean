/- Layer 6: Names of a disk: the files' names in their order, whatever the order in which the map is walked. -/
import Derived.Test.YtgcfofnlgdfmoaaDkRead
import Derived.Test.YtgcfofnlgdfmoaaShelf
import Derived.Sort.KeysCollected
import Derived.Sort.OwnSorted
import Derived.Lib.OwnBridge
namespace Go.Proofs.Ytgcfofnlgdfmoaa
open Go.RowKit Go.Maps Go.Sort

/-- the shapes of the map's elements -/
structure Shp where
  a : Option Addr
  n : Nat
  c : Nat
  k : Int
def shapeF (c : Shp) : Value := fileV (.slice c.a c.n c.c) c.k
theorem shapeF_inv (v : Value) (y : DataW Value × List MemPlace) (h : rawR v = some y) : ∃ c, v = shapeF c := by
  obtain ⟨⟨a, n, c, k, rfl⟩, _⟩ := rawR_inv h
  exact ⟨⟨a, n, c, k⟩, rfl⟩
def nmB (E : Ents) : List (List UInt8) := E.map fun p => p.1.data.toList
theorem strKeys_datum (E : Ents) : strKeys (datum E) = nmB E := by
  simp [strKeys, datum, datE, nmB, strOf, Function.comp_def]
theorem nmB_sorted {E : Ents} (h : Rising E) : (nmB E).mergeSort leB = nmB E := by
  have tr : ∀ a b c : List UInt8, leB a b = true → leB b c = true → leB a c = true := fun a b c h1 h2 => by simp only [leB, decide_eq_true_eq] at *; exact List.le_trans h1 h2
  have to : ∀ a b : List UInt8, (leB a b || leB b a) = true := fun a b => by simp only [leB, Bool.or_eq_true, decide_eq_true_eq]; exact List.le_total a b
  refine List.mergeSort_of_pairwise ?_
  unfold nmB
  refine List.pairwise_map.2 (List.Pairwise.imp (fun {p q} hpq => ?_) h)
  rw [ltS_eq, decide_eq_true_eq] at hpq
  simp only [leB, decide_eq_true_eq]
  exact List.le_of_lt hpq

theorem Try.infoS : (Try.prog.info? 9).map (fun i => (i.zero, i.size, i.bytes)) = some (some (.string ⟨#[]⟩), 1, 16) := by kernel_rfl

set_option maxRecDepth 100000 in
set_option maxHeartbeats 1000000 in
theorem names_map {S : Nat → Prop} {g b : Nat} {E : Ents} {wr sy : Nat} (w : World) (h : DkM w S g (some b) E wr sy) :
    Calls Try.prog 12 #[.pointer (some ⟨g, 0, none⟩)] w fun e w' => ∃ v, e = .returned v ∧ w'.ownsRow w.heap.size 9 1 v E.length ((nmB E).map encStr) ∧ Below w.heap.size w w' := by
  obtain ⟨i0, hi, hz0, hz1, hz2⟩ := info_parts Try.infoS
  have hmp := h.mp
  rcases hmp with ⟨hmp, _⟩ | ⟨b', hmp, hb, hbg, hown⟩
  · cases hmp
  injection hmp with hmp
  subst hmp
  have c0 := h.c0
  have hgl := h.lt g h.gS
  have hbl := hown.lt
  have hfew := h.few
  have HR := Lib.hid h.rise
  clear h hb hbg
  go_enter Try.func12, Try.ntmps12
  go_wp2_with (at_range; refine wpList_range_own _ rfl _ 92 rfl 9 126 keyS Try.underlying92 _ b E.length _ rfl hown ?_; intro w0 hrg0 hg0 hs0)
  go_frame
  clear hs0
  go_loopw [3] (fun v wr => ∃ (left : Lit → Bool) (cnt : Nat) (ss : List (List UInt8)), Hid (wr.ranges Try.prog 9 rawR b w.heap.size E.length (datum E) left cnt) ∧ ss.length + cnt ≤ E.length ∧
      Hid (wr.ownsRow w.heap.size 9 1 v ss.length (ss.map encStr)) ∧ Hid (Collected (datum E) left ss) ∧ Hid (Below w.heap.size w wr) ∧ w.heap.size < wr.heap.size)
    (fun _ wr => wr.rangeLeft b w.heap.size)
  case atStart =>
    refine ⟨_, _, [], hrg0, by rw [datum_size]; simp, World.ownsRow_nil _ _ _ _, Collected.start _, (Below.refl _ _).grown hg0 (Nat.le_refl _) (fun j hj => by cases hj), hrg0.lt⟩
  case round =>
    obtain ⟨left, cnt, ss, hrg, hcs, hrow, hC, hnx, hsz⟩ := hrel
    go_wp2_with (first
      | (at_next; refine wpList_next_ranges _ rfl _ rfl 9 keyS rawR encStr shapeF (fun key kl hk => by obtain ⟨x, hx, _⟩ := Maps.keyOf_str Try.underlying9 hk; exact ⟨x, hx⟩) shapeF_inv b w.heap.size E.length _ _ _ rfl hrg.out ?_ ?_))
    · intro hc0 hl0
      have hp : ss.Perm (nmB E) := strKeys_datum E ▸ hC.out.perm hown keyS Try.underlying9 hl0
      have hlen : ss.length = E.length := by rw [hp.length_eq]; simp [nmB]
      have hsort : ss.mergeSort leB = nmB E := (mergeSort_of_perm hp).trans (nmB_sorted HR.out)
      have HSo := Lib.hid hsort
      have HLe := Lib.hid hlen
      have hrow' := hrow.out
      clear hp hlen hsort
      rcases hrow'.2 with ⟨rfl, hn⟩ | ⟨r, cap, cur, rfl, hbase, hb, h1, h2, h3, h4⟩
      · have hss : ss = [] := List.eq_nil_of_length_eq_zero hn
        have hc := AnyM.slices_Sort_string_none Try.sortS none 0 wr
        change Calls Try.prog 41 _ _ _ at hc
        have Hc := Lib.hid hc
        clear hc
        go_wp2_with fail
        refine Hc.out.mono ?_
        rintro e w' ⟨rfl, rfl⟩
        go_wp2
        go_ret
        have hE : E.length = 0 := by rw [← HLe.out, hss]; rfl
        have hE2 : E = [] := List.eq_nil_of_length_eq_zero hE
        subst hE2
        exact ⟨_, rfl, World.ownsRow_nil _ _ _ _, hnx.out⟩
      · have hH : Holds encStr wr r 0 ss.toArray := holds_of_block hb (by simpa using h4)
        have hgl2 : r < wr.heap.size := (Array.getElem?_eq_some_iff.1 hb).1
        have hc := AnyM.slices_Sort_string Try.sortS r 0 cap ss wr hH hgl2 (by omega)
        change Calls Try.prog 41 _ _ _ at hc
        have Hc := Lib.hid hc
        have Hb := Lib.hid hb
        clear hc hH hb h4 hrow'
        go_wp2_with fail
        refine Hc.out.mono ?_
        rintro e w' ⟨rfl, nn, os, rfl⟩
        go_wp2
        go_ret
        refine ⟨_, rfl, ?_, hnx.out.grown (grownBy_sorted _) hnx.out.size (fun j hj => by cases hj; exact hbase)⟩
        have ho := ownsRow_sorted (os := os) (n := nn) (ss := ss) (ts := ss.mergeSort leB) (by simp) hbase Hb.out h1 h2 h3
        rw [HSo.out, HLe.out] at ho
        have hso := HSo.out
        unfold leB at hso
        rw [hso, HLe.out]
        exact ho
    · intro x c kl yd yp w2 cnt2 hkey hlk hv hat hrg2 hlt hg2 hs2 hen
      obtain ⟨x', ex, rfl, _⟩ := Maps.keyOf_str Try.underlying9 hkey
      obtain rfl : x = x' := encStr_inj ex
      have hrow2 := hrow.out.kept hg2 (Or.inr (row_ne_iter hrow.out hrg.out).symm)
      have Hs2 := Lib.hid hs2
      have Hg2 := Lib.hid hg2
      have Hrg2 := Lib.hid hrg2
      have Hrow2 := Lib.hid hrow2
      have Hat := Lib.hid hat
      have Hlk := Lib.hid hlk
      have hsz2 : w.heap.size < w2.heap.size := by omega
      unfold shapeF fileV at hen
      clear hs2 hg2 hrg2 hrow2 hat hlk hv hkey ex
      go_wp2_with (at_builtin; refine wpList_append_own _ rfl _ _ 35 rfl w.heap.size 9 i0 (.string ⟨#[]⟩) 1 16 Try.underlying35 hi hz0 hz1 hz2 rfl (by decide) _ _ _ rfl (Hrow2.out.alloc _) ⟨w2.heap.size, 0, none⟩ 1 1 [encStr x] rfl rfl (cell_one_new _ _ _) (by simp [Value.oneCell', encStr]) (by unfold maxLen at *; omega) (by omega) (by simp; omega) ?_; intro v' w3 hown' hg3 hnil3; go_frame)
      have hg4 : (w2.alloc (.cells #[encStr x] 9)).grownBy w3 u3.ownBlock := hg3
      have hrg3 := (Hrg2.out.alloc (.cells #[encStr x] 9)).kept hg4 (row_ne_low Hrow2.out hbl) (row_ne_iter Hrow2.out Hrg2.out)
      refine ⟨⟨_, cnt2, ss ++ [x], hrg3, by simp; omega, ?_, hC.out.step Hlk.out Hat.out, ?_, ?_⟩, ?_⟩
      · show World.ownsRow _ _ _ _ _ _ _
        rw [List.map_append, List.length_append]
        exact hown'
      · exact ((hnx.out.grown Hg2.out hnx.out.size (fun j hj => by cases hj; exact Nat.le_refl _)).alloc (by omega) _).grown hg4 (by simp; omega) (fun j hj => (Hrow2.out.lt j hj).1)
      · have := hg4.size; simp at this; omega
      · rw [hrg3.left_eq, hrg.out.left_eq]; exact hlt
theorem names_nilmap {S : Nat → Prop} {g : Nat} {E : Ents} {wr sy : Nat} (w : World) (h : DkM w S g none E wr sy) :
    Calls Try.prog 12 #[.pointer (some ⟨g, 0, none⟩)] w fun e w' => ∃ v, e = .returned v ∧ w'.ownsRow w.heap.size 9 1 v E.length ((nmB E).map encStr) ∧ Below w.heap.size w w' := by
  have hmp := h.mp
  rcases hmp with ⟨_, rfl⟩ | ⟨b', hmp, _⟩
  · have c0 := h.c0
    have hgl := h.lt g h.gS
    clear h
    have hrg := run_range_nilMap (P := Try.prog) w 92 9 126 Try.underlying92
    have hnx : ∀ ty, (Instr.next (.pointer (some ⟨w.heap.size, 0, none⟩)) false ty).run Try.prog (w.alloc (.mapIter none 0 #[] 0)) = _ := fun ty => run_next_nilMap _ ty 0 0 #[]
    have hc := AnyM.slices_Sort_string_none Try.sortS none 0 (w.alloc (.mapIter none 0 #[] 0))
    change Calls Try.prog 41 _ _ _ at hc
    have Hc := Lib.hid hc
    clear hc
    go_enter Try.func12, Try.ntmps12
    go_wp2
    refine wp_loop_rounds 1 ?_
    rw [rounds_succ]
    go_wp2_with fail
    refine Hc.out.mono ?_
    rintro e w' ⟨rfl, rfl⟩
    go_wp2
    go_ret
    exact ⟨_, rfl, World.ownsRow_nil _ _ _ _, (Below.refl _ _).alloc (Nat.le_refl _) _⟩
  · cases hmp
set_option maxHeartbeats 400000 in
theorem names_nil (w : World) :
    Calls Try.prog 12 #[.pointer none] w fun e w' => e = .returned (.slice none 0 0) ∧ Below w.heap.size w w' := by
  go_enter Try.func12, Try.ntmps12
  go_wp2
  go_ret
  exact ⟨rfl, Below.refl _ _⟩
/-- a list's names, as cells -/
def nmCells {α : Type} (L : List (ByteArray × α)) : List Value := L.map fun p => .string p.1
theorem names_any {S : Nat → Prop} {g : Nat} {L : List (ByteArray × Fl)} {wr sy : Nat} (w : World) (h : Disk w S g L wr sy) :
    Calls Try.prog 12 #[.pointer (some ⟨g, 0, none⟩)] w fun e w' => ∃ v, e = .returned v ∧ w'.ownsRow w.heap.size 9 1 v L.length (nmCells L) ∧ Below w.heap.size w w' := by
  obtain ⟨E, mo, rfl, h1, _⟩ := h
  have hn : (nmB E).map encStr = nmCells (mapS Ent.fl E) := by
    simp [nmB, nmCells, mapS, encStr, Function.comp_def]
  rw [mapS_length, ← hn]
  cases mo with
  | none => exact names_nilmap w h1
  | some b => exact names_map w h1
end Go.Proofs.Ytgcfofnlgdfmoaa
