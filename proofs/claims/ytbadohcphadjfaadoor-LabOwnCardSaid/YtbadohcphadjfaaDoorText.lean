/- Layer 1: labels as a text: lab.Text and the document's own Text. -/
import Derived.Test.YtbadohcphadjfaaDoorRead
import Derived.Test.YtbadohcphadjfaaDoorBuild
namespace Go.Proofs.YtbadohcphadjfaaDoor
open Go.RowKit

/-- one pair as a text; pairs as a text -/
def pairL (p : Pr) : List UInt8 := p.1.data.toList ++ 61 :: p.2.data.toList
def textL : List Pr → List UInt8
  | [] => []
  | p :: r => pairL p ++ r.flatMap fun q => 44 :: pairL q
/-- what the k-th pair adds -/
def addL (k : Nat) (p : Pr) : List UInt8 := (if k = 0 then [] else [44]) ++ pairL p

theorem textL_snoc (l : List Pr) (p : Pr) : textL (l ++ [p]) = textL l ++ addL l.length p := by
  cases l with
  | nil => simp [textL, addL]
  | cons q r => simp [textL, addL]
theorem textL_succ {l : List Pr} {k : Nat} {p : Pr} (hp : l[k]? = some p) : textL (l.take (k + 1)) = textL (l.take k) ++ addL k p := by
  obtain ⟨h, rfl⟩ := List.getElem?_eq_some_iff.1 hp
  rw [List.take_succ_eq_append_getElem h, textL_snoc, List.length_take, Nat.min_eq_left (by omega)]
theorem textL_mono (l : List Pr) (k : Nat) : (textL (l.take k)).length ≤ (textL l).length := by
  induction l generalizing k with
  | nil => simp
  | cons p r ih =>
    cases k with
    | zero => simp [textL]
    | succ k =>
      simp only [List.take_succ_cons, textL, List.length_append, List.length_flatMap]
      have : ((List.take k r).map fun q => (44 :: pairL q).length).sum ≤ (r.map fun q => (44 :: pairL q).length).sum := by
        have e : r = r.take k ++ r.drop k := (List.take_append_drop k r).symm
        conv => rhs; rw [e]
        rw [List.map_append, List.sum_append]
        omega
      omega

theorem bld_new (w : World) : Bld w.heap.size w.heap.size [] (w.alloc (.cells #[.pointer none, .slice none 0 0] 60)) :=
  Or.inl ⟨Nat.le_refl _, .slice none 0 0, heap_alloc_new w _, World.ownsRow_nil _ _ _ _, by simp [Value.ownBlock]⟩
theorem Bld.alloc_ {B b : Nat} {bs : List Value} {w : World} (h : Bld B b bs w) (o : Obj) : Bld B b bs (w.alloc o) := by
  rcases h with ⟨h1, v, hb, hown, hne⟩ | ⟨h1, v, hb, hown, hne⟩
  · exact Or.inl ⟨h1, v, (Below.heap_alloc w o b (lt_of_block hb)).trans hb, hown.alloc o, hne⟩
  · exact Or.inr ⟨h1, v, (Below.heap_alloc w o b (lt_of_block hb)).trans hb, hown.alloc o, hne⟩
theorem Bld.lt_ {B b : Nat} {bs : List Value} {w : World} (h : Bld B b bs w) : b < w.heap.size := by
  rcases h with h | h <;> exact h.lt

theorem box_cells {w : World} {g : Nat} {a b : Value} {t : TypeId} (h : w.heap[g]? = some (.cells #[a, b] t (0, 0))) : w.cell? ⟨g, 0, none⟩ = some a ∧ w.cell? ⟨g, 1, none⟩ = some b :=
  ⟨by rw [Lib.cell_of_heap h]; rfl, by rw [Lib.cell_of_heap h]; rfl⟩

set_option maxRecDepth 100000 in
set_option maxHeartbeats 1000000 in
theorem text_any (A : Option Addr) (n c : Nat) (l : List Pr) (w : World) (hn : n = l.length) (hm : n ≤ maxLen) (hr : RdP w w.heap.size A l) (hlen : (textL l).length ≤ 140737488355328) :
    Calls Tryd.prog 22 #[.slice A n c] w fun e w' => e = .returned (.string ⟨(textL l).toArray⟩) ∧ Below w.heap.size w w' := by
  have Hn := Lib.hid hn
  have Hlen := Lib.hid hlen
  clear hn hlen
  unfold maxLen at hm
  go_enter Tryd.func22, Tryd.ntmps22
  go_wp2
  go_loopw [8] (fun i wr => ∃ k : Nat, k ≤ n ∧ i = .int .i64 k ∧ Bld w.heap.size w.heap.size (Lib.byteCells (textL (l.take k))) wr ∧ Below w.heap.size w wr) (fun i _ => n - (intOf i).toNat)
  case atStart => exact ⟨0, Nat.zero_le _, rfl, bld_new w, (Below.refl _ _).alloc (Nat.le_refl _) _⟩
  case round =>
    obtain ⟨k, hk, rfl, hbld, hbw⟩ := hrel
    by_cases hlt : k < n
    · obtain ⟨b, o, p, rfl, hb, hp, hc1, hc2⟩ := (hr.below hbw).at_ (k := k) (by have := Hn.out; omega)
      have Hsuc := Lib.hid (textL_succ hp)
      have Hsz : Hid ((textL (l.take k) ++ addL k p).length ≤ 140737488355328) := by
        have h1 := textL_mono l (k + 1)
        rw [Hsuc.out] at h1
        exact Nat.le_trans h1 Hlen.out
      have hbox : (wr.alloc (.cells #[.string p.1, .string p.2] 48)).heap[wr.heap.size]? = some (.cells #[.string p.1, .string p.2] 48 (0, 0)) := heap_alloc_new wr _
      have hne : wr.heap.size ≠ w.heap.size := by have := hbld.lt_; omega
      have hbld := hbld.alloc_ (.cells #[.string p.1, .string p.2] 48)
      have hbw := hbw.alloc hbw.size (.cells #[.string p.1, .string p.2] 48)
      clear hp hr
      rcases Nat.eq_zero_or_pos k with h0 | h0
      · subst h0
        simp only [Nat.zero_mul, Nat.add_zero] at hc1 hc2
        simp only [addL, if_true, pairL] at Hsz Hsuc
        obtain ⟨e1, e2⟩ := box_cells hbox
        go_wp2_with fail
        refine (writeString_any w.heap.size w.heap.size _ p.1 _ hbld (by (repeat (first | rw [List.length_append] | rw [Lib.strCells_length] | rw [Lib.byteCells_length])); have := Hsz.out; simp at this ⊢; omega) (by have := hbw.size; omega)).mono ?_
        rintro e w2 ⟨rfl, hbld2, hb2, hk2⟩
        have hbox2 := hk2 _ _ _ (by decide) hne hbox
        have hbw2 := hbw.trans hb2
        obtain ⟨d1, d2⟩ := box_cells hbox2
        clear hbld hbw hb2 hk2 hbox e1 e2
        go_wp2_with fail
        refine (writeByte_any w.heap.size w.heap.size _ 61 _ hbld2 (by (repeat (first | rw [List.length_append] | rw [Lib.strCells_length] | rw [Lib.byteCells_length])); have := Hsz.out; simp at this ⊢; omega) (by have := hbw2.size; omega)).mono ?_
        rintro e w3 ⟨rfl, hbld3, hb3, hk3⟩
        have hbox3 := hk3 _ _ _ (by decide) hne hbox2
        have hbw3 := hbw2.trans hb3
        obtain ⟨f1, f2⟩ := box_cells hbox3
        clear hbld2 hbw2 hb3 hk3 hbox2 d1 d2
        go_wp2_with fail
        refine (writeString_any w.heap.size w.heap.size _ p.2 _ hbld3 (by (repeat (first | rw [List.length_append] | rw [Lib.strCells_length] | rw [Lib.byteCells_length])); have := Hsz.out; simp at this ⊢; omega) (by have := hbw3.size; omega)).mono ?_
        rintro e w4 ⟨rfl, hbld4, hb4, -⟩
        have hbw4 := hbw3.trans hb4
        clear hbld3 hbw3 hb4 hbox3 f1 f2
        go_wp2
        refine ⟨⟨1, by omega, rfl, ?_, hbw4⟩, by simp [intOf]; omega⟩
        have e := Hsuc.out
        simp only [Nat.zero_add] at e
        rw [e]
        simpa [Lib.byteCells_append, Lib.strCells_eq, Lib.byteCells] using hbld4
      · have hb0 : decide ((0 : Int) < (k : Int)) = true := decide_eq_true (by omega)
        have hk0 : Hid (k ≠ 0) := by show k ≠ 0; omega
        simp only [addL, pairL] at Hsz Hsuc
        rw [if_neg hk0.out] at Hsz Hsuc
        go_wp2_with fail
        refine (writeByte_any w.heap.size w.heap.size _ 44 _ hbld (by (repeat (first | rw [List.length_append] | rw [Lib.strCells_length] | rw [Lib.byteCells_length])); have := Hsz.out; simp at this ⊢; omega) (by have := hbw.size; omega)).mono ?_
        rintro e w1 ⟨rfl, hbld1, hb1, hk1⟩
        have hbox1 := hk1 _ _ _ (by decide) hne hbox
        have hbw1 := hbw.trans hb1
        clear hbld hbw hb1 hk1 hbox
        have hbox := hbox1
        have hbw := hbw1
        have hbld := hbld1
        clear hbox1 hbw1 hbld1
        obtain ⟨e1, e2⟩ := box_cells hbox
        go_wp2_with fail
        refine (writeString_any w.heap.size w.heap.size _ p.1 _ hbld (by (repeat (first | rw [List.length_append] | rw [Lib.strCells_length] | rw [Lib.byteCells_length])); have := Hsz.out; simp at this ⊢; omega) (by have := hbw.size; omega)).mono ?_
        rintro e w2 ⟨rfl, hbld2, hb2, hk2⟩
        have hbox2 := hk2 _ _ _ (by decide) hne hbox
        have hbw2 := hbw.trans hb2
        obtain ⟨d1, d2⟩ := box_cells hbox2
        clear hbld hbw hb2 hk2 hbox e1 e2
        go_wp2_with fail
        refine (writeByte_any w.heap.size w.heap.size _ 61 _ hbld2 (by (repeat (first | rw [List.length_append] | rw [Lib.strCells_length] | rw [Lib.byteCells_length])); have := Hsz.out; simp at this ⊢; omega) (by have := hbw2.size; omega)).mono ?_
        rintro e w3 ⟨rfl, hbld3, hb3, hk3⟩
        have hbox3 := hk3 _ _ _ (by decide) hne hbox2
        have hbw3 := hbw2.trans hb3
        obtain ⟨f1, f2⟩ := box_cells hbox3
        clear hbld2 hbw2 hb3 hk3 hbox2 d1 d2
        go_wp2_with fail
        refine (writeString_any w.heap.size w.heap.size _ p.2 _ hbld3 (by (repeat (first | rw [List.length_append] | rw [Lib.strCells_length] | rw [Lib.byteCells_length])); have := Hsz.out; simp at this ⊢; omega) (by have := hbw3.size; omega)).mono ?_
        rintro e w4 ⟨rfl, hbld4, hb4, -⟩
        have hbw4 := hbw3.trans hb4
        clear hbld3 hbw3 hb4 hbox3 f1 f2
        go_wp2
        refine ⟨⟨k + 1, by omega, by go_num, ?_, hbw4⟩, by simp [intOf]; omega⟩
        rw [Hsuc.out]
        simpa [Lib.byteCells_append, Lib.strCells_eq, Lib.byteCells] using hbld4
    · have hk' : l.take k = l := List.take_of_length_le (by have := Hn.out; omega)
      rw [hk'] at hbld
      clear hr
      go_wp2_with fail
      refine (string_any w.heap.size w.heap.size (textL l) _ hbld hbw.size).mono ?_
      rintro e w2 ⟨rfl, hb2⟩
      have hbw2 := hbw.trans hb2
      clear hb2 hk'
      go_wp2
      go_ret
      exact ⟨rfl, hbw2⟩
set_option maxRecDepth 100000 in
set_option maxHeartbeats 1000000 in
theorem rtext_any (A : Option Addr) (n c : Nat) (l : List Pr) (w : World) (hn : n = l.length) (hm : n ≤ maxLen) (hr : RdP w w.heap.size A l) (hlen : (textL l).length ≤ 140737488355328) :
    Calls Tryd.prog 23 #[.slice A n c] w fun e w' => e = .returned (.string ⟨(textL l).toArray⟩) ∧ Below w.heap.size w w' := by
  have Hn := Lib.hid hn
  have Hlen := Lib.hid hlen
  clear hn hlen
  unfold maxLen at hm
  go_enter Tryd.func23, Tryd.ntmps23
  go_wp2
  go_loopw [3, 4] (fun v i wr => ∃ (k : Nat) (s : ByteArray), k ≤ n ∧ i = .int .i64 k ∧ v = .string s ∧ Hid (s.data.toList = textL (l.take k)) ∧ Below w.heap.size w wr) (fun _ i _ => n - (intOf i).toNat)
  case atStart => exact ⟨0, ⟨#[]⟩, Nat.zero_le _, rfl, rfl, rfl, Below.refl _ _⟩
  case round =>
    obtain ⟨k, s, hk, rfl, rfl, Hs, hbw⟩ := hrel
    by_cases hlt : k < n
    · obtain ⟨b, o, p, rfl, hb, hp, hc1, hc2⟩ := (hr.below hbw).at_ (k := k) (by have := Hn.out; omega)
      have Hsuc := Lib.hid (textL_succ hp)
      have Hsz : s.size + 1 + p.1.size + 1 + p.2.size ≤ 140737488355329 := by
        have h1 := textL_mono l (k + 1)
        rw [Hsuc.out, ← Hs.out] at h1
        have h2 := Hlen.out
        simp only [addL, pairL, List.length_append, List.length_cons, Array.length_toList] at h1
        have e1 : s.data.size = s.size := rfl
        have e2 : p.1.data.size = p.1.size := rfl
        have e3 : p.2.data.size = p.2.size := rfl
        omega
      clear hp hr
      rcases Nat.eq_zero_or_pos k with h0 | h0
      · subst h0
        simp only [Nat.zero_mul, Nat.add_zero] at hc1 hc2
        have a1 : s.size + p.1.size ≤ 9223372036854775807 := by omega
        have a2 : s.size + p.1.size + 1 ≤ 9223372036854775807 := by omega
        have a3 : s.size + p.1.size + 1 + p.2.size ≤ 9223372036854775807 := by omega
        clear Hsz
        go_wp2
        go_quiet (fail)
        go_wp2
        refine ⟨⟨1, _, by omega, rfl, rfl, ?_, below_drewN hbw _⟩, by simp [intOf]; omega⟩
        have e := Hsuc.out
        simp only [Nat.zero_add] at e
        show _ = textL (l.take 1)
        rw [e, ← Hs.out]
        simp [addL, pairL]
      · have hb0 : decide ((0 : Int) < (k : Int)) = true := decide_eq_true (by omega)
        have hk0 : Hid (k ≠ 0) := by show k ≠ 0; omega
        have a0 : s.size + 1 ≤ 9223372036854775807 := by omega
        have a1 : s.size + 1 + p.1.size ≤ 9223372036854775807 := by omega
        have a2 : s.size + 1 + p.1.size + 1 ≤ 9223372036854775807 := by omega
        have a3 : s.size + 1 + p.1.size + 1 + p.2.size ≤ 9223372036854775807 := by omega
        clear Hsz
        go_wp2
        go_quiet (fail)
        go_wp2
        refine ⟨⟨k + 1, _, by omega, by go_num, rfl, ?_, below_drewN hbw _⟩, by simp [intOf]; omega⟩
        show _ = textL (l.take (k + 1))
        rw [Hsuc.out, ← Hs.out]
        simp [addL, pairL, hk0.out]
    · have hk' : l.take k = l := List.take_of_length_le (by have := Hn.out; omega)
      rw [hk'] at Hs
      clear hr hk'
      go_wp2
      go_ret
      refine ⟨?_, hbw⟩
      show Ending.returned (.string s) = _
      rw [← Hs.out]
end Go.Proofs.YtbadohcphadjfaaDoor
