/- Layer 6: the document's own disk as a list of files: what a file's place says of the list. -/
import Derived.Test.YtheojokfgndheaaDkAdd
import Derived.Test.YtheojokfgndheaaWords
namespace Go.Proofs.Ytheojokfgndheaa
open Go.RowKit Go.Maps

def flsR (R : List RE) : List (ByteArray × Fl) := R.map RE.fl
theorem flsR_append (a b : List RE) : flsR (a ++ b) = flsR a ++ flsR b := by simp [flsR]
theorem flsR_get {R : List RE} {i : Nat} {x : RE} (h : R[i]? = some x) : (flsR R)[i]? = some x.fl := by simp [flsR, h]
theorem idx_none : ∀ {R : List RE} {s : ByteArray}, idxR R s = none → findP (flsR R) s = none
  | [], _, _ => rfl
  | y :: r, s, h => by
    unfold idxR at h
    by_cases he : eqS y.s s = true
    · rw [if_pos he] at h; cases h
    · rw [if_neg he, Option.map_eq_none_iff] at h
      have ih := idx_none h
      unfold findP flsR at ih ⊢
      rw [List.map_cons, List.find?_cons_of_neg (by simpa [RE.fl] using he)]
      exact ih
theorem idx_some : ∀ {R : List RE} {s : ByteArray} {i : Nat}, idxR R s = some i → ∃ x, R[i]? = some x ∧ x.s = s ∧ findP (flsR R) s = some ⟨x.by_, x.syn⟩
  | [], _, _, h => by cases h
  | y :: r, s, i, h => by
    unfold idxR at h
    by_cases he : eqS y.s s = true
    · rw [if_pos he] at h
      injection h with h
      subst h
      refine ⟨y, rfl, (eqS_iff _ _).1 he, ?_⟩
      unfold findP flsR
      rw [List.map_cons, List.find?_cons_of_pos (by simpa [RE.fl] using he)]
      rfl
    · rw [if_neg he] at h
      cases hr : idxR r s with
      | none => rw [hr] at h; cases h
      | some k =>
        rw [hr] at h
        injection h with h
        subst h
        obtain ⟨x, h1, h2, h3⟩ := idx_some hr
        refine ⟨x, by simpa using h1, h2, ?_⟩
        unfold findP flsR at h3 ⊢
        rw [List.map_cons, List.find?_cons_of_neg (by simpa [RE.fl] using he)]
        exact h3
/-- a list that rises, without the file at one place -/
theorem del_at {α : Type} : ∀ {l : List (ByteArray × α)} {i : Nat} {p : ByteArray × α}, Rising l → l[i]? = some p → l.take i ++ l.drop (i + 1) = delP l p.1
  | [], _, _, _, h => by simp at h
  | y :: r, 0, p, hr, h => by
    simp at h; subst h
    obtain ⟨h1, _⟩ := List.pairwise_cons.1 hr
    unfold delP
    rw [List.filter_cons_of_neg (by simp [eqS_refl])]
    show r = _
    refine (List.filter_eq_self.2 fun q hq => ?_).symm
    rw [eqS_no (ltS_ne (h1 q hq)).symm]; rfl
  | y :: r, i + 1, p, hr, h => by
    obtain ⟨h1, h2⟩ := List.pairwise_cons.1 hr
    have hx : r[i]? = some p := by simpa using h
    have ih := del_at h2 hx
    unfold delP at ih ⊢
    rw [List.filter_cons_of_pos (by rw [eqS_no (ltS_ne (h1 p (List.mem_of_getElem? hx)))]; rfl), ← ih]
    rfl
theorem take_drop_get {α : Type} {l : List α} {i j : Nat} {p : α} (hj : j < i) (hi : i ≤ l.length) (h : (l.take i ++ l.drop (i + 1))[j]? = some p) : l[j]? = some p := by
  rw [List.getElem?_append_left (by rw [List.length_take]; omega), List.getElem?_take, if_pos hj] at h
  exact h
/-- a list that rises, with another file of that name -/
theorem put_at {α : Type} {l : List (ByteArray × α)} {i : Nat} {p : ByteArray × α} {v : α} (hr : Rising l) (h : l[i]? = some p) : l.set i (p.1, v) = putP l p.1 v := by
  have hi := (List.getElem?_eq_some_iff.1 h).1
  have hlo : ∀ j q, j < i → l[j]? = some q → ltS q.1 p.1 = true := fun j q hj hq => by
    have hjl := (List.getElem?_eq_some_iff.1 hq).1
    have := List.pairwise_iff_getElem.1 hr j i hjl hi hj
    rw [(List.getElem?_eq_some_iff.1 hq).2, (List.getElem?_eq_some_iff.1 h).2] at this
    exact this
  have hhi : ∀ q, l[i + 1]? = some q → ltS p.1 q.1 = true := fun q hq => by
    have hjl := (List.getElem?_eq_some_iff.1 hq).1
    have := List.pairwise_iff_getElem.1 hr i (i + 1) hi hjl (by omega)
    rw [(List.getElem?_eq_some_iff.1 hq).2, (List.getElem?_eq_some_iff.1 h).2] at this
    exact this
  unfold putP
  rw [← del_at hr h, insP_at (x := (p.1, v)) (a := i) (by rw [List.length_append, List.length_take, List.length_drop]; omega) (fun j q hj hq => hlo j q hj (take_drop_get hj (by omega) hq)) (fun q hq => by
    rw [List.getElem?_append_right (by rw [List.length_take]; omega), List.length_take, Nat.min_eq_left (by omega), Nat.sub_self, List.getElem?_drop, Nat.add_zero] at hq
    exact hhi q hq)]
  have hl : (l.take i).length = i := by rw [List.length_take]; omega
  rw [List.take_append_of_le_length (by omega), List.take_take, Nat.min_self, show (l.take i ++ l.drop (i + 1)).drop i = l.drop (i + 1) from by rw [List.drop_append_of_le_length (by omega), List.drop_eq_nil_of_le (by omega)]; rfl, List.set_eq_take_append_cons_drop, if_pos hi]
  simp
/-- the document's own disk with these files -/
def RfL (w : World) (T : Nat → Prop) (m : Nat) (L : List (ByteArray × Fl)) (wr sy : Nat) : Prop := ∃ v R, flsR R = L ∧ Rf w T m v R wr sy
def RLeaves (w w' : World) (T : Nat → Prop) (m : Nat) (L : List (ByteArray × Fl)) (wr sy : Nat) : Prop := ∃ T', RfL w' T' m L wr sy ∧ Step w T w' T'

set_option maxRecDepth 100000 in
set_option maxHeartbeats 400000 in
theorem rremove_none {T : Nat → Prop} {m : Nat} {L : List (ByteArray × Fl)} {wr sy : Nat} (s : ByteArray) (w : World) (h : RfL w T m L wr sy) (hs : s.size ≤ maxLen) (hf : findP L s = none) :
    Calls Try.prog 19 #[.pointer (some ⟨m, 0, none⟩), .string s] w fun e w' => e = .returned (.int .i64 14) ∧ w = w' := by
  obtain ⟨v, R, rfl, h⟩ := h
  have HC := Lib.hid (rfind_any s w h hs)
  have hi : idxR R s = none := by
    cases e : idxR R s with
    | none => rfl
    | some i => obtain ⟨x, _, _, h3⟩ := idx_some e; rw [hf] at h3; cases h3
  rw [hi] at HC
  clear h hs hf hi
  go_enter Try.func19, Try.ntmps19
  go_wp2_with fail
  refine HC.out.mono ?_
  rintro e w1 ⟨rfl, rfl⟩
  unfold idxI
  go_wp2
  go_ret
  exact ⟨rfl, rfl⟩
theorem idx_of {R : List RE} {s : ByteArray} {f : Fl} (hf : findP (flsR R) s = some f) : ∃ i x, idxR R s = some i ∧ R[i]? = some x ∧ x.s = s ∧ f = ⟨x.by_, x.syn⟩ := by
  cases e : idxR R s with
  | none => rw [idx_none e] at hf; cases hf
  | some i =>
    obtain ⟨x, h1, h2, h3⟩ := idx_some e
    rw [hf] at h3
    injection h3 with h3
    exact ⟨i, x, rfl, h1, h2, h3⟩
theorem drop_del {R : List RE} {i : Nat} {x : RE} (hr : Rising (flsR R)) (hx : R[i]? = some x) : flsR (R.take i ++ R.drop (i + 1)) = delP (flsR R) x.s := by
  have h := del_at hr (flsR_get hx)
  show _ = delP (flsR R) x.fl.1
  rw [← h]
  unfold flsR
  rw [List.map_append, List.map_take, List.map_drop]

set_option maxRecDepth 100000 in
set_option maxHeartbeats 400000 in
theorem rremove_some {T : Nat → Prop} {m : Nat} {L : List (ByteArray × Fl)} {wr sy : Nat} {f : Fl} (s : ByteArray) (w : World) (h : RfL w T m L wr sy) (hr : Rising L) (hs : s.size ≤ maxLen) (hf : findP L s = some f) :
    Calls Try.prog 19 #[.pointer (some ⟨m, 0, none⟩), .string s] w fun e w' => e = .returned (.int .i64 0) ∧ RLeaves w w' T m (delP L s) wr sy := by
  obtain ⟨v, R, rfl, h⟩ := h
  obtain ⟨i, x, hi, hx, rfl, rfl⟩ := idx_of hf
  have HC := Lib.hid (rfind_any x.s w h hs)
  rw [hi] at HC
  have HD := Lib.hid (rdrop_any i w h (List.getElem?_eq_some_iff.1 hx).1)
  have Hd := Lib.hid (drop_del hr hx)
  have hi63 : decide ((i : Int) < 0) = false := decide_eq_false (by omega)
  clear h hs hf hi hx hr
  go_enter Try.func19, Try.ntmps19
  go_wp2_with fail
  refine HC.out.mono ?_
  rintro e w1 ⟨rfl, rfl⟩
  unfold idxI
  go_wp2_with fail
  refine HD.out.mono ?_
  rintro e w1 ⟨rfl, T', v', h1, h2, _⟩
  have K1 := Lib.hid h1
  have K2 := Lib.hid h2
  clear h1 h2
  go_wp2
  go_ret
  exact ⟨rfl, T', ⟨v', _, Hd.out, K1.out⟩, K2.out⟩
end Go.Proofs.Ytheojokfgndheaa
