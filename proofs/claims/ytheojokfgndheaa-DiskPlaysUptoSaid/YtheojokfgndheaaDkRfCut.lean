/- Layer 6: the document's own disk: Cut, beyond a file's bytes. -/
import Derived.Test.YtheojokfgndheaaDkRfNew
namespace Go.Proofs.Ytheojokfgndheaa
open Go.RowKit Go.Maps

theorem setCell_comm (w : World) (b i j : Nat) (u v : Value) (h : i ≠ j) : (w.setCell ⟨b, i, none⟩ u).setCell ⟨b, j, none⟩ v = (w.setCell ⟨b, j, none⟩ v).setCell ⟨b, i, none⟩ u := by
  have hh : ((w.setCell ⟨b, i, none⟩ u).setCell ⟨b, j, none⟩ v).heap = ((w.setCell ⟨b, j, none⟩ v).setCell ⟨b, i, none⟩ u).heap := by
    simp only [World.setCell]
    apply Array.ext_getElem?
    intro k
    simp only [Array.getElem?_modify]
    by_cases hk : b = k
    · simp only [if_pos hk, Option.map_map]
      congr 1
      funext o
      cases o with
      | cells c e f => simp [Array.setIfInBounds_comm _ _ h]
      | _ => rfl
    · simp only [if_neg hk]
  show ({ w with heap := _ } : World) = { w with heap := _ }
  exact congrArg (fun x => ({ w with heap := x } : World)) hh
section
variable {w w2 : World} {T : Nat → Prop} {m wr sy : Nat} {R : List RE}
theorem Rf.setBoth {g cap i k : Nat} {x : RE} {A : Option Addr} {n c : Nat} {l : List Nat} {e : TypeId} (h : Rf w T m (.slice (some ⟨g, 0, none⟩) R.length cap) R wr sy) (hx : R[i]? = some x) (hb : Below w.heap.size w w2)
    (ho : w2.ownsRow w.heap.size e 1 (.slice A n c) n (cellsB l)) (hok : OkB l) (hkx : k ≤ x.by_.length) (hk : k ≤ l.length) (hm : l.length ≤ 1048576) :
    ∃ T', Rf ((w2.setCell ⟨g, i * 3 + 1, none⟩ (.slice A n c)).setCell ⟨g, i * 3 + 2, none⟩ (.int .i64 k)) T' m (.slice (some ⟨g, 0, none⟩) R.length cap) (R.set i { x with A := A, n := n, c := c, by_ := l, syn := k }) wr sy ∧ Step w T ((w2.setCell ⟨g, i * 3 + 1, none⟩ (.slice A n c)).setCell ⟨g, i * 3 + 2, none⟩ (.int .i64 k)) T' := by
  rw [setCell_comm _ _ _ _ _ _ (by omega)]
  obtain ⟨h1, h2, h3⟩ := rdB_of_own ho
  have hv := ho.lt
  have hsz := hb.size
  obtain ⟨hgT, hgm⟩ := h.row g rfl
  have hgl := h.lt g hgT
  have hml := h.lt m h.mT
  have q := h.each x (List.mem_of_getElem? hx)
  have hset := Only.setCell (T := fun z => z = g) w2 ⟨g, i * 3 + 2, none⟩ (.int .i64 k) rfl
  have hz : (w2.setCell ⟨g, i * 3 + 2, none⟩ (.int .i64 k)).heap.size = w2.heap.size := by simp [World.setCell]
  have hil := (List.getElem?_eq_some_iff.1 hx).1
  have hS := ((h.below hb).setSyn (n := k) hx hkx).widen (T' := fun z => T z ∨ (w.heap.size ≤ z ∧ z < w2.heap.size)) (fun z hz => .inl hz) (fun z hz' => by rw [hz]; exact hz'.elim (fun hz => Nat.lt_of_lt_of_le (h.lt z hz) hsz) (fun hz => hz.2))
  have hfar : ∀ a, A = some a → w.heap.size ≤ a.block ∧ a.block < w2.heap.size := fun a ha => by subst ha; exact hv a.block rfl
  have hlen : (R.set i { x with syn := k }).length = R.length := List.length_set
  have hF := Rf.setF (R := R.set i { x with syn := k }) (i := i) (j := 1) (x := { x with syn := k }) (y := { x with A := A, n := n, c := c, by_ := l, syn := k }) (u := .slice A n c) (by rw [hlen]; exact hS) (by rw [List.getElem?_set_self hil]) ⟨rfl, .inl ⟨rfl, rfl, rfl⟩⟩
    ⟨h2, h3, (hset.rdB h1 (Nat.le_refl _) (fun a ha _ (e : a.block = g) => by have := (hfar a ha).1; omega)).more (Nat.le_of_eq hz.symm), hok, hk, hm, q.s, own_cap ho, fun a ha => ⟨Or.inr (hfar a ha), by have := (hfar a ha).1; omega, fun e => by injection e with e; have := (hfar a ha).1; omega⟩⟩
  rw [hlen, List.set_set] at hF
  exact ⟨_, hF, ⟨((Only.of_below hb T).trans (Only.setCell (T := T) w2 _ _ hgT) (fun _ h => .inl h)).trans (Only.setCell (T := T) _ _ _ hgT) (fun _ h => .inl h), fun z hz => hz.imp id (fun h => h.1)⟩⟩
end

set_option maxRecDepth 100000 in
set_option maxHeartbeats 1000000 in
theorem rcut_range {T : Nat → Prop} {m : Nat} {L : List (ByteArray × Fl)} {wr sy : Nat} {f : Fl} (z : Int) (s : ByteArray) (w : World) (h : RfL w T m L wr sy) (hs : s.size ≤ maxLen) (hf : findP L s = some f) (hz : z < 0 ∨ (f.by_.length : Int) < z) :
    Calls Try.prog 15 #[.pointer (some ⟨m, 0, none⟩), .string s, .int .i64 z] w fun e w' => e = .returned (.int .i64 6) ∧ w = w' := by
  obtain ⟨v, R, rfl, h⟩ := h
  obtain ⟨i, x, hi, hx, rfl, rfl⟩ := idx_of hf
  have HC := Lib.hid (rfind_any x.s w h hs)
  rw [hi] at HC
  have hil := (List.getElem?_eq_some_iff.1 hx).1
  have hi63 : decide ((i : Int) < 0) = false := decide_eq_false (by omega)
  obtain ⟨g, cap, rfl, hgl, x0, x1, x2, hfz⟩ := h.at_ hx
  have hxn := (h.each x (List.mem_of_getElem? hx)).n
  rw [hxn] at x1
  have c0 := h.c0
  clear h hs hf hi hx hfz hxn x0 x2
  rcases (by omega : z < 0 ∨ 0 ≤ z) with h0 | h0
  · have hz0 : decide (z < 0) = true := decide_eq_true h0
    clear hz h0
    go_enter Try.func15, Try.ntmps15
    go_wp2_with fail
    refine HC.out.mono ?_
    rintro e w1 ⟨rfl, rfl⟩
    unfold idxI
    go_wp2
    go_ret
    exact ⟨rfl, rfl⟩
  · have h1 : (x.by_.length : Int) < z := hz.resolve_left (by omega)
    have hz0 : decide (z < 0) = false := decide_eq_false (by omega)
    have hz1 : decide ((x.by_.length : Int) < z) = true := decide_eq_true h1
    have hz2 : decide (z > (x.by_.length : Int)) = true := decide_eq_true h1
    clear hz h0 h1
    go_enter Try.func15, Try.ntmps15
    go_wp2_with fail
    refine HC.out.mono ?_
    rintro e w1 ⟨rfl, rfl⟩
    unfold idxI
    go_wp2
    go_ret
    exact ⟨rfl, rfl⟩
end Go.Proofs.Ytheojokfgndheaa
