/- Layer 7: JournalSpoilt: records laid one behind the other, and where each ends. -/
import Derived.Test.YtgcfofnlgdfmoaaJlOpen
import Derived.Test.YtgcfofnlgdfmoaaJlSpoil
import Derived.Test.YtgcfofnlgdfmoaaDkPut
import Derived.Test.YtgcfofnlgdfmoaaDkArgs
import Derived.Test.YtgcfofnlgdfmoaaDkTorn
namespace Go.Proofs.Ytgcfofnlgdfmoaa
open Go.RowKit

/-- a row of rows, as a list -/
structure RdRow (w : World) (B : Nat) (A : Option Addr) (L : List (List Nat)) : Prop where
  row : 0 < L.length → ∃ b o, A = some ⟨b, o, none⟩ ∧ b < B ∧ ∀ (i : Nat) l, L[i]? = some l → ∃ Ai ci, w.cell? ⟨b, o + i, none⟩ = some (.slice Ai l.length ci) ∧ l.length ≤ maxLen ∧ (Ai = none → l.length = 0) ∧ RdB w B Ai l
  ok : ∀ l ∈ L, OkB l
theorem rdW_list {w : World} {B : Nat} {A : Option Addr} {n : Nat} (h : RdW w B A n) : ∃ L : List (List Nat), n = L.length ∧ RdRow w B A L := by
  by_cases h0 : 0 < n
  · obtain ⟨b, o, e, hb, hc⟩ := h h0
    have hc2 : ∀ i, ∃ l : List Nat, i < n → ∃ Ai ci, w.cell? ⟨b, o + i, none⟩ = some (.slice Ai l.length ci) ∧ l.length ≤ maxLen ∧ (Ai = none → l.length = 0) ∧ RdB w B Ai l ∧ OkB l := fun i => by
      by_cases hi : i < n
      · obtain ⟨Ar, nr, cr, lr, q1, rfl, q3, q4, q5, q6⟩ := hc i hi
        exact ⟨lr, fun _ => ⟨Ar, cr, q1, q3, q4, q5, q6⟩⟩
      · exact ⟨[], fun h => absurd h hi⟩
    let f : Nat → List Nat := fun i => Classical.choose (hc2 i)
    have hf : ∀ i, i < n → ∃ Ai ci, w.cell? ⟨b, o + i, none⟩ = some (.slice Ai (f i).length ci) ∧ (f i).length ≤ maxLen ∧ (Ai = none → (f i).length = 0) ∧ RdB w B Ai (f i) ∧ OkB (f i) := fun i hi => Classical.choose_spec (hc2 i) hi
    refine ⟨(List.range n).map f, by simp, ⟨fun _ => ⟨b, o, e, hb, fun i l hl => ?_⟩, fun l hl => ?_⟩⟩
    · have hi : i < n := by have := (List.getElem?_eq_some_iff.1 hl).1; simpa using this
      have hfi : f i = l := by simpa [hi] using hl
      obtain ⟨Ai, ci, q1, q2, q3, q4, _⟩ := hf i hi
      rw [hfi] at q1 q2 q3 q4
      exact ⟨Ai, ci, q1, q2, q3, q4⟩
    · obtain ⟨i, hi, rfl⟩ := List.mem_map.1 hl
      obtain ⟨_, _, _, _, _, _, q5⟩ := hf i (List.mem_range.1 hi)
      exact q5
  · exact ⟨[], by simp; omega, ⟨fun h => absurd h (by simp), fun l hl => by simp at hl⟩⟩
/-- where the records end -/
def endsR (L : List (List Nat)) (k : Nat) : List Nat := (List.range k).map fun i => (joinR (L.take (i + 1))).length
theorem endsR_succ (L : List (List Nat)) (k : Nat) : endsR L (k + 1) = endsR L k ++ [(joinR (L.take (k + 1))).length] := by simp [endsR, List.range_succ]
theorem endsR_length (L : List (List Nat)) (k : Nat) : (endsR L k).length = k := by simp [endsR]
theorem joinR_take {L : List (List Nat)} {k : Nat} {x : List Nat} (h : L[k]? = some x) : joinR (L.take (k + 1)) = joinR (L.take k) ++ laidR x := by
  rw [List.take_add_one, h, joinR_append]
  simp [joinR]
/-- behind k records: their bytes, and their ends -/
structure SpA (w wx : World) (B g k m : Nat) (v e : Value) (bl : List Nat) (es : List Nat) : Prop where
  own : wx.ownsRow B 5 1 v m (cellsB bl)
  ends : wx.ownsRow B 3 1 e k (cellsN7 es)
  far : ∀ i, v.ownBlock = some i → e.ownBlock ≠ some i
  len : m = bl.length
  tab : ∃ d s t, d ≤ 1 ∧ s ≤ k ∧ t ≤ 64 * k ∧ Tab wx g d s t
  gB : g < B
  hB : B ≤ wx.heap.size
  wg : w.heap.size ≤ g
  bl : Below w.heap.size w wx
section
variable {w wr w4 w6 w7 : World} {B g k m m6 s t : Nat} {p q p6 q7 : Value} {bl es : List Nat} {L : List (List Nat)} {x : List Nat} {P : Nat → Prop} {o : Obj}
/-- the ends' row, behind the append to the bytes' and a literal -/
theorem SpA.mid (h : SpA w wr B g k m p q bl es) (hty : Only (fun k => k = g) wr w4) (hg6 : w4.grownBy w6 p.ownBlock) : (w6.alloc o).ownsRow B 3 1 q k (cellsN7 es) := by
  have h4 := hty.own h.ends (fun i hi e => by have := (h.ends.lt i hi).1; have := h.gB; have e : i = g := e; omega)
  have hf : q.ownBlock = none ∨ q.ownBlock ≠ p.ownBlock := by
    cases hq : q.ownBlock with
    | none => exact .inl rfl
    | some j => exact .inr fun e => h.far j e.symm hq
  exact ownB_below (h4.kept hg6 hf) ((Below.refl _ _).alloc (Nat.le_refl _) _)
theorem src_one7 (W : World) (z : Nat) : Src (W.alloc (.cells #[.int .i64 (z : Int)] 3)) (some ⟨W.heap.size, 0, none⟩) 1 1 [.int .i64 (z : Int)] :=
  ⟨rfl, fun _ => ⟨_, rfl, fun j u hj => by
    cases j with
    | zero => simp at hj; subst hj; exact cell5 _ _ _ 0
    | succ j => simp at hj⟩⟩
theorem SpA.step (h : SpA w wr B g k m p q (joinR (L.take k)) (endsR L k)) (hx : L[k]? = some x) (hty : Only (fun k => k = g) wr w4) (hTy : Tab w4 g 1 s t) (hs : s ≤ k + 1) (ht : t ≤ 64 * (k + 1)) (hm : m + (x.length + 8) = m6)
    (ho6 : w6.ownsRow B 5 1 p6 m6 (cellsB (joinR (L.take k)) ++ cellsB (laidR x))) (hg6 : w4.grownBy w6 p.ownBlock) (hb6 : p6.ownBlock = p.ownBlock ∨ p6.ownBlock = some w4.heap.size)
    (ho7 : w7.ownsRow B 3 1 q7 (k + 1) (cellsN7 (endsR L k) ++ [.int .i64 (m6 : Int)])) (hg7 : (w6.alloc o).grownBy w7 q.ownBlock) (hb7 : q7.ownBlock = q.ownBlock ∨ q7.ownBlock = some (w6.alloc o).heap.size) :
    SpA w w7 B g (k + 1) m6 p6 q7 (joinR (L.take (k + 1))) (endsR L (k + 1)) := by
  have e1 : (joinR (L.take (k + 1))).length = m6 := by rw [joinR_take hx, List.length_append, laidR_length, ← h.len]; exact hm
  have hal : Below w6.heap.size w6 (w6.alloc o) := (Below.refl _ _).alloc (Nat.le_refl _) _
  have hpB : ∀ i, p.ownBlock = some i → B ≤ i ∧ i < wr.heap.size := fun i hi => h.own.lt i hi
  have hqB : ∀ i, q.ownBlock = some i → B ≤ i ∧ i < wr.heap.size := fun i hi => h.ends.lt i hi
  have s4 := hty.size
  have s6 := hg6.size
  have sa := hal.size
  have s7 := hg7.size
  have far6 : ∀ i, p6.ownBlock = some i → q.ownBlock ≠ some i := fun i hi e => by
    rcases hb6 with h1 | h1
    · rw [h1] at hi; exact h.far i hi e
    · rw [h1] at hi; injection hi with hi; have := (hqB i e).2; omega
  have b4 : Below w.heap.size w w4 := h.bl.trans (hty.below h.bl.size (fun k e => by have e : k = g := e; have := h.wg; omega))
  have b6 : Below w.heap.size w w6 := b4.grown hg6 b4.size (fun i hi => by have := (hpB i hi).1; have := h.gB; have := h.wg; omega)
  have ba : Below w.heap.size w (w6.alloc o) := b6.trans (hal.mono b6.size)
  have b7 : Below w.heap.size w w7 := ba.grown hg7 ba.size (fun i hi => by have := (hqB i hi).1; have := h.gB; have := h.wg; omega)
  have t6 := hTy.row hg6 (fun e => by have := (hpB _ e).1; have := h.gB; omega)
  have t7 := (t6.below hal).row hg7 (fun e => by have := (hqB _ e).1; have := h.gB; omega)
  refine ⟨?_, ?_, ?_, e1.symm, ⟨1, s, t, Nat.le_refl _, hs, ht, t7⟩, h.gB, by have := h.hB; omega, h.wg, b7⟩
  · rw [joinR_take hx, cellsB_append]
    refine (ownB_below ho6 hal).kept hg7 ?_
    cases hp : p6.ownBlock with
    | none => exact .inl rfl
    | some j => exact .inr fun e => far6 j hp e.symm
  · have e2 : cellsN7 (endsR L (k + 1)) = cellsN7 (endsR L k) ++ [.int .i64 (m6 : Int)] := by rw [endsR_succ, e1]; simp [cellsN7]
    rw [e2]
    exact ho7
  · intro i hi e
    rcases hb7 with h1 | h1
    · rw [h1] at e; exact far6 i hi e
    · rw [h1] at e; injection e with e; have := (ho6.lt i hi).2; omega
/-- a byte turned -/
theorem SpA.turned {r cv j d : Nat} {e : Value} (h : SpA w wr B g k m (.slice (some ⟨r, 0, none⟩) m cv) e bl es) :
    SpA w (wr.setCell ⟨r, j, none⟩ (.int .u8 ((bl.getD j 0 ^^^ d : Nat) : Int))) B g k m (.slice (some ⟨r, 0, none⟩) m cv) e (turnB bl j d) es := by
  have hr := h.own.lt r rfl
  have ho := Only.setCell wr ⟨r, j, none⟩ (.int .u8 ((bl.getD j 0 ^^^ d : Nat) : Int)) (T := fun k => k = r) rfl
  have v8 := ownsRow_set h.own j (.int .u8 ((bl.getD j 0 ^^^ d : Nat) : Int))
  have e8 : (cellsB bl).set j (.int .u8 ((bl.getD j 0 ^^^ d : Nat) : Int)) = cellsB (turnB bl j d) := by
    unfold turnB cellsB
    rw [List.map_set]
    rfl
  rw [e8] at v8
  obtain ⟨a, s, t, h1, h2, h3, h4⟩ := h.tab
  exact ⟨v8, ho.own h.ends (fun k hk e => by have e : k = r := e; rw [e] at hk; exact h.far r rfl hk), h.far, by rw [turnB_length]; exact h.len, ⟨a, s, t, h1, h2, h3, h4.only ho (fun e => by have e : g = r := e; have := h.gB; omega)⟩, h.gB, Nat.le_trans h.hB ho.size, h.wg,
    h.bl.trans (ho.below h.bl.size (fun k e => by have e : k = r := e; have := h.wg; have := h.gB; omega))⟩
theorem endsR_get (L : List (List Nat)) {k j : Nat} (h : j < k) : (endsR L k)[j]? = some (joinR (L.take (j + 1))).length := by
  unfold endsR
  rw [List.getElem?_map, List.getElem?_range h]
  rfl
end
theorem joinR_mem {c : List Nat} : ∀ {L : List (List Nat)}, c ∈ L → c.length ≤ (joinR L).length
  | x :: L, h => by
    rw [joinR_cons, List.length_append, laidR_length]
    rcases List.mem_cons.1 h with rfl | h
    · omega
    · have := joinR_mem h; omega
/-- what is found where a byte was turned -/
theorem spoilt_scan {L : List (List Nat)} (hok : OkR L) {j q d : Nat} (h1 : (joinR (L.take j)).length ≤ q) (h2 : q < (joinR (L.take (j + 1))).length) (hj : j < L.length) (hd : 0 < d) (hd2 : d < 256) :
    (∃ G z, scanJ (turnB (joinR L) q d) = (L.take j ++ G, z)) ∧ (4 ≤ q - (joinR (L.take j)).length → scanJ (turnB (joinR L) q d) = (L.take j, (joinR (L.take j)).length)) := by
  obtain ⟨c, hc⟩ : ∃ c, L[j]? = some c := ⟨L[j]'hj, List.getElem?_eq_getElem _⟩
  have hcl : L.drop j = c :: L.drop (j + 1) := by
    rw [List.drop_eq_getElem_cons hj]
    rw [List.getElem?_eq_getElem hj] at hc
    injection hc with hc
    rw [hc]
  have e1 : joinR L = joinR (L.take j) ++ (laidR c ++ joinR (L.drop (j + 1))) := by
    conv => lhs; rw [← List.take_append_drop j L, joinR_append, hcl, joinR_cons]
  have hp : q - (joinR (L.take j)).length < c.length + 8 := by
    rw [joinR_take hc, List.length_append, laidR_length] at h2
    omega
  have e2 : turnB (joinR L) q d = joinR (L.take j) ++ (turnB (laidR c) (q - (joinR (L.take j)).length) d ++ joinR (L.drop (j + 1))) := by
    rw [e1, turnB_append_right h1, turnB_append_left (by rw [laidR_length]; exact hp)]
  have hcm : c ∈ L := List.mem_iff_getElem?.2 ⟨j, hc⟩
  have e3 := scanJ_join (L := L.take j) (r := turnB (laidR c) (q - (joinR (L.take j)).length) d ++ joinR (L.drop (j + 1))) (fun y hy => hok y (List.mem_of_mem_take hy))
  rw [← e2] at e3
  refine ⟨⟨_, _, e3⟩, fun h4 => ?_⟩
  rw [scanJ_none (takeJ_turned (hok c hcm).1 (hok c hcm).2 h4 hp hd hd2)] at e3
  rw [e3]
  simp
theorem sizeOfL (w : World) : (sizeOf (Try.prog.elem 22)).run Try.prog w = .ok 1 w := by kernel_rfl
theorem slL_h (A : Option Addr) (n c hi : Nat) (h : Int) (hh : h = hi) (h2 : hi ≤ c) (w : World) :
    (Instr.sliceAt 22 (.slice A n c) none (some (.int .i64 h)) none).run Try.prog w = .ok (.slice A hi c) w := by
  subst hh
  have hu : Try.prog.underlying 22 = some (.slice (Try.prog.elem 22)) := by kernel_rfl
  rw [run_sliceAt_slice _ _ _ _ _ _ hu, run_slice_h _ _ _ _ _ hu .i64 (hi : Int) (by omega) (by omega), sizeOfL]
  cases A <;> simp [Result.andThen, sliced, Addr.add]
theorem RdL.pre {w : World} {A : Option Addr} {L : List (List Nat)} (h : RdL w A L) (j : Nat) : RdL w A (L.take j) := fun h0 => by
  rw [List.length_take] at h0
  obtain ⟨b, o, e, hb, hc⟩ := h (by omega)
  refine ⟨b, o, e, hb, fun i l hi => hc i l ?_⟩
  rw [List.getElem?_take] at hi
  by_cases hij : i < j
  · rw [if_pos hij] at hi; exact hi
  · rw [if_neg hij] at hi; cases hi
theorem RdRow.rdL {w W : World} {A : Option Addr} {L : List (List Nat)} (h : RdRow w w.heap.size A L) (hb : Below w.heap.size w W) : RdL W A L := fun h0 => by
  obtain ⟨b, o, e, hl, hc⟩ := h.row h0
  refine ⟨b, o, e, Nat.lt_of_lt_of_le hl hb.size, fun i l hi => ?_⟩
  obtain ⟨Ai, ci, h1, _, h3, h4⟩ := hc i l hi
  exact ⟨Ai, ci, (hb.cell (p := ⟨b, o + i, none⟩) hl).trans h1, (h4.below hb).more hb.size, h3, h.ok l (List.mem_iff_getElem?.2 ⟨i, hi⟩)⟩
end Go.Proofs.Ytgcfofnlgdfmoaa
