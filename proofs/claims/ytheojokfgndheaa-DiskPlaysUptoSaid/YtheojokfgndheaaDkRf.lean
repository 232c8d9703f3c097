/- Layer 6: the document's own disk in memory; which of its files a name is. -/
import Derived.Test.YtheojokfgndheaaDkCrash
import Derived.Test.YtheojokfgndheaaDkCopy
namespace Go.Proofs.Ytheojokfgndheaa
open Go.RowKit Go.Maps

/-- a file of the document's own list -/
structure RE where
  s : ByteArray
  A : Option Addr
  n : Nat
  c : Nat
  by_ : List Nat
  syn : Nat
def reC (x : RE) : List Value := [.string x.s, .slice x.A x.n x.c, .int .i64 x.syn]
def cellsF (R : List RE) : List Value := R.flatMap reC
def RE.fl (x : RE) : ByteArray × Fl := (x.s, ⟨x.by_, x.syn⟩)
theorem cellsF_length (R : List RE) : (cellsF R).length = R.length * 3 := by
  induction R with
  | nil => rfl
  | cons x r ih => unfold cellsF at ih ⊢; rw [List.flatMap_cons, List.length_append, ih]; simp [reC]; omega
theorem cellsF_append (a b : List RE) : cellsF (a ++ b) = cellsF a ++ cellsF b := by simp [cellsF]
theorem cellsF_one (R : List RE) : ∀ u ∈ cellsF R, u.oneCell' = true := by
  intro u hu
  simp only [cellsF, List.mem_flatMap] at hu
  obtain ⟨x, _, hx⟩ := hu
  simp [reC] at hx
  rcases hx with rfl | rfl | rfl <;> rfl
theorem cellsF_get : ∀ (R : List RE) (i : Nat) (x : RE), R[i]? = some x → (cellsF R)[i * 3]? = some (.string x.s) ∧ (cellsF R)[i * 3 + 1]? = some (.slice x.A x.n x.c) ∧ (cellsF R)[i * 3 + 2]? = some (.int .i64 x.syn)
  | [], i, x, h => by simp at h
  | y :: r, 0, x, h => by
    simp at h; subst h
    exact ⟨rfl, rfl, rfl⟩
  | y :: r, i + 1, x, h => by
    have ih := cellsF_get r i x (by simpa using h)
    have e : cellsF (y :: r) = reC y ++ cellsF r := rfl
    rw [e]
    have hl : (reC y).length = 3 := rfl
    refine ⟨?_, ?_, ?_⟩
    · rw [List.getElem?_append_right (by omega), hl, show (i + 1) * 3 - 3 = i * 3 from by omega]; exact ih.1
    · rw [List.getElem?_append_right (by omega), hl, show (i + 1) * 3 + 1 - 3 = i * 3 + 1 from by omega]; exact ih.2.1
    · rw [List.getElem?_append_right (by omega), hl, show (i + 1) * 3 + 2 - 3 = i * 3 + 2 from by omega]; exact ih.2.2

/-- a file of the list, in memory: its bytes lie in a block that is neither the disk's nor the list's -/
structure REok (w : World) (T : Nat → Prop) (m : Nat) (r : Option Nat) (x : RE) : Prop where
  n : x.n = x.by_.length
  nil : x.A = none → x.n = 0
  rd : RdB w w.heap.size x.A x.by_
  ok : OkB x.by_
  syn : x.syn ≤ x.by_.length
  max : x.by_.length ≤ 1048576
  s : x.s.size ≤ maxLen
  cap : x.n ≤ x.c
  far : ∀ a, x.A = some a → T a.block ∧ a.block ≠ m ∧ some a.block ≠ r
/-- the document's own disk at block m -/
structure Rf (w : World) (T : Nat → Prop) (m : Nat) (v : Value) (R : List RE) (wr sy : Nat) : Prop where
  mT : T m
  lt : ∀ k, T k → k < w.heap.size
  c0 : w.cell? ⟨m, 0, none⟩ = some v
  c1 : w.cell? ⟨m, 1, none⟩ = some (.int .i64 wr)
  c2 : w.cell? ⟨m, 2, none⟩ = some (.int .i64 sy)
  fz : ∀ o, w.frozen? ⟨m, o, none⟩ = false
  own : w.ownsRow 0 89 3 v R.length (cellsF R)
  row : ∀ k, v.ownBlock = some k → T k ∧ k ≠ m
  each : ∀ x ∈ R, REok w T m v.ownBlock x
  few : R.length ≤ 64
section
variable {w w' : World} {T S : Nat → Prop} {m wr sy : Nat} {v : Value} {R : List RE}
theorem REok.keep {x : RE} {r : Option Nat} (h : REok w T m r x) (ho : Only S w w') (hS : ∀ k, T k → ¬ S k) : REok w' T m r x :=
  ⟨h.n, h.nil, (ho.rdB h.rd (Nat.le_refl _) (fun a ha _ => hS _ (h.far a ha).1)).more ho.size, h.ok, h.syn, h.max, h.s, h.cap, h.far⟩
theorem Rf.keep (h : Rf w T m v R wr sy) (ho : Only S w w') (hS : ∀ k, T k → ¬ S k) : Rf w' T m v R wr sy :=
  ⟨h.mT, fun k hk => Nat.lt_of_lt_of_le (h.lt k hk) ho.size, (ho.cell (p := ⟨m, 0, none⟩) (h.lt m h.mT) (hS m h.mT)).trans h.c0, (ho.cell (p := ⟨m, 1, none⟩) (h.lt m h.mT) (hS m h.mT)).trans h.c1,
    (ho.cell (p := ⟨m, 2, none⟩) (h.lt m h.mT) (hS m h.mT)).trans h.c2, fun o => (ho.frozen (p := ⟨m, o, none⟩) (h.lt m h.mT) (hS m h.mT)).trans (h.fz o), ho.own h.own (fun k hk => hS k (h.row k hk).1), h.row, fun x hx => (h.each x hx).keep ho hS, h.few⟩
theorem Rf.below (h : Rf w T m v R wr sy) (hb : Below w.heap.size w w') : Rf w' T m v R wr sy := h.keep (Only.of_below hb fun _ => False) (fun _ _ h => h)
theorem Rf.slice (h : Rf w T m v R wr sy) : ∃ A c, v = .slice A R.length c := ownB_slice h.own
theorem Rf.new (w : World) : Rf (w.alloc (.cells #[.slice none 0 0, .int .i64 0, .int .i64 0] 29)) (fun k => k = w.heap.size) w.heap.size (.slice none 0 0) [] 0 0 where
  mT := rfl
  lt := fun k hk => by subst hk; simp
  c0 := by rw [World.cell?_alloc_at _ _ _ _ rfl]; rfl
  c1 := by rw [World.cell?_alloc_at _ _ _ _ rfl]; rfl
  c2 := by rw [World.cell?_alloc_at _ _ _ _ rfl]; rfl
  fz := fun o => World.frozen?_alloc_at _ _ _ _ rfl
  own := World.ownsRow_nil _ _ _ _
  row := fun k hk => by simp [Value.ownBlock] at hk
  each := fun x hx => nomatch hx
  few := by simp
/-- the cells of the i-th file -/
theorem Rf.at_ (h : Rf w T m v R wr sy) {i : Nat} {x : RE} (hx : R[i]? = some x) : ∃ g cap, v = .slice (some ⟨g, 0, none⟩) R.length cap ∧ g < w.heap.size ∧ w.cell? ⟨g, i * 3, none⟩ = some (.string x.s) ∧ w.cell? ⟨g, i * 3 + 1, none⟩ = some (.slice x.A x.n x.c) ∧ w.cell? ⟨g, i * 3 + 2, none⟩ = some (.int .i64 x.syn) ∧ (∀ o, w.frozen? ⟨g, o, none⟩ = false) := by
  have hi := (List.getElem?_eq_some_iff.1 hx).1
  obtain ⟨g, cap, hv, _, hlt⟩ := h.own.form (by omega)
  subst hv
  have hc := h.own.cells (g := g) rfl
  obtain ⟨q0, q1, q2⟩ := cellsF_get R i x hx
  have e0 := hc _ _ q0
  have e1 := hc _ _ q1
  have e2 := hc _ _ q2
  rw [Addr.add_lit] at e0 e1 e2
  rw [Nat.zero_add] at e0 e1 e2
  refine ⟨g, cap, rfl, hlt, e0, e1, e2, fun o => ?_⟩
  rcases h.own.2 with ⟨e, _⟩ | ⟨g', cap', cur, e, _, hg, _⟩
  · cases e
  · injection e with e
    injection e with e
    have e : g = g' := congrArg Addr.block e
    subst e
    simp [World.frozen?, hg]
end
theorem retI {a b : Int} (h : a = b) : Ending.returned (.int .i64 a) = .returned (.int .i64 b) := by rw [h]
/-- where a name's file stands -/
def idxR : List RE → ByteArray → Option Nat
  | [], _ => none
  | x :: r, s => if eqS x.s s then some 0 else (idxR r s).map (· + 1)
def idxI (o : Option Nat) : Int := match o with | some i => i | none => -1

set_option maxRecDepth 100000 in
set_option maxHeartbeats 1000000 in
theorem rfind_any {T : Nat → Prop} {m : Nat} {v : Value} {R : List RE} {wr sy : Nat} (s : ByteArray) (w : World) (h : Rf w T m v R wr sy) (_ : s.size ≤ maxLen) :
    Calls Try.prog 21 #[.pointer (some ⟨m, 0, none⟩), .string s] w fun e w' => e = .returned (.int .i64 (idxI (idxR R s))) ∧ w = w' := by
  obtain ⟨A, c, rfl⟩ := h.slice
  have c0 := h.c0
  have hml := h.lt m h.mT
  have hfew := h.few
  have H := Lib.hid h
  clear h
  go_enter Try.func21, Try.ntmps21
  go_wp2
  go_loop [5] (fun iv => ∃ k : Nat, k ≤ R.length ∧ iv = .int .i64 k ∧ Hid (idxI (idxR R s) = idxI ((idxR (R.drop k) s).map (· + k)))) (fun iv => R.length - (intOf iv).toNat)
  case atStart => exact ⟨0, Nat.zero_le _, rfl, by show _ = _; rw [List.drop_zero]; cases idxR R s <;> rfl⟩
  case round =>
    obtain ⟨k, hk, rfl, Hk⟩ := hrel
    by_cases hlt : k < R.length
    · have hx : R[k]? = some R[k] := List.getElem?_eq_getElem hlt
      obtain ⟨g, cap, hv, hgl, x0, x1, x2, _⟩ := H.out.at_ hx
      injection hv with hv1 hv2 hv3
      subst hv1
      subst hv3
      clear hv2
      have hdr : R.drop k = R[k] :: R.drop (k + 1) := by rw [List.drop_eq_getElem_cons hlt]
      obtain ⟨y, hy⟩ : ∃ y, y = R[k] := ⟨_, rfl⟩
      rw [← hy] at x0 hdr
      have Hdr := Lib.hid hdr
      clear hdr hx hy x1 x2
      cases he : eqS y.s s with
      | true =>
        have Hr : Hid (idxI (idxR R s) = (k : Int)) := by
          show _ = _
          rw [Hk.out, Hdr.out]
          unfold idxR
          rw [if_pos he]
          simp [idxI]
        unfold eqS at he
        go_wp2
        go_ret
        exact ⟨retI (Hr.out.symm), rfl⟩
      | false =>
        have Hr : Hid (idxI (idxR R s) = idxI ((idxR (R.drop (k + 1)) s).map (· + (k + 1)))) := by
          show _ = _
          rw [Hk.out, Hdr.out]
          conv => lhs; unfold idxR
          rw [if_neg (by rw [he]; decide)]
          cases idxR (R.drop (k + 1)) s with
          | none => rfl
          | some i => simp [idxI]; omega
        unfold eqS at he
        go_wp2
        go_round
        case rel => exact ⟨k + 1, by omega, by go_num, Hr.out⟩
        case measure => simp [intOf]; omega
    · obtain rfl : k = R.length := by omega
      have hd0 : decide (R.length < R.length) = false := decide_eq_false (Nat.lt_irrefl _)
      have Hr : Hid (idxI (idxR R s) = -1) := by
        show _ = _
        rw [Hk.out, List.drop_length]
        rfl
      go_wp2
      go_ret
      exact ⟨retI (Hr.out.symm), rfl⟩
end Go.Proofs.Ytheojokfgndheaa
