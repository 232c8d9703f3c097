/- Layer 6: the program's disk and the document's own side by side: each call on both answers the same number and leaves the same files. -/
import Derived.Test.YtheojokfgndheaaDkSame
import Derived.Test.YtheojokfgndheaaDkAwake
import Derived.Test.YtheojokfgndheaaDkActs
namespace Go.Proofs.Ytheojokfgndheaa
open Go.RowKit Go.Maps

abbrev Fls := List (ByteArray × Fl)
theorem Disk.ltS {w : World} {S : Nat → Prop} {g wr sy : Nat} {L : Fls} (h : Disk w S g L wr sy) : ∀ i, S i → i < w.heap.size := by
  obtain ⟨_, _, _, h1, _⟩ := h; exact h1.lt
theorem RfL.ltT {w : World} {T : Nat → Prop} {m wr sy : Nat} {L : Fls} (h : RfL w T m L wr sy) : ∀ i, T i → i < w.heap.size := by
  obtain ⟨_, _, _, h1⟩ := h; exact h1.lt
theorem RfL.keep {w w' : World} {S T : Nat → Prop} {m wr sy : Nat} {L : Fls} (h : RfL w T m L wr sy) (ho : Only S w w') (hS : ∀ k, T k → ¬ S k) : RfL w' T m L wr sy := by
  obtain ⟨v, R, e, h1⟩ := h; exact ⟨v, R, e, h1.keep ho hS⟩
/-- both disks, after k calls, above block B -/
structure PL (B k : Nat) (w : World) (g m : Nat) (S T : Nat → Prop) (L : Fls) (wr sy : Nat) : Prop where
  D : Disk w S g L wr sy
  R : RfL w T m L wr sy
  ap : ∀ i, S i → ¬ T i
  sb : ∀ i, S i → B ≤ i
  tb : ∀ i, T i → B ≤ i
  hB : B ≤ w.heap.size
  len : L.length ≤ k
  by_ : ∀ p ∈ L, p.2.by_.length ≤ 200 * k
  wr : wr ≤ k
  sy : sy ≤ k
section
variable {B k : Nat} {w w1 w2 : World} {g m : Nat} {S T S' : Nat → Prop} {L L' : Fls} {wr sy wr' sy' : Nat}
theorem PL.below (h : PL B k w g m S T L wr sy) (hb : Below w.heap.size w w1) : PL B k w1 g m S T L wr sy :=
  ⟨h.D.below hb, h.R.keep (Only.of_below hb fun _ => False) (fun _ _ h => h), h.ap, h.sb, h.tb, Nat.le_trans h.hB hb.size, h.len, h.by_, h.wr, h.sy⟩
/-- what one call more may do to the bounds -/
structure Grows (L : Fls) (wr sy : Nat) (L' : Fls) (wr' sy' : Nat) : Prop where
  len : L'.length ≤ L.length + 1
  by_ : ∀ b, (∀ p ∈ L, p.2.by_.length ≤ b) → ∀ p ∈ L', p.2.by_.length ≤ b + 200
  wr : wr' ≤ wr + 1
  sy : sy' ≤ sy + 1
theorem Grows.refl (L : Fls) (wr sy : Nat) : Grows L wr sy L wr sy := ⟨by omega, fun b h p hp => by have := h p hp; omega, by omega, by omega⟩
theorem Grows.put {s : ByteArray} {f : Fl} (hw : wr' ≤ wr + 1) (hs : sy' ≤ sy + 1) (hf : ∀ b, (∀ p ∈ L, p.2.by_.length ≤ b) → f.by_.length ≤ b + 200) : Grows L wr sy (putP L s f) wr' sy' :=
  ⟨putP_length_le _ _ _, fun b h p hp => by
    rcases mem_putP.1 hp with rfl | ⟨hp, _⟩
    · exact hf b h
    · have := h p hp; omega, hw, hs⟩
theorem Grows.del {s : ByteArray} : Grows L wr sy (delP L s) wr sy :=
  ⟨by have := delP_length_le L s; omega, fun b h p hp => by have := h p (mem_delP.1 hp).1; omega, by omega, by omega⟩
theorem Grows.ren {s t : ByteArray} {f : Fl} (hf : findP L s = some f) : Grows L wr sy (putP (delP L s) t f) wr sy :=
  ⟨by have := putP_length_le (delP L s) t f; have := delP_length_le L s; omega, fun b h p hp => by
    rcases mem_putP.1 hp with rfl | ⟨hp, _⟩
    · have := h _ (findP_some hf); show f.by_.length ≤ _; have : f.by_.length ≤ b := this; omega
    · have := h p (mem_delP.1 hp).1; omega, by omega, by omega⟩
/-- behind the call on the program's disk -/
structure Half (B : Nat) (w : World) (g m : Nat) (S T : Nat → Prop) (L' : Fls) (wr' sy' : Nat) (L : Fls) (wr sy : Nat) : Prop where
  D : Disk w S g L' wr' sy'
  R : RfL w T m L wr sy
  ap : ∀ i, S i → ¬ T i
  sb : ∀ i, S i → B ≤ i
  tb : ∀ i, T i → B ≤ i
  hB : B ≤ w.heap.size
theorem PL.half (h : PL B k w g m S T L wr sy) (hl : Leaves w w1 S g L' wr' sy') : (∃ S', Half B w1 g m S' T L' wr' sy' L wr sy ∧ ∀ i, S' i → S i ∨ w.heap.size ≤ i) ∧ Below B w w1 ∧ Only S w w1 := by
  obtain ⟨S', hD, st⟩ := hl
  obtain ⟨h1, h2⟩ := st.base h.sb h.hB
  have hT := h.R.ltT
  refine ⟨⟨S', ⟨hD, h.R.keep st.only (fun i hi hs => h.ap i hs hi), fun i hs ht => ?_, h1, h.tb, Nat.le_trans h.hB st.only.size⟩, st.new⟩, h2, st.only⟩
  rcases st.new i hs with h' | h'
  · exact h.ap i h' ht
  · have := hT i ht; omega
theorem Half.below (h : Half B w g m S T L' wr' sy' L wr sy) (hb : Below w.heap.size w w1) : Half B w1 g m S T L' wr' sy' L wr sy :=
  ⟨h.D.below hb, h.R.keep (Only.of_below hb fun _ => False) (fun _ _ h => h), h.ap, h.sb, h.tb, Nat.le_trans h.hB hb.size⟩
theorem Half.whole (h : Half B w1 g m S T L' wr' sy' L wr sy) (hl : RLeaves w1 w2 T m L' wr' sy') (p : PL B k w g m S' T L wr sy) (hg : Grows L wr sy L' wr' sy') : (∃ T', PL B (k + 1) w2 g m S T' L' wr' sy') ∧ Below B w1 w2 := by
  obtain ⟨T', hR, st⟩ := hl
  obtain ⟨h1, h2⟩ := st.base h.tb h.hB
  have hS := h.D.ltS
  refine ⟨⟨T', ⟨h.D.keep st.only h.ap, hR, fun i hs ht => ?_, h.sb, h1, Nat.le_trans h.hB st.only.size, ?_, fun q hq => ?_, ?_, ?_⟩⟩, h2⟩
  · rcases st.new i ht with h' | h'
    · exact h.ap i hs h'
    · have := hS i hs; omega
  · have := hg.len; have := p.len; omega
  · have := hg.by_ _ p.by_ q hq; omega
  · have := hg.wr; have := p.wr; omega
  · have := hg.sy; have := p.sy; omega
theorem PL.more (h : PL B k w g m S T L wr sy) : PL B (k + 1) w g m S T L wr sy :=
  ⟨h.D, h.R, h.ap, h.sb, h.tb, h.hB, Nat.le_succ_of_le h.len, fun p hp => by have := h.by_ p hp; omega, Nat.le_succ_of_le h.wr, Nat.le_succ_of_le h.sy⟩
theorem Leaves.of_below (h : Disk w S g L wr sy) (hb : Below w.heap.size w w1) : Leaves w w1 S g L wr sy := ⟨S, h.below hb, Step.of_below S hb⟩
theorem RLeaves.of_eq (h : RfL w T m L wr sy) (hw : w = w1) : RLeaves w w1 T m L wr sy := hw ▸ ⟨T, h, Step.refl w T⟩
end
/-- a call answers this number and leaves these files: on the program's disk, and on the document's -/
def DoesP (f : Nat) (r : List Value) (L : Fls) (wr sy : Nat) (z : Int) (L' : Fls) (wr' sy' : Nat) : Prop := ∀ (w : World) (S : Nat → Prop) (g : Nat), Disk w S g L wr sy →
  Calls Try.prog f (Value.pointer (some ⟨g, 0, none⟩) :: r).toArray w fun e w' => e = .returned (.int .i64 z) ∧ Leaves w w' S g L' wr' sy'
def DoesR (f : Nat) (r : List Value) (L : Fls) (wr sy : Nat) (z : Int) (L' : Fls) (wr' sy' : Nat) : Prop := ∀ (w : World) (T : Nat → Prop) (m : Nat), RfL w T m L wr sy →
  Calls Try.prog f (Value.pointer (some ⟨m, 0, none⟩) :: r).toArray w fun e w' => e = .returned (.int .i64 z) ∧ RLeaves w w' T m L' wr' sy'
section
variable {L : Fls} {wr sy : Nat} {s t : ByteArray}
theorem pair_sync (hr : Rising L) (hs : s.size ≤ maxLen) (hsy : sy ≤ 1000000) : ∃ z L' sy', DoesP 12 [.string s] L wr sy z L' wr sy' ∧ DoesR 13 [.string s] L wr sy z L' wr sy' ∧ Grows L wr sy L' wr sy' := by
  cases hf : findP L s with
  | none => exact ⟨14, L, sy, fun w S g h => (sync_none s w h hs hf).mono fun e w' h' => ⟨h'.1, .of_below h h'.2⟩, fun w T m h => (rsync_none s w h hs hf).mono fun e w' h' => ⟨h'.1, .of_eq h h'.2⟩, Grows.refl _ _ _⟩
  | some f => exact ⟨0, _, sy + 1, fun w S g h => sync_some w h hs hf hsy, fun w T m h => rsync_some s w h hr hs hf hsy, Grows.put (by omega) (by omega) (fun b hb => by have := hb _ (findP_some hf); show f.by_.length ≤ _; have : f.by_.length ≤ b := this; omega)⟩
theorem pair_cut (z0 : Int) (hr : Rising L) (hs : s.size ≤ maxLen) : ∃ z L', DoesP 14 [.string s, .int .i64 z0] L wr sy z L' wr sy ∧ DoesR 15 [.string s, .int .i64 z0] L wr sy z L' wr sy ∧ Grows L wr sy L' wr sy := by
  cases hf : findP L s with
  | none => exact ⟨14, L, fun w S g h => (cut_none z0 s w h hs hf).mono fun e w' h' => ⟨h'.1, .of_below h h'.2⟩, fun w T m h => (rcut_none z0 s w h hs hf).mono fun e w' h' => ⟨h'.1, .of_eq h h'.2⟩, Grows.refl _ _ _⟩
  | some f =>
    by_cases hz : z0 < 0 ∨ (f.by_.length : Int) < z0
    · exact ⟨6, L, fun w S g h => (cut_range z0 w h hs hf hz).mono fun e w' h' => ⟨h'.1, .of_below h h'.2⟩, fun w T m h => (rcut_range z0 s w h hs hf hz).mono fun e w' h' => ⟨h'.1, .of_eq h h'.2⟩, Grows.refl _ _ _⟩
    · obtain ⟨k, rfl⟩ : ∃ k : Nat, z0 = k := ⟨z0.toNat, by omega⟩
      have hk : k ≤ f.by_.length := by omega
      exact ⟨0, _, fun w S g h => cut_some k w h hs hf hk, fun w T m h => rcut_some k s w h hr hs hf hk, Grows.put (by omega) (by omega) (fun b hb => by have := hb _ (findP_some hf); have : f.by_.length ≤ b := this; show (f.by_.take k).length ≤ _; rw [List.length_take]; omega)⟩
theorem pair_rename (hr : Rising L) (hs : s.size ≤ maxLen) (ht : t.size ≤ maxLen) : ∃ z L', DoesP 16 [.string s, .string t] L wr sy z L' wr sy ∧ DoesR 17 [.string s, .string t] L wr sy z L' wr sy ∧ Grows L wr sy L' wr sy := by
  cases hf : findP L s with
  | none => exact ⟨14, L, fun w S g h => (rename_none t s w h hs hf).mono fun e w' h' => ⟨h'.1, .of_below h h'.2⟩, fun w T m h => (rrename_none t s w h hs hf).mono fun e w' h' => ⟨h'.1, .of_eq h h'.2⟩, Grows.refl _ _ _⟩
  | some f =>
    cases hv : valueB t with
    | false => exact ⟨8, L, fun w S g h => (rename_name w h hs hf hv).mono fun e w' h' => ⟨h'.1, .of_below h h'.2⟩, fun w T m h => (rrename_name t s w h hs ht hf hv).mono fun e w' h' => ⟨h'.1, .of_eq h h'.2⟩, Grows.refl _ _ _⟩
    | true => exact ⟨0, _, fun w S g h => rename_some w h hs ht hf hv, fun w T m h => rrename_some t s w h hr hs ht hf hv, Grows.ren hf⟩
theorem pair_remove (hr : Rising L) (hs : s.size ≤ maxLen) : ∃ z L', DoesP 18 [.string s] L wr sy z L' wr sy ∧ DoesR 19 [.string s] L wr sy z L' wr sy ∧ Grows L wr sy L' wr sy := by
  cases hf : findP L s with
  | none => exact ⟨14, L, fun w S g h => (remove_none s w h hs hf).mono fun e w' h' => ⟨h'.1, .of_below h h'.2⟩, fun w T m h => (rremove_none s w h hs hf).mono fun e w' h' => ⟨h'.1, .of_eq h h'.2⟩, Grows.refl _ _ _⟩
  | some f => exact ⟨0, _, fun w S g h => remove_some w h hs hf, fun w T m h => rremove_some s w h hr hs hf, Grows.del⟩
/-- Append: the bytes that are handed in lie in neither disk -/
theorem pair_append {A : Option Addr} {n c : Nat} {l : List Nat} (hr : Rising L) (hs : s.size ≤ maxLen) (hn : n = l.length) (hok : OkB l) (hl : n ≤ 200) (hfew : L.length < 64) (hby : ∀ p ∈ L, p.2.by_.length ≤ 20000) (hwr : wr ≤ 1000000) :
    ∃ z L' wr', (∀ (w : World) (S : Nat → Prop) (g : Nat), Disk w S g L wr sy → RdB w w.heap.size A l →
        Calls Try.prog 24 #[.pointer (some ⟨g, 0, none⟩), .string s, .slice A n c] w fun e w' => e = .returned (.int .i64 z) ∧ Leaves w w' S g L' wr' sy) ∧
      (∀ (w : World) (T : Nat → Prop) (m : Nat), RfL w T m L wr sy → RdB w w.heap.size A l → (∀ a, A = some a → 0 < l.length → ¬ T a.block) →
        Calls Try.prog 25 #[.pointer (some ⟨m, 0, none⟩), .string s, .slice A n c] w fun e w' => e = .returned (.int .i64 z) ∧ RLeaves w w' T m L' wr' sy) ∧ Grows L wr sy L' wr' sy := by
  cases hv : valueB s with
  | false => exact ⟨8, L, wr, fun w S g h _ => (append_name _ s _ w hv).mono fun e w' h' => ⟨h'.1, .of_below h h'.2⟩, fun w T m h _ _ => (rappend_name s w h hs hv).mono fun e w' h' => ⟨h'.1, .of_eq h h'.2⟩, Grows.refl _ _ _⟩
  | true =>
    have hhad : (had L s).by_.length ≤ 20000 := by
      unfold had
      cases e : findP L s with
      | none => simp
      | some f => exact hby _ (findP_some e)
    refine ⟨0, _, wr + 1, fun w S g h hb => append_ok w h hv hs (fun _ => hfew) hn hok (by omega) hb hwr, fun w T m h hb hT => ?_, Grows.put (by omega) (by omega) (fun b hb => ?_)⟩
    · cases hf : findP L s with
      | none =>
        have e : had L s = ⟨[], 0⟩ := by unfold had; rw [hf]; rfl
        rw [e]
        exact rappend_new s w h hr hs hf hfew hv hn hok (by omega) hb hT hwr
      | some f =>
        have e : had L s = f := by unfold had; rw [hf]; rfl
        have hf2 := hby _ (findP_some hf)
        rw [e]
        exact rappend_some s w h hr hs hf hv hn hok (by show f.by_.length + n ≤ _; have : f.by_.length ≤ 20000 := hf2; omega) hb hwr
    · have hh : (had L s).by_.length ≤ b := by
        unfold had
        cases e : findP L s with
        | none => simp
        | some f => exact hb _ (findP_some e)
      show ((had L s).by_ ++ l).length ≤ _
      rw [List.length_append]; omega
/-- which file a name is, on the document's disk -/
theorem rfind_L {T : Nat → Prop} {m : Nat} (w : World) (h : RfL w T m L wr sy) (hs : s.size ≤ maxLen) :
    Calls Try.prog 21 #[.pointer (some ⟨m, 0, none⟩), .string s] w fun e w' => ∃ z : Int, e = .returned (.int .i64 z) ∧ (match findP L s with | some _ => 0 ≤ z | none => z = -1) ∧ w = w' := by
  obtain ⟨v, R, rfl, h⟩ := h
  refine (rfind_any s w h hs).mono ?_
  rintro e w' ⟨rfl, rfl⟩
  refine ⟨_, rfl, ?_, rfl⟩
  cases hi : idxR R s with
  | none => rw [idx_none hi]; rfl
  | some i =>
    obtain ⟨x, _, _, h3⟩ := idx_some hi
    rw [h3]
    show (0 : Int) ≤ (i : Int)
    omega
end
theorem nmOf_size (k : Nat) : (nmOf (k % 4)).size ≤ maxLen := by
  have : k % 4 = 0 ∨ k % 4 = 1 ∨ k % 4 = 2 ∨ k % 4 = 3 := by omega
  rcases this with h | h | h | h <;> rw [h] <;> decide +kernel
theorem nameA_size (x : Act) (k : Nat) (h : x.nm.size ≤ maxLen) : (nameA x k).size ≤ maxLen := by
  unfold nameA
  split
  · exact h
  · exact nmOf_size k
end Go.Proofs.Ytheojokfgndheaa
