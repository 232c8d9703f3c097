/- Layer 7: five rows of bytes in a literal. -/
import Derived.Test.YtheojokfgndheaaJlRscan
import Derived.Test.YtheojokfgndheaaJournalLong
import Derived.Test.YtheojokfgndheaaJlObj
namespace Go.Proofs.Ytheojokfgndheaa
open Go.RowKit

def El5 (W : World) (B g : Nat) (v : Value) : Prop := ∃ A n c l, v = .slice A n c ∧ n = l.length ∧ n ≤ c ∧ n ≤ 3000 ∧ RdB W B A l ∧ OkB l ∧ Off A g l
section
variable {W W' : World} {B g : Nat} {v : Value}
theorem El5.keep (h : El5 W B g v) (ho : Only (fun k => k = g) W W') (hB : B ≤ W.heap.size) : El5 W' B g v := by
  obtain ⟨A, n, c, l, h1, h2, h3, h4, h5, h6, h7⟩ := h
  exact ⟨A, n, c, l, h1, h2, h3, h4, ho.rdB h5 hB (fun a ha h0 => h7 h0 a ha), h6, h7⟩
theorem RdB.pre {A : Option Addr} {l : List Nat} (h : RdB W B A l) (p : Nat) : RdB W B A (l.take p) := fun h0 => by
  rw [List.length_take] at h0
  obtain ⟨b, o, e, hb, hc⟩ := h (by omega)
  refine ⟨b, o, e, hb, fun i x hx => hc i x ?_⟩
  rw [List.getElem?_take] at hx
  by_cases hi : i < p
  · rw [if_pos hi] at hx; exact hx
  · rw [if_neg hi] at hx; cases hx
theorem El5.own {base n c : Nat} {A : Option Addr} {l : List Nat} (ho : W.ownsRow base 5 1 (.slice A n c) n (cellsB l)) (hB : W.heap.size ≤ B) (hg : g < base) (hok : OkB l) (p : Nat) (hp : p ≤ n) (hn : n ≤ 3000) : El5 W B g (.slice A p c) := by
  obtain ⟨y1, y2, y3⟩ := rdB_of_own ho
  have hc := own_cap7 ho
  refine ⟨A, p, c, l.take p, rfl, by rw [List.length_take]; omega, by omega, by omega, (y1.more hB).pre p, fun x hx => hok x (List.mem_of_mem_take hx), fun h0 a ha e => ?_⟩
  have := (ho.lt a.block (by rw [ha]; rfl)).1
  omega
/-- the five -/
structure FiveAt (W : World) (b g : Nat) : Prop where
  gb : g < b
  lt : b < W.heap.size
  cell : ∀ i : Nat, i < 5 → ∃ v, W.cell? ⟨b, i, none⟩ = some v ∧ El5 W b g v
theorem FiveAt.keep {b : Nat} (h : FiveAt W b g) (ho : Only (fun k => k = g) W W') : FiveAt W' b g :=
  ⟨h.gb, Nat.lt_of_lt_of_le h.lt ho.size, fun i hi => by
    obtain ⟨v, h1, h2⟩ := h.cell i hi
    exact ⟨v, (ho.cell (p := ⟨b, i, none⟩) h.lt (fun e => by have e : b = g := e; have := h.gb; omega)).trans h1, h2.keep ho (Nat.le_of_lt h.lt)⟩⟩
theorem cell5 (W : World) (cs : Array Value) (t : TypeId) (i : Nat) : (W.alloc (.cells cs t)).cell? ⟨W.heap.size, i, none⟩ = cs[i]? := by
  have e : (W.alloc (.cells cs t)).heap[W.heap.size]? = some (.cells cs t) := by
    show (W.heap.push _)[W.heap.size]? = _
    exact Array.getElem?_push_size
  simp only [World.cell?, e]
  rfl
theorem FiveAt.new (v0 v1 v2 v3 v4 : Value) (t : TypeId) (hg : g < W.heap.size) (h0 : El5 W W.heap.size g v0) (h1 : El5 W W.heap.size g v1) (h2 : El5 W W.heap.size g v2) (h3 : El5 W W.heap.size g v3) (h4 : El5 W W.heap.size g v4) :
    FiveAt (W.alloc (.cells #[v0, v1, v2, v3, v4] t)) W.heap.size g := by
  have hb : Below W.heap.size W (W.alloc (.cells #[v0, v1, v2, v3, v4] t)) := (Below.refl _ _).alloc (Nat.le_refl _) _
  have ho := Only.of_below hb (fun k => k = g)
  refine ⟨hg, by simp, fun i hi => ?_⟩
  rw [cell5]
  match i, hi with
  | 0, _ => exact ⟨v0, rfl, h0.keep ho (Nat.le_refl _)⟩
  | 1, _ => exact ⟨v1, rfl, h1.keep ho (Nat.le_refl _)⟩
  | 2, _ => exact ⟨v2, rfl, h2.keep ho (Nat.le_refl _)⟩
  | 3, _ => exact ⟨v3, rfl, h3.keep ho (Nat.le_refl _)⟩
  | 4, _ => exact ⟨v4, rfl, h4.keep ho (Nat.le_refl _)⟩
end
/-- behind k rounds -/
structure Lp5 (w wx : World) (b g k : Nat) : Prop where
  five : FiveAt wx b g
  tab : ∃ d s t, d ≤ 1 ∧ s ≤ 20 + k * 10000 ∧ t ≤ 3000 + k * 20000 ∧ Tab wx g d s t
  wg : w.heap.size ≤ g
  bl : Below w.heap.size w wx
theorem joinR_ge : ∀ L : List (List Nat), L.length ≤ (joinR L).length
  | [] => Nat.zero_le _
  | c :: L => by
    have ih := joinR_ge L
    have e : joinR (c :: L) = laidR c ++ joinR L := by simp [joinR]
    rw [e, List.length_append, laidR_length, List.length_cons]
    omega
theorem scanJ_few {l : List Nat} (hok : OkB l) : (scanJ l).1.length ≤ l.length := by
  have h := (scanJ_laid l.length l (Nat.le_refl _) hok).2
  have h2 := joinR_ge (scanJ l).1
  rw [← h, List.length_take] at h2
  omega
/-- behind one round's calls -/
theorem Lp5.next {w wx wa wb wt wu : World} {b g k s t : Nat} (h : Lp5 w wx b g k) (ha : TurnsIn wx wa g (fun _ => True)) (hb : Below wa.heap.size wa wb) (ht : TurnsIn wb wt g (fun _ => True)) (hu : Below wt.heap.size wt wu)
    (hs : s ≤ 20 + (k + 1) * 10000) (hl : t ≤ 3000 + (k + 1) * 20000) {d : Nat} (hd : d ≤ 1) (hT : Tab wt g d s t) : Lp5 w wu b g (k + 1) :=
  have o1 := ha.only
  have o2 := o1.trans (Only.of_below hb (fun k => k = g)) (fun _ h => .inl h)
  have o3 := o2.trans ht.only (fun _ h => .inl h)
  have o4 := o3.trans (Only.of_below hu (fun k => k = g)) (fun _ h => .inl h)
  ⟨h.five.keep o4, ⟨d, s, t, hd, hs, hl, hT.below hu⟩, h.wg, h.bl.trans (o4.below h.bl.size (fun k e => by have e : k = g := e; have := h.wg; omega))⟩
end Go.Proofs.Ytheojokfgndheaa
