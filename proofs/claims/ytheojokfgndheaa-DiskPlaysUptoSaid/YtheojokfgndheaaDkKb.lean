/- Layer 6: two rows of numbers that grow side by side, each by one number at a time. -/
import Derived.Test.YtheojokfgndheaaDkDrop
import Derived.Test.YtheojokfgndheaaDkRead
import Derived.Test.YtheojokfgndheaaDkRfCr
namespace Go.Proofs.Ytheojokfgndheaa
open Go.RowKit

def cellsI (l : List Nat) : List Value := l.map fun z : Nat => Value.int .i64 (z : Int)
theorem cellsI_length (l : List Nat) : (cellsI l).length = l.length := by simp [cellsI]
theorem cellsI_get {l : List Nat} {i x : Nat} (h : l[i]? = some x) : (cellsI l)[i]? = some (.int .i64 x) := by simp [cellsI, h]
theorem Try.infoI : (Try.prog.info? 3).map (fun i => (i.zero, i.size, i.bytes)) = some (some (.int .i64 0), 1, 8) := by kernel_rfl

structure KB (W V : World) (p q : Value) (ks bs : List Nat) : Prop where
  bl : Below W.heap.size W V
  op : V.ownsRow W.heap.size 3 1 p ks.length (cellsI ks)
  oq : V.ownsRow W.heap.size 3 1 q bs.length (cellsI bs)
  ap : ∀ k, p.ownBlock = some k → q.ownBlock ≠ some k
section
variable {W V V' : World} {p q p' : Value} {ks bs : List Nat}
theorem KB.start (W : World) : KB W W (.slice none 0 0) (.slice none 0 0) [] [] := ⟨Below.refl _ _, World.ownsRow_nil _ _ _ _, World.ownsRow_nil _ _ _ _, fun k hk => by simp [Value.ownBlock] at hk⟩
theorem KB.below (h : KB W V p q ks bs) (hb : Below V.heap.size V V') : KB W V' p q ks bs := ⟨h.bl.trans (hb.mono h.bl.size), ownB_below h.op hb, ownB_below h.oq hb, h.ap⟩
theorem KB.swap (h : KB W V p q ks bs) : KB W V q p bs ks := ⟨h.bl, h.oq, h.op, fun k hk e => h.ap k e hk⟩
theorem KB.app {z : Nat} (h : KB W V p q ks bs) (ho : V'.ownsRow W.heap.size 3 1 p' (ks.length + 1) (cellsI ks ++ [.int .i64 (z : Int)])) (hg : V.grownBy V' p.ownBlock) (hb : p'.ownBlock = p.ownBlock ∨ p'.ownBlock = some V.heap.size) : KB W V' p' q (ks ++ [z]) bs := by
  have hpq : q.ownBlock = none ∨ q.ownBlock ≠ p.ownBlock := by
    cases hq : q.ownBlock with
    | none => exact .inl rfl
    | some k => exact .inr fun e => h.ap k e.symm hq
  refine ⟨h.bl.grown hg h.bl.size (fun k e => (h.op.lt k e).1), ?_, h.oq.kept hg hpq, fun k hk e => ?_⟩
  · rw [List.length_append]
    have : cellsI (ks ++ [z]) = cellsI ks ++ [.int .i64 (z : Int)] := by simp [cellsI]
    rw [this]
    exact ho
  · rcases hb with h1 | h1
    · rw [h1] at hk; exact h.ap k hk e
    · rw [h1] at hk
      injection hk with hk
      have := (h.oq.lt k e).2
      omega
/-- a number that waits in a block of its own -/
def Lit1 (V : World) (p q : Value) (i z : Nat) : Prop := V.heap[i]? = some (.cells #[.int .i64 (z : Int)] 3 (0, 0)) ∧ p.ownBlock ≠ some i ∧ q.ownBlock ≠ some i
/-- two rows, a tear, and the numbers that wait -/
structure RW (W V : World) (tb : Nat) (p q : Value) (ks bs : List Nat) (ke bi : Nat) (a b : Option Nat) : Prop where
  k : KB W V p q ks bs
  t : V.heap[tb]? = some (.cells #[.int .u16 (ke : Int), .int .u16 (bi : Int)] 48 (0, 0))
  pt : p.ownBlock ≠ some tb
  qt : q.ownBlock ≠ some tb
  la : ∀ i, a = some i → Lit1 V p q i ke
  lb : ∀ i, b = some i → Lit1 V p q i bi
variable {tb ke bi : Nat} {a b : Option Nat}
theorem KB.rw_ {o : Obj} (h : KB W V p q ks bs) (ho : o = .cells #[.int .u16 (ke : Int), .int .u16 (bi : Int)] 48) : RW W (V.alloc o).drew V.heap.size p q ks bs ke bi none none :=
  ⟨h.below (((Below.refl _ _).alloc (Nat.le_refl _) _).drew), by subst ho; exact heap_alloc_new _ _, fun e => by have := (h.op.lt _ e).2; omega, fun e => by have := (h.oq.lt _ e).2; omega, fun i hi => (by cases hi), fun i hi => (by cases hi)⟩
theorem Lit1.keep {i z : Nat} (h : Lit1 V p q i z) (ob : Obj) : Lit1 (V.alloc ob) p q i z := ⟨(Below.heap_alloc _ _ _ (lt_block h.1)).trans h.1, h.2⟩
theorem RW.build1 (h : RW W V tb p q ks bs ke bi none b) : RW W (V.alloc (.cells #[.int .i64 (ke : Int)] 3)) tb p q ks bs ke bi (some V.heap.size) b :=
  ⟨h.k.below ((Below.refl _ _).alloc (Nat.le_refl _) _), (Below.heap_alloc _ _ _ (lt_block h.t)).trans h.t, h.pt, h.qt, fun i hi => by injection hi with hi; subst hi; exact ⟨heap_alloc_new _ _, fun e => by have := (h.k.op.lt _ e).2; omega, fun e => by have := (h.k.oq.lt _ e).2; omega⟩, fun i hi => (h.lb i hi).keep _⟩
theorem RW.build2 (h : RW W V tb p q ks bs ke bi a none) : RW W (V.alloc (.cells #[.int .i64 (bi : Int)] 3)) tb p q ks bs ke bi a (some V.heap.size) :=
  ⟨h.k.below ((Below.refl _ _).alloc (Nat.le_refl _) _), (Below.heap_alloc _ _ _ (lt_block h.t)).trans h.t, h.pt, h.qt, fun i hi => (h.la i hi).keep _, fun i hi => by injection hi with hi; subst hi; exact ⟨heap_alloc_new _ _, fun e => by have := (h.k.op.lt _ e).2; omega, fun e => by have := (h.k.oq.lt _ e).2; omega⟩⟩
theorem Lit1.moved {q' : Value} {i z : Nat} (h : Lit1 V p q i z) (hf : ∀ g ob, V.heap[g]? = some ob → p.ownBlock ≠ some g → V'.heap[g]? = some ob) (hn : p'.ownBlock ≠ some i) (hq : q'.ownBlock ≠ some i) : Lit1 V' p' q' i z := ⟨hf _ _ h.1 h.2.1, hn, hq⟩
end
section
variable {W V : World} {p q : Value} {ks bs : List Nat} {tb ke bi i : Nat} {a b : Option Nat} {ops : Array Oper} {o : Oper} {A : Go.Act} {K : Go.Act → World → Prop} {Q : Exit → Go.Act → World → Prop} {E : Prop}
theorem step_kb2 {b z : Nat} (hgd : o.guard = none) (s x : Operand)
    (ho : o.op = .call { callee := .builtin .append, args := #[s, x], argTypes := #[45, 45] }) (h : KB W V p q ks bs) (hv : A.eval s = p) (hx : A.eval x = .slice (some ⟨b, 0, none⟩) 1 1)
    (hc : V.cell? ⟨b, 0, none⟩ = some (.int .i64 (z : Int))) (hl : ks.length ≤ 2000000)
    (hK : ∀ p' V', KB W V' p' q (ks ++ [z]) bs → (∀ g ob, V.heap[g]? = some ob → p.ownBlock ≠ some g → V'.heap[g]? = some ob) → (∀ g, g < V.heap.size → p.ownBlock ≠ some g → p'.ownBlock ≠ some g) → K (A.put o.dst p') V') :
    if Region.wanted o (yielded ops A.tmps) = true then Oper.wp Try.prog o A V K Q else E := by
  obtain ⟨i0, hi0, hz0, hz1, hz2⟩ := info_parts Try.infoI
  refine step_append_src hgd s x ho Try.underlying45 hi0 hz0 hz1 hz2 rfl (by decide) hv h.op hx (news := [.int .i64 (z : Int)]) ⟨rfl, fun _ => ⟨_, rfl, fun j u hj => ?_⟩⟩ (fun u hu => by simp at hu; rw [hu]; rfl) (by unfold maxLen; omega) (by omega) h.bl.size fun p' V' h1 h2 h3 => hK p' V' (h.app h1 h2 h3) (fun g ob hg hne => ?_) (fun g hg hne e => ?_)
  · cases j with
    | zero => simp at hj; subst hj; exact hc
    | succ j => simp at hj
  · exact (h2.block g (lt_block hg) (fun e => hne e.symm)).trans hg
  · rcases h3 with h3 | h3
    · rw [h3] at e; exact hne e
    · rw [h3] at e; injection e with e; omega
/-- the first row's append -/
theorem step_rw1 {i' : Nat} (hgd : o.guard = none) (s x : Operand) (ho : o.op = .call { callee := .builtin .append, args := #[s, x], argTypes := #[45, 45] }) (h : RW W V tb p q ks bs ke bi (some i') b) (hl : ks.length ≤ 2000000) (hv : A.eval s = p) (hx : A.eval x = .slice (some ⟨i, 0, none⟩) 1 1) (hi : i' = i)
    (hK : ∀ p' V', RW W V' tb p' q (ks ++ [ke]) bs ke bi none b → K (A.put o.dst p') V') : if Region.wanted o (yielded ops A.tmps) = true then Oper.wp Try.prog o A V K Q else E := by
  subst hi
  have hc : V.cell? ⟨i', 0, none⟩ = some (.int .i64 (ke : Int)) := cell_of_row _ _ 0 _ _ _ (h.la i' rfl).1
  refine step_kb2 hgd s x ho h.k hv hx hc hl fun p' V' h1 h2 h3 => hK p' V' ⟨h1, h2 _ _ h.t h.pt, h3 _ (lt_block h.t) h.pt, h.qt, fun j hj => (by cases hj), fun j hj => (h.lb j hj).moved h2 (h3 _ (lt_block (h.lb j hj).1) (h.lb j hj).2.1) (h.lb j hj).2.2⟩
/-- the second row's append -/
theorem step_rw2 {i' : Nat} (hgd : o.guard = none) (s x : Operand) (ho : o.op = .call { callee := .builtin .append, args := #[s, x], argTypes := #[45, 45] }) (h : RW W V tb p q ks bs ke bi a (some i')) (hl : bs.length ≤ 2000000) (hv : A.eval s = q) (hx : A.eval x = .slice (some ⟨i, 0, none⟩) 1 1) (hi : i' = i)
    (hK : ∀ q' V', RW W V' tb p q' ks (bs ++ [bi]) ke bi a none → K (A.put o.dst q') V') : if Region.wanted o (yielded ops A.tmps) = true then Oper.wp Try.prog o A V K Q else E := by
  subst hi
  have hc : V.cell? ⟨i', 0, none⟩ = some (.int .i64 (bi : Int)) := cell_of_row _ _ 0 _ _ _ (h.lb i' rfl).1
  refine step_kb2 hgd s x ho h.k.swap hv hx hc hl fun q' V' h1 h2 h3 => hK q' V' ⟨h1.swap, h2 _ _ h.t h.qt, h.pt, h3 _ (lt_block h.t) h.qt, fun j hj => ⟨h2 _ _ (h.la j hj).1 (h.la j hj).2.2, (h.la j hj).2.1, h3 _ (lt_block (h.la j hj).1) (h.la j hj).2.2⟩, fun j hj => (by cases hj)⟩
/-- a row of numbers as a list -/
theorem rdN_of_own {w : World} {base : Nat} {e : TypeId} {A : Option Addr} {n c : Nat} {l : List Nat} (h : w.ownsRow base e 1 (.slice A n c) n (cellsI l)) : RdN w w.heap.size A l := fun h0 => by
  have h1 := h.1
  rw [cellsI_length] at h1
  obtain ⟨g, cap, hv, _, hlt⟩ := h.form (by omega)
  injection hv with hv
  subst hv
  refine ⟨g, 0, rfl, hlt, fun i x hx => ?_⟩
  have := h.cells (g := g) rfl i _ (cellsI_get hx)
  rw [Addr.add_lit] at this
  exact this
end
theorem crashL_grows (L : List (ByteArray × Fl)) (ts : List (Nat × Nat)) : (crashL L ts).length = L.length ∧ ∀ b, (∀ p ∈ L, p.2.by_.length ≤ b) → ∀ p ∈ crashL L ts, p.2.by_.length ≤ b := by
  refine ⟨crashK_length L ts _, fun b h p hp => ?_⟩
  obtain ⟨i, hi⟩ := List.mem_iff_getElem?.1 hp
  unfold crashL at hi
  rw [crashK_at] at hi
  split at hi
  · cases e : L[i]? with
    | none => rw [e] at hi; cases hi
    | some q =>
      rw [e] at hi
      injection hi with hi
      have hq := h q (List.mem_iff_getElem?.2 ⟨i, e⟩)
      subst hi
      show (tornF q.2 _ _).by_.length ≤ b
      unfold tornF
      dsimp only
      split
      · rw [List.length_take, List.length_set]; omega
      · rw [List.length_take]; omega
  · exact h p (List.mem_iff_getElem?.2 ⟨i, hi⟩)
end Go.Proofs.Ytheojokfgndheaa
