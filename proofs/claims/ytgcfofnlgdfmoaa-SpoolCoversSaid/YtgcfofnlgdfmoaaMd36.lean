/- Several texts in one: SpMap. -/
import Derived.Maps.OwnOps
import Derived.Maps.RangeWalk
import Derived.Test.YtgcfofnlgdfmoaaMd35
/- Layer 8: the statement's own maps of counts by origin, as functions; what a store into one leaves of a spool and of lists. -/
namespace Go.Proofs.Ytgcfofnlgdfmoaa
open Go.RowKit Go.Maps

theorem lawU8 : Keyed Try.prog 5 := int_keyed Try.underlying5
theorem zeroU64 (w : World) : (zeroValue 52).run Try.prog w = .ok (.int .u64 0) w := by kernel_rfl
def keyU (o : Nat) : Lit := .int .u8 o
def datU (k : Nat) : DataW Unit := .lit (.int .u64 k)
theorem keyU_wf {o : Nat} (h : o < 256) : (Lit.int .u8 (o : Int)).wf = true := WalkArith.wf_u8 (by omega)
theorem datU_wf {k : Nat} (h : k < 18446744073709551616) : (Lit.int .u64 (k : Int)).wf = true := WalkArith.wf_u64 (by omega)
theorem lit_inj {a b : Int} (h : (DataW.lit (Lit.int .u64 a) : DataW Unit) = .lit (.int .u64 b)) : a = b := by
  injection h with h
  injection h
theorem keyU_ne {a b : Nat} (h : a ≠ b) : keyU a ≠ keyU b := fun e => by
  unfold keyU at e
  injection e with _ e
  omega
/-- what a map of counts answers for each key -/
def ReadsU (D : DataW Unit) (F : Nat → Nat) : Prop := ∀ o, o < 256 → D.atKey (keyU o) (datU 0) = datU (F o)
def OwnU (w : World) (b n : Nat) (D : DataW Unit) : Prop := w.ownsMap Try.prog 5 (plainElem Try.prog 52) b n D
structure MF (w : World) (b n : Nat) (F : Nat → Nat) : Prop where
  own : ∃ D, OwnU w b n D ∧ ReadsU D F
theorem datU_inj {a b : Nat} (h : datU a = datU b) : a = b := by
  unfold datU at h
  injection h with h
  injection h with _ h
  omega
theorem ReadsU.put {D : DataW Unit} {F : Nat → Nat} (h : ReadsU D F) (hm : IsMap D) {o : Nat} (k : Nat) : ReadsU (D.put (keyU o) (datU k)) (fun i => if i = o then k else F i) := fun i hi => by
  show _ = datU (if i = o then k else F i)
  by_cases e : i = o
  · rw [if_pos e, e]
    exact atKey_put_same hm (by unfold keyU; trivial) _ _
  · rw [if_neg e, atKey_put_other (keyU_ne e)]
    exact h i hi
theorem MF.made (w : World) : MF (w.alloc (.map #[] 0)) w.heap.size 0 (fun _ => 0) := ⟨_, World.ownsMap_made _ _ _ _, fun _ _ => rfl⟩
theorem OwnU.block {w : World} {b n : Nat} {D : DataW Unit} (h : OwnU w b n D) : ∃ es ck, w.heap[b]? = some (.map es ck) := by
  obtain ⟨es, ck, hb, _⟩ := h
  exact ⟨es, ck, hb⟩
theorem OwnU.as {w w' : World} {b n : Nat} {D : DataW Unit} (h : OwnU w b n D) (he : w'.heap[b]? = w.heap[b]?) : OwnU w' b n D := by
  obtain ⟨es, ck, hb, h⟩ := h
  exact ⟨es, ck, he.trans hb, h⟩
theorem MF.block {w : World} {b n : Nat} {F : Nat → Nat} (h : MF w b n F) : ∃ es ck, w.heap[b]? = some (.map es ck) := by
  obtain ⟨D, h, _⟩ := h.own
  exact h.block
theorem MF.lt {w : World} {b n : Nat} {F : Nat → Nat} (h : MF w b n F) : b < w.heap.size := by
  obtain ⟨es, ck, h⟩ := h.block
  exact (Array.getElem?_eq_some_iff.1 h).1
theorem MF.as {w w' : World} {b n : Nat} {F : Nat → Nat} (h : MF w b n F) (he : w'.heap[b]? = w.heap[b]?) : MF w' b n F := by
  obtain ⟨D, h1, h2⟩ := h.own
  exact ⟨D, h1.as he, h2⟩
theorem MF.below {w w' : World} {b n : Nat} {F : Nat → Nat} (h : MF w b n F) (hb : Below w.heap.size w w') : MF w' b n F := h.as (hb.block _ h.lt)
theorem MF.step {w w' : World} {S S' : Nat → Prop} {b n : Nat} {F : Nat → Nat} (h : MF w b n F) (hs : Step w S w' S') (hb : ¬ S b) : MF w' b n F := h.as (hs.only.block _ h.lt hb)
theorem MF.mono {w : World} {b n n' : Nat} {F : Nat → Nat} (h : MF w b n F) (hn : n ≤ n') : MF w b n' F := by
  obtain ⟨D, h1, h2⟩ := h.own
  exact ⟨D, World.ownsMap.mono h1 hn, h2⟩
section
variable {w : World} {ops : Array Oper} {rest : List Oper} {o : Oper} {a : Act} {Q : Exit → Act → World → Prop}
/-- a count is looked up -/
theorem wpList_look8 (hg : o.guard = none) (m x : Operand) (hop : o.op = Op.lookup 49 m x false) {b n : Nat} {F : Nat → Nat} (hm : a.eval m = .map (some b)) (h : MF w b n F) (k : Nat) (hk : k < 256) (hx : a.eval x = .int .u8 k)
    (hK : wpList Try.prog ops Q rest (a.put o.dst (.int .u64 (F k))) w) : wpList Try.prog ops Q (o :: rest) a w := by
  obtain ⟨D, h1, h2⟩ := h.own
  refine wpList_lookup_own_int w hg m x _ hop 5 52 .u64 lawU8 Try.underlying49 Try.underlying52 (zeroU64 w) b n D hm h1 _ (keyU k) hx (keyOf_int_mk Try.underlying5 (keyU_wf hk)) ?_
  intro c hat _
  have h3 := h2 k hk
  unfold datU at h3
  have h4 := lit_inj (hat.symm.trans h3)
  rw [h4]
  exact hK
/-- a count is laid in -/
theorem wpList_put8 (hg : o.guard = none) (m x v : Operand) (hop : o.op = Op.mapUpdate 49 m x v) {b n : Nat} {F : Nat → Nat} (hm : a.eval m = .map (some b)) (h : MF w b n F) (hn : n < 100000) (k c : Nat) (hk : k < 256) (hc : c < 18446744073709551616) (hx : a.eval x = .int .u8 k) (hv : a.eval v = .int .u64 c)
    (hK : ∀ w', MF w' b (n + 1) (fun i => if i = k then c else F i) → w.grownBy w' (some b) → wpList Try.prog ops Q rest (a.put o.dst undef) w') : wpList Try.prog ops Q (o :: rest) a w := by
  obtain ⟨D, h1, h2⟩ := h.own
  refine wpList_mapUpdate_own w hg m x v _ hop 5 52 lawU8 Try.underlying49 _ b n D hm h1 (by unfold maxLen; omega) _ _ (keyU k) hx hv (keyOf_int_mk Try.underlying5 (keyU_wf hk)) (datU c) [] (plainElem_int Try.underlying52 (datU_wf hc)) ?_
  intro w' h3 h4
  exact hK w' ⟨_, h3, h2.put (World.ownsMap.isMap h1) c⟩ h4
end
/-- the look-up's run, for regions that draw their order -/
theorem MF.run {w : World} {b n : Nat} {F : Nat → Nat} (h : MF w b n F) {k : Nat} (hk : k < 256) : (Instr.lookup 49 (.map (some b)) (.int .u8 k) false).run Try.prog w = .ok (.int .u64 (F k)) w := by
  obtain ⟨D, h1, h2⟩ := h.own
  obtain ⟨c, hrun, hat, _⟩ := World.ownsMap.lookup_int h1 lawU8 Try.underlying49 Try.underlying52 (zeroU64 w) (keyOf_int_mk Try.underlying5 (keyU_wf hk))
  have h3 := h2 k hk
  have h4 := lit_inj (hat.symm.trans h3)
  rw [← h4]
  exact hrun
/-- no labels lie in a map -/
theorem lab_not_map {w : World} {b : Nat} {es : Array MapEntry} {ck : Nat} {A : Option Addr} {l : List Pr} (h : RdP w w.heap.size A l) (hb : w.heap[b]? = some (.map es ck)) : ∀ a, A = some a → 0 < l.length → a.block ≠ b := fun a ha h0 e => by
  obtain ⟨b', o, e1, _, hc⟩ := h h0
  rw [ha] at e1
  injection e1 with e1
  subst e1
  have c0 := (hc 0 _ (List.getElem?_eq_getElem h0)).1
  have e : b' = b := e
  subst e
  simp [World.cell?, hb] at c0
theorem only_grown {w w' : World} {b : Nat} (h : w.grownBy w' (some b)) : Only (fun k => k = b) w w' := ⟨h.os, h.tape, h.output, h.size, fun k hk hn => h.block k hk (fun e => hn (by injection e))⟩
/-- a spool stays as it was where a map is stored into -/
theorem SpW.mapped {w0 w w' : World} {S : Nat → Prop} {s q k b : Nat} {X : Sp} {L : List Ett} {es : Array MapEntry} {ck : Nat} (h : SpW w0 w S s q k X L) (hg : w.grownBy w' (some b)) (hb : w.heap[b]? = some (.map es ck)) (h0 : w0.heap.size ≤ b) (hS : ¬ S b) : SpW w0 w' S s q k X L :=
  ⟨h.at_.keep (only_grown hg) (fun i hi e => hS (by have e : i = b := e; rw [← e]; exact hi)) (fun e he a ha h0 => lab_not_map (h.at_.ent e he).rd hb a ha h0), h.ok, h.q, h.new,
    h.bl.grown hg h.bl.size (fun i hi => by injection hi with hi; omega)⟩
/-- a list that lies at or above block B -/
structure RdN (w : World) (B : Nat) (A : Option Addr) (M : List Ett) : Prop where
  rd : RdM8 w A M
  row : ∀ a, A = some a → 0 < M.length → B ≤ a.block
  lab : ∀ e ∈ M, LabNew B e
theorem RdM8.only {w w' : World} {T : Nat → Prop} {A : Option Addr} {M : List Ett} (h : RdM8 w A M) (ho : Only T w w') (hA : ∀ a, A = some a → 0 < M.length → ¬ T a.block) (hL : ∀ e ∈ M, ∀ a, e.A = some a → 0 < e.x.l.length → ¬ T a.block) : RdM8 w' A M := by
  refine ⟨fun h0 => ?_, fun e he => (h.ok e he).only ho (hL e he) (fun _ h => .inl h)⟩
  obtain ⟨b, o, e1, hb, hc⟩ := h.rd h0
  have hne := hA _ e1 h0
  refine ⟨b, o, e1, Nat.lt_of_lt_of_le hb ho.size, fun k e he => ?_⟩
  obtain ⟨h1, h2⟩ := hc k e he
  exact ⟨fun j u hj => (ho.cell (p := ⟨b, o + k * 14 + j, none⟩) hb hne).trans (h1 j u hj), fun j u hj => (ho.cell (p := ⟨b, o + k * 14 + 1 + j, none⟩) hb hne).trans (h2 j u hj)⟩
theorem RdN.below {w w' : World} {B : Nat} {A : Option Addr} {M : List Ett} (h : RdN w B A M) (hb : Below w.heap.size w w') : RdN w' B A M := ⟨h.rd.below hb, h.row, h.lab⟩
theorem RdN.step {w w' : World} {S S' : Nat → Prop} {B : Nat} {A : Option Addr} {M : List Ett} (h : RdN w B A M) (hs : Step w S w' S') (hS : ∀ k, S k → k < B) : RdN w' B A M :=
  ⟨h.rd.only hs.only (fun a ha h0 hk => by have := h.row a ha h0; have := hS _ hk; omega) (fun e he a ha h0 hk => by have := h.lab e he a ha h0; have := hS _ hk; omega), h.row, h.lab⟩
theorem RdN.mapped {w w' : World} {B b : Nat} {A : Option Addr} {M : List Ett} {es : Array MapEntry} {ck : Nat} (h : RdN w B A M) (hg : w.grownBy w' (some b)) (hb : w.heap[b]? = some (.map es ck)) : RdN w' B A M := by
  refine ⟨h.rd.only (only_grown hg) (fun a ha h0 e => ?_) (fun e he a ha h0 => lab_not_map (h.rd.ok e he).rd hb a ha h0), h.row, h.lab⟩
  obtain ⟨e0, he0⟩ : ∃ e, M[0]? = some e := ⟨_, List.getElem?_eq_getElem h0⟩
  obtain ⟨b', o, e1, _, hc⟩ := h.rd.rd h0
  rw [ha] at e1
  injection e1 with e1
  subst e1
  have e : b' = b := e
  subst e
  have := (hc 0 e0 he0).1 0 (.int .u64 e0.i) rfl
  simp [World.cell?, hb] at this
/-- all that waits, in memory of its own -/
theorem listAll_new {w0 w : World} {S : Nat → Prop} {s q k : Nat} {X : Sp} {L : List Ett} (hs : SpW w0 w S s q k X L) (hk : k ≤ 1000) :
    Calls Try.prog 23 #[.pointer (some ⟨s, 0, none⟩), .int .u64 0, .int .i64 1000] w fun e w' => ∃ A' c' M, e = .returned (.slice A' M.length c') ∧ SameE L M ∧ RdN w' w.heap.size A' M ∧ Below w.heap.size w w' := by
  refine (list_new (N := 0) 1000 (by decide) (by decide) w hs.at_ hs.ok.riseE).mono ?_
  rintro e w' ⟨A', c', M, m, he, hsm, hrow, hm, hlo, hhi, hb, hnw⟩
  have hm0 : m = 0 := by
    rcases Nat.eq_zero_or_pos m with h | h
    · exact h
    · have h1 := hlo 0 h
      have hl : 0 < L.length := by omega
      have h2 := (hs.ok.ix L[0].i (List.mem_map_of_mem (List.getElem_mem hl))).1
      have : idxE L 0 = L[0].i := by unfold idxE; rw [List.getElem?_eq_getElem hl]; rfl
      omega
  subst hm0
  have hlen := hs.ok.len
  have hL : listE L 0 (min (1000 : Int).toNat (L.length - 0)) = L := by
    unfold listE
    rw [List.drop_zero, List.take_of_length_le (by have : (1000 : Int).toNat = 1000 := rfl; omega)]
  rw [hL] at hsm
  exact ⟨A', c', M, he, hsm, ⟨hrow.rd, fun a ha h0 => (hrow.own.lt a.block (by rw [ha]; rfl)).1, hnw⟩, hb⟩
end Go.Proofs.Ytgcfofnlgdfmoaa
