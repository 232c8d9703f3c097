/- Several texts in one: SpMap, SpNil. -/
import Derived.Maps.OwnOps
import Derived.Maps.RangeWalk
import Derived.Test.YtgcfofnlgdfmoaaMf31
import Derived.Test.YtgcfofnlgdfmoaaMf35
/- Layer 8: the statement's own maps of counts by origin, as functions; what a store into one leaves of a spool and of lists. -/
namespace Go.Proofs.Ytgcfofnlgdfmoaa
open Go.RowKit Go.Maps

theorem lawU8 : Keyed Try.prog 5 := int_keyed Try.underlying5
theorem zeroU64 (w : World) : (zeroValue 52).run Try.prog w = .ok (.int .u64 0) w := by kernel_rfl
def keyU (o : Nat) : Lit := .int .u8 o
def datU (k : Nat) : DataW Unit := .lit (.int .u64 k)
theorem keyU_wf {o : Nat} (h : o < 256) : (Lit.int .u8 (o : Int)).wf = true := WalkArith.wf_u8 (by omega)
theorem datU_wf {k : Nat} (h : k < 18446744073709551616) : (Lit.int .u64 (k : Int)).wf = true := WalkArith.wf_u64 (by omega)
theorem lit_inj {a b : Int} (h : (DataW.lit (Lit.int .u64 a) : DataW Unit) = .lit (.int .u64 b)) : a = b := by
  injection h with h
  injection h
theorem keyU_ne {a b : Nat} (h : a ≠ b) : keyU a ≠ keyU b := fun e => by
  unfold keyU at e
  injection e with _ e
  omega
/-- what a map of counts answers for each key -/
def ReadsU (D : DataW Unit) (F : Nat → Nat) : Prop := ∀ o, o < 256 → D.atKey (keyU o) (datU 0) = datU (F o)
def OwnU (w : World) (b n : Nat) (D : DataW Unit) : Prop := w.ownsMap Try.prog 5 (plainElem Try.prog 52) b n D
structure MF (w : World) (b n : Nat) (F : Nat → Nat) : Prop where
  own : ∃ D, OwnU w b n D ∧ ReadsU D F
theorem datU_inj {a b : Nat} (h : datU a = datU b) : a = b := by
  unfold datU at h
  injection h with h
  injection h with _ h
  omega
theorem ReadsU.put {D : DataW Unit} {F : Nat → Nat} (h : ReadsU D F) (hm : IsMap D) {o : Nat} (k : Nat) : ReadsU (D.put (keyU o) (datU k)) (fun i => if i = o then k else F i) := fun i hi => by
  show _ = datU (if i = o then k else F i)
  by_cases e : i = o
  · rw [if_pos e, e]
    exact atKey_put_same hm (by unfold keyU; trivial) _ _
  · rw [if_neg e, atKey_put_other (keyU_ne e)]
    exact h i hi
theorem MF.made (w : World) : MF (w.alloc (.map #[] 0)) w.heap.size 0 (fun _ => 0) := ⟨_, World.ownsMap_made _ _ _ _, fun _ _ => rfl⟩
theorem OwnU.block {w : World} {b n : Nat} {D : DataW Unit} (h : OwnU w b n D) : ∃ es ck, w.heap[b]? = some (.map es ck) := by
  obtain ⟨es, ck, hb, _⟩ := h
  exact ⟨es, ck, hb⟩
theorem OwnU.as {w w' : World} {b n : Nat} {D : DataW Unit} (h : OwnU w b n D) (he : w'.heap[b]? = w.heap[b]?) : OwnU w' b n D := by
  obtain ⟨es, ck, hb, h⟩ := h
  exact ⟨es, ck, he.trans hb, h⟩
theorem MF.block {w : World} {b n : Nat} {F : Nat → Nat} (h : MF w b n F) : ∃ es ck, w.heap[b]? = some (.map es ck) := by
  obtain ⟨D, h, _⟩ := h.own
  exact h.block
theorem MF.lt {w : World} {b n : Nat} {F : Nat → Nat} (h : MF w b n F) : b < w.heap.size := by
  obtain ⟨es, ck, h⟩ := h.block
  exact (Array.getElem?_eq_some_iff.1 h).1
theorem MF.as {w w' : World} {b n : Nat} {F : Nat → Nat} (h : MF w b n F) (he : w'.heap[b]? = w.heap[b]?) : MF w' b n F := by
  obtain ⟨D, h1, h2⟩ := h.own
  exact ⟨D, h1.as he, h2⟩
theorem MF.below {w w' : World} {b n : Nat} {F : Nat → Nat} (h : MF w b n F) (hb : Below w.heap.size w w') : MF w' b n F := h.as (hb.block _ h.lt)
theorem MF.step {w w' : World} {S S' : Nat → Prop} {b n : Nat} {F : Nat → Nat} (h : MF w b n F) (hs : Step w S w' S') (hb : ¬ S b) : MF w' b n F := h.as (hs.only.block _ h.lt hb)
theorem MF.mono {w : World} {b n n' : Nat} {F : Nat → Nat} (h : MF w b n F) (hn : n ≤ n') : MF w b n' F := by
  obtain ⟨D, h1, h2⟩ := h.own
  exact ⟨D, World.ownsMap.mono h1 hn, h2⟩
section
variable {w : World} {ops : Array Oper} {rest : List Oper} {o : Oper} {a : Act} {Q : Exit → Act → World → Prop}
/-- a count is looked up -/
theorem wpList_look8 (hg : o.guard = none) (m x : Operand) (hop : o.op = Op.lookup 49 m x false) {b n : Nat} {F : Nat → Nat} (hm : a.eval m = .map (some b)) (h : MF w b n F) (k : Nat) (hk : k < 256) (hx : a.eval x = .int .u8 k)
    (hK : wpList Try.prog ops Q rest (a.put o.dst (.int .u64 (F k))) w) : wpList Try.prog ops Q (o :: rest) a w := by
  obtain ⟨D, h1, h2⟩ := h.own
  refine wpList_lookup_own_int w hg m x _ hop 5 52 .u64 lawU8 Try.underlying49 Try.underlying52 (zeroU64 w) b n D hm h1 _ (keyU k) hx (keyOf_int_mk Try.underlying5 (keyU_wf hk)) ?_
  intro c hat _
  have h3 := h2 k hk
  unfold datU at h3
  have h4 := lit_inj (hat.symm.trans h3)
  rw [h4]
  exact hK
/-- a count is laid in -/
theorem wpList_put8 (hg : o.guard = none) (m x v : Operand) (hop : o.op = Op.mapUpdate 49 m x v) {b n : Nat} {F : Nat → Nat} (hm : a.eval m = .map (some b)) (h : MF w b n F) (hn : n < 100000) (k c : Nat) (hk : k < 256) (hc : c < 18446744073709551616) (hx : a.eval x = .int .u8 k) (hv : a.eval v = .int .u64 c)
    (hK : ∀ w', MF w' b (n + 1) (fun i => if i = k then c else F i) → w.grownBy w' (some b) → wpList Try.prog ops Q rest (a.put o.dst undef) w') : wpList Try.prog ops Q (o :: rest) a w := by
  obtain ⟨D, h1, h2⟩ := h.own
  refine wpList_mapUpdate_own w hg m x v _ hop 5 52 lawU8 Try.underlying49 _ b n D hm h1 (by unfold maxLen; omega) _ _ (keyU k) hx hv (keyOf_int_mk Try.underlying5 (keyU_wf hk)) (datU c) [] (plainElem_int Try.underlying52 (datU_wf hc)) ?_
  intro w' h3 h4
  exact hK w' ⟨_, h3, h2.put (World.ownsMap.isMap h1) c⟩ h4
end
/-- the look-up's run, for regions that draw their order -/
theorem MF.run {w : World} {b n : Nat} {F : Nat → Nat} (h : MF w b n F) {k : Nat} (hk : k < 256) : (Instr.lookup 49 (.map (some b)) (.int .u8 k) false).run Try.prog w = .ok (.int .u64 (F k)) w := by
  obtain ⟨D, h1, h2⟩ := h.own
  obtain ⟨c, hrun, hat, _⟩ := World.ownsMap.lookup_int h1 lawU8 Try.underlying49 Try.underlying52 (zeroU64 w) (keyOf_int_mk Try.underlying5 (keyU_wf hk))
  have h3 := h2 k hk
  have h4 := lit_inj (hat.symm.trans h3)
  rw [← h4]
  exact hrun
/-- no labels lie in a map -/
theorem lab_not_map {w : World} {b : Nat} {es : Array MapEntry} {ck : Nat} {A : Option Addr} {l : List Pr} (h : RdP w w.heap.size A l) (hb : w.heap[b]? = some (.map es ck)) : ∀ a, A = some a → 0 < l.length → a.block ≠ b := fun a ha h0 e => by
  obtain ⟨b', o, e1, _, hc⟩ := h h0
  rw [ha] at e1
  injection e1 with e1
  subst e1
  have c0 := (hc 0 _ (List.getElem?_eq_getElem h0)).1
  have e : b' = b := e
  subst e
  simp [World.cell?, hb] at c0
theorem only_grown {w w' : World} {b : Nat} (h : w.grownBy w' (some b)) : Only (fun k => k = b) w w' := ⟨h.os, h.tape, h.output, h.size, fun k hk hn => h.block k hk (fun e => hn (by injection e))⟩
/-- a spool stays as it was where a map is stored into -/
theorem SpW.mapped {w0 w w' : World} {S : Nat → Prop} {s q k b : Nat} {X : Sp} {L : List Ett} {es : Array MapEntry} {ck : Nat} (h : SpW w0 w S s q k X L) (hg : w.grownBy w' (some b)) (hb : w.heap[b]? = some (.map es ck)) (h0 : w0.heap.size ≤ b) (hS : ¬ S b) : SpW w0 w' S s q k X L :=
  ⟨h.at_.keep (only_grown hg) (fun i hi e => hS (by have e : i = b := e; rw [← e]; exact hi)) (fun e he a ha h0 => lab_not_map (h.at_.ent e he).rd hb a ha h0), h.ok, h.q, h.new,
    h.bl.grown hg h.bl.size (fun i hi => by injection hi with hi; omega)⟩
/-- a list that lies at or above block B -/
structure RdN (w : World) (B : Nat) (A : Option Addr) (M : List Ett) : Prop where
  rd : RdM8 w A M
  row : ∀ a, A = some a → 0 < M.length → B ≤ a.block
  lab : ∀ e ∈ M, LabNew B e
theorem RdM8.only {w w' : World} {T : Nat → Prop} {A : Option Addr} {M : List Ett} (h : RdM8 w A M) (ho : Only T w w') (hA : ∀ a, A = some a → 0 < M.length → ¬ T a.block) (hL : ∀ e ∈ M, ∀ a, e.A = some a → 0 < e.x.l.length → ¬ T a.block) : RdM8 w' A M := by
  refine ⟨fun h0 => ?_, fun e he => (h.ok e he).only ho (hL e he) (fun _ h => .inl h)⟩
  obtain ⟨b, o, e1, hb, hc⟩ := h.rd h0
  have hne := hA _ e1 h0
  refine ⟨b, o, e1, Nat.lt_of_lt_of_le hb ho.size, fun k e he => ?_⟩
  obtain ⟨h1, h2⟩ := hc k e he
  exact ⟨fun j u hj => (ho.cell (p := ⟨b, o + k * 14 + j, none⟩) hb hne).trans (h1 j u hj), fun j u hj => (ho.cell (p := ⟨b, o + k * 14 + 1 + j, none⟩) hb hne).trans (h2 j u hj)⟩
theorem RdN.below {w w' : World} {B : Nat} {A : Option Addr} {M : List Ett} (h : RdN w B A M) (hb : Below w.heap.size w w') : RdN w' B A M := ⟨h.rd.below hb, h.row, h.lab⟩
theorem RdN.step {w w' : World} {S S' : Nat → Prop} {B : Nat} {A : Option Addr} {M : List Ett} (h : RdN w B A M) (hs : Step w S w' S') (hS : ∀ k, S k → k < B) : RdN w' B A M :=
  ⟨h.rd.only hs.only (fun a ha h0 hk => by have := h.row a ha h0; have := hS _ hk; omega) (fun e he a ha h0 hk => by have := h.lab e he a ha h0; have := hS _ hk; omega), h.row, h.lab⟩
theorem RdN.mapped {w w' : World} {B b : Nat} {A : Option Addr} {M : List Ett} {es : Array MapEntry} {ck : Nat} (h : RdN w B A M) (hg : w.grownBy w' (some b)) (hb : w.heap[b]? = some (.map es ck)) : RdN w' B A M := by
  refine ⟨h.rd.only (only_grown hg) (fun a ha h0 e => ?_) (fun e he a ha h0 => lab_not_map (h.rd.ok e he).rd hb a ha h0), h.row, h.lab⟩
  obtain ⟨e0, he0⟩ : ∃ e, M[0]? = some e := ⟨_, List.getElem?_eq_getElem h0⟩
  obtain ⟨b', o, e1, _, hc⟩ := h.rd.rd h0
  rw [ha] at e1
  injection e1 with e1
  subst e1
  have e : b' = b := e
  subst e
  have := (hc 0 e0 he0).1 0 (.int .u64 e0.i) rfl
  simp [World.cell?, hb] at this
/-- all that waits, in memory of its own -/
theorem listAll_new {w0 w : World} {S : Nat → Prop} {s q k : Nat} {X : Sp} {L : List Ett} (hs : SpW w0 w S s q k X L) (hk : k ≤ 1000) :
    Calls Try.prog 23 #[.pointer (some ⟨s, 0, none⟩), .int .u64 0, .int .i64 1000] w fun e w' => ∃ A' c' M, e = .returned (.slice A' M.length c') ∧ SameE L M ∧ RdN w' w.heap.size A' M ∧ Below w.heap.size w w' := by
  refine (list_new (N := 0) 1000 (by decide) (by decide) w hs.at_ hs.ok.riseE).mono ?_
  rintro e w' ⟨A', c', M, m, he, hsm, hrow, hm, hlo, hhi, hb, hnw⟩
  have hm0 : m = 0 := by
    rcases Nat.eq_zero_or_pos m with h | h
    · exact h
    · have h1 := hlo 0 h
      have hl : 0 < L.length := by omega
      have h2 := (hs.ok.ix L[0].i (List.mem_map_of_mem (List.getElem_mem hl))).1
      have : idxE L 0 = L[0].i := by unfold idxE; rw [List.getElem?_eq_getElem hl]; rfl
      omega
  subst hm0
  have hlen := hs.ok.len
  have hL : listE L 0 (min (1000 : Int).toNat (L.length - 0)) = L := by
    unfold listE
    rw [List.drop_zero, List.take_of_length_le (by have : (1000 : Int).toNat = 1000 := rfl; omega)]
  rw [hL] at hsm
  exact ⟨A', c', M, he, hsm, ⟨hrow.rd, fun a ha h0 => (hrow.own.lt a.block (by rw [ha]; rfl)).1, hnw⟩, hb⟩
end Go.Proofs.Ytgcfofnlgdfmoaa
/- Layer 8: nil spools; Counts. -/
namespace Go.Proofs.Ytgcfofnlgdfmoaa
open Go.RowKit

theorem results_tmp5 {fn : Func} {t u v x y : Tmp} (h : fn.results = #[.tmp t, .tmp u, .tmp v, .tmp x, .tmp y]) (tmps : Array Value) (P : Program) (w : World) :
    (results fn tmps).run P w = .ok (.tuple #[tmps.getD t undef, tmps.getD u undef, tmps.getD v undef, tmps.getD x undef, tmps.getD y undef]) w := by
  simp [results, h]
set_option maxRecDepth 100000 in
set_option maxHeartbeats 400000 in
theorem list_nil (a b : Value) (w : World) : Calls Try.prog 23 #[.pointer none, a, b] w fun e w' => e = .returned (.slice none 0 0) ∧ Below w.heap.size w w' := by
  go_enter Try.func23, Try.ntmps23
  go_wp2
  go_ret
  exact ⟨rfl, Below.refl _ _⟩
set_option maxRecDepth 100000 in
set_option maxHeartbeats 400000 in
theorem ack_nil (a : Value) (w : World) : Calls Try.prog 26 #[.pointer none, a] w fun e w' => e = .returned (.int .i64 1) ∧ Below w.heap.size w w' := by
  go_enter Try.func26, Try.ntmps26
  go_wp2
  go_ret
  exact ⟨rfl, Below.refl _ _⟩
set_option maxRecDepth 100000 in
set_option maxHeartbeats 400000 in
theorem quota_nil (w : World) : Calls Try.prog 35 #[.pointer none] w fun e w' => e = .returned (.int .i64 0) ∧ Below w.heap.size w w' := by
  go_enter Try.func35, Try.ntmps35
  go_wp2
  go_ret
  exact ⟨rfl, Below.refl _ _⟩
set_option maxRecDepth 100000 in
set_option maxHeartbeats 400000 in
theorem high_nil (a : Value) (w : World) : Calls Try.prog 22 #[.pointer none, a] w fun e w' => e = .returned (.int .u64 0) ∧ Below w.heap.size w w' := by
  go_enter Try.func22, Try.ntmps22
  go_wp2
  go_ret
  exact ⟨rfl, Below.refl _ _⟩
set_option maxRecDepth 100000 in
set_option maxHeartbeats 400000 in
theorem scopy_nil (w : World) : Calls Try.prog 34 #[.pointer none] w fun e w' => e = .returned (.pointer none) ∧ Below w.heap.size w w' := by
  go_enter Try.func34, Try.ntmps34
  go_wp2
  go_ret
  exact ⟨rfl, Below.refl _ _⟩
set_option maxRecDepth 100000 in
set_option maxHeartbeats 400000 in
theorem scounts_nil (w : World) : Calls Try.prog 32 #[.pointer none] w fun e w' => e = .returned (.tuple #[.int .i64 0, .int .i64 0, .int .u64 0, .int .u64 0, .int .u64 0]) ∧ Below w.heap.size w w' := by
  go_enter Try.func32, Try.ntmps32
  go_wp2
  refine bodyPost_ret (results_tmp5 rfl _ _ _) rfl ?_
  exact ⟨rfl, Below.refl _ _⟩
set_option maxRecDepth 100000 in
set_option maxHeartbeats 400000 in
theorem scounts_any {S : Nat → Prop} {s : Nat} {X : Sp} {L : List Ett} (w : World) (h : SpAt w S s X L) : Calls Try.prog 32 #[.pointer (some ⟨s, 0, none⟩)] w fun e w' => e = .returned (.tuple #[.int .i64 L.length, .int .i64 (sumE L), .int .u64 X.n, .int .u64 X.a, .int .u64 X.v]) ∧ Below w.heap.size w w' := by
  obtain ⟨v, k1, r1⟩ := h.sp
  obtain ⟨A, c, rfl⟩ := own_slice r1.own
  have c1 := k1.c1
  have c2 := k1.c2
  have c3 := k1.c3
  have c4 := k1.c4
  have c37 := k1.c37
  go_enter Try.func32, Try.ntmps32
  go_wp2
  go_quiet (fail)
  go_wp2
  refine bodyPost_ret (results_tmp5 rfl _ _ _) rfl ?_
  exact ⟨rfl, cbelow_drewN (Below.refl _ _) _⟩
set_option maxRecDepth 100000 in
set_option maxHeartbeats 400000 in
theorem find_nil (a : Value) (w : World) : Calls Try.prog 28 #[.pointer none, a] w fun e w' => e = .returned (.tuple #[zeroE, .bool false]) ∧ Below w.heap.size w w' := by
  go_enter Try.func28, Try.ntmps28
  go_upto_region 2 with fail
  go_wp2_with (first | (refine wpList_store_row rfl _ _ _ rfl w.heap.size zeroE.cells rfl rfl _ _ (heap_alloc_new _ _) Try.infoEn rfl (by decide) ?_) | fail)
  refine bodyPost_ret (v := .tuple #[zeroE, .bool false]) ?_ rfl ⟨rfl, ?_⟩
  · exact results_cell_two rfl _ _ w.heap.size _ _ _ _ rfl rfl (heap_alloc_new _ _) Try.underlying68 rfl Try.infoEn
  · exact (Below.refl _ _).alloc (Nat.le_refl _) _
def zeroBase : Array Value := #[.int .u64 0, .int .u64 0, .int .u64 0, .int .u64 0, .int .u64 0, .int .u64 0, .int .u64 0, .int .u64 0, .int .u64 0, .int .u64 0, .int .u64 0, .int .u64 0, .int .u64 0, .int .u64 0, .int .u64 0, .int .u64 0, .int .u64 0, .int .u64 0, .int .u64 0, .int .u64 0, .int .u64 0, .int .u64 0, .int .u64 0, .int .u64 0, .int .u64 0, .int .u64 0, .int .u64 0, .int .u64 0, .int .u64 0, .int .u64 0, .int .u64 0, .int .u64 0, .int .u64 0, .int .u64 0, .int .u64 0, .slice none 0 0]
theorem zeroBase_one : zeroBase.all (·.oneCell') = true := by kernel_rfl
theorem Try.infoBs : (Try.prog.info? 81).map (·.size) = some 36 := by kernel_rfl
theorem Try.builtBs : Try.prog.built 81 [] = some zeroBase := by kernel_rfl
set_option maxRecDepth 100000 in
set_option maxHeartbeats 400000 in
theorem base_nil (w : World) : Calls Try.prog 30 #[.pointer none] w fun e w' => e = .returned (.agg zeroBase) ∧ Below w.heap.size w w' := by
  go_enter Try.func30, Try.ntmps30
  go_upto_region 2 with fail
  go_wp2_with (first | (refine wpList_store_row rfl _ _ _ rfl w.heap.size zeroBase rfl rfl _ _ (heap_alloc_new _ _) (by rw [Try.infoBs]; rfl) rfl zeroBase_one ?_) | fail)
  refine bodyPost_ret (v := .agg zeroBase) (results_cell_row rfl _ _ w.heap.size _ _ _ _ rfl (setRow_heap _ _ _ _ _ _ (heap_alloc_new _ _)) Try.underlying81 rfl (by rw [Try.infoBs]; rfl)) rfl ⟨rfl, below_setRow ((Below.refl _ _).alloc (Nat.le_refl _) _) (Nat.le_refl _) _⟩
set_option maxRecDepth 100000 in
set_option maxHeartbeats 400000 in
theorem part_nil (x : It) (A : Option Addr) (c : Nat) (w : World) : Calls Try.prog 49 #[.pointer none, .agg (itC x A c).toArray] w fun e w' => e = .returned (.tuple #[.agg #[.bool false, .int .u8 0, .int .u64 0, .int .u64 0, .string ⟨#[]⟩, .slice none 0 0, .int .u8 0, .int .u8 0, .int .i64 0, .int .u8 0, .int .u8 0, .int .u64 0, .int .u64 0], .int .i64 1]) ∧ Below w.heap.size w w' := by
  obtain ⟨W, hW⟩ : ∃ W, W = ((w.alloc (.cells (itC x A c).toArray 60)).alloc (.cells #[.bool false, .int .u8 0, .int .u64 0, .int .u64 0, .string ⟨#[]⟩, .slice none 0 0, .int .u8 0, .int .u8 0, .int .i64 0, .int .u8 0, .int .u8 0, .int .u64 0, .int .u64 0] 60)) := ⟨_, rfl⟩
  have hb : Below w.heap.size w W := by rw [hW]; exact ((Below.refl _ _).alloc (Nat.le_refl _) _).alloc (by simp) _
  have h1 : W.heap[w.heap.size + 1]? = some (.cells #[.bool false, .int .u8 0, .int .u64 0, .int .u64 0, .string ⟨#[]⟩, .slice none 0 0, .int .u8 0, .int .u8 0, .int .i64 0, .int .u8 0, .int .u8 0, .int .u64 0, .int .u64 0] 60 (0, 0)) := by rw [hW]; exact heap_alloc2_new _ _ _
  have HB := Lib.hid hb
  have H1 := Lib.hid h1
  have HW := Lib.hid hW
  clear hb h1 hW
  go_enter Try.func49, Try.ntmps49
  go_upto_region 1 with fail
  rw [← HW.out]
  go_wp2_with (first | (refine wpList_store_row rfl _ _ _ rfl (w.heap.size + 1) _ rfl rfl _ _ H1.out Try.infoIt rfl (by simp [Value.oneCell']) ?_) | fail)
  refine bodyPost_ret (v := .tuple #[.agg #[.bool false, .int .u8 0, .int .u64 0, .int .u64 0, .string ⟨#[]⟩, .slice none 0 0, .int .u8 0, .int .u8 0, .int .i64 0, .int .u8 0, .int .u8 0, .int .u64 0, .int .u64 0], .int .i64 1]) ?_ rfl ⟨rfl, below_setRow HB.out (by omega) _⟩
  exact results_cell_two rfl _ _ (w.heap.size + 1) _ _ _ _ rfl rfl (setRow_heap _ _ _ _ _ _ H1.out) Try.underlying60 rfl Try.infoIt

set_option maxRecDepth 100000 in
set_option maxHeartbeats 1000000 in
theorem put_nil (x : It) (A : Option Addr) (c : Nat) (w : World) : Calls Try.prog 24 #[.pointer none, .agg (itC x A c).toArray] w fun e w' => e = .returned (.tuple #[.int .u64 0, .int .u64 0, .int .i64 1]) ∧ Below w.heap.size w w' := by
  obtain ⟨w0, hw0⟩ : ∃ w0, w0 = w.alloc (.cells (itC x A c).toArray 60) := ⟨_, rfl⟩
  have hb0 : Below w.heap.size w w0 := by rw [hw0]; exact (Below.refl _ _).alloc (Nat.le_refl _) _
  have hbox : w0.heap[w.heap.size]? = some (.cells (itC x A c).toArray 60 (0, 0)) := by rw [hw0]; exact heap_alloc_new _ _
  have HW0 := Lib.hid hw0
  have HBOX := Lib.hid hbox
  have HB0 := Lib.hid hb0
  clear hw0 hb0 hbox
  go_enter Try.func24, Try.ntmps24
  go_upto_region 1 with fail
  rw [← HW0.out]
  go_wp2_with (first | (refine wpList_load_row rfl _ _ rfl w.heap.size rfl _ _ _ _ HBOX.out Try.underlying60 rfl Try.infoIt ?_) | fail)
  refine (part_nil x A c w0).mono ?_
  rintro _ w1 ⟨rfl, hb1⟩
  have HB1 := Lib.hid (HB0.out.trans (hb1.mono HB0.out.size))
  clear hb1
  go_upto_region 2 with (first | (refine wpList_store_row rfl _ _ _ rfl w1.heap.size _ rfl rfl _ _ (heap_alloc_new _ _) Try.infoIt rfl (by simp [Value.oneCell']) ?_) | fail)
  obtain ⟨w2, hw2, hc2, hb2, hl2⟩ := boxI w1 #[.bool false, .int .u8 0, .int .u64 0, .int .u64 0, .string ⟨#[]⟩, .slice none 0 0, .int .u8 0, .int .u8 0, .int .i64 0, .int .u8 0, .int .u8 0, .int .u64 0, .int .u64 0] #[.bool false, .int .u8 0, .int .u64 0, .int .u64 0, .string ⟨#[]⟩, .slice none 0 0, .int .u8 0, .int .u8 0, .int .i64 0, .int .u8 0, .int .u8 0, .int .u64 0, .int .u64 0]
  rw [← hw2]
  have HB2 := Lib.hid (HB1.out.trans (hb2.mono HB1.out.size))
  clear hw2 hc2 hb2 hl2
  go_wp2
  go_ret3
  exact ⟨rfl, HB2.out⟩
end Go.Proofs.Ytgcfofnlgdfmoaa
