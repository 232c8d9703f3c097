/- Layer 6: the map's operations in a walk; disk.New, put, find. -/
import Derived.Test.YtgcfofnlgdfmoaaDkMem
import Derived.WalkKit
import Derived.WalkSpells
import Derived.Lib.Hide
import Derived.StillTailTactics
import Derived.RegionTactic
import Derived.BigRegion
namespace Go.Proofs.Ytgcfofnlgdfmoaa
open Go.RowKit Go.Maps

section
variable {w : World} {ops : Array Oper} {rest : List Oper} {o : Oper} {a : Act} {Q : Exit → Act → World → Prop} {S : Nat → Prop} {g : Nat} {mo : Option Nat} {E : Ents} {s : ByteArray}
theorem wpList_look_ok (hg : o.guard = none) (m x : Operand) (hop : o.op = Op.lookup 92 m x true) (hm : a.eval m = .map mo) (hx : a.eval x = .string s)
    (h : MapIs w S g mo E) (hs : s.size ≤ maxLen) {v : Value} {b : Bool} (hv : lookE E s = v) (hb : (findP E s).isSome = b)
    (hK : wpList Try.prog ops Q rest (a.put o.dst (.tuple #[v, .bool b])) w) : wpList Try.prog ops Q (o :: rest) a w := by
  refine wpList_plain hg fun K' hK' => ?_
  have hrun := h.ok_ hs
  unfold Oper.wp
  simp [execOp, hop, hm, hx, hrun, Result.andThen]
  rw [hv, hb]
  exact hK' _ _ hK
theorem wpList_look (hg : o.guard = none) (m x : Operand) (hop : o.op = Op.lookup 92 m x false) (hm : a.eval m = .map mo) (hx : a.eval x = .string s)
    (h : MapIs w S g mo E) (hs : s.size ≤ maxLen) {v : Value} (hv : lookE E s = v)
    (hK : wpList Try.prog ops Q rest (a.put o.dst v) w) : wpList Try.prog ops Q (o :: rest) a w := by
  refine wpList_plain hg fun K' hK' => ?_
  have hrun := h.at_ hs
  unfold Oper.wp
  simp [execOp, hop, hm, hx, hrun, Result.andThen]
  rw [hv]
  exact hK' _ _ hK
end

theorem below_two (w : World) (o o' : Obj) : Below w.heap.size w ((w.alloc o).alloc o') := ((Below.refl _ _).alloc (Nat.le_refl _) _).alloc (by simp) _
theorem lookE_some {E : Ents} {s : ByteArray} {x : Ent} (h : findP E s = some x) : lookE E s = x.val := by unfold lookE; rw [h]
theorem lookE_none {E : Ents} {s : ByteArray} (h : findP E s = none) : lookE E s = fileV (.slice none 0 0) 0 := by unfold lookE; rw [h]

set_option maxHeartbeats 400000 in
theorem new_any (w : World) : Calls Try.prog 9 #[] w fun e w' => e = .returned (.pointer (some ⟨w.heap.size, 0, none⟩)) ∧ w' = w.alloc (.cells #[.map none, .int .i64 0, .int .i64 0] 94) := by
  go_enter Try.func9, Try.ntmps9
  go_wp2
  go_ret
  exact ⟨rfl, rfl⟩
theorem HasDk.new (w : World) : HasDk (w.alloc (.cells #[.map none, .int .i64 0, .int .i64 0] 94)) (fun k => k = w.heap.size) w.heap.size [] 0 0 :=
  ⟨none, ⟨rfl, fun k hk => by subst hk; simp, by rw [World.cell?_alloc_at _ _ _ _ rfl]; rfl, by rw [World.cell?_alloc_at _ _ _ _ rfl]; rfl, by rw [World.cell?_alloc_at _ _ _ _ rfl]; rfl,
    fun o => World.frozen?_alloc_at _ _ _ _ rfl, .inl ⟨rfl, rfl⟩, List.Pairwise.nil, by simp⟩, { each := fun _ hp => (nomatch hp), apart := fun _ hp => (nomatch hp) }⟩

set_option maxRecDepth 100000 in
set_option maxHeartbeats 400000 in
theorem find_some {S : Nat → Prop} {g : Nat} {mo : Option Nat} {E : Ents} {wr sy : Nat} {s : ByteArray} {x : Ent} (w : World) (h : DkM w S g mo E wr sy) (h2 : Files w S g mo E) (hs : s.size ≤ maxLen) (hf : findP E s = some x) :
    Calls Try.prog 66 #[.pointer (some ⟨g, 0, none⟩), .string s] w fun e w' => e = .returned (.tuple #[fileV x.v x.syn, .int .i64 0]) ∧ Below w.heap.size w w' := by
  have c0 := h.c0
  have HM := Lib.hid (h.below ((Below.refl _ w).alloc (Nat.le_refl _) (.cells #[.slice none 0 0, .int .i64 0] 126))).mp
  have hgl := h.lt g h.gS
  obtain ⟨A, c, hv⟩ := ownB_slice (h2.each _ (findP_some hf)).own
  have HS := Lib.hid hs
  have HF := Lib.hid hf
  have HV : Hid (x.v = .slice A x.by_.length c) := hv
  rw [hv]
  clear h h2 hs hf hv
  unfold fileV
  go_enter Try.func66, Try.ntmps66
  go_wp2_with (at_lookup; refine wpList_look_ok rfl _ _ rfl rfl rfl HM.out HS.out (v := fileV (.slice A x.by_.length c) x.syn) (b := true) (by rw [lookE_some HF.out, Ent.val, HV.out]) (by rw [HF.out]; rfl) ?_; unfold fileV)
  refine bodyPost_ret (v := .tuple #[.agg #[.slice A x.by_.length c, .int .i64 x.syn], .int .i64 0]) (by simp [results, Try.results66, go_sem]) rfl ⟨rfl, ?_⟩
  exact below_two _ _ _
set_option maxRecDepth 100000 in
set_option maxHeartbeats 400000 in
theorem find_none {S : Nat → Prop} {g : Nat} {mo : Option Nat} {E : Ents} {wr sy : Nat} {s : ByteArray} (w : World) (h : DkM w S g mo E wr sy) (hs : s.size ≤ maxLen) (hf : findP E s = none) :
    Calls Try.prog 66 #[.pointer (some ⟨g, 0, none⟩), .string s] w fun e w' => e = .returned (.tuple #[fileV (.slice none 0 0) 0, .int .i64 14]) ∧ Below w.heap.size w w' := by
  have c0 := h.c0
  have HM := Lib.hid (h.below ((Below.refl _ w).alloc (Nat.le_refl _) (.cells #[.slice none 0 0, .int .i64 0] 126))).mp
  have hgl := h.lt g h.gS
  have HS := Lib.hid hs
  have HF := Lib.hid hf
  clear h hs hf
  unfold fileV
  go_enter Try.func66, Try.ntmps66
  go_wp2_with (at_lookup; refine wpList_look_ok rfl _ _ rfl rfl rfl HM.out HS.out (v := fileV (.slice none 0 0) 0) (b := false) (by rw [lookE_none HF.out]) (by rw [HF.out]; rfl) ?_; unfold fileV)
  refine bodyPost_ret (v := .tuple #[.agg #[.slice none 0 0, .int .i64 0], .int .i64 14]) (by simp [results, Try.results66, go_sem]) rfl ⟨rfl, ?_⟩
  exact below_two _ _ _
set_option maxRecDepth 100000 in
set_option maxHeartbeats 400000 in
theorem find_nil (s : ByteArray) (w : World) :
    Calls Try.prog 66 #[.pointer none, .string s] w fun e w' => e = .returned (.tuple #[fileV (.slice none 0 0) 0, .int .i64 1]) ∧ Below w.heap.size w w' := by
  unfold fileV
  go_enter Try.func66, Try.ntmps66
  go_wp2
  refine bodyPost_ret (v := .tuple #[.agg #[.slice none 0 0, .int .i64 0], .int .i64 1]) (by simp [results, Try.results66, go_sem]) rfl ⟨rfl, ?_⟩
  exact (Below.refl _ _).alloc (Nat.le_refl _) _

theorem ownsMap_tight {H : Type} {P : Program} {k : TypeId} {R : Value → Option (DataW H × List MemPlace)} {w : World} {b n : Nat} {D : DataW H} (h : w.ownsMap P k R b n D) : w.ownsMap P k R b (Maps.size D) D := by
  obtain ⟨es, clock, hb, F, hs, rfl⟩ := h
  exact ⟨es, clock, hb, F, by simp [Maps.size, length_sorted], rfl⟩
theorem Only.drew {T : Nat → Prop} {w w1 : World} (h : Only T w w1) : Only T w w1.drew := ⟨h.os, h.tape, h.output, h.size, h.block⟩
/-- behind the store into the map -/
theorem put_end {S S1 : Nat → Prop} {g b n : Nat} {E : Ents} {wr sy : Nat} {s : ByteArray} {x : Ent} {w w1 w2 : World} (hst : Step w S w1 S1) (h : DkM w1 S1 g (some b) E wr sy) (h2 : Files w1 S1 g (some b) (delP E s))
    (hx : FileIs w1 S1 g (some b) x) (hf : ∀ p ∈ delP E s, Far x p.2) (hfew : (putP E s x).length ≤ 64) (hb : S1 b) (hbg : b ≠ g)
    (ho : w2.ownsMap Try.prog 9 rawR b n ((datum E).put (.string s.data.toList) (.held x.val))) (hg : w1.grownBy w2 (some b)) :
    ∃ S' mo', DkM w2 S' g mo' (putP E s x) wr sy ∧ Files w2 S' g mo' (putP E s x) ∧ Step w S w2 S' := by
  have hon : Only (fun k => k = b) w1 w2 := Only.of_grown hg (fun k hk => by injection hk with hk; exact hk.symm)
  have hon1 : Only S1 w1 w2 := hon.mono (fun i hi => by rw [hi]; exact hb)
  have hgb : ¬ g = b := fun e => hbg e.symm
  refine ⟨S1, some b, ⟨h.gS, fun k hk => Nat.lt_of_lt_of_le (h.lt k hk) hon.size, (hon.cell (p := ⟨g, 0, none⟩) (h.lt g h.gS) hgb).trans h.c0, (hon.cell (p := ⟨g, 1, none⟩) (h.lt g h.gS) hgb).trans h.c1,
    (hon.cell (p := ⟨g, 2, none⟩) (h.lt g h.gS) hgb).trans h.c2, fun o => (hon.frozen (p := ⟨g, o, none⟩) (h.lt g h.gS) hgb).trans (h.fz o), .inr ⟨b, rfl, hb, hbg, ?_⟩, rising_put h.rise s x, hfew⟩, ?_, hst.trans ⟨hon1, fun _ hk => .inl hk⟩⟩
  · have := ownsMap_tight ho
    rw [datum_put, datum_size] at this
    exact this
  · have hk : ∀ y : Ent, FileIs w1 S1 g (some b) y → FileIs w2 S1 g (some b) y := fun y hy => ⟨hon.own hy.own (fun k hk => fun e => (hy.S k hk).2.2 (by rw [e])), hy.syn, hy.ok, hy.max, hy.S⟩
    exact Files.put ⟨fun p hp => hk _ (h2.each p hp), h2.apart⟩ (hk _ hx) hf

set_option maxRecDepth 100000 in
set_option maxHeartbeats 400000 in
theorem put_some {S : Nat → Prop} {g b : Nat} {E : Ents} {wr sy : Nat} {s : ByteArray} {x : Ent} (w : World) (h : DkM w S g (some b) E wr sy) (h2 : Files w S g (some b) (delP E s)) (hx : FileIs w S g (some b) x)
    (hf : ∀ p ∈ delP E s, Far x p.2) (hfew : (putP E s x).length ≤ 64) (hs : s.size ≤ maxLen) :
    Calls Try.prog 44 #[.pointer (some ⟨g, 0, none⟩), .string s, fileV x.v x.syn] w fun e w' => e = .returned (.tuple #[]) ∧ ∃ S' mo', DkM w' S' g mo' (putP E s x) wr sy ∧ Files w' S' g mo' (putP E s x) ∧ Step w S w' S' := by
  have c0 := h.c0
  have hgl := h.lt g h.gS
  obtain ⟨A, c, hv⟩ := ownB_slice hx.own
  have hmp := h.mp
  rcases hmp with ⟨hmp, _⟩ | ⟨b', hmp, hb, hbg, hown⟩
  · cases hmp
  · injection hmp with hmp
    subst hmp
    have HB := Lib.hid ((Below.refl _ w).alloc (Nat.le_refl _) (.cells #[.slice A x.by_.length c, .int .i64 x.syn] 126)).drew
    have HO := Lib.hid ((hown.alloc (.cells #[.slice A x.by_.length c, .int .i64 x.syn] 126)).drew)
    have HH := Lib.hid (⟨h, h2, hx, hf, hfew, hs, hb, hbg⟩ : DkM w S g (some b) E wr sy ∧ Files w S g (some b) (delP E s) ∧ FileIs w S g (some b) x ∧ (∀ p ∈ delP E s, Far x p.2) ∧ (putP E s x).length ≤ 64 ∧ s.size ≤ maxLen ∧ S b ∧ b ≠ g)
    have hlen : E.length < maxLen := by have := h.few; unfold maxLen; omega
    have HL := Lib.hid hlen
    have HV : Hid (x.v = .slice A x.by_.length c) := hv
    rw [hv]
    clear h h2 hx hf hfew hs hb hbg hv hown hlen
    have q63 : ∀ (w : World) (r : Option Nat), (binOp .eql 92 (.map r) (.map none)).run Try.prog w = .ok (.bool r.isNone) w := fun w r => run_eql_map_nil w _ _ _ r Try.underlying92
    unfold fileV
    go_enter Try.func44, Try.ntmps44
    go_wp2
    have c0' : (w.alloc (.cells #[.slice A x.by_.length c, .int .i64 x.syn] 126)).cell? ⟨g, 0, none⟩ = some (.map (some b)) := (World.cell?_alloc_past _ _ _ hgl).trans c0
    have hbx : (w.alloc (.cells #[.slice A x.by_.length c, .int .i64 x.syn] 126)).heap[w.heap.size]? = some (.cells #[.slice A x.by_.length c, .int .i64 x.syn] 126) := heap_alloc_new w _
    have hz : (w.alloc (.cells #[.slice A x.by_.length c, .int .i64 x.syn] 126)).heap.size = w.heap.size + 1 := by simp
    have d0 : (w.alloc (.cells #[.slice A x.by_.length c, .int .i64 x.syn] 126)).cell? ⟨w.heap.size, 0, none⟩ = some (.slice A x.by_.length c) := by rw [World.cell?_alloc_at _ _ _ _ rfl]; rfl
    have d1 : (w.alloc (.cells #[.slice A x.by_.length c, .int .i64 x.syn] 126)).cell? ⟨w.heap.size, 1, none⟩ = some (.int .i64 x.syn) := by rw [World.cell?_alloc_at _ _ _ _ rfl]; rfl
    clear hbx hz
    obtain ⟨w2, hrun, ho, hg⟩ := HO.out.update keyS Try.underlying92 HL.out (key := .string s) (val := fileV (.slice A x.by_.length c) x.syn) (WideMaps.keyOf_string_mk Try.underlying9 HH.out.2.2.2.2.2.1) (rawR_mk _ _ _ _)
    have Ho := Lib.hid ho
    have Hg := Lib.hid hg
    clear ho hg
    unfold fileV at hrun
    generalize (w.alloc (.cells #[.slice A x.by_.length c, .int .i64 x.syn] 126)) = W1 at *
    go_region
    go_end0
    obtain ⟨h, h2, hx, hf, hfew, hs, hb, hbg⟩ := HH.out
    refine ⟨rfl, put_end (n := E.length + 1) (Step.of_below S HB.out) (h.below HB.out) (h2.below HB.out) (hx.below HB.out) hf hfew hb hbg ?_ Hg.out⟩
    rw [Ent.val, HV.out]
    exact Ho.out

theorem DkM.first {S : Nat → Prop} {g : Nat} {E : Ents} {wr sy : Nat} {w : World} (h : DkM w S g none E wr sy) (o : Obj) :
    E = [] ∧ DkM (((w.setCell ⟨g, 0, none⟩ (.map (some (w.heap.size + 1)))).alloc o).alloc (.map #[] 0)) (fun k => S k ∨ k = w.heap.size + 1) g (some (w.heap.size + 1)) E wr sy ∧
      Only (fun k => k = g) w (((w.setCell ⟨g, 0, none⟩ (.map (some (w.heap.size + 1)))).alloc o).alloc (.map #[] 0)) := by
  have hE : E = [] := by
    rcases h.mp with ⟨_, h'⟩ | ⟨b, h', _⟩
    · exact h'
    · cases h'
  subst hE
  have hgl := h.lt g h.gS
  have hz0 : (w.setCell ⟨g, 0, none⟩ (.map (some (w.heap.size + 1)))).heap.size = w.heap.size := by simp [World.setCell]
  have hsz : ((w.setCell ⟨g, 0, none⟩ (.map (some (w.heap.size + 1)))).alloc o).heap.size = w.heap.size + 1 := by simp [World.setCell]
  have hb := below_two (w.setCell ⟨g, 0, none⟩ (.map (some (w.heap.size + 1)))) o (.map #[] 0)
  have hc : ∀ k, (((w.setCell ⟨g, 0, none⟩ (.map (some (w.heap.size + 1)))).alloc o).alloc (.map #[] 0)).cell? ⟨g, k, none⟩ = (w.setCell ⟨g, 0, none⟩ (.map (some (w.heap.size + 1)))).cell? ⟨g, k, none⟩ := fun k => hb.cell (p := ⟨g, k, none⟩) (by rw [hz0]; exact hgl)
  have hfr : ∀ k, (((w.setCell ⟨g, 0, none⟩ (.map (some (w.heap.size + 1)))).alloc o).alloc (.map #[] 0)).frozen? ⟨g, k, none⟩ = (w.setCell ⟨g, 0, none⟩ (.map (some (w.heap.size + 1)))).frozen? ⟨g, k, none⟩ := fun k => hb.frozen (p := ⟨g, k, none⟩) (by rw [hz0]; exact hgl)
  have hon : Only (fun k => k = g) w (((w.setCell ⟨g, 0, none⟩ (.map (some (w.heap.size + 1)))).alloc o).alloc (.map #[] 0)) :=
    (Only.setCell (T := fun k => k = g) _ _ _ rfl).trans (Only.of_below hb (fun k => k = g)) (fun _ h => .inl h)
  refine ⟨rfl, ⟨.inl h.gS, fun k hk => ?_, (hc 0).trans (World.cell?_setCell_same _ _ _ h.c0), (hc 1).trans ((World.cell?_setCell_other _ _ _ _ (by simp)).trans h.c1),
    (hc 2).trans ((World.cell?_setCell_other _ _ _ _ (by simp)).trans h.c2), fun k => by rw [hfr, World.frozen?_setCell]; exact h.fz k, .inr ⟨_, rfl, .inr rfl, by omega, ?_⟩, List.Pairwise.nil, by simp⟩, hon⟩
  · rcases hk with hk | rfl
    · have := h.lt k hk; simp [World.setCell]; omega
    · simp [World.setCell]
  · have := World.ownsMap_made ((w.setCell ⟨g, 0, none⟩ (.map (some (w.heap.size + 1)))).alloc o) Try.prog 9 rawR
    rw [hsz] at this
    exact this

set_option maxRecDepth 100000 in
set_option maxHeartbeats 400000 in
theorem put_none {S : Nat → Prop} {g : Nat} {E : Ents} {wr sy : Nat} {s : ByteArray} {x : Ent} (w : World) (h : DkM w S g none E wr sy) (hx : FileIs w S g none x)
    (hs : s.size ≤ maxLen) :
    Calls Try.prog 44 #[.pointer (some ⟨g, 0, none⟩), .string s, fileV x.v x.syn] w fun e w' => e = .returned (.tuple #[]) ∧ ∃ S' mo', DkM w' S' g mo' (putP E s x) wr sy ∧ Files w' S' g mo' (putP E s x) ∧ Step w S w' S' := by
  have c0 := h.c0
  have f0 := h.fz 0
  have hgl := h.lt g h.gS
  obtain ⟨A, c, hv⟩ := ownB_slice hx.own
  obtain ⟨rfl, h1, hon⟩ := h.first (.cells #[.slice A x.by_.length c, .int .i64 x.syn] 126)
  have hgS := h.gS
  have hlt := h.lt
  have hz1 : (w.setCell ⟨g, 0, none⟩ (.map (some (w.heap.size + 1)))).heap.size = w.heap.size := by simp [World.setCell]
  have d0 : (((w.setCell ⟨g, 0, none⟩ (.map (some (w.heap.size + 1)))).alloc (.cells #[.slice A x.by_.length c, .int .i64 x.syn] 126)).alloc (.map #[] 0)).cell? ⟨w.heap.size, 0, none⟩ = some (.slice A x.by_.length c) := by
    rw [World.cell?_alloc_past _ _ _ (by simp [World.setCell]), World.cell?_alloc_at _ _ _ _ hz1.symm]; rfl
  have d1 : (((w.setCell ⟨g, 0, none⟩ (.map (some (w.heap.size + 1)))).alloc (.cells #[.slice A x.by_.length c, .int .i64 x.syn] 126)).alloc (.map #[] 0)).cell? ⟨w.heap.size, 1, none⟩ = some (.int .i64 x.syn) := by
    rw [World.cell?_alloc_past _ _ _ (by simp [World.setCell]), World.cell?_alloc_at _ _ _ _ hz1.symm]; rfl
  have c0' := h1.c0
  have HS := Lib.hid hs
  have HX := Lib.hid hx
  have HL := Lib.hid hlt
  have HV : Hid (x.v = .slice A x.by_.length c) := hv
  have H1 := Lib.hid h1
  have HN := Lib.hid hon
  rw [hv]
  clear h hx hs hlt hv h1 hon hz1
  have q63 : ∀ (w : World) (r : Option Nat), (binOp .eql 92 (.map r) (.map none)).run Try.prog w = .ok (.bool r.isNone) w := fun w r => run_eql_map_nil w _ _ _ r Try.underlying92
  have hmm := @run_makeMap Try.prog
  unfold fileV
  go_enter Try.func44, Try.ntmps44
  go_wp2
  generalize ((w.setCell ⟨g, 0, none⟩ (.map (some (w.heap.size + 1)))).alloc (.cells #[.slice A x.by_.length c, .int .i64 x.syn] 126)).alloc (.map #[] 0) = W1 at *
  have hmp := H1.out.mp
  rcases hmp with ⟨hmp, _⟩ | ⟨b', hmp, hb, hbg, hown⟩
  · cases hmp
  · injection hmp with hmp
    subst hmp
    obtain ⟨w2, hrun, ho, hg⟩ := hown.drew.update keyS Try.underlying92 (by simp; decide) (key := .string s) (val := fileV (.slice A x.by_.length c) x.syn) (WideMaps.keyOf_string_mk Try.underlying9 HS.out) (rawR_mk _ _ _ _)
    have Ho := Lib.hid ho
    have Hg := Lib.hid hg
    have HB := Lib.hid hb
    have HBG := Lib.hid hbg
    clear hb hbg hown ho hg
    unfold fileV at hrun
    go_region
    go_end0
    have hst : Step w S W1.drew (fun k => S k ∨ k = w.heap.size + 1) := ⟨HN.out.drew.mono (fun k hk => by rw [hk]; exact hgS), fun k hk => by
      rcases hk with hk | rfl
      · exact .inl hk
      · exact .inr (by omega)⟩
    have hx1 : FileIs W1.drew (fun k => S k ∨ k = w.heap.size + 1) g (some (w.heap.size + 1)) x :=
      ⟨HN.out.drew.own HX.out.own (fun k hk => (HX.out.S k hk).2.1), HX.out.syn, HX.out.ok, HX.out.max, fun k hk => ⟨.inl (HX.out.S k hk).1, (HX.out.S k hk).2.1, fun e => by
        injection e with e; have := HL.out k (HX.out.S k hk).1; omega⟩⟩
    refine ⟨rfl, put_end (n := 1) hst (H1.out.below (Below.refl _ _).drew) ⟨fun _ hp => (nomatch hp), fun _ hp => (nomatch hp)⟩ hx1 (fun _ hp => (nomatch hp)) (by simp [putP, delP, insP]) HB.out HBG.out ?_ Hg.out⟩
    rw [Ent.val, HV.out]
    exact Ho.out

/-- put, whatever the disk -/
theorem put_any {S : Nat → Prop} {g : Nat} {mo : Option Nat} {E : Ents} {wr sy : Nat} {s : ByteArray} {x : Ent} (w : World) (h : DkM w S g mo E wr sy) (h2 : Files w S g mo (delP E s)) (hx : FileIs w S g mo x)
    (hf : ∀ p ∈ delP E s, Far x p.2) (hfew : (putP E s x).length ≤ 64) (hs : s.size ≤ maxLen) :
    Calls Try.prog 44 #[.pointer (some ⟨g, 0, none⟩), .string s, fileV x.v x.syn] w fun e w' => e = .returned (.tuple #[]) ∧ ∃ S' mo', DkM w' S' g mo' (putP E s x) wr sy ∧ Files w' S' g mo' (putP E s x) ∧ Step w S w' S' := by
  cases mo with
  | none => exact put_none w h hx hs
  | some b => exact put_some w h h2 hx hf hfew hs
end Go.Proofs.Ytgcfofnlgdfmoaa
