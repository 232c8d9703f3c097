/- Several texts in one: JlRows, DkOps, DkSync. -/
import Derived.Test.YtholdcgkhicdmaaGreatDoorZq23
namespace Go.Proofs.YtholdcgkhicdmaaGreatDoor
open Go.RowKit
def rowC (x : Option Addr × Nat × Nat) : Value := .slice x.1 x.2.1 x.2.2
theorem Tryz.infoSl : (Tryz.prog.info? 77).map (fun i => (i.zero, i.size, i.bytes)) = some (some (.slice none 0 0), 1, 24) := by kernel_rfl
structure ElB (w : World) (base g : Nat) (v : Value) (x : Option Addr × Nat × Nat) (l : List Nat) : Prop where
 n : x.2.1 = l.length
 cap : x.2.1 ≤ x.2.2
 nil : x.1 = none → x.2.1 = 0
 rd : RdB w w.heap.size x.1 l
 ok : OkB l
 far : ∀ a, x.1 = some a → 0 < l.length → base ≤ a.block ∧ a.block ≠ g ∧ v.ownBlock ≠ some a.block
structure RsX (w : World) (base g : Nat) (v : Value) (X : List (Option Addr × Nat × Nat)) (L : List (List Nat)) : Prop where
 own : w.ownsRow base 77 1 v L.length (X.map rowC)
 len : X.length = L.length
 each : ∀ (i : Nat) x l, X[i]? = some x → L[i]? = some l → ElB w base g v x l
 vg : v.ownBlock ≠ some g
def Rs (w : World) (base g : Nat) (v : Value) (L : List (List Nat)) : Prop := ∃ X, RsX w base g v X L
section
variable {w w' : World} {base g : Nat} {v v' : Value} {x : Option Addr × Nat × Nat} {l : List Nat} {L : List (List Nat)}
theorem ElB.grown (h : ElB w base g v x l) {row : Option Nat} (hg : w.grownBy w' row) (hr : ∀ k, row = some k → (k = g ∨ v.ownBlock = some k)) : ElB w' base g v x l :=
 ⟨h.n, h.cap, h.nil, fun h0 => by
  obtain ⟨b, o, e, hb, hc⟩ := h.rd h0
  obtain ⟨_, f2, f3⟩ := h.far _ e h0
  refine ⟨b, o, e, Nat.lt_of_lt_of_le hb hg.size, fun i y hy => ?_⟩
  rw [World.cell?_of_block (w := w) (w' := w') (a := ⟨b, o + i, none⟩) (hg.block b hb (fun e2 => by
   rcases hr b e2.symm with h' | h'
   ·exact f2 h'
   ·exact f3 h'))]
  exact hc i y hy, h.ok, h.far⟩
theorem Rs.nil (w : World) (base g : Nat) : Rs w base g (.slice none 0 0) [] := ⟨[], World.ownsRow_nil _ _ _ _, rfl, fun i x l hx => by simp at hx, by simp [Value.ownBlock]⟩
theorem Rs.turned (h : Rs w base g v L) {P : Nat → Prop} (ht : TurnsIn w w' g P) : Rs w' base g v L := by
 obtain ⟨X, h⟩ := h
 refine ⟨X, h.own.kept ht.grown ?_, h.len, fun i x l hx hl => (h.each i x l hx hl).grown ht.grown (fun k hk => .inl (by injection hk with hk; exact hk.symm)), h.vg⟩
 cases hv : v.ownBlock with
 | none => exact .inl rfl
 | some k => exact .inr fun e => h.vg (by rw [hv, e])
theorem Rs.below (h : Rs w base g v L) (hb : Below w.heap.size w w') : Rs w' base g v L := by
 obtain ⟨X, h⟩ := h
 exact ⟨X, ownB_below h.own hb, h.len, fun i x l hx hl => (h.each i x l hx hl).grown (row := none) ⟨hb.os, hb.tape, hb.output, hb.size, fun k hk _ => hb.block k hk⟩ (fun k hk => by cases hk), h.vg⟩
theorem Rs.slice (h : Rs w base g v L) : ∃ A c, v = .slice A L.length c := by
 obtain ⟨X, h⟩ := h
 exact ownB_slice h.own
theorem Rs.only {T : Nat → Prop} (h : Rs w base g v L) (ho : Only T w w') (hT : ∀ i, T i → i < base ∨ i = g) (hg : g < base) : Rs w' base g v L := by
 obtain ⟨X, h⟩ := h
 refine ⟨X, ho.own h.own (fun k hk ht => ?_), h.len, fun i x l hx hl => ?_, h.vg⟩
 ·have := (h.own.lt k hk).1
  rcases hT k ht with h' | h' <;> omega
 ·have q := h.each i x l hx hl
  refine ⟨q.n, q.cap, q.nil, (ho.rdB q.rd (Nat.le_refl _) (fun a ha h0 ht => ?_)).more ho.size, q.ok, q.far⟩
  have := (q.far a ha h0).1
  rcases hT _ ht with h' | h' <;> omega
theorem RsX.app {A : Option Addr} {n c : Nat} (hg : g < w.heap.size) (hn : n = l.length) (hcap : n ≤ c) (hnil : A = none → n = 0) (hrd : RdB w w.heap.size A l) (hok : OkB l) (hfar : ∀ a, A = some a → 0 < l.length → base ≤ a.block ∧ a.block ≠ g ∧ v.ownBlock ≠ some a.block)
  {X : List (Option Addr × Nat × Nat)} (hX : RsX w base g v X L) (ho : w'.ownsRow base 77 1 v' (L.length + 1) (X.map rowC ++ [.slice A n c])) (hgr : w.grownBy w' v.ownBlock) (hb : v'.ownBlock = v.ownBlock ∨ v'.ownBlock = some w.heap.size) : RsX w' base g v' (X ++ [(A, n, c)]) (L ++ [l]) := by
 have far' : ∀ k, k < w.heap.size → v.ownBlock ≠ some k → v'.ownBlock ≠ some k := fun k hk hne e => by
  rcases hb with h' | h'
  ·rw [h'] at e; exact hne e
  ·rw [h'] at e; injection e with e; omega
 have lt : ∀ {A : Option Addr} {l : List Nat} {a : Addr}, RdB w w.heap.size A l → A = some a → 0 < l.length → a.block < w.heap.size := fun hr ha h0 => by
  obtain ⟨b, o, e, hb, _⟩ := hr h0
  rw [ha] at e
  injection e with e
  rw [e]; exact hb
 have el : ∀ {x : Option Addr × Nat × Nat} {l : List Nat}, ElB w base g v x l → ElB w' base g v' x l := fun q => by
  have q' := q.grown hgr (fun k hk => .inr hk)
  exact ⟨q'.n, q'.cap, q'.nil, q'.rd, q'.ok, fun a ha h0 => ⟨(q.far a ha h0).1, (q.far a ha h0).2.1, far' _ (lt q.rd ha h0) (q.far a ha h0).2.2⟩⟩
 refine ⟨?_, by simp [hX.len], fun i x l' hx hl => ?_, ?_⟩
 ·rw [List.map_append, List.length_append]
  exact ho
 ·by_cases hi : i < L.length
  ·rw [List.getElem?_append_left (by rw [hX.len]; exact hi)] at hx
   rw [List.getElem?_append_left hi] at hl
   exact el (hX.each i x l' hx hl)
  ·have hi2 := (List.getElem?_eq_some_iff.1 hl).1
   simp at hi2
   obtain rfl : i = L.length := by omega
   rw [List.getElem?_append_right (by rw [hX.len]; exact Nat.le_refl _), hX.len, Nat.sub_self] at hx
   rw [List.getElem?_append_right (Nat.le_refl _), Nat.sub_self] at hl
   simp at hx hl
   subst hx; subst hl
   exact el ⟨hn, hcap, hnil, hrd, hok, hfar⟩
 ·exact far' _ hg hX.vg
theorem Rs.app {A : Option Addr} {n c : Nat} (_ : Rs w base g v L) (hg : g < w.heap.size) (hn : n = l.length) (hcap : n ≤ c) (hnil : A = none → n = 0) (hrd : RdB w w.heap.size A l) (hok : OkB l) (hfar : ∀ a, A = some a → 0 < l.length → base ≤ a.block ∧ a.block ≠ g ∧ v.ownBlock ≠ some a.block)
  {X : List (Option Addr × Nat × Nat)} (hX : RsX w base g v X L) (ho : w'.ownsRow base 77 1 v' (L.length + 1) (X.map rowC ++ [.slice A n c])) (hgr : w.grownBy w' v.ownBlock) (hb : v'.ownBlock = v.ownBlock ∨ v'.ownBlock = some w.heap.size) : Rs w' base g v' (L ++ [l]) :=
 ⟨_, RsX.app hg hn hcap hnil hrd hok hfar hX ho hgr hb⟩
end
end Go.Proofs.YtholdcgkhicdmaaGreatDoor
namespace Go.Proofs.YtholdcgkhicdmaaGreatDoor
open Go.RowKit Go.Maps
section
variable {w : World} {ops : Array Oper} {rest : List Oper} {o : Oper} {a : Act} {Q : Exit → Act → World → Prop} {S : Nat → Prop} {g : Nat} {mo : Option Nat} {E : Ents} {s : ByteArray}
theorem wpList_look_ok (hg : o.guard = none) (m x : Operand) (hop : o.op = Op.lookup 86 m x true) (hm : a.eval m = .map mo) (hx : a.eval x = .string s)
  (h : MapIs w S g mo E) (hs : s.size ≤ maxLen) {v : Value} {b : Bool} (hv : lookE E s = v) (hb : (findP E s).isSome = b)
  (hK : wpList Tryz.prog ops Q rest (a.put o.dst (.tuple #[v, .bool b])) w) : wpList Tryz.prog ops Q (o :: rest) a w := by
 refine wpList_plain hg fun K' hK' => ?_
 have hrun := h.ok_ hs
 unfold Oper.wp
 simp [execOp, hop, hm, hx, hrun, Result.andThen]
 rw [hv, hb]
 exact hK' _ _ hK
end
theorem below_two (w : World) (o o' : Obj) : Below w.heap.size w ((w.alloc o).alloc o') := ((Below.refl _ _).alloc (Nat.le_refl _) _).alloc (by simp) _
theorem lookE_some {E : Ents} {s : ByteArray} {x : Ent} (h : findP E s = some x) : lookE E s = x.val := by unfold lookE; rw [h]
theorem lookE_none {E : Ents} {s : ByteArray} (h : findP E s = none) : lookE E s = fileV (.slice none 0 0) 0 := by unfold lookE; rw [h]
set_option maxHeartbeats 400000 in
theorem new_any (w : World) : Calls Tryz.prog 7 #[] w fun e w' => e = .returned (.pointer (some ⟨w.heap.size, 0, none⟩)) ∧ w' = w.alloc (.cells #[.map none, .int .i64 0, .int .i64 0] 88) := by
 go_enter Tryz.func7, Tryz.ntmps7
 go_wp2
 go_ret
 exact ⟨rfl, rfl⟩
theorem HasDk.new (w : World) : HasDk (w.alloc (.cells #[.map none, .int .i64 0, .int .i64 0] 88)) (fun k => k = w.heap.size) w.heap.size [] 0 0 :=
 ⟨none, ⟨rfl, fun k hk => by subst hk; simp, by rw [World.cell?_alloc_at _ _ _ _ rfl]; rfl, by rw [World.cell?_alloc_at _ _ _ _ rfl]; rfl, by rw [World.cell?_alloc_at _ _ _ _ rfl]; rfl,
  fun o => World.frozen?_alloc_at _ _ _ _ rfl, .inl ⟨rfl, rfl⟩, List.Pairwise.nil, by simp⟩, { each := fun _ hp => (nomatch hp), apart := fun _ hp => (nomatch hp) }⟩
set_option maxRecDepth 100000 in
set_option maxHeartbeats 400000 in
theorem find_some {S : Nat → Prop} {g : Nat} {mo : Option Nat} {E : Ents} {wr sy : Nat} {s : ByteArray} {x : Ent} (w : World) (h : DkM w S g mo E wr sy) (h2 : Files w S g mo E) (hs : s.size ≤ maxLen) (hf : findP E s = some x) :
  Calls Tryz.prog 121 #[.pointer (some ⟨g, 0, none⟩), .string s] w fun e w' => e = .returned (.tuple #[fileV x.v x.syn, .int .i64 0]) ∧ Below w.heap.size w w' := by
 have c0 := h.c0
 have HM := Lib.hid (h.below ((Below.refl _ w).alloc (Nat.le_refl _) (.cells #[.slice none 0 0, .int .i64 0] 126))).mp
 have hgl := h.lt g h.gS
 obtain ⟨A, c, hv⟩ := ownB_slice (h2.each _ (findP_some hf)).own
 have HS := Lib.hid hs
 have HF := Lib.hid hf
 have HV : Hid (x.v = .slice A x.by_.length c) := hv
 rw [hv]
 clear h h2 hs hf hv
 unfold fileV
 go_enter Tryz.func121, Tryz.ntmps121
 go_wp2_with (at_lookup; refine wpList_look_ok rfl _ _ rfl rfl rfl HM.out HS.out (v := fileV (.slice A x.by_.length c) x.syn) (b := true) (by rw [lookE_some HF.out, Ent.val, HV.out]) (by rw [HF.out]; rfl) ?_; unfold fileV)
 refine bodyPost_ret (v := .tuple #[.agg #[.slice A x.by_.length c, .int .i64 x.syn], .int .i64 0]) (by simp [results, Tryz.results121, go_sem]) rfl ⟨rfl, ?_⟩
 exact below_two _ _ _
set_option maxRecDepth 100000 in
set_option maxHeartbeats 400000 in
theorem find_none {S : Nat → Prop} {g : Nat} {mo : Option Nat} {E : Ents} {wr sy : Nat} {s : ByteArray} (w : World) (h : DkM w S g mo E wr sy) (hs : s.size ≤ maxLen) (hf : findP E s = none) :
  Calls Tryz.prog 121 #[.pointer (some ⟨g, 0, none⟩), .string s] w fun e w' => e = .returned (.tuple #[fileV (.slice none 0 0) 0, .int .i64 14]) ∧ Below w.heap.size w w' := by
 have c0 := h.c0
 have HM := Lib.hid (h.below ((Below.refl _ w).alloc (Nat.le_refl _) (.cells #[.slice none 0 0, .int .i64 0] 126))).mp
 have hgl := h.lt g h.gS
 have HS := Lib.hid hs
 have HF := Lib.hid hf
 clear h hs hf
 unfold fileV
 go_enter Tryz.func121, Tryz.ntmps121
 go_wp2_with (at_lookup; refine wpList_look_ok rfl _ _ rfl rfl rfl HM.out HS.out (v := fileV (.slice none 0 0) 0) (b := false) (by rw [lookE_none HF.out]) (by rw [HF.out]; rfl) ?_; unfold fileV)
 refine bodyPost_ret (v := .tuple #[.agg #[.slice none 0 0, .int .i64 0], .int .i64 14]) (by simp [results, Tryz.results121, go_sem]) rfl ⟨rfl, ?_⟩
 exact below_two _ _ _
theorem ownsMap_tight {H : Type} {P : Program} {k : TypeId} {R : Value → Option (DataW H × List MemPlace)} {w : World} {b n : Nat} {D : DataW H} (h : w.ownsMap P k R b n D) : w.ownsMap P k R b (Maps.size D) D := by
 obtain ⟨es, clock, hb, F, hs, rfl⟩ := h
 exact ⟨es, clock, hb, F, by simp [Maps.size, length_sorted], rfl⟩
theorem Only.drew {T : Nat → Prop} {w w1 : World} (h : Only T w w1) : Only T w w1.drew := ⟨h.os, h.tape, h.output, h.size, h.block⟩
theorem put_end {S S1 : Nat → Prop} {g b n : Nat} {E : Ents} {wr sy : Nat} {s : ByteArray} {x : Ent} {w w1 w2 : World} (hst : Step w S w1 S1) (h : DkM w1 S1 g (some b) E wr sy) (h2 : Files w1 S1 g (some b) (delP E s))
  (hx : FileIs w1 S1 g (some b) x) (hf : ∀ p ∈ delP E s, Far x p.2) (hfew : (putP E s x).length ≤ 64) (hb : S1 b) (hbg : b ≠ g)
  (ho : w2.ownsMap Tryz.prog 9 rawR b n ((datum E).put (.string s.data.toList) (.held x.val))) (hg : w1.grownBy w2 (some b)) :
  ∃ S' mo', DkM w2 S' g mo' (putP E s x) wr sy ∧ Files w2 S' g mo' (putP E s x) ∧ Step w S w2 S' := by
 have hon : Only (fun k => k = b) w1 w2 := Only.of_grown hg (fun k hk => by injection hk with hk; exact hk.symm)
 have hon1 : Only S1 w1 w2 := hon.mono (fun i hi => by rw [hi]; exact hb)
 have hgb : ¬ g = b := fun e => hbg e.symm
 refine ⟨S1, some b, ⟨h.gS, fun k hk => Nat.lt_of_lt_of_le (h.lt k hk) hon.size, (hon.cell (p := ⟨g, 0, none⟩) (h.lt g h.gS) hgb).trans h.c0, (hon.cell (p := ⟨g, 1, none⟩) (h.lt g h.gS) hgb).trans h.c1,
  (hon.cell (p := ⟨g, 2, none⟩) (h.lt g h.gS) hgb).trans h.c2, fun o => (hon.frozen (p := ⟨g, o, none⟩) (h.lt g h.gS) hgb).trans (h.fz o), .inr ⟨b, rfl, hb, hbg, ?_⟩, rising_put h.rise s x, hfew⟩, ?_, hst.trans ⟨hon1, fun _ hk => .inl hk⟩⟩
 ·have := ownsMap_tight ho
  rw [datum_put, datum_size] at this
  exact this
 ·have hk : ∀ y : Ent, FileIs w1 S1 g (some b) y → FileIs w2 S1 g (some b) y := fun y hy => ⟨hon.own hy.own (fun k hk => fun e => (hy.S k hk).2.2 (by rw [e])), hy.syn, hy.ok, hy.max, hy.S⟩
  exact Files.put ⟨fun p hp => hk _ (h2.each p hp), h2.apart⟩ (hk _ hx) hf
set_option maxRecDepth 100000 in
set_option maxHeartbeats 400000 in
theorem put_some {S : Nat → Prop} {g b : Nat} {E : Ents} {wr sy : Nat} {s : ByteArray} {x : Ent} (w : World) (h : DkM w S g (some b) E wr sy) (h2 : Files w S g (some b) (delP E s)) (hx : FileIs w S g (some b) x)
  (hf : ∀ p ∈ delP E s, Far x p.2) (hfew : (putP E s x).length ≤ 64) (hs : s.size ≤ maxLen) :
  Calls Tryz.prog 50 #[.pointer (some ⟨g, 0, none⟩), .string s, fileV x.v x.syn] w fun e w' => e = .returned (.tuple #[]) ∧ ∃ S' mo', DkM w' S' g mo' (putP E s x) wr sy ∧ Files w' S' g mo' (putP E s x) ∧ Step w S w' S' := by
 have c0 := h.c0
 have hgl := h.lt g h.gS
 obtain ⟨A, c, hv⟩ := ownB_slice hx.own
 have hmp := h.mp
 rcases hmp with ⟨hmp, _⟩ | ⟨b', hmp, hb, hbg, hown⟩
 ·cases hmp
 ·injection hmp with hmp
  subst hmp
  have HB := Lib.hid ((Below.refl _ w).alloc (Nat.le_refl _) (.cells #[.slice A x.by_.length c, .int .i64 x.syn] 126)).drew
  have HO := Lib.hid ((hown.alloc (.cells #[.slice A x.by_.length c, .int .i64 x.syn] 126)).drew)
  have HH := Lib.hid (⟨h, h2, hx, hf, hfew, hs, hb, hbg⟩ : DkM w S g (some b) E wr sy ∧ Files w S g (some b) (delP E s) ∧ FileIs w S g (some b) x ∧ (∀ p ∈ delP E s, Far x p.2) ∧ (putP E s x).length ≤ 64 ∧ s.size ≤ maxLen ∧ S b ∧ b ≠ g)
  have hlen : E.length < maxLen := by have := h.few; unfold maxLen; omega
  have HL := Lib.hid hlen
  have HV : Hid (x.v = .slice A x.by_.length c) := hv
  rw [hv]
  clear h h2 hx hf hfew hs hb hbg hv hown hlen
  have q63 : ∀ (w : World) (r : Option Nat), (binOp .eql 86 (.map r) (.map none)).run Tryz.prog w = .ok (.bool r.isNone) w := fun w r => run_eql_map_nil w _ _ _ r Tryz.underlying86
  unfold fileV
  go_enter Tryz.func50, Tryz.ntmps50
  go_wp2
  have c0' : (w.alloc (.cells #[.slice A x.by_.length c, .int .i64 x.syn] 126)).cell? ⟨g, 0, none⟩ = some (.map (some b)) := (World.cell?_alloc_past _ _ _ hgl).trans c0
  have hbx : (w.alloc (.cells #[.slice A x.by_.length c, .int .i64 x.syn] 126)).heap[w.heap.size]? = some (.cells #[.slice A x.by_.length c, .int .i64 x.syn] 126) := heap_alloc_new w _
  have hz : (w.alloc (.cells #[.slice A x.by_.length c, .int .i64 x.syn] 126)).heap.size = w.heap.size + 1 := by simp
  have d0 : (w.alloc (.cells #[.slice A x.by_.length c, .int .i64 x.syn] 126)).cell? ⟨w.heap.size, 0, none⟩ = some (.slice A x.by_.length c) := by rw [World.cell?_alloc_at _ _ _ _ rfl]; rfl
  have d1 : (w.alloc (.cells #[.slice A x.by_.length c, .int .i64 x.syn] 126)).cell? ⟨w.heap.size, 1, none⟩ = some (.int .i64 x.syn) := by rw [World.cell?_alloc_at _ _ _ _ rfl]; rfl
  clear hbx hz
  obtain ⟨w2, hrun, ho, hg⟩ := HO.out.update keyS Tryz.underlying86 HL.out (key := .string s) (val := fileV (.slice A x.by_.length c) x.syn) (WideMaps.keyOf_string_mk Tryz.underlying9 HH.out.2.2.2.2.2.1) (rawR_mk _ _ _ _)
  have Ho := Lib.hid ho
  have Hg := Lib.hid hg
  clear ho hg
  unfold fileV at hrun
  generalize (w.alloc (.cells #[.slice A x.by_.length c, .int .i64 x.syn] 126)) = W1 at *
  go_region
  go_end0
  obtain ⟨h, h2, hx, hf, hfew, hs, hb, hbg⟩ := HH.out
  refine ⟨rfl, put_end (n := E.length + 1) (Step.of_below S HB.out) (h.below HB.out) (h2.below HB.out) (hx.below HB.out) hf hfew hb hbg ?_ Hg.out⟩
  rw [Ent.val, HV.out]
  exact Ho.out
theorem DkM.first {S : Nat → Prop} {g : Nat} {E : Ents} {wr sy : Nat} {w : World} (h : DkM w S g none E wr sy) (o : Obj) :
  E = [] ∧ DkM (((w.setCell ⟨g, 0, none⟩ (.map (some (w.heap.size + 1)))).alloc o).alloc (.map #[] 0)) (fun k => S k ∨ k = w.heap.size + 1) g (some (w.heap.size + 1)) E wr sy ∧
   Only (fun k => k = g) w (((w.setCell ⟨g, 0, none⟩ (.map (some (w.heap.size + 1)))).alloc o).alloc (.map #[] 0)) := by
 have hE : E = [] := by
  rcases h.mp with ⟨_, h'⟩ | ⟨b, h', _⟩
  ·exact h'
  ·cases h'
 subst hE
 have hgl := h.lt g h.gS
 have hz0 : (w.setCell ⟨g, 0, none⟩ (.map (some (w.heap.size + 1)))).heap.size = w.heap.size := by simp [World.setCell]
 have hsz : ((w.setCell ⟨g, 0, none⟩ (.map (some (w.heap.size + 1)))).alloc o).heap.size = w.heap.size + 1 := by simp [World.setCell]
 have hb := below_two (w.setCell ⟨g, 0, none⟩ (.map (some (w.heap.size + 1)))) o (.map #[] 0)
 have hc : ∀ k, (((w.setCell ⟨g, 0, none⟩ (.map (some (w.heap.size + 1)))).alloc o).alloc (.map #[] 0)).cell? ⟨g, k, none⟩ = (w.setCell ⟨g, 0, none⟩ (.map (some (w.heap.size + 1)))).cell? ⟨g, k, none⟩ := fun k => hb.cell (p := ⟨g, k, none⟩) (by rw [hz0]; exact hgl)
 have hfr : ∀ k, (((w.setCell ⟨g, 0, none⟩ (.map (some (w.heap.size + 1)))).alloc o).alloc (.map #[] 0)).frozen? ⟨g, k, none⟩ = (w.setCell ⟨g, 0, none⟩ (.map (some (w.heap.size + 1)))).frozen? ⟨g, k, none⟩ := fun k => hb.frozen (p := ⟨g, k, none⟩) (by rw [hz0]; exact hgl)
 have hon : Only (fun k => k = g) w (((w.setCell ⟨g, 0, none⟩ (.map (some (w.heap.size + 1)))).alloc o).alloc (.map #[] 0)) :=
  (Only.setCell (T := fun k => k = g) _ _ _ rfl).trans (Only.of_below hb (fun k => k = g)) (fun _ h => .inl h)
 refine ⟨rfl, ⟨.inl h.gS, fun k hk => ?_, (hc 0).trans (World.cell?_setCell_same _ _ _ h.c0), (hc 1).trans ((World.cell?_setCell_other _ _ _ _ (by simp)).trans h.c1),
  (hc 2).trans ((World.cell?_setCell_other _ _ _ _ (by simp)).trans h.c2), fun k => by rw [hfr, World.frozen?_setCell]; exact h.fz k, .inr ⟨_, rfl, .inr rfl, by omega, ?_⟩, List.Pairwise.nil, by simp⟩, hon⟩
 ·rcases hk with hk | rfl
  ·have := h.lt k hk; simp [World.setCell]; omega
  ·simp [World.setCell]
 ·have := World.ownsMap_made ((w.setCell ⟨g, 0, none⟩ (.map (some (w.heap.size + 1)))).alloc o) Tryz.prog 9 rawR
  rw [hsz] at this
  exact this
set_option maxRecDepth 100000 in
set_option maxHeartbeats 400000 in
theorem put_none {S : Nat → Prop} {g : Nat} {E : Ents} {wr sy : Nat} {s : ByteArray} {x : Ent} (w : World) (h : DkM w S g none E wr sy) (hx : FileIs w S g none x)
  (hs : s.size ≤ maxLen) :
  Calls Tryz.prog 50 #[.pointer (some ⟨g, 0, none⟩), .string s, fileV x.v x.syn] w fun e w' => e = .returned (.tuple #[]) ∧ ∃ S' mo', DkM w' S' g mo' (putP E s x) wr sy ∧ Files w' S' g mo' (putP E s x) ∧ Step w S w' S' := by
 have c0 := h.c0
 have f0 := h.fz 0
 have hgl := h.lt g h.gS
 obtain ⟨A, c, hv⟩ := ownB_slice hx.own
 obtain ⟨rfl, h1, hon⟩ := h.first (.cells #[.slice A x.by_.length c, .int .i64 x.syn] 126)
 have hgS := h.gS
 have hlt := h.lt
 have hz1 : (w.setCell ⟨g, 0, none⟩ (.map (some (w.heap.size + 1)))).heap.size = w.heap.size := by simp [World.setCell]
 have d0 : (((w.setCell ⟨g, 0, none⟩ (.map (some (w.heap.size + 1)))).alloc (.cells #[.slice A x.by_.length c, .int .i64 x.syn] 126)).alloc (.map #[] 0)).cell? ⟨w.heap.size, 0, none⟩ = some (.slice A x.by_.length c) := by
  rw [World.cell?_alloc_past _ _ _ (by simp [World.setCell]), World.cell?_alloc_at _ _ _ _ hz1.symm]; rfl
 have d1 : (((w.setCell ⟨g, 0, none⟩ (.map (some (w.heap.size + 1)))).alloc (.cells #[.slice A x.by_.length c, .int .i64 x.syn] 126)).alloc (.map #[] 0)).cell? ⟨w.heap.size, 1, none⟩ = some (.int .i64 x.syn) := by
  rw [World.cell?_alloc_past _ _ _ (by simp [World.setCell]), World.cell?_alloc_at _ _ _ _ hz1.symm]; rfl
 have c0' := h1.c0
 have HS := Lib.hid hs
 have HX := Lib.hid hx
 have HL := Lib.hid hlt
 have HV : Hid (x.v = .slice A x.by_.length c) := hv
 have H1 := Lib.hid h1
 have HN := Lib.hid hon
 rw [hv]
 clear h hx hs hlt hv h1 hon hz1
 have q63 : ∀ (w : World) (r : Option Nat), (binOp .eql 86 (.map r) (.map none)).run Tryz.prog w = .ok (.bool r.isNone) w := fun w r => run_eql_map_nil w _ _ _ r Tryz.underlying86
 have hmm := @run_makeMap Tryz.prog
 unfold fileV
 go_enter Tryz.func50, Tryz.ntmps50
 go_wp2
 generalize ((w.setCell ⟨g, 0, none⟩ (.map (some (w.heap.size + 1)))).alloc (.cells #[.slice A x.by_.length c, .int .i64 x.syn] 126)).alloc (.map #[] 0) = W1 at *
 have hmp := H1.out.mp
 rcases hmp with ⟨hmp, _⟩ | ⟨b', hmp, hb, hbg, hown⟩
 ·cases hmp
 ·injection hmp with hmp
  subst hmp
  obtain ⟨w2, hrun, ho, hg⟩ := hown.drew.update keyS Tryz.underlying86 (by simp; decide) (key := .string s) (val := fileV (.slice A x.by_.length c) x.syn) (WideMaps.keyOf_string_mk Tryz.underlying9 HS.out) (rawR_mk _ _ _ _)
  have Ho := Lib.hid ho
  have Hg := Lib.hid hg
  have HB := Lib.hid hb
  have HBG := Lib.hid hbg
  clear hb hbg hown ho hg
  unfold fileV at hrun
  go_region
  go_end0
  have hst : Step w S W1.drew (fun k => S k ∨ k = w.heap.size + 1) := ⟨HN.out.drew.mono (fun k hk => by rw [hk]; exact hgS), fun k hk => by
   rcases hk with hk | rfl
   ·exact .inl hk
   ·exact .inr (by omega)⟩
  have hx1 : FileIs W1.drew (fun k => S k ∨ k = w.heap.size + 1) g (some (w.heap.size + 1)) x :=
   ⟨HN.out.drew.own HX.out.own (fun k hk => (HX.out.S k hk).2.1), HX.out.syn, HX.out.ok, HX.out.max, fun k hk => ⟨.inl (HX.out.S k hk).1, (HX.out.S k hk).2.1, fun e => by
    injection e with e; have := HL.out k (HX.out.S k hk).1; omega⟩⟩
  refine ⟨rfl, put_end (n := 1) hst (H1.out.below (Below.refl _ _).drew) ⟨fun _ hp => (nomatch hp), fun _ hp => (nomatch hp)⟩ hx1 (fun _ hp => (nomatch hp)) (by simp [putP, delP, insP]) HB.out HBG.out ?_ Hg.out⟩
  rw [Ent.val, HV.out]
  exact Ho.out
theorem dput_any {S : Nat → Prop} {g : Nat} {mo : Option Nat} {E : Ents} {wr sy : Nat} {s : ByteArray} {x : Ent} (w : World) (h : DkM w S g mo E wr sy) (h2 : Files w S g mo (delP E s)) (hx : FileIs w S g mo x)
  (hf : ∀ p ∈ delP E s, Far x p.2) (hfew : (putP E s x).length ≤ 64) (hs : s.size ≤ maxLen) :
  Calls Tryz.prog 50 #[.pointer (some ⟨g, 0, none⟩), .string s, fileV x.v x.syn] w fun e w' => e = .returned (.tuple #[]) ∧ ∃ S' mo', DkM w' S' g mo' (putP E s x) wr sy ∧ Files w' S' g mo' (putP E s x) ∧ Step w S w' S' := by
 cases mo with
 | none => exact put_none w h hx hs
 | some b => exact put_some w h h2 hx hf hfew hs
def Disk (w : World) (S : Nat → Prop) (g : Nat) (L : List (ByteArray × Fl)) (wr sy : Nat) : Prop := ∃ E mo, mapS Ent.fl E = L ∧ DkM w S g mo E wr sy ∧ Files w S g mo E
section
variable {w w' : World} {S T : Nat → Prop} {g wr sy : Nat} {L : List (ByteArray × Fl)} {E : Ents} {s : ByteArray} {mo : Option Nat}
theorem Disk.keep (h : Disk w S g L wr sy) (ho : Only T w w') (hT : ∀ k, S k → ¬ T k) : Disk w' S g L wr sy :=
 let ⟨E, mo, h0, h1, h2⟩ := h; ⟨E, mo, h0, h1.keep ho hT, h2.keep ho hT⟩
theorem Disk.below (h : Disk w S g L wr sy) (hb : Below w.heap.size w w') : Disk w' S g L wr sy :=
 let ⟨E, mo, h0, h1, h2⟩ := h; ⟨E, mo, h0, h1.below hb, h2.below hb⟩
theorem Disk.new (w : World) : Disk (w.alloc (.cells #[.map none, .int .i64 0, .int .i64 0] 88)) (fun k => k = w.heap.size) w.heap.size [] 0 0 :=
 let ⟨mo, h1, h2⟩ := HasDk.new w; ⟨[], mo, rfl, h1, h2⟩
theorem fl_some {f : Fl} (hE : mapS Ent.fl E = L) (h : findP L s = some f) : ∃ x, findP E s = some x ∧ x.fl = f := by
 rw [← hE, mapS_find] at h
 cases e : findP E s with
 | none => rw [e] at h; cases h
 | some x => rw [e] at h; injection h with h; exact ⟨x, rfl, h⟩
theorem fl_none (hE : mapS Ent.fl E = L) (h : findP L s = none) : findP E s = none := by
 rw [← hE, mapS_find] at h
 cases e : findP E s with
 | none => rfl
 | some x => rw [e] at h; cases h
theorem Files.apart_del {x : Ent} (h : Files w S g mo E) (hf : findP E s = some x) : ∀ p ∈ delP E s, Far x p.2 := fun p hp =>
 have hp' := mem_delP.1 hp
 h.apart _ (findP_some hf) p hp'.1 (fun e => hp'.2 e.symm)
theorem Files.del (h : Files w S g mo E) (s : ByteArray) : Files w S g mo (delP E s) := h.sub fun _ hp => (mem_delP.1 hp).1
theorem DkM.setWr (h : DkM w S g mo E wr sy) (k : Nat) : DkM (w.setCell ⟨g, 1, none⟩ (.int .i64 k)) S g mo E k sy :=
 ⟨h.gS, fun k hk => by simpa using h.lt k hk, (World.cell?_setCell_other _ _ _ _ (by simp)).trans h.c0, World.cell?_setCell_same _ _ _ h.c1, (World.cell?_setCell_other _ _ _ _ (by simp)).trans h.c2,
  fun o => by rw [World.frozen?_setCell]; exact h.fz o, by
   rcases h.mp with h' | ⟨b, h1, h2, h3, h4⟩
   ·exact .inl h'
   ·exact .inr ⟨b, h1, h2, h3, h4.setCell (a := ⟨g, 1, none⟩) h3 _⟩, h.rise, h.few⟩
theorem DkM.setSy (h : DkM w S g mo E wr sy) (k : Nat) : DkM (w.setCell ⟨g, 2, none⟩ (.int .i64 k)) S g mo E wr k :=
 ⟨h.gS, fun k hk => by simpa using h.lt k hk, (World.cell?_setCell_other _ _ _ _ (by simp)).trans h.c0, (World.cell?_setCell_other _ _ _ _ (by simp)).trans h.c1, World.cell?_setCell_same _ _ _ h.c2,
  fun o => by rw [World.frozen?_setCell]; exact h.fz o, by
   rcases h.mp with h' | ⟨b, h1, h2, h3, h4⟩
   ·exact .inl h'
   ·exact .inr ⟨b, h1, h2, h3, h4.setCell (a := ⟨g, 2, none⟩) h3 _⟩, h.rise, h.few⟩
theorem Files.setG (h : Files w S g mo E) (o : Nat) (u : Value) : Files (w.setCell ⟨g, o, none⟩ u) S g mo E :=
 ⟨fun p hp => ⟨(Only.setCell (T := fun k => k = g) w ⟨g, o, none⟩ u rfl).own (h.each p hp).own (fun k hk => ((h.each p hp).S k hk).2.1), (h.each p hp).syn, (h.each p hp).ok, (h.each p hp).max, (h.each p hp).S⟩, h.apart⟩
theorem Step.setG {w0 : World} {S0 : Nat → Prop} (h : Step w0 S0 w S) (hg : S g) (o : Nat) (u : Value) : Step w0 S0 (w.setCell ⟨g, o, none⟩ u) S :=
 h.trans ⟨Only.setCell _ _ _ hg, fun _ hk => .inl hk⟩
end
def Leaves (w w' : World) (S : Nat → Prop) (g : Nat) (L : List (ByteArray × Fl)) (wr sy : Nat) : Prop := ∃ S', Disk w' S' g L wr sy ∧ Step w S w' S'
set_option maxRecDepth 100000 in
set_option maxHeartbeats 400000 in
theorem sync_some {S : Nat → Prop} {g : Nat} {L : List (ByteArray × Fl)} {wr sy : Nat} {s : ByteArray} {f : Fl} (w : World) (h : Disk w S g L wr sy) (hs : s.size ≤ maxLen) (hf : findP L s = some f) (hsy : sy ≤ 1000000) :
  Calls Tryz.prog 87 #[.pointer (some ⟨g, 0, none⟩), .string s] w fun e w' => e = .returned (.int .i64 0) ∧ Leaves w w' S g (putP L s ⟨f.by_, f.by_.length⟩) wr (sy + 1) := by
 obtain ⟨E, mo, rfl, h1, h2⟩ := h
 obtain ⟨x, hx, rfl⟩ := fl_some rfl hf
 have hix := h2.each _ (findP_some hx)
 obtain ⟨A, c, hv⟩ := ownB_slice hix.own
 have hxl := hix.max
 have HS := Lib.hid hs
 have H1 := Lib.hid h1
 have H2 := Lib.hid h2
 have HX := Lib.hid hx
 have HV : Hid (x.v = .slice A x.by_.length c) := hv
 have HI := Lib.hid hix
 clear hs h1 h2 hx hf hix hv
 go_enter Tryz.func87, Tryz.ntmps87
 go_wp2_with fail
 refine (find_some w H1.out H2.out HS.out HX.out).mono ?_
 rintro e w1 ⟨rfl, hb⟩
 rw [HV.out]
 unfold fileV
 have HB := Lib.hid hb
 clear hb
 go_wp2_with fail
 have hb2 := HB.out.trans (((Below.refl w.heap.size w1).alloc HB.out.size (.cells #[.slice A x.by_.length c, .int .i64 x.by_.length] 126)))
 have hfe := Files.apart_del H2.out HX.out
 refine (dput_any _ (x := ⟨.slice A x.by_.length c, x.by_, x.by_.length⟩) (H1.out.below hb2) ((H2.out.del s).below hb2) ?_ ?_ ?_ HS.out).mono ?_
 ·have := HI.out.below hb2
  exact ⟨HV.out ▸ this.own, Nat.le_refl _, this.ok, this.max, HV.out ▸ this.S⟩
 ·intro p hp
  have := hfe p hp
  unfold Far at this ⊢
  rw [HV.out] at this
  exact this
 ·exact Nat.le_trans (putP_length_some HX.out _) H1.out.few
 rintro e w2 ⟨rfl, S', mo', h1, h2, h3⟩
 have c2 := h1.c2
 have f2 := h1.fz 2
 have hgl := h1.lt g h1.gS
 have K1 := Lib.hid h1
 have K2 := Lib.hid h2
 have K3 := Lib.hid h3
 have HB2 := Lib.hid hb2
 clear h1 h2 h3 hfe hb2
 go_wp2
 go_ret
 refine ⟨rfl, S', ⟨_, mo', ?_, K1.out.setSy (sy + 1), K2.out.setG _ _⟩, ((Step.of_below S HB2.out).trans K3.out).setG K1.out.gS _ _⟩
 rw [mapS_put]
 rfl
set_option maxRecDepth 100000 in
set_option maxHeartbeats 400000 in
theorem remove_none {S : Nat → Prop} {g : Nat} {L : List (ByteArray × Fl)} {wr sy : Nat} (s : ByteArray) (w : World) (h : Disk w S g L wr sy) (hs : s.size ≤ maxLen) (hf : findP L s = none) :
  Calls Tryz.prog 86 #[.pointer (some ⟨g, 0, none⟩), .string s] w fun e w' => e = .returned (.int .i64 14) ∧ Below w.heap.size w w' := by
 obtain ⟨E, mo, hE, h1, _⟩ := h
 have HC := Lib.hid (find_none w h1 hs (fl_none hE hf))
 clear h1 hs hf
 go_enter Tryz.func86, Tryz.ntmps86
 go_wp2_with fail
 refine HC.out.mono ?_
 rintro e w1 ⟨rfl, hb⟩
 have HB := Lib.hid hb
 clear hb
 unfold fileV
 go_wp2
 go_ret
 exact ⟨rfl, (HB.out.trans ((Below.refl _ _).alloc HB.out.size _))⟩
end Go.Proofs.YtholdcgkhicdmaaGreatDoor