/- Layer 11: the document's own receiver: an item more, the expected one gone. -/
import Derived.Test.YtileaoanekphaaaRvRfo
import Derived.Deep.RegionLaw
import Derived.IntWalk
import Derived.ArgAppend
namespace Go.Proofs.Ytileaoanekphaaa
open Go.RowKit

theorem step_append_at11 {P : Program} {w w' : World} {ops : Array Oper} {o : Oper} {a : Go.Act} {K : Go.Act → World → Prop} {Q : Exit → Go.Act → World → Prop} {E : Prop} {t : TypeId} {v x y : Value} (hgd : o.guard = none) (s r : Operand)
    (ho : o.op = .call { callee := .builtin .append, args := #[s, r], argTypes := #[t, t] }) (hs : a.eval s = x) (hr : a.eval r = y) (hrun : (Builtin.append_ #[t, t] o.type #[x, y]).run P w = .ok v w') (h : K (a.put o.dst v) w') :
    if Region.wanted o (yielded ops a.tmps) = true then Oper.wp P o a w K Q else E := by
  have hw : Region.wanted o (yielded ops a.tmps) = true := by simp [Region.wanted, hgd]
  rw [if_pos hw]
  unfold Oper.wp execOp
  simp only [ho, resolve, invoke, builtin, Sem.run_bind, Sem.run_pure, Result.andThen_ok, List.map_toArray, List.map_cons, List.map_nil, hs, hr, hrun]
  exact h
section
variable {w w' : World} {S : Nat → Prop} {g : Nat} {X : Mr} {L : List Ett}
/-- an entry is appended to the row -/
theorem MrR.app {b c0 : Nat} {v : Value} (h : MrR w S g v L) (hg : g < w.heap.size) (e : Ett) (hf : L.length < 1000) (ty : TypeId) (hsrc : ∀ (j : Nat) u, (entC e)[j]? = some u → w.cell? ⟨b, j, none⟩ = some u) :
    ∃ A' c' w', (Builtin.append_ #[30, 30] ty #[v, .slice (some ⟨b, 0, none⟩) 1 c0]).run Try.prog w = .ok (.slice A' (L.length + 1) c') w' ∧
      MrR w' (fun k => S k ∨ (Value.slice A' (L.length + 1) c').ownBlock = some k) g (.slice A' (L.length + 1) c') (L ++ [e]) ∧ Only (fun k => v.ownBlock = some k) w w' ∧ (∀ k, (Value.slice A' (L.length + 1) c').ownBlock = some k → (v.ownBlock = some k ∨ w.heap.size ≤ k) ∧ k < w'.heap.size) := by
  obtain ⟨i0, hi0, hz0, hz1, hz2⟩ := info_parts Try.infoHe
  have hnews : ∀ (j : Nat) u, (entC e)[j]? = some u → w.cell? ((⟨b, 0, none⟩ : Addr).add j) = some u := fun j u hj => by
    rw [Addr.add_lit, Nat.zero_add]
    exact hsrc j u hj
  have hc : cellsE L ++ entC e = cellsE (L ++ [e]) := by rw [cellsE_append, cellsE_cons, cellsE_nil, List.append_nil]
  have hlen : (L ++ [e]).length = L.length + 1 := by simp
  obtain ⟨v', w', h1, h2, h3, h4⟩ := run_append_src (P := Try.prog) (w := w) (ty := ty) (t := 30) (e := 60) (base := 0) (m := 1) (c := c0) (A := some ⟨b, 0, none⟩) (news := entC e) Try.underlying30 hi0 hz0 hz1 hz2 rfl (by decide) h.own ⟨rfl, fun _ => ⟨_, rfl, hnews⟩⟩ (fun u hu => cellsE_one [e] u (by rw [cellsE_cons, cellsE_nil, List.append_nil]; exact hu)) (by unfold maxLen; omega) (by omega) (Nat.zero_le _)
  obtain ⟨A', c', rfl⟩ := ownB_slice h2
  rw [hc] at h2
  have hb : ∀ k, (Value.slice A' (L.length + 1) c').ownBlock = some k → (v.ownBlock = some k ∨ w.heap.size ≤ k) ∧ k < w'.heap.size := fun k hk => ⟨by
    rcases h4 with h4 | h4
    · rw [h4] at hk; exact .inl hk
    · rw [h4] at hk; injection hk with hk; exact .inr (by omega), (h2.lt k hk).2⟩
  refine ⟨A', c', w', h1, ⟨by rw [hlen]; exact h2, fun hk => ?_, fun k hk => .inr hk⟩, Only.of_grown h3 (fun k hk => hk), hb⟩
  rcases (hb g hk).1 with h5 | h5
  · exact h.vg h5
  · omega
set_option maxRecDepth 100000 in
set_option maxHeartbeats 2000000 in
theorem mtake_ok {q : Nat} {x : It} {A : Option Addr} {N c : Nat} (w : World) (h : MrAt w S g X L) (hn : X.n ≤ 1099511627776) (hW : X.W ≤ 64) (hlt : X.n ≤ q) (hF : posE L q = none) (hfar : q - X.n < X.W) (hfew : L.length < 1000)
    (hz : itemN x = 0) (hN : N = x.l.length) (hm : N ≤ 1000) (hA : A = none → N = 0) (hr : RdP w w.heap.size A x.l) (hok : OkI x) (hap : ∀ a, A = some a → 0 < x.l.length → ¬ S a.block) :
    Calls Try.prog 13 #[.pointer (some ⟨g, 0, none⟩), .int .u64 q, .agg #[.bool x.g, .int .u8 x.o, .int .u64 x.q, .int .u64 x.t, .string x.r, .slice A N c, .int .u8 x.s, .int .u8 x.p, .int .i64 x.v, .int .u8 x.w, .int .u8 x.ga, .int .u64 x.gf, .int .u64 x.gt]] w fun e w' => e = .returned (.int .i64 0) ∧ ∃ S', MrAt w' S' g X (L ++ [⟨q, x, A, c⟩]) ∧ Step w S w' S' := by
  obtain ⟨V, hV⟩ : ∃ V, V = w.alloc (.cells #[.bool x.g, .int .u8 x.o, .int .u64 x.q, .int .u64 x.t, .string x.r, .slice A N c, .int .u8 x.s, .int .u8 x.p, .int .i64 x.v, .int .u8 x.w, .int .u8 x.ga, .int .u64 x.gf, .int .u64 x.gt] 43) := ⟨_, rfl⟩
  have hbV : Below w.heap.size w V := by rw [hV]; exact (Below.refl _ _).alloc (Nat.le_refl _) _
  have hcV : V.heap[w.heap.size]? = some (.cells #[.bool x.g, .int .u8 x.o, .int .u64 x.q, .int .u64 x.t, .string x.r, .slice A N c, .int .u8 x.s, .int .u8 x.p, .int .i64 x.v, .int .u8 x.w, .int .u8 x.ga, .int .u64 x.gf, .int .u64 x.gt] 43 (0, 0)) := by rw [hV]; exact heap_alloc_new _ _
  have hlV : w.heap.size < V.heap.size := by rw [hV]; simp
  have hrV := h.below hbV
  obtain ⟨B, d, -, -, c1, -, -, -⟩ := hrV.cells
  have HF := mfind_any q V hrV
  rw [posZ_none hF] at HF
  have HF := Lib.hid HF
  have HCK : Hid (∀ W, Below w.heap.size w W → Calls Try.prog 20 #[.agg #[.bool x.g, .int .u8 x.o, .int .u64 x.q, .int .u64 x.t, .string x.r, .slice A N c, .int .u8 x.s, .int .u8 x.p, .int .i64 x.v, .int .u8 x.w, .int .u8 x.ga, .int .u64 x.gf, .int .u64 x.gt]] W fun e w' => e = .returned (.int .i64 0) ∧ Below W.heap.size W w') := fun W hw => by
    have h1 := refItem_any x A N c W hN (by unfold maxLen; omega) ((hr.below hw).more hw.size) hok
    rw [hz] at h1
    exact h1
  have HV := Lib.hid hV
  have HB := Lib.hid hbV
  have HCV := Lib.hid (⟨hcV, hlV⟩ : _ ∧ _)
  have HR := Lib.hid hrV
  have HE : Hid (EtOk w S ⟨q, x, A, c⟩) := ⟨by show q < _; omega, by show x.l.length ≤ 1000; omega, fun e => by have := hA e; show x.l.length = 0; omega, hr, hap⟩
  have HH := Lib.hid h
  have HN := Lib.hid hN
  have HFW := Lib.hid hfew
  obtain ⟨y, hy⟩ : ∃ y, y = X.n + X.W := ⟨_, rfl⟩
  have e1 : (X.n : Int) + (X.W : Int) = (y : Int) := by omega
  have e2 : IntKind.u64.wrap (y : Int) = (y : Int) := by rw [IntKind.wrap_u64]; omega
  have e3 : IntKind.u64.wrap (X.W : Int) = (X.W : Int) := by rw [IntKind.wrap_u64]; omega
  have d1 : decide (q < X.n) = false := decide_eq_false (by omega)
  have d2 : decide ((q : Int) < (X.n : Int)) = false := decide_eq_false (by omega)
  have d3 : decide (y ≤ q) = false := decide_eq_false (by omega)
  have d4 : decide ((y : Int) ≤ (q : Int)) = false := decide_eq_false (by omega)
  clear h hr hrV hV hbV hn hW hlt hF hfar hy hz hN hm hok hcV hlV hA hap hfew
  go_enter Try.func13, Try.ntmps13
  go_upto_region 1 with fail
  rw [← HV.out]
  go_wp2_with fail
  refine HF.out.mono ?_
  rintro _ w1 ⟨rfl, hb1⟩
  obtain ⟨B1, d1', -, k0, k1, -, -, -⟩ := (HR.out.below hb1).cells
  have HC1 := Lib.hid ((hb1.block _ HCV.out.2).trans HCV.out.1)
  have HB1 := Lib.hid (HB.out.trans (hb1.mono HB.out.size))
  clear hb1 HF c1 HR HCV HV HB
  go_upto_region 4 with fail
  go_quiet (fail)
  clear k0 k1
  go_wp2_with (first
    | (refine wpList_load_row rfl _ _ rfl w.heap.size rfl _ _ _ _ HC1.out Try.underlying43 rfl (by kernel_rfl) ?_)
    | fail)
  refine (HCK.out _ (cbelow_drewN HB1.out _)).mono ?_
  rintro _ w2 ⟨rfl, hb2⟩
  have hbw2 : Below w.heap.size w w2 := (cbelow_drewN HB1.out _).trans (hb2.mono (cbelow_drewN HB1.out _).size)
  have hc2 : w2.heap[w.heap.size]? = some (.cells #[.bool x.g, .int .u8 x.o, .int .u64 x.q, .int .u64 x.t, .string x.r, .slice A N c, .int .u8 x.s, .int .u8 x.p, .int .i64 x.v, .int .u8 x.w, .int .u8 x.ga, .int .u64 x.gf, .int .u64 x.gt] 43 (0, 0)) := (hb2.block _ (Array.getElem?_eq_some_iff.1 HC1.out).1).trans HC1.out
  have hs2 := HH.out.below hbw2
  obtain ⟨v2, hv2, hr2⟩ := hs2.row
  obtain ⟨A2, c2, rfl⟩ := ownB_slice hr2.own
  obtain ⟨n, hn⟩ : ∃ n, n = L.length := ⟨_, rfl⟩
  rw [← hn] at hv2 hr2
  have hgl : g < w2.heap.size := hs2.lt g hs2.sS
  obtain ⟨R, hR⟩ : ∃ R : Nat → Prop, R = fun k => (Value.slice A2 n c2).ownBlock = some k := ⟨_, rfl⟩
  have hRg : ¬ R g := fun h => by rw [hR] at h; exact hr2.vg h
  have hRp : ¬ R w.heap.size := fun h => by
    rw [hR] at h
    have := HH.out.lt _ (hr2.vS _ h)
    omega
  have HC : Hid (∀ W, Only R w2 W → W.cell? ⟨g, 3, none⟩ = some (.slice A2 n c2) ∧ W.heap[w.heap.size]? = some (.cells #[.bool x.g, .int .u8 x.o, .int .u64 x.q, .int .u64 x.t, .string x.r, .slice A N c, .int .u8 x.s, .int .u8 x.p, .int .i64 x.v, .int .u8 x.w, .int .u8 x.ga, .int .u64 x.gf, .int .u64 x.gt] 43 (0, 0)) ∧ W.frozen? ⟨g, 3, none⟩ = false) := fun W hW => by
    have hb : W.heap[g]? = _ := (hW.block g hgl hRg).trans hv2
    exact ⟨cell_of_row _ _ 3 _ _ _ hb, (hW.block _ (Array.getElem?_eq_some_iff.1 hc2).1 hRp).trans hc2, frozen_of_row _ _ 3 _ _ hb⟩
  have HK := Lib.hid (⟨hv2, hr2, hR, hn⟩ : _ ∧ _ ∧ _ ∧ _)
  have HS2 := Lib.hid hs2
  have HB2 := Lib.hid hbw2
  have HFW2 : Hid (n < 1000) := by rw [hn]; exact HFW.out
  clear hb2 hbw2 hc2 hs2 hv2 hr2 hR hn HC1 HB1 HCK HFW hRp
  go_upto_region 9 with fail
  refine wp_region_noPanic ?_
  refine keepBegin (S := fun W => Only R w2 W) 12 (by kernel_rfl) ?_ (fun hHeld => ?_)
  · exact Only.of_below ((Below.refl _ _).drew) _
  try simp only [keepPut, List.set, Nat.zero_add]
  refine keepTake (i := 0) (v := ?_) [0] rfl (by kernel_rfl) (by kernel_rfl) (by kernel_rfl) (by kernel_rfl) (by kernel_rfl) (by kernel_rfl) (fun _ _ _ h => h) (Or.inl ⟨by rfl, ?_⟩) (by assumption) ?_
  rotate_left
  · (intro W hSw; (try dsimp only at hSw); obtain ⟨f1, -, -⟩ := HC.out W hSw; go_simp; try with_reducible rfl)
  try simp only [keepPut, List.set, Nat.zero_add]
  refine keepTake (i := 1) (v := ?_) [1] rfl (by kernel_rfl) (by kernel_rfl) (by kernel_rfl) (by kernel_rfl) (by kernel_rfl) (by kernel_rfl) (fun _ _ _ h => h) (Or.inl ⟨by rfl, ?_⟩) (by assumption) ?_
  rotate_left
  · (intro W hSw; (try dsimp only at hSw); obtain ⟨f1, -, -⟩ := HC.out W hSw; go_simp; try with_reducible rfl)
  try simp only [keepPut, List.set, Nat.zero_add]
  refine keepTake (i := 2) (v := ?_) [2] rfl (by kernel_rfl) (by kernel_rfl) (by kernel_rfl) (by kernel_rfl) (by kernel_rfl) (by kernel_rfl) (fun _ _ _ h => h) (Or.inl ⟨by rfl, ?_⟩) (by assumption) ?_
  rotate_left
  · (intro W hSw; (try dsimp only at hSw); obtain ⟨f1, -, -⟩ := HC.out W hSw; go_simp; try with_reducible rfl)
  try simp only [keepPut, List.set, Nat.zero_add]
  refine keepTake (i := 3) (v := ?_) [3] rfl (by kernel_rfl) (by kernel_rfl) (by kernel_rfl) (by kernel_rfl) (by kernel_rfl) (by kernel_rfl) (fun _ _ _ h => h) (Or.inl ⟨by rfl, ?_⟩) (by assumption) ?_
  rotate_left
  · (intro W hSw; (try dsimp only at hSw); obtain ⟨f1, -, -⟩ := HC.out W hSw; go_simp; try with_reducible rfl)
  try simp only [keepPut, List.set, Nat.zero_add]
  refine keepTake (i := 4) (v := ?_) [4] rfl (by kernel_rfl) (by kernel_rfl) (by kernel_rfl) (by kernel_rfl) (by kernel_rfl) (by kernel_rfl) (fun _ _ _ h => h) (Or.inl ⟨by rfl, ?_⟩) (by assumption) ?_
  rotate_left
  · (intro W hSw; (try dsimp only at hSw); obtain ⟨f1, -, -⟩ := HC.out W hSw; go_simp; try with_reducible rfl)
  try simp only [keepPut, List.set, Nat.zero_add]
  refine keepTake (i := 5) (v := ?_) [5] rfl (by kernel_rfl) (by kernel_rfl) (by kernel_rfl) (by kernel_rfl) (by kernel_rfl) (by kernel_rfl) (fun _ _ _ h => h) (Or.inl ⟨by rfl, ?_⟩) (by assumption) ?_
  rotate_left
  · (intro W hSw; (try dsimp only at hSw); obtain ⟨f1, -, -⟩ := HC.out W hSw; go_simp; try with_reducible rfl)
  try simp only [keepPut, List.set, Nat.zero_add]
  refine keepTake (i := 6) (v := .agg #[.bool x.g, .int .u8 x.o, .int .u64 x.q, .int .u64 x.t, .string x.r, .slice A N c, .int .u8 x.s, .int .u8 x.p, .int .i64 x.v, .int .u8 x.w, .int .u8 x.ga, .int .u64 x.gf, .int .u64 x.gt]) [6] rfl (by kernel_rfl) (by kernel_rfl) (by kernel_rfl) (by kernel_rfl) (by kernel_rfl) (by kernel_rfl) (fun _ _ _ h => h) (Or.inl ⟨by rfl, ?_⟩) (by assumption) ?_
  · (intro W hSw; exact exec_load_row 43 _ rfl (w.heap.size) rfl _ _ _ _ (HC.out W hSw).2.1 Try.underlying43 rfl Try.infoIt)
  try simp only [keepPut, List.set, Nat.zero_add]
  refine keepTake (i := 7) (v := (.agg #[.int .u64 q, .bool x.g, .int .u8 x.o, .int .u64 x.q, .int .u64 x.t, .string x.r, .slice A N c, .int .u8 x.s, .int .u8 x.p, .int .i64 x.v, .int .u8 x.w, .int .u8 x.ga, .int .u64 x.gf, .int .u64 x.gt])) [7] rfl (by kernel_rfl) (by kernel_rfl) (by kernel_rfl) (by kernel_rfl) (by kernel_rfl) (by kernel_rfl) (fun _ _ _ h => h) (Or.inl ⟨by rfl, ?_⟩) (by assumption) ?_
  · (intro W hSw; go_simp)
  try simp only [keepPut, List.set, Nat.zero_add]
  refine keepAll (rs := [8]) (by kernel_rfl) (by simp) (AllReadyK.cons rfl (fun K hK => ?_) AllReadyK.nil)
  go_simp
  obtain ⟨w3, hw3⟩ : ∃ w3, w3 = (w2.alloc (.cells #[.int .u64 q, .bool x.g, .int .u8 x.o, .int .u64 x.q, .int .u64 x.t, .string x.r, .slice A N c, .int .u8 x.s, .int .u8 x.p, .int .i64 x.v, .int .u8 x.w, .int .u8 x.ga, .int .u64 x.gf, .int .u64 x.gt] 60)).drew := ⟨_, rfl⟩
  rw [← hw3]
  have hb23 : Below w2.heap.size w2 w3 := by rw [hw3]; exact ((Below.refl _ _).alloc (Nat.le_refl _) _).drew
  have hbx : w3.heap[w2.heap.size]? = some (.cells #[.int .u64 q, .bool x.g, .int .u8 x.o, .int .u64 x.q, .int .u64 x.t, .string x.r, .slice A N c, .int .u8 x.s, .int .u8 x.p, .int .i64 x.v, .int .u8 x.w, .int .u8 x.ga, .int .u64 x.gf, .int .u64 x.gt] 60 (0, 0)) := by rw [hw3]; exact heap_alloc_new w2 _
  clear hw3
  refine hK.out _ _ (Only.of_below hb23 _) (fun hHeld => ?_)
  clear hK K
  try simp only [keepPut, List.set, Nat.zero_add]
  refine keepAll (rs := [9]) (by kernel_rfl) (by simp) (AllReadyK.cons rfl (fun K hK => ?_) AllReadyK.nil)
  obtain ⟨hv2, hr2, hR, hnL⟩ := HK.out
  have hl23 := hb23.size
  have hr3 : MrR w3 S g (.slice A2 n c2) L := hr2.only (Only.of_below hb23 (fun _ => False)) (fun _ _ h => h)
  have hap := hr3.app (b := w2.heap.size) (c0 := 1) (Nat.lt_of_lt_of_le hgl hl23) ⟨q, x, A, c⟩ (by rw [← hnL]; exact HFW2.out) 30 (fun j u hj => by
    rw [cell_of_row _ _ _ _ _ _ hbx, HN.out]
    have hj14 := (List.getElem?_eq_some_iff.1 hj).1
    rw [entC_length] at hj14
    match j, hj14 with
    | 0, _ => exact hj
    | 1, _ => exact hj
    | 2, _ => exact hj
    | 3, _ => exact hj
    | 4, _ => exact hj
    | 5, _ => exact hj
    | 6, _ => exact hj
    | 7, _ => exact hj
    | 8, _ => exact hj
    | 9, _ => exact hj
    | 10, _ => exact hj
    | 11, _ => exact hj
    | 12, _ => exact hj
    | 13, _ => exact hj)
  rw [← hnL] at hap
  obtain ⟨A5, c5, w5, hrun, r5, ho5, hn5⟩ := hap
  refine step_append_at11 rfl (.tmp 49) (.tmp 53) rfl rfl rfl hrun ?_
  have hon5 : Only R w2 w5 := (Only.of_below hb23 R).trans ho5 (fun k hk => .inl (by rw [hR]; exact hk))
  have HR5 := Lib.hid r5
  have HN5 := Lib.hid hn5
  have HO5 := Lib.hid hon5
  clear hrun r5 ho5 hn5 hv2 hr2 hR hnL hr3 hbx
  refine hK.out _ _ (HO5.out) (fun hHeld => ?_)
  clear hK K
  try simp only [keepPut, List.set, Nat.zero_add]
  refine keepTake (i := 10) (v := ?_) [11, 10] rfl (by kernel_rfl) (by kernel_rfl) (by kernel_rfl) (by kernel_rfl) (by kernel_rfl) (by kernel_rfl) (fun _ _ _ h => h) (Or.inl ⟨by rfl, ?_⟩) (by assumption) ?_
  rotate_left
  · (intro W hSw; (try dsimp only at hSw); go_simp; try with_reducible rfl)
  try simp only [keepPut, List.set, Nat.zero_add]
  refine keepTake (i := 11) (v := ?_) [11] rfl (by kernel_rfl) (by kernel_rfl) (by kernel_rfl) (by kernel_rfl) (by kernel_rfl) (by kernel_rfl) (fun _ _ _ h => h) (Or.inl ⟨by rfl, ?_⟩) (by assumption) ?_
  rotate_left
  · (intro W hSw; (try dsimp only at hSw); go_simp; try with_reducible rfl)
  try simp only [keepPut, List.set, Nat.zero_add]
  refine keepLast rfl (by kernel_rfl) (fun K hK => ?_)
  have f4 := (HC.out w5 HO5.out).1
  have f5 := (HC.out w5 HO5.out).2.2
  go_simp
  refine hK.out _ _ ?_
  clear hK K
  try simp only [keepPut, List.set, Nat.zero_add]
  refine keepDone (by kernel_rfl) ?_ _
  refine NoPanic.normal ?_
  obtain ⟨w6, hw6⟩ : ∃ w6, w6 = w5.setCell ⟨g, 3, none⟩ (.slice A5 (n + 1) c5) := ⟨_, rfl⟩
  rw [← hw6]
  have HF : Hid (∃ S', MrAt w6 S' g X (L ++ [⟨q, x, A, c⟩]) ∧ Step w S w6 S') := by
    obtain ⟨hv2, hr2, hR, hnL⟩ := HK.out
    have hRS : ∀ k, R k → S k := fun k hk => hr2.vS k (by rw [hR] at hk; exact hk)
    have hb5 : w5.heap[g]? = _ := (HO5.out.block g hgl hRg).trans hv2
    have hnew : ∀ k, (S k ∨ (Value.slice A5 (n + 1) c5).ownBlock = some k) → S k ∨ w2.heap.size ≤ k := fun k hk => by
      rcases hk with hk | hk
      · exact .inl hk
      · rcases (HN5.out k hk).1 with h | h
        · exact .inl (hr2.vS k h)
        · exact .inr (Nat.le_trans hl23 h)
    have hS2 := HS2.out
    have hE2 : EtOk w2 S ⟨q, x, A, c⟩ := HE.out.only (T := fun _ => False) (Only.of_below HB2.out _) (fun _ _ _ h => h) (fun _ h => .inl h)
    have hEt : ∀ e ∈ L ++ [⟨q, x, A, c⟩], EtOk w5 (fun k => S k ∨ (Value.slice A5 (n + 1) c5).ownBlock = some k) e := fun e he => by
      have h1 : EtOk w2 S e := by
        rcases List.mem_append.1 he with h | h
        · exact hS2.ent e h
        · rw [List.mem_singleton] at h
          rw [h]; exact hE2
      exact h1.only HO5.out (fun a ha h0 hk => h1.ap a ha h0 (hRS _ hk)) hnew
    have hlt5 : ∀ k, (S k ∨ (Value.slice A5 (n + 1) c5).ownBlock = some k) → k < w5.heap.size := fun k hk => by
      rcases hk with hk | hk
      · exact Nat.lt_of_lt_of_le (hS2.lt k hk) HO5.out.size
      · exact (HN5.out k hk).2
    refine ⟨_, by rw [hw6]; exact MrAt.row_new hb5 HR5.out hlt5 (.inl hS2.sS) (by rw [List.length_append, ← hnL]; have := HFW2.out; simp; omega) hEt, ?_, fun k hk => ?_⟩
    · rw [hw6]
      exact ((Only.of_below HB2.out S).trans (HO5.out.mono hRS) (fun _ h => .inl h)).trans (Only.setCell (T := S) w5 _ _ hS2.sS) (fun _ h => .inl h)
    · rcases hnew k hk with h | h
      · exact .inl h
      · exact .inr (Nat.le_trans HB2.out.size h)
  go_wp2
  go_ret
  exact ⟨rfl, HF.out⟩
end
theorem SrcH.none_ {w : World} {A : Option Addr} {size : Nat} : Src w A 0 size [] := ⟨by simp, fun h => absurd h (by omega)⟩
theorem SrcH.below {w w' : World} {A : Option Addr} {m size : Nat} {news : List Value} (h : Src w A m size news) (hA : ∀ a, A = some a → a.block < w.heap.size) (hb : Below w.heap.size w w') : Src w' A m size news :=
  ⟨h.1, fun hm => by
    obtain ⟨ad, e, hc⟩ := h.2 hm
    refine ⟨ad, e, fun j u hj => ?_⟩
    have hl := hA ad e
    rw [hb.cell (p := ad.add j) (by rw [show (ad.add j).block = ad.block from by unfold Addr.add; split <;> rfl]; exact hl)]
    exact hc j u hj⟩
theorem ltH_block {w : World} {g : Nat} {o : Obj} (h : w.heap[g]? = some o) : g < w.heap.size := (Array.getElem?_eq_some_iff.1 h).1
theorem srcH_take {w : World} {base n c g : Nat} {l : List Ett} {k : Nat} (h : w.ownsRow base 60 14 (.slice (some ⟨g, 0, none⟩) n c) n (cellsE l)) (hk : k ≤ n) : Src w (some ⟨g, 0, none⟩) k 14 (cellsE (l.take k)) := by
  have hl : l.length = n := by have := h.1; rw [cellsE_length] at this; omega
  refine ⟨by rw [cellsE_length, List.length_take, Nat.min_eq_left (by omega)], fun _ => ⟨_, rfl, fun j u hj => ?_⟩⟩
  refine h.cells (g := g) rfl j u ?_
  have e : cellsE l = cellsE (l.take k) ++ cellsE (l.drop k) := by rw [← cellsE_append, List.take_append_drop]
  rw [e, List.getElem?_append_left (List.getElem?_eq_some_iff.1 hj).1]
  exact hj
theorem srcH_drop {w : World} {base n c g : Nat} {l : List Ett} {k : Nat} (h : w.ownsRow base 60 14 (.slice (some ⟨g, 0, none⟩) n c) n (cellsE l)) (hk : k ≤ n) : Src w (some ⟨g, k * 14, none⟩) (n - k) 14 (cellsE (l.drop k)) := by
  have hl : l.length = n := by have := h.1; rw [cellsE_length] at this; omega
  refine ⟨by rw [cellsE_length, List.length_drop, hl], fun _ => ⟨_, rfl, fun j u hj => ?_⟩⟩
  have e : cellsE l = cellsE (l.take k) ++ cellsE (l.drop k) := by rw [← cellsE_append, List.take_append_drop]
  have h1 := h.cells (g := g) rfl (k * 14 + j) u (by
    have hk2 : (cellsE (l.take k)).length = k * 14 := by rw [cellsE_length, List.length_take, Nat.min_eq_left (by omega)]
    rw [e, List.getElem?_append_right (by omega), hk2, show k * 14 + j - k * 14 = j from by omega]; exact hj)
  rw [Addr.add_lit] at h1 ⊢
  rw [show (0 + (k * 14 + j)) = k * 14 + j from by omega] at h1
  exact h1
set_option maxRecDepth 100000 in
/-- a cut of the row from its head, as a source -/
theorem cutH_lo {w : World} {base n c : Nat} {A : Option Addr} {l : List Ett} {a : Nat} {z : Int} (hz_ : z = a) (h : w.ownsRow base 60 14 (.slice A n c) n (cellsE l)) (ha : a ≤ n) :
    ∃ A1, (∀ W, (Instr.sliceAt 30 (.slice A n c) none (some (.int .i64 z)) none).run Try.prog W = .ok (.slice A1 a c) W) ∧ Src w A1 a 14 (cellsE (l.take a)) ∧ (∀ x, A1 = some x → x.block < w.heap.size) := by
  subst hz_
  have hl : l.length = n := by have := h.1; rw [cellsE_length] at this; omega
  have hu : Try.prog.underlying 30 = some (.slice (Try.prog.elem 30)) := by kernel_rfl
  have hz : ∀ W, (sizeOf (Try.prog.elem 30)).run Try.prog W = .ok 14 W := Try.sizeOf60
  rcases h.2 with ⟨e, rfl⟩ | ⟨g, cap, cur, e, _, hg, hnc, _⟩
  · injection e with e1 _ e3
    subst e1; subst e3
    obtain rfl : a = 0 := by omega
    refine ⟨none, fun W => ?_, by rw [List.take_zero]; exact SrcH.none_, fun x hx => (by cases hx)⟩
    rw [run_sliceAt_slice _ _ _ _ _ _ hu, run_slice_h _ _ _ _ _ hu .i64 ((0 : Nat) : Int) (by omega) (by omega), hz]
    rfl
  · injection e with e1 _ e3
    subst e1; subst e3
    refine ⟨some ⟨g, 0, none⟩, fun W => ?_, srcH_take h ha, fun x hx => by cases hx; exact ltH_block hg⟩
    rw [run_sliceAt_slice _ _ _ _ _ _ hu, run_slice_h W _ _ n c hu .i64 (a : Nat) (by omega) (by omega), hz]
    simp [sliced, Result.andThen, Addr.add_lit]
set_option maxRecDepth 100000 in
/-- a cut of the row to its end, as a source -/
theorem cutH_hi {w : World} {base n c : Nat} {A : Option Addr} {l : List Ett} {a : Nat} {z : Int} (hz_ : z = a) (h : w.ownsRow base 60 14 (.slice A n c) n (cellsE l)) (ha : a ≤ n) :
    ∃ A3 c3, (∀ W, (Instr.sliceAt 30 (.slice A n c) (some (.int .i64 z)) none none).run Try.prog W = .ok (.slice A3 (n - a) c3) W) ∧ Src w A3 (n - a) 14 (cellsE (l.drop a)) ∧ (∀ x, A3 = some x → x.block < w.heap.size) := by
  subst hz_
  have hl : l.length = n := by have := h.1; rw [cellsE_length] at this; omega
  have hu : Try.prog.underlying 30 = some (.slice (Try.prog.elem 30)) := by kernel_rfl
  have hz : ∀ W, (sizeOf (Try.prog.elem 30)).run Try.prog W = .ok 14 W := Try.sizeOf60
  rcases h.2 with ⟨e, rfl⟩ | ⟨g, cap, cur, e, _, hg, hnc, _⟩
  · injection e with e1 _ e3
    subst e1; subst e3
    obtain rfl : a = 0 := by omega
    have hl0 : l = [] := List.eq_nil_of_length_eq_zero hl
    subst hl0
    refine ⟨none, 0, fun W => ?_, SrcH.none_, fun x hx => (by cases hx)⟩
    rw [run_sliceAt_slice _ _ _ _ _ _ hu, run_slice_l _ _ _ _ _ hu .i64 ((0 : Nat) : Int) (by omega) (by omega), hz]
    rfl
  · injection e with e1 _ e3
    subst e1; subst e3
    have hlt : g < w.heap.size := ltH_block hg
    refine ⟨if c = a then some ⟨g, 0, none⟩ else some ⟨g, a * 14, none⟩, c - a, fun W => ?_, ?_, fun x hx => ?_⟩
    · rw [run_sliceAt_slice _ _ _ _ _ _ hu, run_slice_l W _ _ n c hu .i64 (a : Nat) (by omega) (by omega), hz]
      simp only [sliced, Result.andThen, Int.toNat_natCast]
      by_cases hca : c = a
      · rw [if_pos hca, if_pos hca]
      · rw [if_neg hca, if_neg hca]
        simp [Addr.add_lit]
    · by_cases hca : c = a
      · have h0 : n - a = 0 := by omega
        rw [if_pos hca, h0, List.drop_of_length_le (by omega)]
        exact SrcH.none_
      · rw [if_neg hca]
        exact srcH_drop h ha
    · by_cases hca : c = a
      · rw [if_pos hca] at hx; cases hx; exact hlt
      · rw [if_neg hca] at hx; cases hx; exact hlt
/-- the step of an append onto a row that the call itself has made since wi -/
theorem stepH_append {P : Program} {w : World} {ops : Array Oper} {o : Oper} {a : Go.Act} {K : Go.Act → World → Prop} {Q : Exit → Go.Act → World → Prop} {E : Prop} (hgd : o.guard = none) (s x : Operand) {t : TypeId}
    (ho : o.op = .call { callee := .builtin .append, args := #[s, x], argTypes := #[t, t] })
    {e : TypeId} {i : TypeInfo} {z : Value} {size bytes : Nat} (ht : P.underlying t = some (.slice e)) (hi : P.info? e = some i) (hz : i.zero = some z)
    (hsize : i.size = size) (hby : i.bytes = bytes) (hzs : z.cells.size = size) (hsz : 0 < size) {wi : World} (hbel : RowKit.Below wi.heap.size wi w)
    {v : Value} {n : Nat} {xs : List Value} (hv : a.eval s = v) (hown : w.ownsRow wi.heap.size e size v n xs) {A : Option Addr} {m c : Nat} {news : List Value} (hx : a.eval x = .slice A m c) (hs : Src w A m size news) (h1 : ∀ u ∈ news, u.oneCell' = true)
    (h63 : n + m ≤ maxLen) (hbytes : (n + m) * bytes ≤ 140737488355328)
    (h : ∀ A' c' w', w'.ownsRow wi.heap.size e size (.slice A' (n + m) c') (n + m) (xs ++ news) → RowKit.Below wi.heap.size wi w' → K (a.put o.dst (.slice A' (n + m) c')) w') :
    if Region.wanted o (yielded ops a.tmps) = true then Oper.wp P o a w K Q else E := by
  refine step_append_src hgd s x ho ht hi hz hsize hby hzs hsz hv hown hx hs h1 h63 hbytes hbel.size fun v' w' hr hg hb => ?_
  obtain ⟨A', c', rfl⟩ := ownB_slice hr
  exact h A' c' w' hr (hbel.grown hg hbel.size fun k hk => (hown.lt k hk).1)
theorem finH {W : World} {B : Nat} {e : TypeId} {size N n : Nat} {A : Option Addr} {c : Nat} {xs : List Value} (h : W.ownsRow B e size (.slice A N c) N xs) (hN : N = n) : W.ownsRow B e size (.slice A n c) n xs := by subst hN; exact h
section
variable {S : Nat → Prop} {g : Nat} {X : Mr} {L : List Ett}
theorem drop_end11 {w1 w6 : World} {A6 : Option Addr} {c6 i : Nat} {v : Value} (h : MrAt w1 S g X L) (hv : w1.heap[g]? = some (.cells (mrC X v) 32 (0, 0))) (hb : Below w1.heap.size w1 w6)
    (ho : w6.ownsRow w1.heap.size 60 14 (.slice A6 (i + (L.length - (i + 1))) c6) (i + (L.length - (i + 1))) (([] ++ cellsE (L.take i)) ++ cellsE (L.drop (i + 1)))) (hi : i < L.length) :
    ∃ S', MrAt (w6.setCell ⟨g, 3, none⟩ (.slice A6 (i + (L.length - (i + 1))) c6)) S' g X (L.take i ++ L.drop (i + 1)) ∧ Step w1 S (w6.setCell ⟨g, 3, none⟩ (.slice A6 (i + (L.length - (i + 1))) c6)) S' := by
  have hl : (L.take i ++ L.drop (i + 1)).length = i + (L.length - (i + 1)) := by rw [List.length_append, List.length_take, List.length_drop]; omega
  rw [List.nil_append, ← cellsE_append] at ho
  have hgl := h.lt g h.sS
  have hsz := hb.size
  have hn : ∀ k, (Value.slice A6 (i + (L.length - (i + 1))) c6).ownBlock = some k → w1.heap.size ≤ k ∧ k < w6.heap.size := ho.lt
  have hr : MrR w6 (fun k => S k ∨ (Value.slice A6 (i + (L.length - (i + 1))) c6).ownBlock = some k) g (.slice A6 (i + (L.length - (i + 1))) c6) (L.take i ++ L.drop (i + 1)) :=
    ⟨by rw [hl]; exact ownB_mono ho (Nat.zero_le _), fun hk => by have := (hn g hk).1; omega, fun k hk => .inr hk⟩
  have hnew : ∀ k, (S k ∨ (Value.slice A6 (i + (L.length - (i + 1))) c6).ownBlock = some k) → S k ∨ w1.heap.size ≤ k := fun k hk => hk.imp id (fun h => (hn k h).1)
  refine ⟨_, MrAt.row_new ((hb.block g hgl).trans hv) hr (fun k hk => ?_) (.inl h.sS) (by rw [hl]; have := h.few; omega) (fun e he => ?_), ⟨(Only.of_below hb S).trans (Only.setCell (T := S) w6 _ _ h.sS) (fun _ h => .inl h), hnew⟩⟩
  · rcases hk with hk | hk
    · exact Nat.lt_of_lt_of_le (h.lt k hk) hsz
    · exact (hn k hk).2
  · have h1 : EtOk w1 S e := by
      rcases List.mem_append.1 he with h2 | h2
      · exact h.ent e (List.mem_of_mem_take h2)
      · exact h.ent e (List.mem_of_mem_drop h2)
    exact h1.only (T := fun _ => False) (Only.of_below hb _) (fun _ _ _ h => h) hnew
set_option maxRecDepth 100000 in
set_option maxHeartbeats 2000000 in
theorem mnext_some {i : Nat} (w : World) (h : MrAt w S g X L) (hn : X.n ≤ 1099511627776) (hF : posE L X.n = some i) (hi : i < L.length) :
    Calls Try.prog 10 #[.pointer (some ⟨g, 0, none⟩)] w fun e w' => e = .returned (.int .i64 0) ∧ ∃ S', MrAt w' S' g ⟨X.W, X.n + 1, X.o⟩ (L.take i ++ L.drop (i + 1)) ∧ Step w S w' S' := by
  obtain ⟨i0, hi0, hz0, hz1, hz2⟩ := info_parts Try.infoHe
  obtain ⟨B, d, -, -, c1, -, -, -⟩ := h.cells
  have HF := mfind_any X.n w h
  rw [posZ_at hF] at HF
  have HF := Lib.hid HF
  have HH := Lib.hid h
  have hfew := h.few
  have d9 : decide ((i : Int) < 0) = false := decide_eq_false (by omega)
  clear h hF
  go_enter Try.func10, Try.ntmps10
  go_wp2_with fail
  refine HF.out.mono ?_
  rintro _ w1 ⟨rfl, hb1⟩
  have h1 := HH.out.below hb1
  have HB1 := Lib.hid hb1
  clear hb1 c1 HF
  obtain ⟨v, hv, hr⟩ := h1.row
  obtain ⟨A, c, rfl⟩ := ownB_slice hr.own
  have hgl := h1.lt g h1.sS
  have hi1 : (((i + 1 : Nat) : Int)) = (i : Int) + 1 := by omega
  obtain ⟨A1, hs1, s1, q1⟩ := cutH_lo (z := (i : Int)) (a := i) rfl hr.own (by omega)
  obtain ⟨A3, c3, hs3, s3, q3⟩ := cutH_hi (z := (i : Int) + 1) (a := i + 1) (by omega) hr.own (by omega)
  have HS1 : Hid (∀ W, Below w1.heap.size w1 W → Src W A1 i 14 (cellsE (L.take i))) := fun W hW => SrcH.below s1 q1 hW
  have HS3 : Hid (∀ W, Below w1.heap.size w1 W → Src W A3 (L.length - (i + 1)) 14 (cellsE (L.drop (i + 1)))) := fun W hW => SrcH.below s3 q3 hW
  have HC : Hid (∀ W, Below w1.heap.size w1 W → W.cell? ⟨g, 3, none⟩ = some (.slice A L.length c)) := fun W hW => (hW.cell (p := ⟨g, 3, none⟩) hgl).trans (cell_of_row _ _ 3 _ _ _ hv)
  have HFZ : Hid (∀ W, Below w1.heap.size w1 W → W.frozen? ⟨g, 3, none⟩ = false) := fun W hW => (hW.frozen (p := ⟨g, 3, none⟩) hgl).trans (frozen_of_row _ _ 3 _ _ hv)
  have c3' : w1.cell? ⟨g, 3, none⟩ = some (.slice A L.length c) := HC.out w1 (Below.refl _ _)
  have H1 := Lib.hid (⟨h1, hv, hr⟩ : _ ∧ _ ∧ _)
  have Hi1 := Lib.hid hi1
  clear s1 q1 s3 q3 h1 hi1 hv hr
  have hwr : IntKind.i64.wrap ((i : Int) + 1) = (i : Int) + 1 := IntWalk.i64_in _ (by omega)
  go_upto_region 4 with fail
  go_region_law (first
    | (refine stepH_append rfl (.tmp 13) (.tmp 19) rfl Try.underlying30 hi0 hz0 hz1 hz2 rfl (by decide) (wi := w1) ((RowKit.Below.refl _ _).alloc (by simp) _).drew rfl (World.ownsRow_made _ #[] 0 (by simp) (Nat.zero_le _) rfl).drew rfl (HS1.out _ ((RowKit.Below.refl _ _).alloc (by simp) _).drew) (cellsE_one _) (by unfold maxLen; omega) (by omega) ?_
       intro A4 c4 w4 HO4 HB4
       replace HO4 : Hid (w4.ownsRow w1.heap.size 60 14 (.slice A4 i c4) i ([] ++ cellsE (L.take i))) := finH HO4 (Nat.zero_add _)
       have f4 := HC.out w4 HB4)
    | (refine stepH_append rfl (.tmp 20) (.tmp 27) rfl Try.underlying30 hi0 hz0 hz1 hz2 rfl (by decide) (wi := w1) HB4 rfl HO4.out rfl (HS3.out _ HB4) (cellsE_one _) (by unfold maxLen; omega) (by omega) ?_
       intro A6 c6 w6 HO6 HB6
       have f6 := HC.out w6 HB6
       have g6 := HFZ.out w6 HB6
       replace HO6 := Lib.hid HO6)
    | fail)
  all_goals
    obtain ⟨h1, hv, hr⟩ := H1.out
    obtain ⟨S', hm, hst⟩ := drop_end11 h1 hv HB6 HO6.out hi
    obtain ⟨w7, hw7⟩ : ∃ z, z = w6.setCell ⟨g, 3, none⟩ (.slice A6 (i + (L.length - (i + 1))) c6) := ⟨_, rfl⟩
    rw [← hw7] at hm hst ⊢
    obtain ⟨B7, d7, -, -, k1, -, -, fz⟩ := hm.cells
    have f1 := fz 1
    obtain ⟨y, hy⟩ : ∃ y, y = X.n + 1 := ⟨_, rfl⟩
    have e1 : (X.n : Int) + 1 = (y : Int) := by omega
    have HF : Hid (∃ S', MrAt (w7.setCell ⟨g, 1, none⟩ (.int .u64 y)) S' g ⟨X.W, X.n + 1, X.o⟩ (L.take i ++ L.drop (i + 1)) ∧ Step w S (w7.setCell ⟨g, 1, none⟩ (.int .u64 y)) S') := by
      refine ⟨S', ?_, ?_⟩
      · rw [← hy]
        exact hm.set 1 (.int .u64 y) (fun _ => rfl)
      · exact ((Step.of_below S HB1.out).trans hst).trans ⟨Only.setCell (T := S') w7 _ _ hm.sS, fun _ h => .inl h⟩
    clear h1 hv hr hm hst hw7 fz hy HO6 HO4 HB4 HB6 H1 HC HFZ HS1 HS3 f6 g6 f4
    go_wp2
    go_ret
    exact ⟨rfl, HF.out⟩
end
end Go.Proofs.Ytileaoanekphaaa
