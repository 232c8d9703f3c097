/- Several texts in one: ItTrim, ItJoin, ItCheck. -/
import Derived.Test.YtholdcgkhicdmaaGreatDoorZq5
import Derived.Test.YtholdcgkhicdmaaGreatDoorZq6
namespace Go.Proofs.YtholdcgkhicdmaaGreatDoor
open Go.RowKit
theorem results_cell_two {P : Program} {fn : Func} {p q : Tmp} {ty : TypeId} {v : Value} (h : fn.results = #[.cell p ty, .tmp q]) (tmps : Array Value) (w : World) (g : Nat) (t : TypeId) (cs : Array Value) (fr : Nat × Nat) (d : TypeDesc)
  (hp : tmps.getD p undef = .pointer (some ⟨g, 0, none⟩)) (hq : tmps.getD q undef = v) (hg : w.heap[g]? = some (.cells cs t fr))
  (hu : P.underlying ty = some d) (hd : (match d with | .struct _ | .array _ _ => true | _ => false) = true) (hi : (P.info? ty).map (·.size) = some cs.size) :
  (results fn tmps).run P w = .ok (.tuple #[.agg cs, v]) w := by
 have hp' : tmps[p]?.getD undef = .pointer (some ⟨g, 0, none⟩) := by simpa using hp
 have hq' : tmps[q]?.getD undef = v := by simpa using hq
 simp [results, h, hp', hq', asAddr, run_loadVar_row w g t ty cs fr d hg hu hd hi]
theorem RdP.nil {w : World} {B : Nat} {A : Option Addr} : RdP w B A [] := fun h => absurd h (by simp)
def trimI (x : It) (N : Nat) : It := if spT x ≤ N then zeroI else if N < spF x then x else ⟨true, 0, 0, 0, ⟨#[]⟩, [], 0, 0, 0, 0, spO x, N + 1, spT x⟩
def aboveB (x : It) (N : Nat) : Bool := decide (¬ spT x ≤ N)
theorem spT_lt {x : It} (h : OkI x) : spT x < 18446744073709551616 := by
 have h1 := h.gt
 have h2 := h.q
 unfold spT
 split <;> omega
def TwoNew (y : It) (b : Bool) (w : World) (e : Ending) (w' : World) : Prop :=
 ∃ A n c, e = .returned (.tuple #[.agg #[.bool y.g, .int .u8 y.o, .int .u64 y.q, .int .u64 y.t, .string y.r, .slice A n c, .int .u8 y.s, .int .u8 y.p, .int .i64 y.v, .int .u8 y.w, .int .u8 y.ga, .int .u64 y.gf, .int .u64 y.gt], .bool b]) ∧ n = y.l.length ∧ RdP w' w'.heap.size A y.l ∧ (A = none → n = 0) ∧ (∀ a, A = some a → 0 < n → w.heap.size ≤ a.block) ∧ Below w.heap.size w w'
theorem own_nilA {w : World} {base : Nat} {e : TypeId} {size n c : Nat} {A : Option Addr} {xs : List Value} (h : w.ownsRow base e size (.slice A n c) n xs) : A = none → n = 0 := fun hA => by
 rcases h.2 with ⟨_, h0⟩ | ⟨g, cap, cur, e1, _⟩
 ·exact h0
 ·injection e1 with e1
  rw [hA] at e1
  cases e1
set_option maxRecDepth 100000 in
set_option maxHeartbeats 2000000 in
theorem trim_new (x : It) (hx : OkI x) (A : Option Addr) (n c N : Nat) (w : World) (hn : n = x.l.length) (hA : A = none → n = 0) (hm : n * 32 ≤ 140737488351232) (hr : RdP w w.heap.size A x.l) :
  Calls Tryz.prog 110 #[.agg #[.bool x.g, .int .u8 x.o, .int .u64 x.q, .int .u64 x.t, .string x.r, .slice A n c, .int .u8 x.s, .int .u8 x.p, .int .i64 x.v, .int .u8 x.w, .int .u8 x.ga, .int .u64 x.gf, .int .u64 x.gt], .int .u64 N] w (TwoNew (trimI x N) (aboveB x N) w) := by
 obtain ⟨W, hW⟩ : ∃ W, W = ((w.alloc (.cells #[.bool x.g, .int .u8 x.o, .int .u64 x.q, .int .u64 x.t, .string x.r, .slice A n c, .int .u8 x.s, .int .u8 x.p, .int .i64 x.v, .int .u8 x.w, .int .u8 x.ga, .int .u64 x.gf, .int .u64 x.gt] 47)).alloc (.cells #[.bool false, .int .u8 0, .int .u64 0, .int .u64 0, .string ⟨#[]⟩, .slice none 0 0, .int .u8 0, .int .u8 0, .int .i64 0, .int .u8 0, .int .u8 0, .int .u64 0, .int .u64 0] 47)) := ⟨_, rfl⟩
 have hb : Below w.heap.size w W := by rw [hW]; exact ((Below.refl _ _).alloc (Nat.le_refl _) _).alloc (by simp) _
 have hz : W.heap.size = w.heap.size + 2 := by rw [hW]; simp
 have h0 : W.heap[w.heap.size]? = some (.cells #[.bool x.g, .int .u8 x.o, .int .u64 x.q, .int .u64 x.t, .string x.r, .slice A n c, .int .u8 x.s, .int .u8 x.p, .int .i64 x.v, .int .u8 x.w, .int .u8 x.ga, .int .u64 x.gf, .int .u64 x.gt] 47 (0, 0)) := by rw [hW]; exact heap_alloc2_old _ _ _
 have h1 : W.heap[w.heap.size + 1]? = some (.cells #[.bool false, .int .u8 0, .int .u64 0, .int .u64 0, .string ⟨#[]⟩, .slice none 0 0, .int .u8 0, .int .u8 0, .int .i64 0, .int .u8 0, .int .u8 0, .int .u64 0, .int .u64 0] 47 (0, 0)) := by rw [hW]; exact heap_alloc2_new _ _ _
 have HB := Lib.hid hb
 have HZ := Lib.hid hz
 have H0 := Lib.hid h0
 have H1 := Lib.hid h1
 have HW := Lib.hid hW
 have HN := Lib.hid hn
 have HA := Lib.hid hA
 have HM := Lib.hid hm
 have HR := Lib.hid hr
 clear hn hA hr hb hz h0 h1 hW hm
 have hlt := spT_lt hx
 clear hx
 by_cases c1 : spT x ≤ N
 ·go_enter Tryz.func110, Tryz.ntmps110
  go_upto_region 1 with fail
  rw [← HW.out]
  have H0' := H0.out
  go_wp2_with (first
   | (refine wpList_load_row rfl _ _ rfl w.heap.size rfl _ _ _ _ H0' Tryz.underlying47 rfl (by kernel_rfl) ?_)
   | fail)
  clear H0'
  refine (span_any x A n c W).mono ?_
  rintro e w1 ⟨rfl, hb⟩
  have hs := hb.size
  have hz := HZ.out
  have G0 := Lib.hid ((hb.block w.heap.size (by omega)).trans H0.out)
  have G1 := Lib.hid ((hb.block (w.heap.size + 1) (by omega)).trans H1.out)
  have HB1 := Lib.hid (HB.out.trans (hb.mono (by omega)))
  clear hb
  obtain ⟨SO, hSO⟩ : ∃ k, spO x = k := ⟨_, rfl⟩
  obtain ⟨SF, hSF⟩ : ∃ k, spF x = k := ⟨_, rfl⟩
  obtain ⟨ST, hST⟩ : ∃ k, spT x = k := ⟨_, rfl⟩
  rw [hSO, hSF, hST]
  rw [hST] at hlt
  rw [hST] at c1
  have k1 : decide ((ST : Int) ≤ (N : Int)) = true := decide_eq_true (by omega)
  have k2 : decide (ST ≤ N) = true := decide_eq_true (by omega)
  have hR : trimI x N = zeroI := by unfold trimI; rw [hST, if_pos c1]
  have hB : aboveB x N = false := by unfold aboveB; rw [hST]; simp [c1]
  have HR2 := Lib.hid hR
  have HB2 := Lib.hid hB
  clear hSO hSF hST c1 hR hB hlt
  go_wp2_with (refine wpList_store_row rfl _ _ _ rfl (w.heap.size + 1) _ rfl rfl _ _ G1.out Tryz.infoI rfl (by simp [Value.oneCell']) ?_)
  refine bodyPost_ret (v := .tuple #[.agg #[.bool false, .int .u8 0, .int .u64 0, .int .u64 0, .string ⟨#[]⟩, .slice none 0 0, .int .u8 0, .int .u8 0, .int .i64 0, .int .u8 0, .int .u8 0, .int .u64 0, .int .u64 0], .bool false]) ?_ rfl ⟨none, 0, 0, ?_, ?_, ?_, fun _ => rfl, fun a ha => (by cases ha), ?_⟩
  ·exact results_cell_two rfl _ _ (w.heap.size + 1) _ _ _ _ rfl rfl (setRow_heap _ _ _ _ _ _ G1.out) Tryz.underlying47 rfl (by kernel_rfl)
  ·rw [HR2.out, HB2.out]; rfl
  ·rw [HR2.out]; rfl
  ·rw [HR2.out]; exact RdP.nil
  ·exact below_setRow HB1.out (by omega) _
 ·by_cases c2 : N < spF x
  ·go_enter Tryz.func110, Tryz.ntmps110
   go_upto_region 1 with fail
   rw [← HW.out]
   have H0' := H0.out
   go_wp2_with (first
    | (refine wpList_load_row rfl _ _ rfl w.heap.size rfl _ _ _ _ H0' Tryz.underlying47 rfl (by kernel_rfl) ?_)
    | fail)
   clear H0'
   refine (span_any x A n c W).mono ?_
   rintro e w1 ⟨rfl, hb⟩
   have hs := hb.size
   have hz := HZ.out
   have G0 := Lib.hid ((hb.block w.heap.size (by omega)).trans H0.out)
   have G1 := Lib.hid ((hb.block (w.heap.size + 1) (by omega)).trans H1.out)
   have HB1 := Lib.hid (HB.out.trans (hb.mono (by omega)))
   clear hb
   obtain ⟨SO, hSO⟩ : ∃ k, spO x = k := ⟨_, rfl⟩
   obtain ⟨SF, hSF⟩ : ∃ k, spF x = k := ⟨_, rfl⟩
   obtain ⟨ST, hST⟩ : ∃ k, spT x = k := ⟨_, rfl⟩
   rw [hSO, hSF, hST]
   rw [hST] at hlt
   rw [hST] at c1
   rw [hSF] at c2
   have k1 : decide ((ST : Int) ≤ (N : Int)) = false := decide_eq_false (by omega)
   have k2 : decide (ST ≤ N) = false := decide_eq_false (by omega)
   have m1 : decide ((N : Int) < (SF : Int)) = true := decide_eq_true (by omega)
   have m2 : decide (N < SF) = true := decide_eq_true (by omega)
   have hR : trimI x N = x := by unfold trimI; rw [hST, hSF, if_neg c1, if_pos c2]
   have hB : aboveB x N = true := by unfold aboveB; rw [hST]; simp; omega
   have HR2 := Lib.hid hR
   have HB2 := Lib.hid hB
   have HC := Lib.hid (iclone_any x A n c w1 HN.out HA.out HM.out ((HR.out.below HB1.out).more (by omega)))
   clear hSO hSF hST c1 c2 hR hB hlt
   go_wp2_with (refine wpList_load_row rfl _ _ rfl w.heap.size rfl _ _ _ _ G0.out Tryz.underlying47 rfl (by kernel_rfl) ?_)
   refine HC.out.mono ?_
   rintro e w2 ⟨A2, n2, c2, rfl, hn2, ho2, hb2⟩
   have hs2 := hb2.size
   have HN2 := Lib.hid hn2
   have HO2 := Lib.hid ho2
   have HB3 := Lib.hid (HB1.out.trans (hb2.mono (by omega)))
   have G2 := Lib.hid ((hb2.block (w.heap.size + 1) (by omega)).trans G1.out)
   clear hn2 ho2 hb2
   go_wp2_with (refine wpList_store_row rfl _ _ _ rfl (w.heap.size + 1) _ rfl rfl _ _ G2.out Tryz.infoI rfl (by simp [Value.oneCell']) ?_)
   refine bodyPost_ret (v := .tuple #[.agg #[.bool x.g, .int .u8 x.o, .int .u64 x.q, .int .u64 x.t, .string x.r, .slice A2 n2 c2, .int .u8 x.s, .int .u8 x.p, .int .i64 x.v, .int .u8 x.w, .int .u8 x.ga, .int .u64 x.gf, .int .u64 x.gt], .bool true]) ?_ rfl ⟨A2, n2, c2, ?_, ?_, ?_, own_nilA HO2.out, fun a ha _ => Nat.le_trans HB1.out.size (HO2.out.lt a.block (by rw [ha]; rfl)).1, ?_⟩
   ·exact results_cell_two rfl _ _ (w.heap.size + 1) _ _ _ _ rfl rfl (setRow_heap _ _ _ _ _ _ G2.out) Tryz.underlying47 rfl (by kernel_rfl)
   ·rw [HR2.out, HB2.out]
   ·rw [HR2.out]; exact HN2.out
   ·rw [HR2.out]; exact RdP.of_own (own_setRow HO2.out (by omega) _)
   ·exact below_setRow HB3.out (by omega) _
  ·go_enter Tryz.func110, Tryz.ntmps110
   go_upto_region 1 with fail
   rw [← HW.out]
   have H0' := H0.out
   go_wp2_with (first
    | (refine wpList_load_row rfl _ _ rfl w.heap.size rfl _ _ _ _ H0' Tryz.underlying47 rfl (by kernel_rfl) ?_)
    | fail)
   clear H0'
   refine (span_any x A n c W).mono ?_
   rintro e w1 ⟨rfl, hb⟩
   have hs := hb.size
   have hz := HZ.out
   have G0 := Lib.hid ((hb.block w.heap.size (by omega)).trans H0.out)
   have G1 := Lib.hid ((hb.block (w.heap.size + 1) (by omega)).trans H1.out)
   have HB1 := Lib.hid (HB.out.trans (hb.mono (by omega)))
   clear hb
   obtain ⟨SO, hSO⟩ : ∃ k, spO x = k := ⟨_, rfl⟩
   obtain ⟨SF, hSF⟩ : ∃ k, spF x = k := ⟨_, rfl⟩
   obtain ⟨ST, hST⟩ : ∃ k, spT x = k := ⟨_, rfl⟩
   rw [hSO, hSF, hST]
   rw [hST] at hlt
   rw [hST] at c1
   rw [hSF] at c2
   have k1 : decide ((ST : Int) ≤ (N : Int)) = false := decide_eq_false (by omega)
   have k2 : decide (ST ≤ N) = false := decide_eq_false (by omega)
   have m1 : decide ((N : Int) < (SF : Int)) = false := decide_eq_false (by omega)
   have m2 : decide (N < SF) = false := decide_eq_false (by omega)
   have hw : IntKind.u64.wrap ((N : Int) + 1) = ((N + 1 : Nat) : Int) := by rw [IntKind.wrap_u64]; omega
   have hR : trimI x N = ⟨true, 0, 0, 0, ⟨#[]⟩, [], 0, 0, 0, 0, SO, N + 1, ST⟩ := by unfold trimI; rw [hSO, hST, hSF, if_neg c1, if_neg c2]
   have hB : aboveB x N = true := by unfold aboveB; rw [hST]; simp; omega
   have HR2 := Lib.hid hR
   have HB2 := Lib.hid hB
   clear hSO hSF hST c1 c2 hR hB hlt
   go_wp2_with fail
   refine (gap_any _ _ _ w1).mono ?_
   rintro e w2 ⟨rfl, hb2⟩
   have hs2 := hb2.size
   have HB3 := Lib.hid (HB1.out.trans (hb2.mono (by omega)))
   have G2 := Lib.hid ((hb2.block (w.heap.size + 1) (by omega)).trans G1.out)
   clear hb2
   go_wp2_with (refine wpList_store_row rfl _ _ _ rfl (w.heap.size + 1) _ rfl rfl _ _ G2.out Tryz.infoI rfl (by simp [Value.oneCell']) ?_)
   refine bodyPost_ret (v := .tuple #[.agg #[.bool true, .int .u8 0, .int .u64 0, .int .u64 0, .string ⟨#[]⟩, .slice none 0 0, .int .u8 0, .int .u8 0, .int .i64 0, .int .u8 0, .int .u8 SO, .int .u64 ((N + 1 : Nat) : Int), .int .u64 ST], .bool true]) ?_ rfl ⟨none, 0, 0, ?_, ?_, ?_, fun _ => rfl, fun a ha => (by cases ha), ?_⟩
   ·exact results_cell_two rfl _ _ (w.heap.size + 1) _ _ _ _ rfl rfl (setRow_heap _ _ _ _ _ _ G2.out) Tryz.underlying47 rfl (by kernel_rfl)
   ·rw [HR2.out, HB2.out]; rfl
   ·rw [HR2.out]; rfl
   ·rw [HR2.out]; exact RdP.nil
   ·exact below_setRow HB3.out (by omega) _
def joinB (x y : It) : Bool := x.g && y.g && decide (x.ga = y.ga ∧ 0 < y.gf ∧ y.gf - 1 = x.gt ∧ y.gf ≤ y.gt)
def joinI (x y : It) : It := if joinB x y then ⟨true, 0, 0, 0, ⟨#[]⟩, [], 0, 0, 0, 0, x.ga, x.gf, y.gt⟩ else zeroI
def TwoNone (y : It) (b : Bool) (w : World) (e : Ending) (w' : World) : Prop :=
 e = .returned (.tuple #[.agg #[.bool y.g, .int .u8 y.o, .int .u64 y.q, .int .u64 y.t, .string y.r, .slice none 0 0, .int .u8 y.s, .int .u8 y.p, .int .i64 y.v, .int .u8 y.w, .int .u8 y.ga, .int .u64 y.gf, .int .u64 y.gt], .bool b]) ∧ Below w.heap.size w w'
set_option maxRecDepth 100000 in
set_option maxHeartbeats 2000000 in
theorem join_new (x y : It) (hy : OkI y) (A : Option Addr) (n c : Nat) (A2 : Option Addr) (n2 c2 : Nat) (w : World) :
  Calls Tryz.prog 158 #[.agg #[.bool x.g, .int .u8 x.o, .int .u64 x.q, .int .u64 x.t, .string x.r, .slice A n c, .int .u8 x.s, .int .u8 x.p, .int .i64 x.v, .int .u8 x.w, .int .u8 x.ga, .int .u64 x.gf, .int .u64 x.gt], .agg #[.bool y.g, .int .u8 y.o, .int .u64 y.q, .int .u64 y.t, .string y.r, .slice A2 n2 c2, .int .u8 y.s, .int .u8 y.p, .int .i64 y.v, .int .u8 y.w, .int .u8 y.ga, .int .u64 y.gf, .int .u64 y.gt]] w (TwoNone (joinI x y) (joinB x y) w) := by
 obtain ⟨W, hW⟩ : ∃ W, W = (((w.alloc (.cells #[.bool x.g, .int .u8 x.o, .int .u64 x.q, .int .u64 x.t, .string x.r, .slice A n c, .int .u8 x.s, .int .u8 x.p, .int .i64 x.v, .int .u8 x.w, .int .u8 x.ga, .int .u64 x.gf, .int .u64 x.gt] 47)).alloc (.cells #[.bool y.g, .int .u8 y.o, .int .u64 y.q, .int .u64 y.t, .string y.r, .slice A2 n2 c2, .int .u8 y.s, .int .u8 y.p, .int .i64 y.v, .int .u8 y.w, .int .u8 y.ga, .int .u64 y.gf, .int .u64 y.gt] 47)).alloc (.cells #[.bool false, .int .u8 0, .int .u64 0, .int .u64 0, .string ⟨#[]⟩, .slice none 0 0, .int .u8 0, .int .u8 0, .int .i64 0, .int .u8 0, .int .u8 0, .int .u64 0, .int .u64 0] 47)) := ⟨_, rfl⟩
 have hb : Below w.heap.size w W := by rw [hW]; exact (((Below.refl _ _).alloc (Nat.le_refl _) _).alloc (by simp) _).alloc (by simp; omega) _
 have hz : W.heap.size = w.heap.size + 3 := by rw [hW]; simp
 have h0 : W.heap[w.heap.size]? = some (.cells #[.bool x.g, .int .u8 x.o, .int .u64 x.q, .int .u64 x.t, .string x.r, .slice A n c, .int .u8 x.s, .int .u8 x.p, .int .i64 x.v, .int .u8 x.w, .int .u8 x.ga, .int .u64 x.gf, .int .u64 x.gt] 47 (0, 0)) := by rw [hW, heap_alloc_old _ _ (by simp; omega)]; exact heap_alloc2_old _ _ _
 have h1 : W.heap[w.heap.size + 1]? = some (.cells #[.bool y.g, .int .u8 y.o, .int .u64 y.q, .int .u64 y.t, .string y.r, .slice A2 n2 c2, .int .u8 y.s, .int .u8 y.p, .int .i64 y.v, .int .u8 y.w, .int .u8 y.ga, .int .u64 y.gf, .int .u64 y.gt] 47 (0, 0)) := by rw [hW, heap_alloc_old _ _ (by simp)]; exact heap_alloc2_new _ _ _
 have h2 : W.heap[w.heap.size + 2]? = some (.cells #[.bool false, .int .u8 0, .int .u64 0, .int .u64 0, .string ⟨#[]⟩, .slice none 0 0, .int .u8 0, .int .u8 0, .int .i64 0, .int .u8 0, .int .u8 0, .int .u64 0, .int .u64 0] 47 (0, 0)) := by
  rw [hW]
  have h := heap_alloc_new ((w.alloc (.cells #[.bool x.g, .int .u8 x.o, .int .u64 x.q, .int .u64 x.t, .string x.r, .slice A n c, .int .u8 x.s, .int .u8 x.p, .int .i64 x.v, .int .u8 x.w, .int .u8 x.ga, .int .u64 x.gf, .int .u64 x.gt] 47)).alloc (.cells #[.bool y.g, .int .u8 y.o, .int .u64 y.q, .int .u64 y.t, .string y.r, .slice A2 n2 c2, .int .u8 y.s, .int .u8 y.p, .int .i64 y.v, .int .u8 y.w, .int .u8 y.ga, .int .u64 y.gf, .int .u64 y.gt] 47)) (.cells #[.bool false, .int .u8 0, .int .u64 0, .int .u64 0, .string ⟨#[]⟩, .slice none 0 0, .int .u8 0, .int .u8 0, .int .i64 0, .int .u8 0, .int .u8 0, .int .u64 0, .int .u64 0] 47)
  simpa using h
 have x0 : W.cell? ⟨w.heap.size, 0, none⟩ = some (.bool x.g) := cell_of_row _ _ 0 _ _ _ h0
 have x10 : W.cell? ⟨w.heap.size, 10, none⟩ = some (.int .u8 x.ga) := cell_of_row _ _ 10 _ _ _ h0
 have x11 : W.cell? ⟨w.heap.size, 11, none⟩ = some (.int .u64 x.gf) := cell_of_row _ _ 11 _ _ _ h0
 have x12 : W.cell? ⟨w.heap.size, 12, none⟩ = some (.int .u64 x.gt) := cell_of_row _ _ 12 _ _ _ h0
 have y0 : W.cell? ⟨w.heap.size + 1, 0, none⟩ = some (.bool y.g) := cell_of_row _ _ 0 _ _ _ h1
 have y10 : W.cell? ⟨w.heap.size + 1, 10, none⟩ = some (.int .u8 y.ga) := cell_of_row _ _ 10 _ _ _ h1
 have y11 : W.cell? ⟨w.heap.size + 1, 11, none⟩ = some (.int .u64 y.gf) := cell_of_row _ _ 11 _ _ _ h1
 have y12 : W.cell? ⟨w.heap.size + 1, 12, none⟩ = some (.int .u64 y.gt) := cell_of_row _ _ 12 _ _ _ h1
 have HB := Lib.hid hb
 have HW := Lib.hid hW
 have HZ := Lib.hid hz
 have H2 := Lib.hid h2
 have l1 := hy.gf
 have l2 := hy.gt
 clear hb hz h0 h1 h2 hW hy
 have HN : joinB x y = false → Hid (joinI x y = zeroI) := fun h => by show _ = _; unfold joinI; rw [h]; rfl
 by_cases g1 : x.g = false
 case' pos =>
  rw [g1] at x0
  have hj : joinB x y = false := by unfold joinB; rw [g1]; rfl
  have HI := HN hj
  have HJ := Lib.hid hj
  clear HN hj
  clear g1
  go_enter Tryz.func158, Tryz.ntmps158
  go_upto_region 1 with fail
  rw [← HW.out]
  go_upto_region 2 with fail
  go_wp2_with (refine wpList_store_row rfl _ _ _ rfl (w.heap.size + 2) _ rfl rfl _ _ H2.out Tryz.infoI rfl (by simp [Value.oneCell']) ?_)
  refine bodyPost_ret (v := .tuple #[.agg #[.bool false, .int .u8 0, .int .u64 0, .int .u64 0, .string ⟨#[]⟩, .slice none 0 0, .int .u8 0, .int .u8 0, .int .i64 0, .int .u8 0, .int .u8 0, .int .u64 0, .int .u64 0], .bool false]) ?_ rfl ⟨?_, ?_⟩
  ·exact results_cell_two rfl _ _ (w.heap.size + 2) _ _ _ _ rfl rfl (setRow_heap _ _ _ _ _ _ H2.out) Tryz.underlying47 rfl (by kernel_rfl)
  ·rw [HI.out, HJ.out]; rfl
  ·exact below_setRow HB.out (by omega) _
 case' neg =>
  rw [Bool.not_eq_false] at g1
  rw [g1] at x0
  by_cases g2 : y.g = false
  case' pos =>
   rw [g2] at y0
   have hj : joinB x y = false := by unfold joinB; rw [g1, g2]; rfl
   have HI := HN hj
   have HJ := Lib.hid hj
   clear HN hj
   clear g1 g2
   go_enter Tryz.func158, Tryz.ntmps158
   go_upto_region 1 with fail
   rw [← HW.out]
   go_upto_region 2 with fail
   go_wp2_with (refine wpList_store_row rfl _ _ _ rfl (w.heap.size + 2) _ rfl rfl _ _ H2.out Tryz.infoI rfl (by simp [Value.oneCell']) ?_)
   refine bodyPost_ret (v := .tuple #[.agg #[.bool false, .int .u8 0, .int .u64 0, .int .u64 0, .string ⟨#[]⟩, .slice none 0 0, .int .u8 0, .int .u8 0, .int .i64 0, .int .u8 0, .int .u8 0, .int .u64 0, .int .u64 0], .bool false]) ?_ rfl ⟨?_, ?_⟩
   ·exact results_cell_two rfl _ _ (w.heap.size + 2) _ _ _ _ rfl rfl (setRow_heap _ _ _ _ _ _ H2.out) Tryz.underlying47 rfl (by kernel_rfl)
   ·rw [HI.out, HJ.out]; rfl
   ·exact below_setRow HB.out (by omega) _
  case' neg =>
   rw [Bool.not_eq_false] at g2
   rw [g2] at y0
   by_cases g3 : x.ga = y.ga
   case' neg =>
    have q3 : ((x.ga : Int) != (y.ga : Int)) = true := by rw [bne_iff_ne]; omega
    have hj : joinB x y = false := by unfold joinB; rw [decide_eq_false (fun e => g3 e.1)]; simp
    have HI := HN hj
    have HJ := Lib.hid hj
    clear HN hj
    clear g3 l1 l2
    clear g1 g2
    go_enter Tryz.func158, Tryz.ntmps158
    go_upto_region 1 with fail
    rw [← HW.out]
    go_upto_region 2 with fail
    go_wp2_with (refine wpList_store_row rfl _ _ _ rfl (w.heap.size + 2) _ rfl rfl _ _ H2.out Tryz.infoI rfl (by simp [Value.oneCell']) ?_)
    refine bodyPost_ret (v := .tuple #[.agg #[.bool false, .int .u8 0, .int .u64 0, .int .u64 0, .string ⟨#[]⟩, .slice none 0 0, .int .u8 0, .int .u8 0, .int .i64 0, .int .u8 0, .int .u8 0, .int .u64 0, .int .u64 0], .bool false]) ?_ rfl ⟨?_, ?_⟩
    ·exact results_cell_two rfl _ _ (w.heap.size + 2) _ _ _ _ rfl rfl (setRow_heap _ _ _ _ _ _ H2.out) Tryz.underlying47 rfl (by kernel_rfl)
    ·rw [HI.out, HJ.out]; rfl
    ·exact below_setRow HB.out (by omega) _
   case' pos =>
    have q3 : ((x.ga : Int) != (y.ga : Int)) = false := by rw [bne_eq_false_iff_eq]; omega
    by_cases g4 : y.gf ≤ y.gt
    case' neg =>
     have q4 : decide ((y.gt : Int) < (y.gf : Int)) = true := decide_eq_true (by omega)
     have r4 : decide (y.gt < y.gf) = true := decide_eq_true (by omega)
     have hj : joinB x y = false := by unfold joinB; rw [decide_eq_false (fun e => g4 e.2.2.2)]; simp
     have HI := HN hj
     have HJ := Lib.hid hj
     clear HN hj
     clear g3 g4 l1 l2
     clear g1 g2
     go_enter Tryz.func158, Tryz.ntmps158
     go_upto_region 1 with fail
     rw [← HW.out]
     go_upto_region 2 with fail
     go_wp2_with (refine wpList_store_row rfl _ _ _ rfl (w.heap.size + 2) _ rfl rfl _ _ H2.out Tryz.infoI rfl (by simp [Value.oneCell']) ?_)
     refine bodyPost_ret (v := .tuple #[.agg #[.bool false, .int .u8 0, .int .u64 0, .int .u64 0, .string ⟨#[]⟩, .slice none 0 0, .int .u8 0, .int .u8 0, .int .i64 0, .int .u8 0, .int .u8 0, .int .u64 0, .int .u64 0], .bool false]) ?_ rfl ⟨?_, ?_⟩
     ·exact results_cell_two rfl _ _ (w.heap.size + 2) _ _ _ _ rfl rfl (setRow_heap _ _ _ _ _ _ H2.out) Tryz.underlying47 rfl (by kernel_rfl)
     ·rw [HI.out, HJ.out]; rfl
     ·exact below_setRow HB.out (by omega) _
    case' pos =>
     have q4 : decide ((y.gt : Int) < (y.gf : Int)) = false := decide_eq_false (by omega)
     have r4 : decide (y.gt < y.gf) = false := decide_eq_false (by omega)
     by_cases g5 : y.gf = 0
     case' pos =>
      have q5 : ((y.gf : Int) == 0) = true := by rw [beq_iff_eq]; omega
      have hj : joinB x y = false := by unfold joinB; rw [decide_eq_false (fun e => by omega)]; simp
      have HI := HN hj
      have HJ := Lib.hid hj
      clear HN hj
      clear g3 g4 g5 l1 l2
      clear g1 g2
      go_enter Tryz.func158, Tryz.ntmps158
      go_upto_region 1 with fail
      rw [← HW.out]
      go_upto_region 4 with fail
      go_wp2_with (refine wpList_store_row rfl _ _ _ rfl (w.heap.size + 2) _ rfl rfl _ _ H2.out Tryz.infoI rfl (by simp [Value.oneCell']) ?_)
      refine bodyPost_ret (v := .tuple #[.agg #[.bool false, .int .u8 0, .int .u64 0, .int .u64 0, .string ⟨#[]⟩, .slice none 0 0, .int .u8 0, .int .u8 0, .int .i64 0, .int .u8 0, .int .u8 0, .int .u64 0, .int .u64 0], .bool false]) ?_ rfl ⟨?_, ?_⟩
      ·exact results_cell_two rfl _ _ (w.heap.size + 2) _ _ _ _ rfl rfl (setRow_heap _ _ _ _ _ _ H2.out) Tryz.underlying47 rfl (by kernel_rfl)
      ·rw [HI.out, HJ.out]; rfl
      ·exact below_setRow HB.out (by omega) _
     case' neg =>
      have q5 : ((y.gf : Int) == 0) = false := by rw [beq_eq_false_iff_ne]; omega
      have hw : IntKind.u64.wrap ((y.gf : Int) - 1) = ((y.gf - 1 : Nat) : Int) := by rw [IntKind.wrap_u64]; omega
      by_cases g6 : y.gf - 1 = x.gt
      case' neg =>
       have q6 : (((y.gf - 1 : Nat) : Int) != (x.gt : Int)) = true := by rw [bne_iff_ne]; omega
       have hj : joinB x y = false := by unfold joinB; rw [decide_eq_false (fun e => g6 e.2.2.1)]; simp
       have HI := HN hj
       have HJ := Lib.hid hj
       clear HN hj
       clear g3 g4 g5 g6 l1 l2
       clear g1 g2
       go_enter Tryz.func158, Tryz.ntmps158
       go_upto_region 1 with fail
       rw [← HW.out]
       go_upto_region 4 with fail
       go_wp2_with (refine wpList_store_row rfl _ _ _ rfl (w.heap.size + 2) _ rfl rfl _ _ H2.out Tryz.infoI rfl (by simp [Value.oneCell']) ?_)
       refine bodyPost_ret (v := .tuple #[.agg #[.bool false, .int .u8 0, .int .u64 0, .int .u64 0, .string ⟨#[]⟩, .slice none 0 0, .int .u8 0, .int .u8 0, .int .i64 0, .int .u8 0, .int .u8 0, .int .u64 0, .int .u64 0], .bool false]) ?_ rfl ⟨?_, ?_⟩
       ·exact results_cell_two rfl _ _ (w.heap.size + 2) _ _ _ _ rfl rfl (setRow_heap _ _ _ _ _ _ H2.out) Tryz.underlying47 rfl (by kernel_rfl)
       ·rw [HI.out, HJ.out]; rfl
       ·exact below_setRow HB.out (by omega) _
      case' pos =>
       have q6 : (((y.gf - 1 : Nat) : Int) != (x.gt : Int)) = false := by rw [bne_eq_false_iff_eq]; omega
       have hj : joinB x y = true := by unfold joinB; rw [g1, g2, decide_eq_true ⟨g3, by omega, g6, g4⟩]; rfl
       have hi : joinI x y = ⟨true, 0, 0, 0, ⟨#[]⟩, [], 0, 0, 0, 0, x.ga, x.gf, y.gt⟩ := by unfold joinI; rw [hj]; rfl
       have HI := Lib.hid hi
       have HJ := Lib.hid hj
       clear HN hj hi g3 g4 g5 g6 l1 l2
       clear g1 g2
       go_enter Tryz.func158, Tryz.ntmps158
       go_upto_region 1 with fail
       rw [← HW.out]
       go_wp2_with fail
       refine (gap_any _ _ _ W).mono ?_
       rintro e w2 ⟨rfl, hb2⟩
       have hs2 := hb2.size
       have hz := HZ.out
       have HB3 := Lib.hid (HB.out.trans (hb2.mono (by omega)))
       have G2 := Lib.hid ((hb2.block (w.heap.size + 2) (by omega)).trans H2.out)
       clear hb2
       go_wp2_with (refine wpList_store_row rfl _ _ _ rfl (w.heap.size + 2) _ rfl rfl _ _ G2.out Tryz.infoI rfl (by simp [Value.oneCell']) ?_)
       refine bodyPost_ret (v := .tuple #[.agg #[.bool true, .int .u8 0, .int .u64 0, .int .u64 0, .string ⟨#[]⟩, .slice none 0 0, .int .u8 0, .int .u8 0, .int .i64 0, .int .u8 0, .int .u8 x.ga, .int .u64 x.gf, .int .u64 y.gt], .bool true]) ?_ rfl ⟨?_, ?_⟩
       ·exact results_cell_two rfl _ _ (w.heap.size + 2) _ _ _ _ rfl rfl (setRow_heap _ _ _ _ _ _ G2.out) Tryz.underlying47 rfl (by kernel_rfl)
       ·rw [HI.out, HJ.out]; rfl
       ·exact below_setRow HB3.out (by omega) _
theorem joinI_l (x y : It) : (joinI x y).l = [] := by
 unfold joinI
 split <;> rfl
theorem own_cut {s : ByteArray} : ((s.extract 0 4).toList == [111, 119, 110, 46]) = ownB s := by
 rw [Lib.toList_data, Lib.extract_data]
 unfold ownB
 rw [Bool.eq_iff_iff, beq_iff_eq, decide_eq_true_eq]
 rfl
theorem own_short {s : ByteArray} (h : ¬ 4 ≤ s.size) : false = ownB s := by
 unfold ownB
 symm
 rw [decide_eq_false_iff_not]
 intro e
 have h1 := congrArg List.length e
 rw [List.length_take] at h1
 have h2 : s.data.toList.length = s.size := rfl
 simp at h1
 omega
set_option maxHeartbeats 400000 in
theorem litePrefix_any (s : ByteArray) (w : World) :
  Calls Tryz.prog 193 #[.string s, .string ⟨#[111, 119, 110, 46]⟩] w fun e w' => e = .returned (.bool (ownB s)) ∧ w = w' := by
 by_cases h4 : 4 ≤ s.size
 ·go_enter Tryz.func193, Tryz.ntmps193
  go_wp2
  go_ret
  exact ⟨ret_bool own_cut, rfl⟩
 ·go_enter Tryz.func193, Tryz.ntmps193
  go_wp2
  go_ret
  exact ⟨ret_bool (own_short h4), rfl⟩
set_option maxHeartbeats 400000 in
theorem hasPrefix_any (s : ByteArray) (w : World) :
  Calls Tryz.prog 201 #[.string s, .string ⟨#[111, 119, 110, 46]⟩] w fun e w' => e = .returned (.bool (ownB s)) ∧ w = w' := by
 go_enter Tryz.func201, Tryz.ntmps201
 go_wp2_with fail
 refine (litePrefix_any s _).mono ?_
 rintro e w' ⟨rfl, rfl⟩
 go_wp2
 go_ret
 exact ⟨rfl, rfl⟩
set_option maxHeartbeats 400000 in
theorem own_any (s : ByteArray) (w : World) :
  Calls Tryz.prog 181 #[.string s] w fun e w' => e = .returned (.bool (ownB s)) ∧ w = w' := by
 go_enter Tryz.func181, Tryz.ntmps181
 go_wp2_with fail
 refine (hasPrefix_any s _).mono ?_
 rintro e w' ⟨rfl, rfl⟩
 go_wp2
 go_ret
 exact ⟨rfl, rfl⟩
set_option maxRecDepth 100000 in
set_option maxHeartbeats 1000000 in
theorem checkGap_any (x : It) (w : World) :
  Calls Tryz.prog 155 #[.agg #[.int .u8 x.ga, .int .u64 x.gf, .int .u64 x.gt]] w fun e w' => e = .returned (.int .i64 (gapN x : Nat)) ∧ Below w.heap.size w w' := by
 have hba : Below w.heap.size w (w.alloc (.cells #[.int .u8 x.ga, .int .u64 x.gf, .int .u64 x.gt] 45)) := (Below.refl _ _).alloc (Nat.le_refl _) _
 by_cases h1 : 31 < x.ga
 ·have k1 : (32 : Int) ≤ x.ga := by omega
  have hg : Hid (gapN x = 6) := if_pos (.inl h1)
  clear h1
  go_enter Tryz.func155, Tryz.ntmps155
  go_wp2
  go_ret
  exact ⟨by rw [hg.out]; rfl, hba⟩
 have k1 : ¬ (32 : Int) ≤ x.ga := by omega
 by_cases h2 : x.gf = 0
 ·have k2 : ((x.gf : Int) == 0) = true := by rw [beq_iff_eq]; omega
  have hg : Hid (gapN x = 6) := if_pos (.inr (.inl h2))
  clear h1 h2
  go_enter Tryz.func155, Tryz.ntmps155
  go_wp2
  go_ret
  exact ⟨by rw [hg.out]; rfl, hba⟩
 have k2 : ((x.gf : Int) == 0) = false := by rw [beq_eq_false_iff_ne]; omega
 by_cases h3 : x.gt < x.gf
 ·have hg : Hid (gapN x = 6) := if_pos (.inr (.inr (.inl h3)))
  clear h1 h2
  go_enter Tryz.func155, Tryz.ntmps155
  go_wp2
  go_ret
  exact ⟨by rw [hg.out]; rfl, hba⟩
 by_cases h4 : 1099511627776 < x.gt
 ·have k4 : (1099511627776 : Int) < x.gt := by omega
  have hg : Hid (gapN x = 6) := if_pos (.inr (.inr (.inr h4)))
  clear h1 h2 h4
  go_enter Tryz.func155, Tryz.ntmps155
  go_wp2
  go_ret
  exact ⟨by rw [hg.out]; rfl, hba⟩
 have k4 : ¬ (1099511627776 : Int) < x.gt := by omega
 have hg : Hid (gapN x = 0) := if_neg (by omega)
 clear h1 h2 h4
 go_enter Tryz.func155, Tryz.ntmps155
 go_wp2
 go_ret
 exact ⟨by rw [hg.out]; rfl, hba⟩
end Go.Proofs.YtholdcgkhicdmaaGreatDoor