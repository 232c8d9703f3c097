/- Several texts in one: ItTrim. -/
import Derived.Test.YtgcfofnlgdfmoaaMf12
import Derived.Test.YtgcfofnlgdfmoaaMf15
/- Layer 4: item.Trim; the document's Above. -/
namespace Go.Proofs.Ytgcfofnlgdfmoaa
open Go.RowKit

theorem results_cell_two {P : Program} {fn : Func} {p q : Tmp} {ty : TypeId} {v : Value} (h : fn.results = #[.cell p ty, .tmp q]) (tmps : Array Value) (w : World) (g : Nat) (t : TypeId) (cs : Array Value) (fr : Nat × Nat) (d : TypeDesc)
    (hp : tmps.getD p undef = .pointer (some ⟨g, 0, none⟩)) (hq : tmps.getD q undef = v) (hg : w.heap[g]? = some (.cells cs t fr))
    (hu : P.underlying ty = some d) (hd : (match d with | .struct _ | .array _ _ => true | _ => false) = true) (hi : (P.info? ty).map (·.size) = some cs.size) :
    (results fn tmps).run P w = .ok (.tuple #[.agg cs, v]) w := by
  have hp' : tmps[p]?.getD undef = .pointer (some ⟨g, 0, none⟩) := by simpa using hp
  have hq' : tmps[q]?.getD undef = v := by simpa using hq
  simp [results, h, hp', hq', asAddr, run_loadVar_row w g t ty cs fr d hg hu hd hi]

theorem RdP.nil {w : World} {B : Nat} {A : Option Addr} : RdP w B A [] := fun h => absurd h (by simp)
/-- an item and a yes or no -/
def TwoRet (y : It) (b : Bool) (w : World) (e : Ending) (w' : World) : Prop :=
  ∃ A n c, e = .returned (.tuple #[.agg #[.bool y.g, .int .u8 y.o, .int .u64 y.q, .int .u64 y.t, .string y.r, .slice A n c, .int .u8 y.s, .int .u8 y.p, .int .i64 y.v, .int .u8 y.w, .int .u8 y.ga, .int .u64 y.gf, .int .u64 y.gt], .bool b]) ∧ n = y.l.length ∧ RdP w' w'.heap.size A y.l ∧ Below w.heap.size w w'

def trimI (x : It) (N : Nat) : It := if spT x ≤ N then zeroI else if N < spF x then x else ⟨true, 0, 0, 0, ⟨#[]⟩, [], 0, 0, 0, 0, spO x, N + 1, spT x⟩
def aboveI (x : It) (N : Nat) : It := if spT x ≤ N then zeroI else if spF x ≤ N then { x with gf := N + 1 } else x
def aboveB (x : It) (N : Nat) : Bool := decide (¬ spT x ≤ N)

theorem trim_above (x : It) (N : Nat) : sameI (trimI x N) (aboveI x N) = true := by
  unfold trimI aboveI
  by_cases h1 : spT x ≤ N
  · rw [if_pos h1, if_pos h1]; exact sameI_refl _
  · rw [if_neg h1, if_neg h1]
    by_cases h2 : N < spF x
    · rw [if_pos h2, if_neg (by omega)]; exact sameI_refl _
    · rw [if_neg h2, if_pos (by omega)]
      cases hg : x.g with
      | true =>
        unfold sameI sameG spO spT
        simp [hg]
      | false =>
        unfold spT at h1
        unfold spF at h2
        rw [hg] at h1 h2
        simp at h1 h2
        omega
theorem spT_lt {x : It} (h : OkI x) : spT x < 18446744073709551616 := by
  have h1 := h.gt
  have h2 := h.q
  unfold spT
  split <;> omega

/-- an item whose labels are new, and a yes or no -/
def TwoNew (y : It) (b : Bool) (w : World) (e : Ending) (w' : World) : Prop :=
  ∃ A n c, e = .returned (.tuple #[.agg #[.bool y.g, .int .u8 y.o, .int .u64 y.q, .int .u64 y.t, .string y.r, .slice A n c, .int .u8 y.s, .int .u8 y.p, .int .i64 y.v, .int .u8 y.w, .int .u8 y.ga, .int .u64 y.gf, .int .u64 y.gt], .bool b]) ∧ n = y.l.length ∧ RdP w' w'.heap.size A y.l ∧ (A = none → n = 0) ∧ (∀ a, A = some a → 0 < n → w.heap.size ≤ a.block) ∧ Below w.heap.size w w'
theorem own_nilA {w : World} {base : Nat} {e : TypeId} {size n c : Nat} {A : Option Addr} {xs : List Value} (h : w.ownsRow base e size (.slice A n c) n xs) : A = none → n = 0 := fun hA => by
  rcases h.2 with ⟨_, h0⟩ | ⟨g, cap, cur, e1, _⟩
  · exact h0
  · injection e1 with e1
    rw [hA] at e1
    cases e1

set_option maxRecDepth 100000 in
set_option maxHeartbeats 2000000 in
theorem trim_new (x : It) (hx : OkI x) (A : Option Addr) (n c N : Nat) (w : World) (hn : n = x.l.length) (hA : A = none → n = 0) (hm : n * 32 ≤ 140737488351232) (hr : RdP w w.heap.size A x.l) :
    Calls Try.prog 77 #[.agg #[.bool x.g, .int .u8 x.o, .int .u64 x.q, .int .u64 x.t, .string x.r, .slice A n c, .int .u8 x.s, .int .u8 x.p, .int .i64 x.v, .int .u8 x.w, .int .u8 x.ga, .int .u64 x.gf, .int .u64 x.gt], .int .u64 N] w (TwoNew (trimI x N) (aboveB x N) w) := by
  obtain ⟨W, hW⟩ : ∃ W, W = ((w.alloc (.cells #[.bool x.g, .int .u8 x.o, .int .u64 x.q, .int .u64 x.t, .string x.r, .slice A n c, .int .u8 x.s, .int .u8 x.p, .int .i64 x.v, .int .u8 x.w, .int .u8 x.ga, .int .u64 x.gf, .int .u64 x.gt] 60)).alloc (.cells #[.bool false, .int .u8 0, .int .u64 0, .int .u64 0, .string ⟨#[]⟩, .slice none 0 0, .int .u8 0, .int .u8 0, .int .i64 0, .int .u8 0, .int .u8 0, .int .u64 0, .int .u64 0] 60)) := ⟨_, rfl⟩
  have hb : Below w.heap.size w W := by rw [hW]; exact ((Below.refl _ _).alloc (Nat.le_refl _) _).alloc (by simp) _
  have hz : W.heap.size = w.heap.size + 2 := by rw [hW]; simp
  have h0 : W.heap[w.heap.size]? = some (.cells #[.bool x.g, .int .u8 x.o, .int .u64 x.q, .int .u64 x.t, .string x.r, .slice A n c, .int .u8 x.s, .int .u8 x.p, .int .i64 x.v, .int .u8 x.w, .int .u8 x.ga, .int .u64 x.gf, .int .u64 x.gt] 60 (0, 0)) := by rw [hW]; exact heap_alloc2_old _ _ _
  have h1 : W.heap[w.heap.size + 1]? = some (.cells #[.bool false, .int .u8 0, .int .u64 0, .int .u64 0, .string ⟨#[]⟩, .slice none 0 0, .int .u8 0, .int .u8 0, .int .i64 0, .int .u8 0, .int .u8 0, .int .u64 0, .int .u64 0] 60 (0, 0)) := by rw [hW]; exact heap_alloc2_new _ _ _
  have HB := Lib.hid hb
  have HZ := Lib.hid hz
  have H0 := Lib.hid h0
  have H1 := Lib.hid h1
  have HW := Lib.hid hW
  have HN := Lib.hid hn
  have HA := Lib.hid hA
  have HM := Lib.hid hm
  have HR := Lib.hid hr
  clear hn hA hr hb hz h0 h1 hW hm
  have hlt := spT_lt hx
  clear hx
  by_cases c1 : spT x ≤ N
  · go_enter Try.func77, Try.ntmps77
    go_upto_region 1 with fail
    rw [← HW.out]
    have H0' := H0.out
    go_wp2_with (first
      | (refine wpList_load_row rfl _ _ rfl w.heap.size rfl _ _ _ _ H0' Try.underlying60 rfl (by kernel_rfl) ?_)
      | fail)
    clear H0'
    refine (span_any x A n c W).mono ?_
    rintro e w1 ⟨rfl, hb⟩
    have hs := hb.size
    have hz := HZ.out
    have G0 := Lib.hid ((hb.block w.heap.size (by omega)).trans H0.out)
    have G1 := Lib.hid ((hb.block (w.heap.size + 1) (by omega)).trans H1.out)
    have HB1 := Lib.hid (HB.out.trans (hb.mono (by omega)))
    clear hb
    obtain ⟨SO, hSO⟩ : ∃ k, spO x = k := ⟨_, rfl⟩
    obtain ⟨SF, hSF⟩ : ∃ k, spF x = k := ⟨_, rfl⟩
    obtain ⟨ST, hST⟩ : ∃ k, spT x = k := ⟨_, rfl⟩
    rw [hSO, hSF, hST]
    rw [hST] at hlt
    rw [hST] at c1
    have k1 : decide ((ST : Int) ≤ (N : Int)) = true := decide_eq_true (by omega)
    have k2 : decide (ST ≤ N) = true := decide_eq_true (by omega)
    have hR : trimI x N = zeroI := by unfold trimI; rw [hST, if_pos c1]
    have hB : aboveB x N = false := by unfold aboveB; rw [hST]; simp [c1]
    have HR2 := Lib.hid hR
    have HB2 := Lib.hid hB
    clear hSO hSF hST c1 hR hB hlt
    go_wp2_with (refine wpList_store_row rfl _ _ _ rfl (w.heap.size + 1) _ rfl rfl _ _ G1.out Try.infoI rfl (by simp [Value.oneCell']) ?_)
    refine bodyPost_ret (v := .tuple #[.agg #[.bool false, .int .u8 0, .int .u64 0, .int .u64 0, .string ⟨#[]⟩, .slice none 0 0, .int .u8 0, .int .u8 0, .int .i64 0, .int .u8 0, .int .u8 0, .int .u64 0, .int .u64 0], .bool false]) ?_ rfl ⟨none, 0, 0, ?_, ?_, ?_, fun _ => rfl, fun a ha => (by cases ha), ?_⟩
    · exact results_cell_two rfl _ _ (w.heap.size + 1) _ _ _ _ rfl rfl (setRow_heap _ _ _ _ _ _ G1.out) Try.underlying60 rfl (by kernel_rfl)
    · rw [HR2.out, HB2.out]; rfl
    · rw [HR2.out]; rfl
    · rw [HR2.out]; exact RdP.nil
    · exact below_setRow HB1.out (by omega) _
  · by_cases c2 : N < spF x
    · go_enter Try.func77, Try.ntmps77
      go_upto_region 1 with fail
      rw [← HW.out]
      have H0' := H0.out
      go_wp2_with (first
        | (refine wpList_load_row rfl _ _ rfl w.heap.size rfl _ _ _ _ H0' Try.underlying60 rfl (by kernel_rfl) ?_)
        | fail)
      clear H0'
      refine (span_any x A n c W).mono ?_
      rintro e w1 ⟨rfl, hb⟩
      have hs := hb.size
      have hz := HZ.out
      have G0 := Lib.hid ((hb.block w.heap.size (by omega)).trans H0.out)
      have G1 := Lib.hid ((hb.block (w.heap.size + 1) (by omega)).trans H1.out)
      have HB1 := Lib.hid (HB.out.trans (hb.mono (by omega)))
      clear hb
      obtain ⟨SO, hSO⟩ : ∃ k, spO x = k := ⟨_, rfl⟩
      obtain ⟨SF, hSF⟩ : ∃ k, spF x = k := ⟨_, rfl⟩
      obtain ⟨ST, hST⟩ : ∃ k, spT x = k := ⟨_, rfl⟩
      rw [hSO, hSF, hST]
      rw [hST] at hlt
      rw [hST] at c1
      rw [hSF] at c2
      have k1 : decide ((ST : Int) ≤ (N : Int)) = false := decide_eq_false (by omega)
      have k2 : decide (ST ≤ N) = false := decide_eq_false (by omega)
      have m1 : decide ((N : Int) < (SF : Int)) = true := decide_eq_true (by omega)
      have m2 : decide (N < SF) = true := decide_eq_true (by omega)
      have hR : trimI x N = x := by unfold trimI; rw [hST, hSF, if_neg c1, if_pos c2]
      have hB : aboveB x N = true := by unfold aboveB; rw [hST]; simp; omega
      have HR2 := Lib.hid hR
      have HB2 := Lib.hid hB
      have HC := Lib.hid (iclone_any x A n c w1 HN.out HA.out HM.out ((HR.out.below HB1.out).more (by omega)))
      clear hSO hSF hST c1 c2 hR hB hlt
      go_wp2_with (refine wpList_load_row rfl _ _ rfl w.heap.size rfl _ _ _ _ G0.out Try.underlying60 rfl (by kernel_rfl) ?_)
      refine HC.out.mono ?_
      rintro e w2 ⟨A2, n2, c2, rfl, hn2, ho2, hb2⟩
      have hs2 := hb2.size
      have HN2 := Lib.hid hn2
      have HO2 := Lib.hid ho2
      have HB3 := Lib.hid (HB1.out.trans (hb2.mono (by omega)))
      have G2 := Lib.hid ((hb2.block (w.heap.size + 1) (by omega)).trans G1.out)
      clear hn2 ho2 hb2
      go_wp2_with (refine wpList_store_row rfl _ _ _ rfl (w.heap.size + 1) _ rfl rfl _ _ G2.out Try.infoI rfl (by simp [Value.oneCell']) ?_)
      refine bodyPost_ret (v := .tuple #[.agg #[.bool x.g, .int .u8 x.o, .int .u64 x.q, .int .u64 x.t, .string x.r, .slice A2 n2 c2, .int .u8 x.s, .int .u8 x.p, .int .i64 x.v, .int .u8 x.w, .int .u8 x.ga, .int .u64 x.gf, .int .u64 x.gt], .bool true]) ?_ rfl ⟨A2, n2, c2, ?_, ?_, ?_, own_nilA HO2.out, fun a ha _ => Nat.le_trans HB1.out.size (HO2.out.lt a.block (by rw [ha]; rfl)).1, ?_⟩
      · exact results_cell_two rfl _ _ (w.heap.size + 1) _ _ _ _ rfl rfl (setRow_heap _ _ _ _ _ _ G2.out) Try.underlying60 rfl (by kernel_rfl)
      · rw [HR2.out, HB2.out]
      · rw [HR2.out]; exact HN2.out
      · rw [HR2.out]; exact RdP.of_own (own_setRow HO2.out (by omega) _)
      · exact below_setRow HB3.out (by omega) _
    · go_enter Try.func77, Try.ntmps77
      go_upto_region 1 with fail
      rw [← HW.out]
      have H0' := H0.out
      go_wp2_with (first
        | (refine wpList_load_row rfl _ _ rfl w.heap.size rfl _ _ _ _ H0' Try.underlying60 rfl (by kernel_rfl) ?_)
        | fail)
      clear H0'
      refine (span_any x A n c W).mono ?_
      rintro e w1 ⟨rfl, hb⟩
      have hs := hb.size
      have hz := HZ.out
      have G0 := Lib.hid ((hb.block w.heap.size (by omega)).trans H0.out)
      have G1 := Lib.hid ((hb.block (w.heap.size + 1) (by omega)).trans H1.out)
      have HB1 := Lib.hid (HB.out.trans (hb.mono (by omega)))
      clear hb
      obtain ⟨SO, hSO⟩ : ∃ k, spO x = k := ⟨_, rfl⟩
      obtain ⟨SF, hSF⟩ : ∃ k, spF x = k := ⟨_, rfl⟩
      obtain ⟨ST, hST⟩ : ∃ k, spT x = k := ⟨_, rfl⟩
      rw [hSO, hSF, hST]
      rw [hST] at hlt
      rw [hST] at c1
      rw [hSF] at c2
      have k1 : decide ((ST : Int) ≤ (N : Int)) = false := decide_eq_false (by omega)
      have k2 : decide (ST ≤ N) = false := decide_eq_false (by omega)
      have m1 : decide ((N : Int) < (SF : Int)) = false := decide_eq_false (by omega)
      have m2 : decide (N < SF) = false := decide_eq_false (by omega)
      have hw : IntKind.u64.wrap ((N : Int) + 1) = ((N + 1 : Nat) : Int) := by rw [IntKind.wrap_u64]; omega
      have hR : trimI x N = ⟨true, 0, 0, 0, ⟨#[]⟩, [], 0, 0, 0, 0, SO, N + 1, ST⟩ := by unfold trimI; rw [hSO, hST, hSF, if_neg c1, if_neg c2]
      have hB : aboveB x N = true := by unfold aboveB; rw [hST]; simp; omega
      have HR2 := Lib.hid hR
      have HB2 := Lib.hid hB
      clear hSO hSF hST c1 c2 hR hB hlt
      go_wp2_with fail
      refine (gap_any _ _ _ w1).mono ?_
      rintro e w2 ⟨rfl, hb2⟩
      have hs2 := hb2.size
      have HB3 := Lib.hid (HB1.out.trans (hb2.mono (by omega)))
      have G2 := Lib.hid ((hb2.block (w.heap.size + 1) (by omega)).trans G1.out)
      clear hb2
      go_wp2_with (refine wpList_store_row rfl _ _ _ rfl (w.heap.size + 1) _ rfl rfl _ _ G2.out Try.infoI rfl (by simp [Value.oneCell']) ?_)
      refine bodyPost_ret (v := .tuple #[.agg #[.bool true, .int .u8 0, .int .u64 0, .int .u64 0, .string ⟨#[]⟩, .slice none 0 0, .int .u8 0, .int .u8 0, .int .i64 0, .int .u8 0, .int .u8 SO, .int .u64 ((N + 1 : Nat) : Int), .int .u64 ST], .bool true]) ?_ rfl ⟨none, 0, 0, ?_, ?_, ?_, fun _ => rfl, fun a ha => (by cases ha), ?_⟩
      · exact results_cell_two rfl _ _ (w.heap.size + 1) _ _ _ _ rfl rfl (setRow_heap _ _ _ _ _ _ G2.out) Try.underlying60 rfl (by kernel_rfl)
      · rw [HR2.out, HB2.out]; rfl
      · rw [HR2.out]; rfl
      · rw [HR2.out]; exact RdP.nil
      · exact below_setRow HB3.out (by omega) _
theorem trim_any (x : It) (hx : OkI x) (A : Option Addr) (n c N : Nat) (w : World) (hn : n = x.l.length) (hA : A = none → n = 0) (hm : n * 32 ≤ 140737488351232) (hr : RdP w w.heap.size A x.l) :
    Calls Try.prog 77 #[.agg #[.bool x.g, .int .u8 x.o, .int .u64 x.q, .int .u64 x.t, .string x.r, .slice A n c, .int .u8 x.s, .int .u8 x.p, .int .i64 x.v, .int .u8 x.w, .int .u8 x.ga, .int .u64 x.gf, .int .u64 x.gt], .int .u64 N] w (TwoRet (trimI x N) (aboveB x N) w) := by
  refine (trim_new x hx A n c N w hn hA hm hr).mono ?_
  rintro e w' ⟨A', n', c', h1, h2, h3, _, _, h4⟩
  exact ⟨A', n', c', h1, h2, h3, h4⟩

end Go.Proofs.Ytgcfofnlgdfmoaa
