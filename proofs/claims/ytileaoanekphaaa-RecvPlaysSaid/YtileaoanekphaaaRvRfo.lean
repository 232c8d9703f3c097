/- Layer 11: the document's own receiver: Take where nothing is laid in, Next where nothing is held, Bits. -/
import Derived.Test.YtileaoanekphaaaRvRef
import Derived.Deep.QuietTactic
namespace Go.Proofs.Ytileaoanekphaaa
open Go.RowKit

theorem posZ_some {L : List Ett} {q : Nat} (h : (posE L q).isSome = true) : 0 ≤ posZ L q := by
  unfold posZ
  cases e : posE L q with
  | none => rw [e] at h; cases h
  | some j => exact Int.natCast_nonneg j
theorem posZ_none {L : List Ett} {q : Nat} (h : posE L q = none) : posZ L q = -1 := by unfold posZ; rw [h]
theorem posZ_at {L : List Ett} {q j : Nat} (h : posE L q = some j) : posZ L q = (j : Int) := by unfold posZ; rw [h]
section
variable {w w' : World} {S : Nat → Prop} {g : Nat} {X : Mr} {L : List Ett}
theorem MrAt.step_of_set {j : Nat} {u : Value} (h : MrAt w S g X L) (V : World) (hb : Below w.heap.size w V) : Step w S (V.setCell ⟨g, j, none⟩ u) S :=
  ⟨(Only.of_below hb S).trans (Only.setCell (T := S) V _ _ h.sS) (fun _ h => .inl h), fun _ h => .inl h⟩
set_option maxRecDepth 100000 in
set_option maxHeartbeats 1000000 in
theorem mtake_old {q : Nat} {x : It} {A : Option Addr} {N c : Nat} (w : World) (h : MrAt w S g X L) (ho : X.o ≤ 1099511627776) (hc : q < X.n ∨ (posE L q).isSome = true) :
    Calls Try.prog 13 #[.pointer (some ⟨g, 0, none⟩), .int .u64 q, .agg #[.bool x.g, .int .u8 x.o, .int .u64 x.q, .int .u64 x.t, .string x.r, .slice A N c, .int .u8 x.s, .int .u8 x.p, .int .i64 x.v, .int .u8 x.w, .int .u8 x.ga, .int .u64 x.gf, .int .u64 x.gt]] w fun e w' => e = .returned (.int .i64 17) ∧ MrAt w' S g ⟨X.W, X.n, X.o + 1⟩ L ∧ Step w S w' S := by
  obtain ⟨V, hV⟩ : ∃ V, V = w.alloc (.cells #[.bool x.g, .int .u8 x.o, .int .u64 x.q, .int .u64 x.t, .string x.r, .slice A N c, .int .u8 x.s, .int .u8 x.p, .int .i64 x.v, .int .u8 x.w, .int .u8 x.ga, .int .u64 x.gf, .int .u64 x.gt] 43) := ⟨_, rfl⟩
  have hbV : Below w.heap.size w V := by rw [hV]; exact (Below.refl _ _).alloc (Nat.le_refl _) _
  have hr := h.below hbV
  obtain ⟨B, d, -, -, c1, c2, -, fz⟩ := hr.cells
  have f2 := fz 2
  have HF := Lib.hid (mfind_any q V hr)
  have HV := Lib.hid hV
  have HB := Lib.hid hbV
  have HR := Lib.hid hr
  have HH := Lib.hid h
  obtain ⟨y, hy⟩ : ∃ y, y = X.o + 1 := ⟨_, rfl⟩
  have e1 : (X.o : Int) + 1 = (y : Int) := by omega
  have HWN : Hid (IntKind.u64.wrap (y : Int) = (y : Int)) := by show IntKind.u64.wrap (y : Int) = (y : Int); rw [IntKind.wrap_u64]; omega
  rw [← hy]
  clear h hr hV hbV ho hy fz
  by_cases hlt : q < X.n
  · have d1 : decide (q < X.n) = true := decide_eq_true hlt
    have d2 : decide ((q : Int) < (X.n : Int)) = true := decide_eq_true (by omega)
    clear hc HF hlt
    go_enter Try.func13, Try.ntmps13
    go_upto_region 1 with fail
    rw [← HV.out]
    go_wp2_with fail
    go_ret
    rw [HWN.out]
    exact ⟨rfl, HR.out.set 2 (.int .u64 y) (fun _ => rfl), HH.out.step_of_set V HB.out⟩
  · have d1 : decide (q < X.n) = false := decide_eq_false hlt
    have d2 : decide ((q : Int) < (X.n : Int)) = false := decide_eq_false (by omega)
    have hz := posZ_some (hc.resolve_left hlt)
    obtain ⟨z, hz2⟩ : ∃ z, z = posZ L q := ⟨_, rfl⟩
    rw [← hz2] at HF hz
    have d3 : decide (0 ≤ z) = true := decide_eq_true hz
    clear hc hlt hz hz2
    go_enter Try.func13, Try.ntmps13
    go_upto_region 1 with fail
    rw [← HV.out]
    go_wp2_with fail
    refine HF.out.mono ?_
    rintro _ w1 ⟨rfl, hb1⟩
    have hr1 := HR.out.below hb1
    obtain ⟨B1, d1', -, -, k1, k2, -, fz1⟩ := hr1.cells
    have k3 := fz1 2
    have HR1 := Lib.hid hr1
    have HB1 := Lib.hid (HB.out.trans (hb1.mono HB.out.size))
    clear hr1 hb1 HF c1 c2 f2 fz1
    go_wp2_with fail
    go_ret
    rw [HWN.out]
    exact ⟨rfl, HR1.out.set 2 (.int .u64 y) (fun _ => rfl), HH.out.step_of_set w1 HB1.out⟩
set_option maxRecDepth 100000 in
set_option maxHeartbeats 1000000 in
theorem mtake_far {q : Nat} {x : It} {A : Option Addr} {N c : Nat} (w : World) (h : MrAt w S g X L) (hn : X.n ≤ 1099511627776) (hW : X.W ≤ 64) (hlt : X.n ≤ q) (hF : posE L q = none) (hfar : X.W ≤ q - X.n) :
    Calls Try.prog 13 #[.pointer (some ⟨g, 0, none⟩), .int .u64 q, .agg #[.bool x.g, .int .u8 x.o, .int .u64 x.q, .int .u64 x.t, .string x.r, .slice A N c, .int .u8 x.s, .int .u8 x.p, .int .i64 x.v, .int .u8 x.w, .int .u8 x.ga, .int .u64 x.gf, .int .u64 x.gt]] w fun e w' => e = .returned (.int .i64 19) ∧ Below w.heap.size w w' := by
  obtain ⟨V, hV⟩ : ∃ V, V = w.alloc (.cells #[.bool x.g, .int .u8 x.o, .int .u64 x.q, .int .u64 x.t, .string x.r, .slice A N c, .int .u8 x.s, .int .u8 x.p, .int .i64 x.v, .int .u8 x.w, .int .u8 x.ga, .int .u64 x.gf, .int .u64 x.gt] 43) := ⟨_, rfl⟩
  have hbV : Below w.heap.size w V := by rw [hV]; exact (Below.refl _ _).alloc (Nat.le_refl _) _
  have hr := h.below hbV
  obtain ⟨B, d, -, -, c1, -, -, -⟩ := hr.cells
  have HF := mfind_any q V hr
  rw [posZ_none hF] at HF
  have HF := Lib.hid HF
  have HV := Lib.hid hV
  have HB := Lib.hid hbV
  have HR := Lib.hid hr
  obtain ⟨y, hy⟩ : ∃ y, y = X.n + X.W := ⟨_, rfl⟩
  have e1 : (X.n : Int) + (X.W : Int) = (y : Int) := by omega
  have e2 : IntKind.u64.wrap (y : Int) = (y : Int) := by rw [IntKind.wrap_u64]; omega
  have e3 : IntKind.u64.wrap (X.W : Int) = (X.W : Int) := by rw [IntKind.wrap_u64]; omega
  have d1 : decide (q < X.n) = false := decide_eq_false (by omega)
  have d2 : decide ((q : Int) < (X.n : Int)) = false := decide_eq_false (by omega)
  have d3 : decide (y ≤ q) = true := decide_eq_true (by omega)
  have d4 : decide ((y : Int) ≤ (q : Int)) = true := decide_eq_true (by omega)
  clear h hr hV hbV hn hW hlt hF hfar hy
  go_enter Try.func13, Try.ntmps13
  go_upto_region 1 with fail
  rw [← HV.out]
  go_wp2_with fail
  refine HF.out.mono ?_
  rintro _ w1 ⟨rfl, hb1⟩
  obtain ⟨B1, d1', -, k0, k1, -, -, -⟩ := (HR.out.below hb1).cells
  have HB1 := Lib.hid (HB.out.trans (hb1.mono HB.out.size))
  clear hb1 HF c1
  go_upto_region 4 with fail
  go_quiet (fail)
  go_wp2
  go_ret
  exact ⟨rfl, cbelow_drewN HB1.out _⟩
set_option maxRecDepth 100000 in
set_option maxHeartbeats 1000000 in
theorem mtake_bad {q z : Nat} {x : It} {A : Option Addr} {N c : Nat} (w : World) (h : MrAt w S g X L) (hn : X.n ≤ 1099511627776) (hW : X.W ≤ 64) (hlt : X.n ≤ q) (hF : posE L q = none) (hfar : q - X.n < X.W)
    (hz : itemN x = z) (hz0 : z ≠ 0) (hN : N = x.l.length) (hm : N ≤ maxLen) (hr : RdP w w.heap.size A x.l) (hok : OkI x) :
    Calls Try.prog 13 #[.pointer (some ⟨g, 0, none⟩), .int .u64 q, .agg #[.bool x.g, .int .u8 x.o, .int .u64 x.q, .int .u64 x.t, .string x.r, .slice A N c, .int .u8 x.s, .int .u8 x.p, .int .i64 x.v, .int .u8 x.w, .int .u8 x.ga, .int .u64 x.gf, .int .u64 x.gt]] w fun e w' => e = .returned (.int .i64 z) ∧ Below w.heap.size w w' := by
  obtain ⟨V, hV⟩ : ∃ V, V = w.alloc (.cells #[.bool x.g, .int .u8 x.o, .int .u64 x.q, .int .u64 x.t, .string x.r, .slice A N c, .int .u8 x.s, .int .u8 x.p, .int .i64 x.v, .int .u8 x.w, .int .u8 x.ga, .int .u64 x.gf, .int .u64 x.gt] 43) := ⟨_, rfl⟩
  have hbV : Below w.heap.size w V := by rw [hV]; exact (Below.refl _ _).alloc (Nat.le_refl _) _
  have hcV : V.heap[w.heap.size]? = some (.cells #[.bool x.g, .int .u8 x.o, .int .u64 x.q, .int .u64 x.t, .string x.r, .slice A N c, .int .u8 x.s, .int .u8 x.p, .int .i64 x.v, .int .u8 x.w, .int .u8 x.ga, .int .u64 x.gf, .int .u64 x.gt] 43 (0, 0)) := by rw [hV]; exact heap_alloc_new _ _
  have hlV : w.heap.size < V.heap.size := by rw [hV]; simp
  have hrV := h.below hbV
  obtain ⟨B, d, -, -, c1, -, -, -⟩ := hrV.cells
  have HF := mfind_any q V hrV
  rw [posZ_none hF] at HF
  have HF := Lib.hid HF
  have HCK : Hid (∀ W, Below w.heap.size w W → Calls Try.prog 20 #[.agg #[.bool x.g, .int .u8 x.o, .int .u64 x.q, .int .u64 x.t, .string x.r, .slice A N c, .int .u8 x.s, .int .u8 x.p, .int .i64 x.v, .int .u8 x.w, .int .u8 x.ga, .int .u64 x.gf, .int .u64 x.gt]] W fun e w' => e = .returned (.int .i64 z) ∧ Below W.heap.size W w') := fun W hw => by
    have h1 := refItem_any x A N c W hN hm ((hr.below hw).more hw.size) hok
    rw [hz] at h1
    exact h1
  have HV := Lib.hid hV
  have HB := Lib.hid hbV
  have HCV := Lib.hid (⟨hcV, hlV⟩ : _ ∧ _)
  have HR := Lib.hid hrV
  obtain ⟨y, hy⟩ : ∃ y, y = X.n + X.W := ⟨_, rfl⟩
  have e1 : (X.n : Int) + (X.W : Int) = (y : Int) := by omega
  have e2 : IntKind.u64.wrap (y : Int) = (y : Int) := by rw [IntKind.wrap_u64]; omega
  have e3 : IntKind.u64.wrap (X.W : Int) = (X.W : Int) := by rw [IntKind.wrap_u64]; omega
  have d1 : decide (q < X.n) = false := decide_eq_false (by omega)
  have d2 : decide ((q : Int) < (X.n : Int)) = false := decide_eq_false (by omega)
  have d3 : decide (y ≤ q) = false := decide_eq_false (by omega)
  have d4 : decide ((y : Int) ≤ (q : Int)) = false := decide_eq_false (by omega)
  have d5 : ((z : Int) == 0) = false := by rw [beq_eq_false_iff_ne]; omega
  clear h hr hrV hV hbV hn hW hlt hF hfar hy hz hz0 hN hm hok hcV hlV
  go_enter Try.func13, Try.ntmps13
  go_upto_region 1 with fail
  rw [← HV.out]
  go_wp2_with fail
  refine HF.out.mono ?_
  rintro _ w1 ⟨rfl, hb1⟩
  obtain ⟨B1, d1', -, k0, k1, -, -, -⟩ := (HR.out.below hb1).cells
  have HC1 := Lib.hid ((hb1.block _ HCV.out.2).trans HCV.out.1)
  have HB1 := Lib.hid (HB.out.trans (hb1.mono HB.out.size))
  clear hb1 HF c1
  go_upto_region 4 with fail
  go_quiet (fail)
  clear k0 k1
  go_wp2_with (first
    | (refine wpList_load_row rfl _ _ rfl w.heap.size rfl _ _ _ _ HC1.out Try.underlying43 rfl (by kernel_rfl) ?_)
    | fail)
  refine (HCK.out _ (cbelow_drewN HB1.out _)).mono ?_
  rintro _ w2 ⟨rfl, hb2⟩
  have HB2 : Hid (Below w.heap.size w w2) := (cbelow_drewN HB1.out _).trans (hb2.mono (cbelow_drewN HB1.out _).size)
  clear hb2
  go_wp2
  go_ret
  exact ⟨rfl, HB2.out⟩
set_option maxRecDepth 100000 in
set_option maxHeartbeats 400000 in
theorem mnext_none (w : World) (h : MrAt w S g X L) (hF : posE L X.n = none) :
    Calls Try.prog 10 #[.pointer (some ⟨g, 0, none⟩)] w fun e w' => e = .returned (.int .i64 14) ∧ Below w.heap.size w w' := by
  obtain ⟨B, d, -, -, c1, -, -, -⟩ := h.cells
  have HF := mfind_any X.n w h
  rw [posZ_none hF] at HF
  have HF := Lib.hid HF
  clear h hF
  go_enter Try.func10, Try.ntmps10
  go_wp2_with fail
  refine HF.out.mono ?_
  rintro _ w1 ⟨rfl, hb1⟩
  go_wp2
  go_ret
  exact ⟨rfl, hb1⟩
end
/-- bits by doubling, from the last one on -/
def hor (p : Nat → Bool) (N : Nat) : Nat → Nat
  | 0 => 0
  | k + 1 => hor p N k * 2 + (if p (N - 1 - k) then 1 else 0)
theorem hor_bits (p : Nat → Bool) (N : Nat) : ∀ k, k ≤ N → bitsN p N = bitsN p (N - k) + 2 ^ (N - k) * hor p N k
  | 0, _ => by simp [hor]
  | k + 1, h => by
    rw [hor_bits p N k (by omega)]
    obtain ⟨m, hm⟩ : ∃ m, N - k = m + 1 := ⟨N - k - 1, by omega⟩
    have h1 : N - (k + 1) = m := by omega
    have h2 : N - 1 - k = m := by omega
    rw [hm, h1]
    show (bitsN p m + (if p m then 2 ^ m else 0)) + 2 ^ (m + 1) * hor p N k = bitsN p m + 2 ^ m * (hor p N k * 2 + (if p (N - 1 - k) then 1 else 0))
    rw [h2, Nat.pow_succ, Nat.mul_add, Nat.mul_comm (hor p N k) 2, ← Nat.mul_assoc]
    split <;> omega
theorem hor_all (p : Nat → Bool) (N : Nat) : hor p N N = bitsN p N := by
  have h := hor_bits p N N (Nat.le_refl _)
  rw [Nat.sub_self] at h
  rw [h]
  simp [bitsN]
theorem hor_lt (p : Nat → Bool) (N : Nat) : ∀ k, hor p N k < 2 ^ k
  | 0 => Nat.one_pos
  | k + 1 => by
    have h := hor_lt p N k
    show hor p N k * 2 + (if p (N - 1 - k) then 1 else 0) < 2 ^ (k + 1)
    rw [Nat.pow_succ]
    split <;> omega
/-- which numbers behind the expected one are there -/
def laidB (L : List Ett) (n : Nat) : Nat → Bool := fun i => (posE L (n + 1 + i)).isSome
section
variable {w w' : World} {S : Nat → Prop} {g : Nat} {X : Mr} {L : List Ett}
set_option maxRecDepth 100000 in
set_option maxHeartbeats 1000000 in
theorem mbits_any (w : World) (h : MrAt w S g X L) (hn : X.n ≤ 1099511627776) :
    Calls Try.prog 19 #[.pointer (some ⟨g, 0, none⟩)] w fun e w' => e = .returned (.int .u64 (bitsN (laidB L X.n) 64)) ∧ Below w.heap.size w w' := by
  have HR := Lib.hid h
  obtain ⟨p, hp⟩ : ∃ p, p = laidB L X.n := ⟨_, rfl⟩
  rw [← hp, ← hor_all]
  have HP := Lib.hid hp
  clear h hp
  go_enter Try.func19, Try.ntmps19
  go_wp2
  go_loopw [3, 4] (fun bv iv wx => ∃ (k : Nat) (z : Int), k ≤ 64 ∧ iv = .int .i64 z ∧ bv = .int .u64 (hor p 64 k) ∧ Hid (z = 63 - (k : Int)) ∧ Hid (Below w.heap.size w wx)) (fun _ iv _ => (intOf iv + 1).toNat)
  case atStart => exact ⟨0, 63, by decide, rfl, rfl, rfl, Below.refl _ _⟩
  case round =>
    obtain ⟨k, z, hk, rfl, rfl, HZ, HB⟩ := hrel
    by_cases hlt : k < 64
    · obtain ⟨j, hj⟩ : ∃ j : Nat, z = j := ⟨63 - k, by have := HZ.out; omega⟩
      subst hj
      have hj63 : j ≤ 63 := by have := HZ.out; omega
      have q1 : decide ((0 : Int) ≤ (j : Int)) = true := decide_eq_true (by omega)
      have hr := HR.out.below HB.out
      obtain ⟨B1, d1', -, -, c1, -, -, -⟩ := hr.cells
      obtain ⟨n1, hn1⟩ : ∃ z, z = X.n + 1 := ⟨_, rfl⟩
      obtain ⟨q, hq⟩ : ∃ z, z = n1 + j := ⟨_, rfl⟩
      have e3 : (X.n : Int) + 1 = (n1 : Int) := by omega
      have e4 : IntKind.u64.wrap (n1 : Int) = (n1 : Int) := by rw [IntKind.wrap_u64]; omega
      have e5 : IntKind.u64.wrap (j : Int) = (j : Int) := by rw [IntKind.wrap_u64]; omega
      have e6 : (n1 : Int) + (j : Int) = (q : Int) := by omega
      have e7 : IntKind.u64.wrap (q : Int) = (q : Int) := by rw [IntKind.wrap_u64]; omega
      have hpq : p (64 - 1 - k) = (posE L q).isSome := by
        rw [HP.out]
        have : 64 - 1 - k = j := by have := HZ.out; omega
        rw [this, hq, hn1]
        rfl
      have HF := Lib.hid (mfind_any q wr hr)
      obtain ⟨b, hb⟩ : ∃ b, b = hor p 64 k := ⟨_, rfl⟩
      obtain ⟨b2, hb2⟩ : ∃ b2, b2 = b * 2 := ⟨_, rfl⟩
      have hbl := hor_lt p 64 k
      have h64 : (2 : Nat) ^ k * 2 ≤ 2 ^ 64 := by
        rw [← Nat.pow_succ]
        exact Nat.pow_le_pow_right (by decide) (by omega)
      have e8 : (b : Int) * 2 = (b2 : Int) := by omega
      have e9 : IntKind.u64.wrap (b2 : Int) = (b2 : Int) := by rw [IntKind.wrap_u64]; omega
      have hnx : hor p 64 (k + 1) = b2 + (if (posE L q).isSome then 1 else 0) := by
        show hor p 64 k * 2 + (if p (64 - 1 - k) then 1 else 0) = _
        rw [hpq, hb2, hb]
      have HNX := Lib.hid hnx
      rw [← hb]
      have HZ2 : Hid ((j : Int) - 1 = 63 - ((k + 1 : Nat) : Int)) := by have := HZ.out; show (j : Int) - 1 = 63 - ((k + 1 : Nat) : Int); omega
      have HB2 : Hid (b2 + 1 < 18446744073709551616) := by show b2 + 1 < _; omega
      clear hr hn1 hq hpq hb hb2 hbl h64 hnx HZ
      cases hF : posE L q with
      | none =>
        rw [posZ_none hF] at HF
        rw [hF] at HNX
        clear hF
        go_wp2_with fail
        refine HF.out.mono ?_
        rintro _ w1 ⟨rfl, hb1⟩
        have HB1 := Lib.hid (HB.out.trans (hb1.mono HB.out.size))
        clear hb1 HF e3 e6 c1
        go_wp2
        go_roundw
        case rel => exact ⟨k + 1, (j : Int) - 1, by omega, by go_num, by rw [HNX.out]; rfl, HZ2.out, HB1.out⟩
        case measure => simp [intOf]
      | some i =>
        rw [posZ_at hF] at HF
        rw [hF] at HNX
        have d1 : decide ((0 : Int) ≤ (i : Int)) = true := decide_eq_true (by omega)
        clear hF
        go_wp2_with fail
        refine HF.out.mono ?_
        rintro _ w1 ⟨rfl, hb1⟩
        have HB1 := Lib.hid (HB.out.trans (hb1.mono HB.out.size))
        obtain ⟨b3, hb3⟩ : ∃ b3, b3 = b2 + 1 := ⟨_, rfl⟩
        have e10 : (b2 : Int) + 1 = (b3 : Int) := by omega
        have e11 : IntKind.u64.wrap (b3 : Int) = (b3 : Int) := by have := HB2.out; rw [IntKind.wrap_u64]; omega
        have HB3 := Lib.hid hb3
        clear hb1 HF e3 e6 c1 hb3
        go_wp2
        go_roundw
        case rel => exact ⟨k + 1, (j : Int) - 1, by omega, by go_num, by rw [HNX.out, HB3.out]; rfl, HZ2.out, HB1.out⟩
        case measure => simp [intOf]
    · obtain rfl : k = 64 := by omega
      obtain rfl : z = -1 := by have := HZ.out; omega
      go_wp2
      go_ret
      exact ⟨rfl, HB.out⟩
end
end Go.Proofs.Ytileaoanekphaaa
