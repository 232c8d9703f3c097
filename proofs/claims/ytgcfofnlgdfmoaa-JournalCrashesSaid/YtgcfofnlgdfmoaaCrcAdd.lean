/- Layer 2: (*Table).Add, Sum at one part, Counts, New; the nil table. -/
import Derived.Test.YtgcfofnlgdfmoaaCrcTab
namespace Go.Proofs.Ytgcfofnlgdfmoaa
open Go.RowKit

/-- the sum of the bytes whose sum is s, followed by these -/
def addN (s : Nat) (l : List Nat) : Nat := reg (s ^^^ full) l ^^^ full
theorem addN_zero (l : List Nat) : addN 0 l = sumN l := by simp [addN, sumN]
theorem addN_lt {s : Nat} {l : List Nat} (hs : s < 4294967296) (hl : OkB l) : addN s l < 4294967296 :=
  Nat.xor_lt_two_pow (n := 32) (reg_lt (Nat.xor_lt_two_pow (n := 32) hs (by decide)) hl) (by decide)
/-- the slice's bytes do not lie in block g -/
def Off (A : Option Addr) (g : Nat) (l : List Nat) : Prop := 0 < l.length → ∀ a, A = some a → a.block ≠ g
theorem RdB.turned {w w' : World} {B g : Nat} {A : Option Addr} {l : List Nat} {P : Nat → Prop} (h : RdB w B A l) (ho : Off A g l) (ht : TurnsIn w w' g P) : RdB w' B A l := fun h0 =>
  (h.grown ht.grown fun k hk a ha e => ho h0 a ha (e.trans (by injection hk with hk; exact hk.symm))) h0
theorem Tab.counted {w : World} {g d s b : Nat} (h : Tab w g d s b) (x : Nat) : Tab (w.setCell ⟨g, 260, none⟩ (.int .u64 x)) g d s x :=
  { lt := by simpa using h.lt
    c0 := (World.cell?_setCell_other _ ⟨g, 260, none⟩ ⟨g, 0, none⟩ _ (by simp)).trans h.c0
    c1 := (World.cell?_setCell_other _ ⟨g, 260, none⟩ ⟨g, 1, none⟩ _ (by simp)).trans h.c1
    tab := fun j hj => by
      obtain ⟨x, hx, hx2⟩ := h.tab j hj
      exact ⟨x, (World.cell?_setCell_other _ ⟨g, 260, none⟩ ⟨g, 3 + j, none⟩ _ (by intro e; injection e; omega)).trans hx, hx2⟩
    sums := (World.cell?_setCell_other _ ⟨g, 260, none⟩ ⟨g, 259, none⟩ _ (by simp)).trans h.sums
    bytes := World.cell?_setCell_same _ _ _ h.bytes
    fz := fun o => by simpa using h.fz o }
theorem Tab.summed {w : World} {g d s b : Nat} (h : Tab w g d s b) (x : Nat) : Tab (w.setCell ⟨g, 259, none⟩ (.int .u64 x)) g d x b :=
  { lt := by simpa using h.lt
    c0 := (World.cell?_setCell_other _ ⟨g, 259, none⟩ ⟨g, 0, none⟩ _ (by simp)).trans h.c0
    c1 := (World.cell?_setCell_other _ ⟨g, 259, none⟩ ⟨g, 1, none⟩ _ (by simp)).trans h.c1
    tab := fun j hj => by
      obtain ⟨x, hx, hx2⟩ := h.tab j hj
      exact ⟨x, (World.cell?_setCell_other _ ⟨g, 259, none⟩ ⟨g, 3 + j, none⟩ _ (by intro e; injection e; omega)).trans hx, hx2⟩
    sums := World.cell?_setCell_same _ _ _ h.sums
    bytes := (World.cell?_setCell_other _ ⟨g, 259, none⟩ ⟨g, 260, none⟩ _ (by simp)).trans h.bytes
    fz := fun o => by simpa using h.fz o }

set_option maxRecDepth 100000 in
set_option maxHeartbeats 1000000 in
theorem tadd_any (g d s b : Nat) (hd : d ≤ 1) (sum : Nat) (hsum : sum < 4294967296) (A : Option Addr) (n c : Nat) (l : List Nat) (B : Nat) (w : World) (h : Tab w g d s b) (hn : n = l.length) (hm : n ≤ maxLen) (hbn : b + n < 18446744073709551616) (hr : RdB w B A l) (hok : OkB l) (hoff : Off A g l) :
    Calls Try.prog 85 #[.pointer (some ⟨g, 0, none⟩), .int .u32 sum, .slice A n c] w fun e w' => e = .returned (.int .u32 (addN sum l : Nat)) ∧ TurnsIn w w' g (fun _ => True) ∧ Tab w' g 1 s (b + n) := by
  have Hn := Lib.hid hn
  have Hr := Lib.hid hr
  have Hok := Lib.hid hok
  have Ho := Lib.hid (do_any g d s b hd w h)
  unfold maxLen at hm
  have hmf : ∀ (fn : Fn) (first cap : Array Value) (w : World), (Instr.makeFunc fn first cap).run Try.prog w = .ok (.func fn first cap) w := fun _ _ _ _ => rfl
  have hu : bits .xor .u32 IntKind.u32.max (sum : Int) = (sum ^^^ full : Nat) := by
    rw [Nat.xor_comm]; exact u32_xor_nat full sum (by decide) hsum
  have hs2 : sum ^^^ full < 4294967296 := Nat.xor_lt_two_pow (n := 32) hsum (by decide)
  clear hn hr hok h
  go_enter Try.func85, Try.ntmps85
  go_wp2_with fail
  refine Ho.out.mono ?_
  rintro e w1 ⟨rfl, ht1, hT1⟩
  have HT1 := Lib.hid hT1
  have Ht1 := Lib.hid ht1
  have Hc := Lib.hid (count_add g 260 b n w1 hbn hT1.bytes (hT1.fz 260))
  clear hT1 ht1
  go_wp2_with fail
  refine Hc.out.mono ?_
  rintro e w2 ⟨rfl, rfl⟩
  have HT2 := Lib.hid (HT1.out.counted (b + n))
  have Ht2 := Lib.hid ((Ht1.out.mono (fun _ _ => trivial)).trans (TurnsIn.set w1 g 260 (.int .u64 (b + n : Nat)) (fun _ => True) trivial))
  clear HT1 Ht1 Hc Ho
  generalize (w1.setCell ⟨g, 260, none⟩ (.int .u64 (b + n : Nat))) = w2 at *
  have Hr2 := Lib.hid (Hr.out.turned hoff Ht2.out)
  go_wp2
  go_loop [7, 29] (fun r i => ∃ k : Nat, k ≤ n ∧ i = .int .i64 k ∧ ∃ m : Nat, Hid (m = reg (sum ^^^ full) (l.take k)) ∧ m < 4294967296 ∧ r = .int .u32 m) (fun _ i => n - (intOf i).toNat)
  case atStart => exact ⟨0, by omega, rfl, _, rfl, hs2, rfl⟩
  case round =>
    clear hu
    obtain ⟨k, hk, rfl, m, Hm, hm2, rfl⟩ := hrel
    by_cases hlt : k < n
    · obtain ⟨bb, o, x, rfl, hb, hx, hc⟩ := Hr2.out.at_ (k := k) (by have := Hn.out; omega)
      have Hx := Lib.hid hx
      have hx256 : x < 256 := Hok.out.at_ hx
      have hb1 : bits .xor .u8 ((m : Int) % 256) (x : Int) = ((m % 256 ^^^ x : Nat) : Int) := u8_xor_nat (m % 256) x (by omega) hx256
      have hi256 : m % 256 ^^^ x < 256 := Nat.xor_lt_two_pow (n := 8) (by omega) (by omega)
      obtain ⟨y, hy, hy2⟩ := HT2.out.tab _ hi256
      obtain rfl := hy2 rfl
      have hlt2 := stepN_lt 8 (n := m % 256 ^^^ x) (by omega)
      have hb2 : bits .xor .u32 ((m : Int) / 256) (stepN 8 (m % 256 ^^^ x) : Nat) = (byteUp m x : Nat) := by
        rw [byteUp_table]; exact u32_xor_nat (m / 256) _ (by omega) hlt2
      have hup := byteUp_lt hm2 hx256
      clear hx hy2
      generalize m % 256 ^^^ x = q at *
      generalize stepN 8 q = z at *
      go_wp2
      refine ⟨⟨k + 1, by omega, by go_num, _, ?_, hup, rfl⟩, by simp [intOf]; omega⟩
      show byteUp m x = reg (sum ^^^ full) (l.take (k + 1))
      rw [reg_succ _ Hx.out, ← Hm.out]
    · have hkn : k = n := by omega
      subst hkn
      have hu2 : bits .xor .u32 IntKind.u32.max (m : Int) = (m ^^^ full : Nat) := by
        rw [Nat.xor_comm]; exact u32_xor_nat full m (by decide) hm2
      have Hall : Hid (l.take k = l) := List.take_of_length_le (by have := Hn.out; omega)
      go_wp2
      go_ret
      exact ⟨ret_u32 (by rw [addN, Hm.out, Hall.out]), Ht2.out, HT2.out⟩

set_option maxHeartbeats 400000 in
theorem tadd_nil (sum : Int) (A : Option Addr) (n c : Nat) (w : World) :
    Calls Try.prog 85 #[.pointer none, .int .u32 sum, .slice A n c] w fun e w' => e = .returned (.int .u32 0) ∧ w = w' := by
  go_enter Try.func85, Try.ntmps85
  go_wp2
  go_ret
  exact ⟨rfl, rfl⟩
set_option maxHeartbeats 400000 in
theorem tsum_nil (v : Value) (w : World) :
    Calls Try.prog 65 #[.pointer none, v] w fun e w' => e = .returned (.int .u32 0) ∧ w = w' := by
  go_enter Try.func65, Try.ntmps65
  go_wp2
  go_ret
  exact ⟨rfl, rfl⟩
set_option maxRecDepth 100000 in
set_option maxHeartbeats 1000000 in
/-- the sum of one part; the slice of parts is a block of one slice, at block q -/
theorem tsum_any (g d s b q : Nat) (hd : d ≤ 1) (A : Option Addr) (n c : Nat) (l : List Nat) (B : Nat) (w : World) (h : Tab w g d s b) (hn : n = l.length) (hm : n ≤ maxLen) (hs : s < 18446744073709551615) (hbn : b + n < 18446744073709551616) (hr : RdB w B A l) (hok : OkB l) (hoff : Off A g l) (hq : q ≠ g) (hcq : w.cell? ⟨q, 0, none⟩ = some (.slice A n c)) :
    Calls Try.prog 65 #[.pointer (some ⟨g, 0, none⟩), .slice (some ⟨q, 0, none⟩) 1 1] w fun e w' => e = .returned (.int .u32 (sumN l : Nat)) ∧ TurnsIn w w' g (fun _ => True) ∧ Tab w' g 1 (s + 1) (b + n) := by
  have HT1 := Lib.hid (h.summed (s + 1))
  have Ht1 := Lib.hid (TurnsIn.set w g 259 (.int .u64 (s + 1 : Nat)) (fun _ => True) trivial)
  have Hc := Lib.hid (count_add g 259 s 1 w (by omega) h.sums (h.fz 259))
  have Hr1 := Lib.hid (hr.turned hoff Ht1.out)
  have hcq1 := (World.cell?_setCell_other w ⟨g, 259, none⟩ ⟨q, 0, none⟩ (.int .u64 (s + 1 : Nat)) (by intro e; injection e with e; exact hq e.symm)).trans hcq
  have Ha := Lib.hid (tadd_any g d (s + 1) b hd 0 (by decide) A n c l B _ HT1.out hn hm hbn Hr1.out hok hoff)
  rw [addN_zero] at Ha
  clear h hr hok hcq hn
  go_enter Try.func65, Try.ntmps65
  go_wp2_with fail
  refine Hc.out.mono ?_
  rintro e w2 ⟨rfl, rfl⟩
  clear Hc Hr1
  generalize (w.setCell ⟨g, 259, none⟩ (.int .u64 (s + 1 : Nat))) = w2 at *
  go_wp2
  refine wp_loop_rounds 2 ?_
  rw [rounds_succ]
  go_wp2_with fail
  refine Ha.out.mono ?_
  rintro e w3 ⟨rfl, ht3, hT3⟩
  have Ht3 := Lib.hid ht3
  have HT3 := Lib.hid hT3
  clear ht3 hT3
  go_wp2
  rw [rounds_succ]
  go_wp2
  go_ret
  exact ⟨rfl, Ht1.out.trans Ht3.out, HT3.out⟩

def zC : Array Value := (#[.int .u32 0, .int .i32 0, .int .u32 0] ++ Array.replicate 256 (.int .u32 0)) ++ #[.int .u64 0, .int .u64 0]
theorem zT_run (w : World) : (zeroValue 112).run Try.prog w = .ok (.agg zC) w := by kernel_rfl
theorem zC_step (j : Nat) (h : j < 256) : zC[3 + j]? = some (.int .u32 0) := by
  unfold zC
  rw [Array.getElem?_append_left (by simp; omega), Array.getElem?_append_right (by simp)]
  simp [h]
theorem zC_259 : zC[259]? = some (.int .u64 (0 : Nat)) := by kernel_rfl
theorem zC_260 : zC[260]? = some (.int .u64 (0 : Nat)) := by kernel_rfl
theorem frozen_new (w : World) (c : Array Value) (t : TypeId) (o : Nat) : (w.alloc (.cells c t)).frozen? ⟨w.heap.size, o, none⟩ = false :=
  World.frozen?_alloc_at _ _ _ _ rfl

set_option maxRecDepth 100000 in
set_option maxHeartbeats 400000 in
theorem cnew_any (w : World) :
    Calls Try.prog 10 #[] w fun e w' => e = .returned (.pointer (some ⟨w.heap.size, 0, none⟩)) ∧ Below w.heap.size w w' ∧ w'.heap.size = w.heap.size + 1 ∧ Tab w' w.heap.size 0 0 0 := by
  have hz := zT_run
  go_enter Try.func10, Try.ntmps10
  go_wp2
  go_ret
  have at_ : ∀ o, (w.alloc (.cells zC 112)).cell? ⟨w.heap.size, o, none⟩ = zC[o]? := fun o => by rw [World.cell?_alloc_at _ _ _ _ rfl]
  refine ⟨rfl, (Below.refl _ _).alloc (Nat.le_refl _) _, by simp, ?_⟩
  exact
    { lt := by simp
      c0 := (at_ 0).trans rfl
      c1 := (at_ 1).trans rfl
      tab := fun j hj => ⟨0, (at_ _).trans (zC_step j hj), fun e => by cases e⟩
      sums := (at_ 259).trans zC_259
      bytes := (at_ 260).trans zC_260
      fz := fun o => frozen_new _ _ _ _ }
end Go.Proofs.Ytgcfofnlgdfmoaa
