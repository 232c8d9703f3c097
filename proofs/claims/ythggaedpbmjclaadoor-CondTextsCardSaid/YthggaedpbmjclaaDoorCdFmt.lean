/- Layer 13: what the listed variables hold; a number printed. -/
import Derived.Test.YthggaedpbmjclaaDoorCdNum
import Derived.Lib.AppendIntMem
import Derived.Lib.ItoaMem
import Derived.Deep.DeepCutAuto
import Derived.Deep.CutBlock
namespace Go.Proofs.YthggaedpbmjclaaDoor
open Go.RowKit Go.Proofs

def nameA : ByteArray := ⟨#[97, 98, 111, 118, 101]⟩
def nameB : ByteArray := ⟨#[98, 101, 108, 111, 119]⟩
def nameC : ByteArray := ⟨#[97, 98, 115, 101, 110, 116]⟩
def nameR : ByteArray := ⟨#[114, 105, 115, 101, 115]⟩
def nameF : ByteArray := ⟨#[102, 97, 108, 108, 115]⟩
/-- the kinds' words -/
def nameK (k : Nat) : ByteArray := match k with | 1 => nameA | 2 => nameB | 3 => nameC | 4 => nameR | 5 => nameF | _ => ⟨#[]⟩
def limK (k : Nat) : Bool := match k with | 1 => true | 2 => true | 4 => true | 5 => true | _ => false
def tkK (k : Nat) : Bool := match k with | 3 => true | 4 => true | 5 => true | _ => false
def spK (k : Nat) : List Value := [.string (nameK k), .bool (limK k), .bool (tkK k)]
/-- what the call finds in the variables -/
structure GlT (w : World) : Prop where
  gc : GlC w
  tab : Lib.TabIs Tryd.prog w "internal/strconv.uint64pow10" .u64 Lib.pow10Tab
  sp : ∀ k, k < 6 → w.rangeAt 0 (k * 3) (spK k)
theorem GlT.below {w w' : World} (h : GlT w) (hb : Below w.heap.size w w') : GlT w' :=
  ⟨h.gc.below hb, Lib.tabBelow_of_tabIs h.tab _ hb, fun k hk j v hj => by
    have h1 := h.sp k hk j v hj
    exact (hb.cell (p := ⟨0, k * 3 + j, none⟩) (World.block_lt_of_cell? _ _ h1)).trans h1⟩
theorem Tryd.zero24 (w : World) : (zeroValue 92).run Tryd.prog w = .ok (.agg Lib.zeros24) w := by kernel_rfl
def decB (u : Nat) : ByteArray := ⟨(Lib.decDigits u).toArray⟩
def itoB (z : Int) : ByteArray := ⟨(Lib.itoa z).toArray⟩
set_option maxRecDepth 100000 in
set_option maxHeartbeats 1000000 in
theorem fmtu_in (u : Nat) (hu64 : u < 18446744073709551616) (w : World) (ht : Lib.TabIs Tryd.prog w "internal/strconv.uint64pow10" .u64 Lib.pow10Tab) :
    Calls Tryd.prog 36 #[.int .u64 u, .int .i64 10] w fun e w' => e = .returned (.string (decB u)) ∧ Below w.heap.size w w' := by
  by_cases h100 : u < 100
  · have HS := Lib.hid (Tryd.internal_strconv_small u h100 w)
    have d1 : decide ((u : Int) < 100) = true := decide_eq_true (by omega)
    have d2 : decide (u < 100) = true := decide_eq_true h100
    have e1 : IntKind.i64.wrap (u : Int) = (u : Int) := by rw [IntKind.wrap_i64]; omega
    go_enter Tryd.func36, Tryd.ntmps36
    go_wp2_with fail
    refine HS.out.mono ?_
    rintro _ w1 ⟨rfl, hw1⟩
    obtain rfl : w = w1 := hw1.symm
    go_wp2
    go_ret
    exact ⟨rfl, Below.refl _ _⟩
  · have d1 : decide ((u : Int) < 100) = false := decide_eq_false (by omega)
    have d2 : decide (u < 100) = false := decide_eq_false h100
    have hu1 : 1 ≤ u := by omega
    obtain ⟨n, hn⟩ : ∃ n, n = Lib.nDigits u := ⟨_, rfl⟩
    have hnd20 : Lib.nDigits u ≤ 20 := by have := Lib.numDigits_eq u hu1 hu64; split at this <;> omega
    have hn20 : n ≤ 20 := by omega
    obtain ⟨V, hV⟩ : ∃ V, V = w.alloc (.cells Lib.zeros24 92) := ⟨_, rfl⟩
    have hnum := Tryd.internal_strconv_numDigits u hu1 hu64 V (by rw [hV]; exact Lib.tabIs_alloc ht _)
    have hH0 := Lib.holds_zero0 w 92 n (by omega)
    rw [← hV] at hH0
    have hfmt := Tryd.internal_strconv_formatBase10 w.heap.size 0 24 u (Array.replicate n 0) V hH0 (by rw [Array.size_replicate, hn]; exact Lib.lt_pow_nDigits u) hu64 (by rw [Array.size_replicate]; omega)
    rw [Array.size_replicate] at hfmt
    rw [← hn] at hnum
    have HN := Lib.hid hnum
    have HF := Lib.hid hfmt
    have HH := Lib.hid hH0
    have HV := Lib.hid hV
    have HNN := Lib.hid hn
    have hz := Tryd.zero24
    have k1 : (n : Int) ≤ 24 := by omega
    obtain ⟨b, hb⟩ : ∃ b, b = w.heap.size := ⟨_, rfl⟩
    rw [← hb] at HF HH
    have HBB := Lib.hid hb
    clear hnum hfmt hH0 hV hn hnd20 hb ht
    go_enter Tryd.func36, Tryd.ntmps36
    go_upto_region 5 with fail
    rw [← HV.out, ← HBB.out]
    go_wp2_with fail
    refine HN.out.mono ?_
    rintro _ w1 ⟨rfl, hw1⟩
    obtain rfl : V = w1 := hw1.symm
    have hsl : ∀ W, (Instr.sliceAt 92 (.pointer (some ⟨b, 0, none⟩)) none (some (.int .i64 (n : Int))) none).run Tryd.prog W = .ok (.slice (some ⟨b, 0, none⟩) n 24) W := fun W => by
      have hal : Tryd.prog.arrayLen 92 = 24 := by kernel_rfl
      rw [run_sliceAt_array_h W 92 ⟨b, 0, none⟩ (by kernel_rfl) .i64 (n : Int) (by omega) (by rw [hal]; omega)]
      go_simp
    go_wp2_with fail
    refine HF.out.mono ?_
    rintro _ w1 ⟨rfl, k, v', dk, hw1, hFI⟩
    have hcv : (convert 83 9 (.slice (some ⟨b, 0, none⟩) n 24)).run Tryd.prog w1 = .ok (.string (decB u)) w1 := by
      have hFI' : Lib.FmtInv (Lib.nDigits u) u 0 v' dk := by rw [← HNN.out]; exact hFI
      have hlen : (Lib.decDigits u).length = n := by rw [Lib.decDigits_length, HNN.out]
      have h := run_convert_bytes_back (P := Tryd.prog) w1 83 9 5 ⟨b, 0, none⟩ 24 (Lib.decDigits u) Tryd.underlying83 Tryd.underlying5 Tryd.underlying9 (fun j hj => by
        rw [Lib.row_is_numeral hFI' j hj, Lib.add_plain, hw1, World.cell?_drewN]
        exact Go.Sort.cell?_putRow (fun (b : UInt8) => Value.int .u8 (b.toNat : Int)) _ b 0 _ dk HH.out (by rw [hFI.size, Array.size_replicate]) j (by rw [hFI.size]; omega))
      rw [hlen] at h
      exact h
    have hb1 : Below w.heap.size w w1 := by
      rw [hw1, HV.out, HBB.out]
      obtain ⟨os, eo⟩ := Lib.fin_at w (.cells Lib.zeros24 92) dk k 0
      rw [eo]
      exact Lib.below_grow _ _ (Nat.le_refl _) _ _
    have HB1 := Lib.hid hb1
    clear hw1 hFI hb1 HF HH HN HV
    go_wp2
    go_ret
    exact ⟨rfl, HB1.out⟩
set_option maxRecDepth 100000 in
set_option maxHeartbeats 400000 in
theorem fmtu_any (u : Nat) (hu64 : u < 18446744073709551616) (w : World) (ht : GlT w) :
    Calls Tryd.prog 23 #[.int .u64 u, .int .i64 10] w fun e w' => e = .returned (.string (decB u)) ∧ Below w.heap.size w w' := by
  have H := Lib.hid (fmtu_in u hu64 w ht.tab)
  clear ht
  go_enter Tryd.func23, Tryd.ntmps23
  go_wp2_with fail
  refine H.out.mono ?_
  rintro _ w1 ⟨rfl, hb⟩
  have HB := Lib.hid hb
  clear hb
  go_wp2
  go_ret
  exact ⟨rfl, HB.out⟩
theorem fmti_any (z : Int) (h0 : -9223372036854775808 ≤ z) (h1 : z < 9223372036854775808) (w : World) (ht : GlT w) :
    Calls Tryd.prog 22 #[.int .i64 z, .int .i64 10] w fun e w' => e = .returned (.string (itoB z)) ∧ Below w.heap.size w w' := by
  refine (Tryd.strconv_FormatInt_10 z h0 (by omega) w ht.tab).mono ?_
  rintro e w' ⟨rfl, k, os, rfl⟩
  exact ⟨rfl, Lib.below_grow _ _ (Nat.le_refl _) _ _⟩
end Go.Proofs.YthggaedpbmjclaaDoor
