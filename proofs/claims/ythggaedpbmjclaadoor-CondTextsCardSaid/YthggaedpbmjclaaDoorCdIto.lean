/- Layer 13: numbers printed, the document's own. -/
import Derived.Test.YthggaedpbmjclaaDoorCdFmt
namespace Go.Proofs.YthggaedpbmjclaaDoor
open Go.RowKit Go.Proofs

def digB (d : Nat) : ByteArray := ⟨#[UInt8.ofNat (48 + d)]⟩
theorem decB_one {u : Nat} (h : u < 10) : decB u = digB u := by
  unfold decB digB
  rw [Lib.decDigits_one h]
theorem decB_more {u : Nat} (h : ¬ u < 10) : decB (u / 10) ++ digB (u % 10) = decB u := by
  have e : Lib.decDigits u = Lib.decDigits (u / 10) ++ [UInt8.ofNat (48 + u % 10)] := by rw [Lib.decDigits, dif_neg h]
  unfold decB digB
  rw [e, ← List.append_toArray]
  apply ByteArray.ext
  simp
theorem decB_size (u : Nat) (h : u < 18446744073709551616) : (decB u).size ≤ 20 := by
  have e : (decB u).size = Lib.nDigits u := by
    show (Lib.decDigits u).toArray.size = _
    rw [List.size_toArray, Lib.decDigits_length]
  rw [e]
  rcases Nat.eq_zero_or_pos u with h0 | h0
  · subst h0
    rw [← Lib.decDigits_length, Lib.decDigits_one (by decide)]
    decide
  · have := Lib.numDigits_eq u h0 h; split at this <;> omega
set_option maxRecDepth 100000 in
set_option maxHeartbeats 1000000 in
theorem ritoa_any : ∀ (u : Nat) (w : World), u < 18446744073709551616 →
    Calls Tryd.prog 26 #[.int .u64 u] w fun e w' => e = .returned (.string (decB u)) ∧ Below w.heap.size w w' := by
  intro u
  induction u using Nat.strongRecOn with
  | ind u ih =>
    intro w hu
    obtain ⟨d, hd⟩ : ∃ d, d = u % 10 := ⟨_, rfl⟩
    have hd10 : d < 10 := by omega
    obtain ⟨c, hc⟩ : ∃ c, c = 48 + d := ⟨_, rfl⟩
    have e1 : (u : Int) % 10 = (d : Int) := by omega
    have e2 : (48 : Int) + (d : Int) = (c : Int) := by omega
    have e3 : IntKind.u64.wrap (c : Int) = (c : Int) := by rw [IntKind.wrap_u64]; omega
    have e4 : IntKind.u8.wrap (c : Int) = (c : Int) := by rw [IntKind.wrap_u8]; omega
    obtain ⟨w1, hw1, hc1, hb1⟩ : ∃ w1 : World, w1 = w.alloc (.cells #[.int .u8 c] 5) ∧ w1.heap[w.heap.size]? = some (.cells #[.int .u8 c] 5 (0, 0)) ∧ Below w.heap.size w w1 := ⟨_, rfl, heap_alloc_new _ _, (Below.refl _ _).alloc (Nat.le_refl _) _⟩
    have hcv : ∀ cap, (convert 83 9 (.slice (some ⟨w.heap.size, 0, none⟩) 1 cap)).run Tryd.prog w1 = .ok (.string (digB d)) w1 := fun cap => by
      have h := run_convert_bytes_back (P := Tryd.prog) w1 83 9 5 ⟨w.heap.size, 0, none⟩ cap [UInt8.ofNat (48 + d)] Tryd.underlying83 Tryd.underlying5 Tryd.underlying9 (fun j hj => by
        have hj0 : j = 0 := by simpa using hj
        subst hj0
        rw [Addr.add_lit, cell_of_row _ _ _ _ _ _ hc1]
        have : (UInt8.ofNat (48 + d)).toNat = c := by rw [UInt8.toNat_ofNat', hc]; omega
        simp
        omega)
      exact h
    rw [hw1] at hcv
    have HW1 := Lib.hid hw1
    have HB1 := Lib.hid hb1
    have HD := Lib.hid hd
    clear hw1 hc1 hb1 hc hd
    by_cases h9 : 9 < u
    · have d1 : decide ((9 : Int) < (u : Int)) = true := decide_eq_true (by omega)
      have d2 : decide (9 < u) = true := decide_eq_true h9
      obtain ⟨q, hq⟩ : ∃ q, q = u / 10 := ⟨_, rfl⟩
      have e5 : (u : Int) / 10 = (q : Int) := by omega
      have e6 : (u : Int).tdiv 10 = (q : Int) := by rw [Int.tdiv_eq_ediv_of_nonneg (by omega)]; omega
      have hI := ih q (by omega) w1 (by omega)
      have HI := Lib.hid hI
      have hsz := decB_size q (by omega)
      have hdB : (digB d).size = 1 := rfl
      have d3 : ¬ 9223372036854775807 < (decB q).size + (digB d).size := by omega
      have d4 : ¬ 9223372036854775807 < (decB q).size + 1 := by omega
      have HE : Hid (decB q ++ digB d = decB u) := by show _ = _; rw [hq, HD.out]; exact decB_more (by omega)
      clear hI ih hsz hq
      go_enter Tryd.func26, Tryd.ntmps26
      go_upto_region 2 with fail
      rw [← HW1.out]
      clear hcv
      go_wp2_with fail
      refine HI.out.mono ?_
      rintro _ w2 ⟨rfl, hb2⟩
      have HB2 := Lib.hid (HB1.out.trans (hb2.mono HB1.out.size))
      clear hb2 HB1
      go_wp2
      go_ret
      exact ⟨by rw [← HE.out]; rfl, HB2.out⟩
    · have d1 : decide ((9 : Int) < (u : Int)) = false := decide_eq_false (by omega)
      have d2 : decide (9 < u) = false := decide_eq_false h9
      have HE : Hid (digB d = decB u) := by show _ = _; rw [decB_one (by omega), HD.out, Nat.mod_eq_of_lt (by omega)]
      clear ih
      go_enter Tryd.func26, Tryd.ntmps26
      go_upto_region 2 with fail
      rw [← HW1.out]
      clear hcv
      go_wp2
      go_ret
      exact ⟨by rw [← HE.out]; rfl, HB1.out⟩
set_option maxRecDepth 100000 in
set_option maxHeartbeats 1000000 in
theorem rsigned_any (z : Int) (h0 : -9223372036854775808 ≤ z) (h1 : z < 9223372036854775808) (w : World) :
    Calls Tryd.prog 25 #[.int .i64 z] w fun e w' => e = .returned (.string (itoB z)) ∧ Below w.heap.size w w' := by
  by_cases hn : z < 0
  · obtain ⟨u, hu⟩ : ∃ u : Nat, (u : Int) = -z := ⟨(-z).toNat, by omega⟩
    have d1 : decide (z < 0) = true := decide_eq_true hn
    have e1 : IntKind.i64.wrap (z + 1) = z + 1 := by rw [IntKind.wrap_i64]; omega
    obtain ⟨m, hm⟩ : ∃ m : Nat, (m : Int) = -(z + 1) := ⟨(-(z + 1)).toNat, by omega⟩
    have e2 : IntKind.i64.wrap (-(z + 1)) = (m : Int) := by rw [IntKind.wrap_i64]; omega
    have e3 : IntKind.u64.wrap (m : Int) = (m : Int) := by rw [IntKind.wrap_u64]; omega
    have e4 : (m : Int) + 1 = (u : Int) := by omega
    have e5 : IntKind.u64.wrap (u : Int) = (u : Int) := by rw [IntKind.wrap_u64]; omega
    have HI := Lib.hid (ritoa_any u w (by omega))
    have hsz := decB_size u (by omega)
    have d3 : ¬ 9223372036854775807 < 1 + (decB u).size := by omega
    have HE : Hid ((⟨#[45]⟩ : ByteArray) ++ decB u = itoB z) := by
      show _ = _
      have hz : z = -(u : Int) := by omega
      unfold itoB decB
      rw [hz, Lib.itoa_neg u (by omega)]
      apply ByteArray.ext
      simp
    clear hu hm hsz
    go_enter Tryd.func25, Tryd.ntmps25
    go_wp2_with fail
    refine HI.out.mono ?_
    rintro _ w2 ⟨rfl, hb2⟩
    have HB2 := Lib.hid hb2
    clear hb2
    go_wp2
    go_ret
    exact ⟨by rw [← HE.out]; rfl, HB2.out⟩
  · obtain ⟨u, hu⟩ : ∃ u : Nat, (u : Int) = z := ⟨z.toNat, by omega⟩
    have d1 : decide (z < 0) = false := decide_eq_false hn
    have e1 : IntKind.u64.wrap z = (u : Int) := by rw [IntKind.wrap_u64]; omega
    have HI := Lib.hid (ritoa_any u w (by omega))
    have HE : Hid (decB u = itoB z) := by
      show _ = _
      unfold itoB decB
      rw [← hu, Lib.itoa_nonneg u]
    clear hu
    go_enter Tryd.func25, Tryd.ntmps25
    go_wp2_with fail
    refine HI.out.mono ?_
    rintro _ w2 ⟨rfl, hb2⟩
    have HB2 := Lib.hid hb2
    clear hb2
    go_wp2
    go_ret
    exact ⟨by rw [← HE.out]; rfl, HB2.out⟩
end Go.Proofs.YthggaedpbmjclaaDoor
