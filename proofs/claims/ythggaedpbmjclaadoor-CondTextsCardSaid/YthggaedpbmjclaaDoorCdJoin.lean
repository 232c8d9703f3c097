/- Layer 13: strings.Join of two or more words, with a blank between them. -/
import Derived.Test.YthggaedpbmjclaaDoorCdBld
import Derived.Test.YthggaedpbmjclaaDoorCdFmt
namespace Go.Proofs.YthggaedpbmjclaaDoor
open Go.RowKit Go.Proofs

/-- the words behind the first one, each with a blank ahead -/
def tailJ : List ByteArray → List UInt8
  | [] => []
  | x :: r => 32 :: (x.data.toList ++ tailJ r)
def joinJ (x : ByteArray) (r : List ByteArray) : ByteArray := ⟨(x.data.toList ++ tailJ r).toArray⟩
theorem tailJ_snoc (r : List ByteArray) (x : ByteArray) : tailJ (r ++ [x]) = tailJ r ++ (32 :: x.data.toList) := by
  induction r with
  | nil => simp [tailJ]
  | cons y r ih => simp [tailJ, ih]
theorem strCells_eq (x : ByteArray) : Lib.strCells x = Lib.byteCells x.data.toList := rfl
theorem byteCells_app (a b : List UInt8) : Lib.byteCells (a ++ b) = Lib.byteCells a ++ Lib.byteCells b := by simp [Lib.byteCells]
theorem byteCells_len (a : List UInt8) : (Lib.byteCells a).length = a.length := by simp [Lib.byteCells]
theorem tailJ_len {r : List ByteArray} (h : ∀ x ∈ r, x.size ≤ 1000) : (tailJ r).length ≤ r.length * 1001 := by
  induction r with
  | nil => simp [tailJ]
  | cons y r ih =>
    have h1 := h y (by simp)
    have h2 := ih (fun x hx => h x (by simp [hx]))
    have : y.data.toList.length = y.size := by simp
    simp [tailJ]
    simp at this
    omega
set_option maxRecDepth 100000 in
set_option maxHeartbeats 2000000 in
theorem cjoin_any (g o n c : Nat) (x0 : ByteArray) (r : List ByteArray) (w : World) (hn : n = r.length + 1) (h2 : 2 ≤ n) (h6 : n ≤ 6) (hc : n ≤ c) (hsz : ∀ x ∈ x0 :: r, x.size ≤ 1000) (hg : g < w.heap.size)
    (hr : ∀ i x, (x0 :: r)[i]? = some x → w.cell? ⟨g, o + i, none⟩ = some (.string x)) :
    Calls Tryd.prog 24 #[.slice (some ⟨g, o, none⟩) n c, .string ⟨#[32]⟩] w fun e w' => e = .returned (.string (joinJ x0 r)) ∧ Below w.heap.size w w' := by
  have HR : Hid (∀ W, Below w.heap.size w W → ∀ i x, (x0 :: r)[i]? = some x → W.cell? ⟨g, o + i, none⟩ = some (.string x)) := fun W hW i x hx => (hW.cell (p := ⟨g, o + i, none⟩) hg).trans (hr i x hx)
  have HS := Lib.hid hsz
  have HN := Lib.hid hn
  have d1 : ((n : Int) == 0) = false := by rw [beq_eq_false_iff_ne]; omega
  have d1' : (n == 0) = false := by rw [beq_eq_false_iff_ne]; omega
  have d2 : ((n : Int) == 1) = false := by rw [beq_eq_false_iff_ne]; omega
  have d2' : (n == 1) = false := by rw [beq_eq_false_iff_ne]; omega
  obtain ⟨m, hm⟩ : ∃ m, m + 1 = n := ⟨n - 1, by omega⟩
  have e1 : (n : Int) - 1 = (m : Int) := by omega
  have e2 : IntKind.i64.wrap (m : Int) = (m : Int) := by rw [IntKind.wrap_i64]; omega
  obtain ⟨q, hq⟩ : ∃ q, q = 9223372036854775807 / m := ⟨_, rfl⟩
  have hq1 : 1 < q := by
    rw [hq]
    have : m = 1 ∨ m = 2 ∨ m = 3 ∨ m = 4 ∨ m = 5 := by omega
    rcases this with rfl | rfl | rfl | rfl | rfl <;> decide
  have e3 : (9223372036854775807 : Int).tdiv (m : Int) = (q : Int) := by rw [hq]; rfl
  have d3 : decide ((q : Int) ≤ 1) = false := decide_eq_false (by omega)
  have d3' : ¬ (m : Int) = 0 := by omega
  have d3'' : ¬ m = 0 := by omega
  have HQ := Lib.hid hq
  clear hsz hn hr hq
  go_enter Tryd.func24, Tryd.ntmps24
  have e4 : IntKind.i64.wrap (q : Int) = (q : Int) := by
    have : q ≤ 9223372036854775807 := by rw [HQ.out]; exact Nat.div_le_self _ _
    rw [IntKind.wrap_i64]; omega
  go_upto_region 12 with fail
  clear d1 d1' d2 d2' d3 d3' d3'' e3 e4
  go_loopw [41, 5] (fun iv nv wx => ∃ i t : Nat, i ≤ n ∧ iv = .int .i64 i ∧ nv = .int .i64 t ∧ t ≤ 5 + i * 1000 ∧ Hid (Below w.heap.size w wx)) (fun iv _ _ => n - (intOf iv).toNat)
  case atStart => exact ⟨0, m, Nat.zero_le _, rfl, by first | rfl | simp, by omega, Below.refl _ _⟩
  case round =>
    obtain ⟨i, t, hi, rfl, rfl, ht, HB⟩ := hrel
    by_cases hlt : i < n
    · have q1 : decide ((i : Int) < (n : Int)) = true := decide_eq_true (by omega)
      have q2 : decide (i < n) = true := decide_eq_true hlt
      obtain ⟨x, hx⟩ : ∃ x, (x0 :: r)[i]? = some x := ⟨_, List.getElem?_eq_getElem (by simp; have := HN.out; omega)⟩
      have c0 := HR.out wr HB.out i x hx
      have hxs := HS.out x (List.mem_of_getElem? hx)
      obtain ⟨z, hz⟩ : ∃ z, z = x.size := ⟨_, rfl⟩
      obtain ⟨y, hy⟩ : ∃ y, y = i + 1 := ⟨_, rfl⟩
      obtain ⟨u, hu⟩ : ∃ u, u = t + z := ⟨_, rfl⟩
      obtain ⟨v, hv⟩ : ∃ v : Nat, v + t = 9223372036854775807 := ⟨9223372036854775807 - t, by omega⟩
      have e5 : (i : Int) + 1 = (y : Int) := by omega
      have e6 : IntKind.i64.wrap (y : Int) = (y : Int) := by rw [IntKind.wrap_i64]; omega
      have e7 : (9223372036854775807 : Int) - (t : Int) = (v : Int) := by omega
      have e8 : IntKind.i64.wrap (v : Int) = (v : Int) := by rw [IntKind.wrap_i64]; omega
      have e9 : (t : Int) + (x.size : Int) = (u : Int) := by omega
      have e10 : IntKind.i64.wrap (u : Int) = (u : Int) := by rw [IntKind.wrap_i64]; omega
      have d4 : decide ((v : Int) < (x.size : Int)) = false := decide_eq_false (by omega)
      have d5 : decide (v < x.size) = false := decide_eq_false (by omega)
      have HY : Hid (y = i + 1 ∧ y ≤ n ∧ u ≤ 5 + y * 1000) := ⟨hy, by omega, by omega⟩
      clear hx hz hy hu hv hxs
      go_wp2
      go_roundw
      case rel => exact ⟨y, u, HY.out.2.1, rfl, rfl, HY.out.2.2, HB⟩
      case measure => have := HY.out; simp [intOf]; omega
    · obtain rfl : i = n := by omega
      have q1 : decide ((i : Int) < (i : Int)) = false := decide_eq_false (by omega)
      have q2 : decide (i < i) = false := decide_eq_false (by omega)
      go_upto_region 19 with fail
      obtain ⟨b, hb⟩ : ∃ b, b = wr.heap.size := ⟨_, rfl⟩
      obtain ⟨w1, hw1, hc1, hb1⟩ : ∃ w1 : World, w1 = wr.alloc (.cells #[.pointer none, .slice none 0 0] 85) ∧ w1.heap[wr.heap.size]? = some (.cells #[.pointer none, .slice none 0 0] 85 (0, 0)) ∧ Below wr.heap.size wr w1 := ⟨_, rfl, heap_alloc_new _ _, (Below.refl _ _).alloc (Nat.le_refl _) _⟩
      rw [← hw1]
      rw [← hb] at hc1 ⊢
      have hbw1 := HB.out.trans (hb1.mono HB.out.size)
      have HG := Lib.hid (Tryd.Builder_Grow_fresh w.heap.size b t w1 (by rw [hb]; exact HB.out.size) hc1 hbw1.size (by omega))
      have HB1 := Lib.hid hbw1
      clear hw1 hc1 hb1 hbw1 hb q1 q2
      go_wp2_with fail
      refine HG.out.mono ?_
      rintro _ w2 ⟨rfl, hbl, hb2⟩
      have HB2 := Lib.hid (HB1.out.trans hb2)
      have hl0 : (x0 :: r)[0]? = some x0 := rfl
      have c0 : w2.cell? ⟨g, o, none⟩ = some (.string x0) := HR.out w2 HB2.out 0 x0 hl0
      have hx0 := HS.out x0 (by simp)
      have HW := Lib.hid (wstrU_any w.heap.size b [] x0 w2 hbl (by simp; omega) HB2.out.size)
      have u1 : (0 : Int) < (i : Int) := by omega
      have u2 : 0 < i := by omega
      clear hbl hb2 HG HB1 hx0
      go_wp2_with fail
      refine HW.out.mono ?_
      rintro _ w3 ⟨rfl, hbl, hb3⟩
      have HB3 := Lib.hid (HB2.out.trans hb3)
      have HBL : Hid (Lib.BuilderAt 85 5 w.heap.size b (.pointer (some ⟨b, 0, none⟩)) (Lib.byteCells (x0.data.toList ++ tailJ (r.take 0))) w3) := by
        show Lib.BuilderAt _ _ _ _ _ _ _
        rw [List.nil_append, strCells_eq] at hbl
        simpa [tailJ] using hbl
      have k1 : ¬ c = 1 := by omega
      have k2 : 1 ≤ i := by omega
      have k5 : (1 : Int) ≤ (i : Int) := by omega
      have k6 : (i : Int) ≤ (c : Int) := by omega
      have hmi : i - 1 = m := by omega
      have k8 : (c : Int) - 1 = ((c - 1 : Nat) : Int) := by omega
      clear hbl hb3 HW HB2 c0
      go_upto_region 22 with fail
      obtain ⟨c', hc'⟩ : ∃ c', c' = c - 1 := ⟨_, rfl⟩
      first | rw [hmi] | skip
      first | rw [← hc'] | skip
      clear hmi k8 hc' k1 k2 k5 k6
      have HLen : Hid (m = r.length) := by show m = r.length; have := HN.out; omega
      go_loopw [65] (fun jv wx => ∃ j : Nat, j ≤ m ∧ jv = .int .i64 j ∧ Hid (Below w.heap.size w wx ∧ Lib.BuilderAt 85 5 w.heap.size b (.pointer (some ⟨b, 0, none⟩)) (Lib.byteCells (x0.data.toList ++ tailJ (r.take j))) wx)) (fun jv _ => m - (intOf jv).toNat)
      case atStart => exact ⟨0, Nat.zero_le _, rfl, HB3.out, HBL.out⟩
      case round =>
        obtain ⟨j, hj, rfl, HI⟩ := hrel
        clear HB3 HBL
        have hlen0 : (x0.data.toList ++ tailJ (r.take j)).length ≤ 10000 := by
          have h1 := tailJ_len (r := r.take j) (fun x hx => HS.out x (by simp [List.mem_of_mem_take hx]))
          have h2 : (r.take j).length ≤ 5 := by rw [List.length_take]; have := HLen.out; omega
          have h3 : x0.size ≤ 1000 := HS.out x0 (by simp)
          have h4 : x0.data.toList.length = x0.size := by simp
          rw [List.length_append]
          omega
        by_cases hlt : j < m
        · have q1 : decide ((j : Int) < (m : Int)) = true := decide_eq_true (by omega)
          have q2 : decide (j < m) = true := decide_eq_true hlt
          obtain ⟨x, hx⟩ : ∃ x, r[j]? = some x := ⟨_, List.getElem?_eq_getElem (by have := HLen.out; omega)⟩
          have hx1 : (x0 :: r)[1 + j]? = some x := by rw [Nat.add_comm, List.getElem?_cons_succ]; exact hx
          have hxs := HS.out x (List.mem_of_getElem? hx1)
          have c0 : wr.cell? ⟨g, o + 1 + j, none⟩ = some (.string x) := by rw [Nat.add_assoc]; exact HR.out wr HI.out.1 (1 + j) x hx1
          have HW := Lib.hid (wstrU_any w.heap.size b _ ⟨#[32]⟩ wr HI.out.2 (by rw [byteCells_len]; show _ + 1 ≤ _; omega) HI.out.1.size)
          have HXS := Lib.hid hxs
          have htk : r.take (j + 1) = r.take j ++ [x] := by rw [List.take_add_one, hx]; rfl
          have HTK := Lib.hid htk
          have HL0 := Lib.hid hlen0
          obtain ⟨y, hy⟩ : ∃ y, y = j + 1 := ⟨_, rfl⟩
          have e5 : (j : Int) + 1 = (y : Int) := by omega
          have e6 : IntKind.i64.wrap (y : Int) = (y : Int) := by rw [IntKind.wrap_i64]; omega
          have HY : Hid (y = j + 1 ∧ y ≤ m) := ⟨hy, by omega⟩
          clear hx hx1 hxs htk hlen0 hy
          go_wp2_with fail
          refine HW.out.mono ?_
          rintro _ w4 ⟨rfl, hbl, hb4⟩
          have HB4 := Lib.hid (HI.out.1.trans hb4)
          have HW2 := Lib.hid (wstrU_any w.heap.size b _ x w4 hbl (by
            have h1 := HL0.out
            have h2 := HXS.out
            rw [List.length_append, byteCells_len]
            have : (Lib.strCells (⟨#[32]⟩ : ByteArray)).length = 1 := rfl
            omega) HB4.out.size)
          clear hbl hb4 HW HI c0
          go_wp2_with fail
          refine HW2.out.mono ?_
          rintro _ w5 ⟨rfl, hbl, hb5⟩
          have HI5 : Hid (Below w.heap.size w w5 ∧ Lib.BuilderAt 85 5 w.heap.size b (.pointer (some ⟨b, 0, none⟩)) (Lib.byteCells (x0.data.toList ++ tailJ (r.take y))) w5) := by
            refine ⟨HB4.out.trans hb5, ?_⟩
            rw [HY.out.1, HTK.out, tailJ_snoc, ← List.append_assoc, byteCells_app]
            have e : Lib.byteCells (32 :: x.data.toList) = Lib.strCells (⟨#[32]⟩ : ByteArray) ++ Lib.strCells x := rfl
            rw [e, ← List.append_assoc]
            exact hbl
          clear hbl hb5 HW2 HB4
          go_wp2
          go_roundw
          case rel => exact ⟨y, HY.out.2, rfl, HI5.out⟩
          case measure => have := HY.out; simp [intOf]; omega
        · obtain rfl : j = m := by omega
          have q1 : decide ((j : Int) < (j : Int)) = false := decide_eq_false (by omega)
          have q2 : decide (j < j) = false := decide_eq_false (by omega)
          have hbl := HI.out.2
          rw [List.take_of_length_le (by have := HLen.out; omega)] at hbl
          have HSt := Lib.hid (Tryd.Builder_String_any w.heap.size b _ wr (.inr hbl) HI.out.1.size)
          clear hbl hlen0
          go_wp2_with fail
          refine HSt.out.mono ?_
          rintro _ w4 ⟨rfl, hb4⟩
          have HB4 := Lib.hid (HI.out.1.trans hb4)
          clear hb4 HSt HI
          go_wp2
          go_ret
          exact ⟨rfl, HB4.out⟩
end Go.Proofs.YthggaedpbmjclaaDoor
