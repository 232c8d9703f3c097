/- Layer 13: a condition's text: the program's own. -/
import Derived.Test.YthggaedpbmjclaaDoorCdJoin
import Derived.Test.YthggaedpbmjclaaDoorCdIto
import Derived.Test.YthggaedpbmjclaaDoorCdKnd
import Derived.Deep.AppendLies
namespace Go.Proofs.YthggaedpbmjclaaDoor
open Go.RowKit Go.Proofs

theorem Tryd.infoStr3 : (Tryd.prog.info? 9).map (fun i => (i.zero, i.size, i.bytes)) = some (some (.string ⟨#[]⟩), 1, 16) := by kernel_rfl
theorem Tryd.infoSpl : (Tryd.prog.info? 62).map (·.size) = some 3 := by kernel_rfl
theorem itoB_size (z : Int) (h0 : -9223372036854775808 ≤ z) (h1 : z < 9223372036854775808) : (itoB z).size ≤ 21 := by
  by_cases hn : z < 0
  · obtain ⟨u, hu⟩ : ∃ u : Nat, (u : Int) = -z := ⟨(-z).toNat, by omega⟩
    have := decB_size u (by omega)
    have e : itoB z = ⟨(45 :: Lib.decDigits u).toArray⟩ := by
      unfold itoB
      rw [show z = -(u : Int) by omega, Lib.itoa_neg u (by omega)]
    rw [e]
    show (45 :: Lib.decDigits u).toArray.size ≤ 21
    have e2 : (decB u).size = (Lib.decDigits u).length := by show (Lib.decDigits u).toArray.size = _; simp
    simp
    omega
  · obtain ⟨u, hu⟩ : ∃ u : Nat, (u : Int) = z := ⟨z.toNat, by omega⟩
    have := decB_size u (by omega)
    have e : itoB z = decB u := by
      unfold itoB decB
      rw [← hu, Lib.itoa_nonneg u]
    rw [e]
    omega
/-- the words of a condition -/
def wordsF (k : Nat) (lim : Int) (tk : Nat) : List ByteArray := (if limK k then [itoB lim] else []) ++ (if tkK k then [decB tk] else [])
def textF (k : Nat) (lim : Int) (tk : Nat) : ByteArray := if k < 1 ∨ 5 < k then ⟨#[]⟩ else joinJ (nameK k) (wordsF k lim tk)
/-- a row of words that the call itself has made -/
def RowS (B : Nat) (w : World) (v : Value) (l : List ByteArray) : Prop := w.ownsRow B 9 1 v l.length (l.map Value.string)
theorem rowS_one (B : Nat) (w : World) (x : ByteArray) (hB : B ≤ w.heap.size) : RowS B (w.alloc (.cells #[.string x] 9)) (.slice (some ⟨w.heap.size, 0, none⟩) 1 1) [x] :=
  ⟨rfl, .inr ⟨w.heap.size, 1, #[.string x], rfl, hB, heap_alloc_new _ _, Nat.le_refl _, by decide, rfl, rfl⟩⟩
theorem rowS_join {B : Nat} {w : World} {g c n : Nat} {x0 : ByteArray} {r : List ByteArray} (h : RowS B w (.slice (some ⟨g, 0, none⟩) n c) (x0 :: r)) : n = r.length + 1 ∧ n ≤ c ∧ g < w.heap.size ∧ ∀ i x, (x0 :: r)[i]? = some x → w.cell? ⟨g, 0 + i, none⟩ = some (.string x) := by
  rcases h.2 with ⟨e, _⟩ | ⟨g', cap, cur, e, h1, h2, h3, h4, h5, h6⟩
  · cases e
  · injection e with e1 e2 e3
    injection e1 with e1
    have e1 : g = g' := congrArg Addr.block e1
    subst e1; subst e3
    refine ⟨by simpa using e2, by rw [e2]; exact h3, (Array.getElem?_eq_some_iff.1 h2).1, fun i x hx => ?_⟩
    have hil := (List.getElem?_eq_some_iff.1 hx).1
    rw [cell_of_row _ _ _ _ _ _ h2, Nat.zero_add, ← Array.getElem?_toList]
    have hm : ((x0 :: r).map Value.string)[i]? = some (.string x) := by rw [List.getElem?_map, hx]; rfl
    rw [← h6, List.getElem?_take_of_lt (by omega)] at hm
    exact hm
theorem wpList_app_word {B : Nat} {w : World} {l : List ByteArray} {v : Value} {x : ByteArray} {ops : Array Oper} {rest : List Oper} {o : Oper} {a : Act} {Q : Exit → Act → World → Prop} (hgd : o.guard = none) (s y : Operand)
    (ho : o.op = .call { callee := .builtin .append, args := #[s, y], argTypes := #[22, 22] }) (hv : a.eval s = v) (h : RowS B w v l) (hl : l.length ≤ 1000) {ad : Addr} {c2 : Nat} (hy : a.eval y = .slice (some ad) 1 c2)
    (hx : w.cell? (ad.add 0) = some (.string x)) (hB : B ≤ w.heap.size)
    (hK : ∀ g cap w', RowS B w' (.slice (some ⟨g, 0, none⟩) (l.length + 1) cap) (l ++ [x]) → (∀ w0, Below B w0 w → Below B w0 w') → wpList Tryd.prog ops Q rest (a.put o.dst (.slice (some ⟨g, 0, none⟩) (l.length + 1) cap)) w') : wpList Tryd.prog ops Q (o :: rest) a w := by
  obtain ⟨i0, hi, hz0, hz1, hz2⟩ := info_parts Tryd.infoStr3
  refine wpList_append_lies w hgd s y 22 ho B 9 i0 _ 1 16 Tryd.underlying22 hi hz0 hz1 hz2 rfl (by decide) v l.length (l.map Value.string) hv h ad 1 c2 [.string x] hy rfl (fun j u hj => ?_) (fun u hu => ?_) (by decide) (by unfold maxLen; omega) (by omega) hB w.heap.size rfl ?_
  · match j, hj with
    | 0, hj => rw [hx]; simpa using hj
    | j + 1, hj => simp at hj
  · simp at hu; subst hu; rfl
  · intro g cap w' hown hg hat hlt
    refine hK g cap w' ?_ (fun w0 h0 => h0.trans ⟨hg.os, hg.tape, hg.output, hg.size, fun k hk => hg.block k (by omega) (fun e => ?_)⟩)
    · show w'.ownsRow _ _ _ _ _ _
      rw [List.length_append, List.map_append]
      exact hown
    · have := (World.ownsRow.lt h k e.symm).1
      omega
theorem RowS.below {B : Nat} {w w' : World} {v : Value} {l : List ByteArray} (h : RowS B w v l) (hb : Below w.heap.size w w') : RowS B w' v l :=
  World.ownsRow.kept h (row := none) ⟨hb.os, hb.tape, hb.output, hb.size, fun k hk _ => hb.block k hk⟩ (by
    rcases h.2 with ⟨rfl, _⟩ | ⟨g, cap, cur, rfl, _⟩
    · exact Or.inl rfl
    · exact Or.inr (by simp [Value.ownBlock]))
theorem wordBox (W : World) (x : ByteArray) : ∃ V, V = W.alloc (.cells #[.string x] 9) ∧ V.cell? ((⟨W.heap.size, 0, none⟩ : Addr).add 0) = some (.string x) ∧ Below W.heap.size W V := by
  refine ⟨_, rfl, ?_, (Below.refl _ _).alloc (Nat.le_refl _) _⟩
  rw [Addr.add_lit, cell_of_row _ _ _ _ _ _ (heap_alloc_new _ _)]
  rfl
set_option maxRecDepth 100000 in
set_option maxHeartbeats 4000000 in
theorem ctext_any (k : Nat) (lim : Int) (tk : Nat) (w : World) (h0 : -9223372036854775808 ≤ lim) (h1 : lim < 9223372036854775808) (h2 : tk < 18446744073709551616) (ht : GlT w) :
    Calls Tryd.prog 11 #[.agg #[.int .u8 k, .int .i64 lim, .int .u64 tk]] w fun e w' => e = .returned (.string (textF k lim tk)) ∧ Below w.heap.size w w' := by
  obtain ⟨O, hO⟩ : ∃ O, O = textF k lim tk := ⟨_, rfl⟩
  rw [← hO]
  by_cases hk : k < 1 ∨ 5 < k
  · have E : Hid (O = ⟨#[]⟩) := by show O = _; rw [hO]; unfold textF; rw [if_pos hk]
    clear hO ht
    by_cases hk1 : k < 1
    · have d1 : decide ((k : Int) < 1) = true := decide_eq_true (by omega)
      have d1' : decide (k < 1) = true := decide_eq_true hk1
      go_enter Tryd.func11, Tryd.ntmps11
      go_wp2
      go_ret
      exact ⟨by rw [E.out]; rfl, (Below.refl _ _).alloc (Nat.le_refl _) _⟩
    · have d1 : decide ((k : Int) < 1) = false := decide_eq_false (by omega)
      have d1' : decide (k < 1) = false := decide_eq_false hk1
      have d2 : decide ((5 : Int) < (k : Int)) = true := decide_eq_true (by omega)
      have d2' : decide (5 < k) = true := decide_eq_true (by omega)
      go_enter Tryd.func11, Tryd.ntmps11
      go_wp2
      go_ret
      exact ⟨by rw [E.out]; rfl, (Below.refl _ _).alloc (Nat.le_refl _) _⟩
  have d1 : decide ((k : Int) < 1) = false := decide_eq_false (by omega)
  have d1' : decide (k < 1) = false := decide_eq_false (by omega)
  have d2 : decide ((5 : Int) < (k : Int)) = false := decide_eq_false (by omega)
  have d2' : decide (5 < k) = false := decide_eq_false (by omega)
  have E : Hid (O = joinJ (nameK k) (wordsF k lim tk)) := by show O = _; rw [hO]; unfold textF; rw [if_neg hk]
  obtain ⟨w1, hw1, hc1, hb1, hs1⟩ : ∃ w1 : World, w1 = w.alloc (.cells #[.int .u8 k, .int .i64 lim, .int .u64 tk] 26) ∧ w1.heap[w.heap.size]? = some (.cells #[.int .u8 k, .int .i64 lim, .int .u64 tk] 26 (0, 0)) ∧ Below w.heap.size w w1 ∧ w1.heap.size = w.heap.size + 1 := ⟨_, rfl, heap_alloc_new _ _, (Below.refl _ _).alloc (Nat.le_refl _) _, by simp⟩
  have ht1 := ht.below hb1
  have HSP := Lib.hid (ht1.sp k (by omega))
  obtain ⟨w2, hw2, hc2, hb2, hs2⟩ := boxP2 w1 62 #[.string ⟨#[]⟩, .bool false, .bool false] (spK k).toArray
  have hb02 := hb1.trans (hb2.mono hb1.size)
  obtain ⟨bc, hbc⟩ : ∃ b, b = w.heap.size := ⟨_, rfl⟩
  obtain ⟨bp, hbp⟩ : ∃ b, b = w1.heap.size := ⟨_, rfl⟩
  rw [← hbp] at hc2
  have HC : Hid (∀ W, Below w2.heap.size w2 W → W.cell? ⟨bc, 1, none⟩ = some (.int .i64 lim) ∧ W.cell? ⟨bc, 2, none⟩ = some (.int .u64 tk) ∧ W.cell? ⟨bp, 0, none⟩ = some (.string (nameK k)) ∧ W.cell? ⟨bp, 1, none⟩ = some (.bool (limK k)) ∧ W.cell? ⟨bp, 2, none⟩ = some (.bool (tkK k)) ∧ GlT W ∧ Below w.heap.size w W) := fun W hW => by
    have e1 : W.heap[bc]? = some (.cells #[.int .u8 k, .int .i64 lim, .int .u64 tk] 26 (0, 0)) := by rw [hbc]; exact (hW.block _ (by omega)).trans ((hb2.block _ (by omega)).trans hc1)
    have e2 : W.heap[bp]? = some (.cells (spK k).toArray 62 (0, 0)) := (hW.block _ (by omega)).trans hc2
    have hbW := hb02.trans (hW.mono hb02.size)
    exact ⟨cell_of_row _ _ 1 _ _ _ e1, cell_of_row _ _ 2 _ _ _ e1, cell_of_row _ _ 0 _ _ _ e2, cell_of_row _ _ 1 _ _ _ e2, cell_of_row _ _ 2 _ _ _ e2, ht.below hbW, hbW⟩
  have HI := Lib.hid (fun W hW => fmti_any lim h0 h1 W hW)
  have HU := Lib.hid (fun W hW => fmtu_any tk h2 W hW)
  have HSI := Lib.hid (itoB_size lim h0 h1)
  have HSU := Lib.hid (decB_size tk h2)
  have HNM : Hid ((nameK k).size ≤ 6) := by
    have h : k = 1 ∨ k = 2 ∨ k = 3 ∨ k = 4 ∨ k = 5 := by omega
    show (nameK k).size ≤ 6
    rcases h with rfl | rfl | rfl | rfl | rfl <;> decide
  have HW1 := Lib.hid hw1
  have HW2 := Lib.hid hw2
  have HBC := Lib.hid hbc
  have HBP := Lib.hid hbp
  have k6 : k < 6 := by omega
  have k6' : (k : Int) < 6 := by omega
  have HK : Hid (1 ≤ k ∧ k ≤ 5) := by show _ ∧ _; omega
  have cc0 : w1.cell? ⟨bc, 0, none⟩ = some (.int .u8 k) := by rw [hbc]; exact cell_of_row _ _ 0 _ _ _ hc1
  clear hO ht hw1 hc1 hb1 hs1 ht1 hw2 hc2 hb2 hs2 hb02 hbc hbp h0 h1 h2
  go_enter Tryd.func11, Tryd.ntmps11
  go_upto_region 1 with fail
  rw [← HW1.out, ← HBC.out]
  go_upto_region 4 with (first
    | (refine wpList_load_mid rfl _ _ rfl 0 (k * 3) rfl (spK k) _ HSP.out Tryd.underlying62 rfl Tryd.infoSpl ?_)
    | (refine wpList_store_row rfl _ _ _ rfl w1.heap.size (spK k).toArray rfl rfl _ _ (heap_alloc_new _ _) Tryd.infoSpl rfl (by simp [Value.oneCell', spK]) ?_)
    | fail)
  first | rw [← HW2.out, act_put_pt] | rw [← HW2.out]
  rw [← HBP.out]
  obtain ⟨c1, c2, p0, p1, p2, -, -⟩ := HC.out w2 (Below.refl _ _)
  go_upto_region 5 with fail
  clear c1 c2 p0 p1 p2 cc0 HSP
  have hr3 := rowS_one w2.heap.size w2 (nameK k) (Nat.le_refl _)
  obtain ⟨w3, hw3, hb3⟩ : ∃ w3 : World, w3 = w2.alloc (.cells #[.string (nameK k)] 9) ∧ Below w2.heap.size w2 w3 := ⟨_, rfl, (Below.refl _ _).alloc (Nat.le_refl _) _⟩
  rw [← hw3] at hr3 ⊢
  obtain ⟨g3, hg3⟩ : ∃ g, g = w2.heap.size := ⟨_, rfl⟩
  obtain ⟨B2, hB2⟩ : ∃ g, g = w2.heap.size := ⟨_, rfl⟩
  have HR3 : Hid (RowS w2.heap.size w3 (.slice (some ⟨g3, 0, none⟩) 1 1) [nameK k]) := by rw [hg3]; exact hr3
  rw [← hg3]
  have HB3 := Lib.hid hb3
  clear hr3 hw3 hb3 hg3 hB2
  obtain ⟨c1, c2, p0, p1, p2, ht3, -⟩ := HC.out w3 HB3.out
  have HT3 := Lib.hid ht3
  clear ht3
  cases hl : limK k with
  | true =>
    rw [hl] at p1
    go_wp2_with fail
    refine (HI.out w3 HT3.out).mono ?_
    rintro _ w4 ⟨rfl, hbi⟩
    have HBI := Lib.hid hbi
    clear hbi c1 c2 p0 p1 p2
    obtain ⟨W4, hW4, hx4, hb4⟩ := wordBox w4 (itoB lim)
    have HX4 := Lib.hid hx4
    have HR4 := Lib.hid ((HR3.out.below HBI.out).below hb4)
    have HB4 := Lib.hid ((HB3.out.trans (HBI.out.mono HB3.out.size)).trans (hb4.mono (HB3.out.trans (HBI.out.mono HB3.out.size)).size))
    have HW4 := Lib.hid hW4
    clear hx4 hb4 hW4
    go_upto_region 7 with (at_builtin; (rw [← HW4.out]); refine wpList_app_word (l := [nameK k]) (B := w2.heap.size) rfl _ _ rfl rfl HR4.out (Nat.le_of_ble_eq_true rfl) rfl HX4.out HB4.out.size ?_; intro g5 cap5 w5 hr5 hb5; replace hr5 := Lib.hid hr5; replace hb5 := Lib.hid (hb5 _ HB4.out))
    clear HR4 HX4 HB4 HW4 HBI HR3 HB3 HT3
    obtain ⟨c1, c2, p0, p1, p2, ht5, hbw5⟩ := HC.out w5 hb5.out
    have HT5 := Lib.hid ht5
    have HBW5 := Lib.hid hbw5
    clear ht5 hbw5
    cases hk2 : tkK k with
    | true =>
      rw [hk2] at p2
      go_wp2_with fail
      refine (HU.out w5 HT5.out).mono ?_
      rintro _ w6 ⟨rfl, hbi⟩
      have HBI := Lib.hid hbi
      clear hbi c1 c2 p0 p1 p2
      obtain ⟨W6, hW6, hx6, hb6⟩ := wordBox w6 (decB tk)
      have HX6 := Lib.hid hx6
      have HR6 := Lib.hid ((hr5.out.below HBI.out).below hb6)
      have HB6 := Lib.hid ((hb5.out.trans (HBI.out.mono hb5.out.size)).trans (hb6.mono (hb5.out.trans (HBI.out.mono hb5.out.size)).size))
      have HW6 := Lib.hid hW6
      clear hx6 hb6 hW6
      go_upto_region 9 with (at_builtin; (rw [← HW6.out]); refine wpList_app_word (l := [nameK k, itoB lim]) (B := w2.heap.size) rfl _ _ rfl rfl HR6.out (Nat.le_of_ble_eq_true rfl) rfl HX6.out HB6.out.size ?_; intro g7 cap7 w7 hr7 hb7; replace hr7 := Lib.hid hr7; replace hb7 := Lib.hid (hb7 _ HB6.out))
      clear HR6 HX6 HB6 HW6 HBI
      obtain ⟨c1, c2, p0, p1, p2, ht7, hbw7⟩ := HC.out w7 hb7.out
      have HT7 := Lib.hid ht7
      have HBW7 := Lib.hid hbw7
      clear ht7 hbw7
      clear hr5 hb5 HT5
      clear c1 c2 p0 p1 p2
      obtain ⟨-, hcap, hg, hcells⟩ := rowS_join hr7.out
      have HJ := cjoin_any g7 0 3 cap7 (nameK k) [itoB lim, decB tk] w7 rfl (by decide) (by decide) hcap (by
        intro x hx
        simp only [List.mem_cons, List.not_mem_nil, or_false] at hx
        have := HSI.out
        have := HSU.out
        have := HNM.out
        rcases hx with rfl | rfl | rfl <;> omega) hg hcells
      have HJJ := Lib.hid HJ
      have EE : Hid (O = joinJ (nameK k) [itoB lim, decB tk]) := by rw [E.out]; unfold wordsF; rw [hl, hk2]; rfl
      clear HJ hcap hg hcells
      go_wp2_with fail
      refine HJJ.out.mono ?_
      rintro _ w9 ⟨rfl, hb9⟩
      have HB9 := Lib.hid hb9
      clear hb9
      go_wp2_with fail
      first | go_ret | go_ret2
      exact ⟨by rw [EE.out]; rfl, HBW7.out.trans (HB9.out.mono HBW7.out.size)⟩
    | false =>
      rw [hk2] at p2
      go_upto_region 9 with fail
      clear c1 c2 p0 p1 p2
      obtain ⟨-, hcap, hg, hcells⟩ := rowS_join hr5.out
      have HJ := cjoin_any g5 0 2 cap5 (nameK k) [itoB lim] w5 rfl (by decide) (by decide) hcap (by
        intro x hx
        simp only [List.mem_cons, List.not_mem_nil, or_false] at hx
        have := HSI.out
        have := HSU.out
        have := HNM.out
        rcases hx with rfl | rfl <;> omega) hg hcells
      have HJJ := Lib.hid HJ
      have EE : Hid (O = joinJ (nameK k) [itoB lim]) := by rw [E.out]; unfold wordsF; rw [hl, hk2]; rfl
      clear HJ hcap hg hcells
      go_wp2_with fail
      refine HJJ.out.mono ?_
      rintro _ w9 ⟨rfl, hb9⟩
      have HB9 := Lib.hid hb9
      clear hb9
      go_wp2_with fail
      first | go_ret | go_ret2
      exact ⟨by rw [EE.out]; rfl, HBW5.out.trans (HB9.out.mono HBW5.out.size)⟩
  | false =>
    rw [hl] at p1
    have hk2 : tkK k = true := by
      have := HK.out
      have h : k = 1 ∨ k = 2 ∨ k = 3 ∨ k = 4 ∨ k = 5 := by omega
      rcases h with rfl | rfl | rfl | rfl | rfl <;> first | rfl | exact absurd hl (by decide)
    rw [hk2] at p2
    go_upto_region 7 with fail
    go_wp2_with fail
    refine (HU.out w3 HT3.out).mono ?_
    rintro _ w4 ⟨rfl, hbi⟩
    have HBI := Lib.hid hbi
    clear hbi c1 c2 p0 p1 p2
    obtain ⟨W4, hW4, hx4, hb4⟩ := wordBox w4 (decB tk)
    have HX4 := Lib.hid hx4
    have HR4 := Lib.hid ((HR3.out.below HBI.out).below hb4)
    have HB4 := Lib.hid ((HB3.out.trans (HBI.out.mono HB3.out.size)).trans (hb4.mono (HB3.out.trans (HBI.out.mono HB3.out.size)).size))
    have HW4 := Lib.hid hW4
    clear hx4 hb4 hW4
    go_upto_region 9 with (at_builtin; (rw [← HW4.out]); refine wpList_app_word (l := [nameK k]) (B := w2.heap.size) rfl _ _ rfl rfl HR4.out (Nat.le_of_ble_eq_true rfl) rfl HX4.out HB4.out.size ?_; intro g5 cap5 w5 hr5 hb5; replace hr5 := Lib.hid hr5; replace hb5 := Lib.hid (hb5 _ HB4.out))
    clear HR4 HX4 HB4 HW4 HBI
    obtain ⟨c1, c2, p0, p1, p2, ht5, hbw5⟩ := HC.out w5 hb5.out
    have HT5 := Lib.hid ht5
    have HBW5 := Lib.hid hbw5
    clear ht5 hbw5
    clear HR3 HB3 HT3
    clear c1 c2 p0 p1 p2
    obtain ⟨-, hcap, hg, hcells⟩ := rowS_join hr5.out
    have HJ := cjoin_any g5 0 2 cap5 (nameK k) [decB tk] w5 rfl (by decide) (by decide) hcap (by
      intro x hx
      simp only [List.mem_cons, List.not_mem_nil, or_false] at hx
      have := HSI.out
      have := HSU.out
      have := HNM.out
      rcases hx with rfl | rfl <;> omega) hg hcells
    have HJJ := Lib.hid HJ
    have EE : Hid (O = joinJ (nameK k) [decB tk]) := by rw [E.out]; unfold wordsF; rw [hl, hk2]; rfl
    clear HJ hcap hg hcells
    go_wp2_with fail
    refine HJJ.out.mono ?_
    rintro _ w9 ⟨rfl, hb9⟩
    have HB9 := Lib.hid hb9
    clear hb9
    go_wp2_with fail
    first | go_ret | go_ret2
    exact ⟨by rw [EE.out]; rfl, HBW5.out.trans (HB9.out.mono HBW5.out.size)⟩
end Go.Proofs.YthggaedpbmjclaaDoor
