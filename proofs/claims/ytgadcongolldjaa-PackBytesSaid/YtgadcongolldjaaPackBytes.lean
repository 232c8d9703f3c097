/- The walk of watchfirelaw03.PackBytes. -/
import Derived.Test.YtgadcongolldjaaPkAwake
import Derived.Test.YtgadcongolldjaaPkBack
import Derived.Test.YtgadcongolldjaaPkRef
import Derived.Test.YtgadcongolldjaaHeld
namespace Go.Proofs.Ytgadcongolldjaa.packBytes
open Go.RowKit Go.Proofs.Ytgadcongolldjaa

/-- how many bytes of a number say that more follow: nine at most -/
def cnt (i : Nat) : List Nat → Nat
  | [] => i
  | c :: t => if 128 ≤ c ∧ i < 9 then cnt (i + 1) t else i

/-- a number's bytes: as they were read -/
def asPut (m : Nat) (l : List Nat) : Prop := leb m = l

/-- what getU answers of bytes l, i of which (all ≥ 128) were taken, in terms of the first byte that ends them -/
theorem getU_end : ∀ (l : List Nat) (i acc : Nat), (∀ x ∈ l, x < 256) → i ≤ 9 →
    (cnt i l = i + l.length ∧ getU i acc l = (0, [], 3)) ∨
    ∃ (pre : List Nat) (c : Nat) (t : List Nat), l = pre ++ c :: t ∧ cnt i l = i + pre.length ∧
      ((i + pre.length = 9 ∧ 1 < c ∧ getU i acc l = (0, [], 6)) ∨
       (¬ (i + pre.length = 9 ∧ 1 < c) ∧ 0 < i + pre.length ∧ c = 0 ∧ getU i acc l = (0, [], 2)) ∨
       (¬ (i + pre.length = 9 ∧ 1 < c) ∧ ¬ (0 < i + pre.length ∧ c = 0) ∧ ∃ m, getU i acc l = (acc + 128 ^ i * m, t, 0) ∧ (0 < i → 0 < m) ∧ leb m = pre ++ [c]))
  | [], i, acc, _, _ => .inl ⟨rfl, rfl⟩
  | c :: t, i, acc, hok, hi => by
    have hc : c < 256 := hok c (by simp)
    by_cases h : 128 ≤ c ∧ i < 9
    · have e1 : cnt i (c :: t) = cnt (i + 1) t := by rw [cnt, if_pos h]
      have e2 : getU i acc (c :: t) = getU (i + 1) (acc + 128 ^ i * (c % 128)) t := by
        rw [getU, if_neg (by omega), if_neg (by omega), if_neg (by omega)]
      rw [e1, e2]
      rcases getU_end t (i + 1) (acc + 128 ^ i * (c % 128)) (fun x hx => hok x (by simp [hx])) (by omega) with ⟨h1, h2⟩ | ⟨pre, d, t2, rfl, h2, h3⟩
      · exact .inl ⟨by rw [h1, List.length_cons]; omega, h2⟩
      · refine .inr ⟨c :: pre, d, t2, rfl, by rw [h2, List.length_cons]; omega, ?_⟩
        have el : i + (c :: pre).length = i + 1 + pre.length := by rw [List.length_cons]; omega
        rw [el]
        rcases h3 with ⟨a, b, e⟩ | ⟨a, b, e, f⟩ | ⟨a, b, m, e, f, k⟩
        · exact .inl ⟨a, b, e⟩
        · exact .inr (.inl ⟨a, b, e, f⟩)
        · refine .inr (.inr ⟨a, b, c % 128 + 128 * m, ?_, fun _ => ?_, ?_⟩)
          · rw [e, Nat.mul_add, Nat.pow_succ, Nat.mul_assoc, Nat.add_assoc]
          · have := f (by omega); omega
          · have hm := f (by omega)
            rw [leb_ge (by omega)]
            rw [show (c % 128 + 128 * m) % 128 + 128 = c by omega, show (c % 128 + 128 * m) / 128 = m by omega, k]
            rfl
    · have e1 : cnt i (c :: t) = i := by rw [cnt, if_neg h]
      refine .inr ⟨[], c, t, rfl, by rw [e1]; rfl, ?_⟩
      simp only [List.length_nil, Nat.add_zero, List.nil_append]
      by_cases h1 : i = 9 ∧ 1 < c
      · exact .inl ⟨h1.1, h1.2, by rw [getU, if_pos h1]⟩
      · by_cases h2 : 0 < i ∧ c = 0
        · exact .inr (.inl ⟨h1, h2.1, h2.2, by rw [getU, if_neg h1, if_pos h2]⟩)
        · exact .inr (.inr ⟨h1, h2, c, by rw [getU, if_neg h1, if_neg h2, if_pos (by omega)], fun h3 => by omega, leb_lt (by omega)⟩)
theorem cnt_ge : ∀ (l : List Nat) (i : Nat), i ≤ cnt i l
  | [], _ => Nat.le_refl _
  | c :: t, i => by
    rw [cnt]
    split
    · have := cnt_ge t (i + 1); omega
    · exact Nat.le_refl _
/-- the loop's own step -/
theorem cnt_drop {l : List Nat} {k c : Nat} (h : l[k]? = some c) : cnt k (l.drop k) = if 128 ≤ c ∧ k < 9 then cnt (k + 1) (l.drop (k + 1)) else k := by
  obtain ⟨h1, rfl⟩ := List.getElem?_eq_some_iff.1 h
  rw [List.drop_eq_getElem_cons h1, cnt]

theorem wrapOne (k : Nat) (h : k ≤ 100) : IntKind.i64.wrap ((k : Int) + 1) = (k : Int) + 1 ∧ wrap64 ((k : Int) + 1) = (k : Int) + 1 ∧ IntKind.i64.wrap ((k : Int) + 1 - 1) = (k : Int) := by
  refine ⟨?_, ?_, ?_⟩
  · rw [IntKind.wrap_i64]; omega
  · unfold wrap64; omega
  · rw [IntKind.wrap_i64]; omega

set_option maxRecDepth 100000 in
set_option maxHeartbeats 2000000 in
theorem walk (A : Option Addr) (n c : Nat) (l : List Nat) (hn : n = l.length) (hA : A = none → n = 0) (B : Nat) (hok : OkB l) (hnc : n ≤ c) (w : World) (hB : B ≤ w.heap.size) (hrd : RdB w B A l) :
    Calls Try.prog 4 #[.slice A n c] w fun e w' => e = .returned (.bool true) ∧ Below w.heap.size w w' := by
  have Hn := Lib.hid hn
  have HA := Lib.hid hA
  have Hok := Lib.hid hok
  have Hr := Lib.hid hrd
  clear hn hA hok hrd
  go_enter Try.func4, Try.ntmps4
  go_wp2_with fail
  refine (pawake_any _).mono ?_
  rintro e1 w1 ⟨rfl, hb1⟩
  have hsz1 := hb1.size
  by_cases hn1 : 30 < n
  · go_wp2
    go_ret
    exact ⟨rfl, hb1⟩
  go_wp2_with fail
  refine (rread_any A n c l B w1 Hn.out HA.out (by omega) (Hr.out.below (hb1.mono hB)) (by omega) Hok.out).mono ?_
  rintro e1 w2 ⟨g, rfl, h1, hg, hb2⟩
  have H1 := Lib.hid h1
  have hb2 := Lib.hid (hb1.trans (hb2.mono hsz1))
  have hsz2 := hb2.out.size
  clear h1 hb1
  go_wp2_with fail
  refine (ruint_any g l w2 H1.out).mono ?_
  rintro e1 w3 ⟨rfl, h1, h2⟩
  have hend := getU_end l 0 0 Hok.out (by omega)
  have hlt := getU_lt l 0 0 Hok.out (by omega) (by decide)
  obtain ⟨n', l', e', hR⟩ : ∃ n' l' e', getU 0 0 l = (n', l', e') := ⟨_, _, _, rfl⟩
  rw [hR] at h1 hend hlt ⊢
  simp only at h1 hlt ⊢
  have H3 := Lib.hid h1
  have hb3 := Lib.hid (hb2.out.grown h2 (by omega) (fun k hk => by cases hk; omega))
  have Hr3 := Lib.hid (Hr.out.below (hb3.out.mono hB))
  have hsz3 := hb3.out.size
  have Hend := Lib.hid hend
  have Hlt := Lib.hid hlt
  clear h1 h2 H1 hend hlt hR
  obtain ⟨E, hE⟩ : ∃ E, cnt 0 l = E := ⟨_, rfl⟩
  have HE := Lib.hid hE
  clear hE
  go_wp2
  go_loop [5] (fun iv => ∃ k : Nat, k ≤ n ∧ k ≤ 9 ∧ iv = .int .i64 k ∧ Hid (cnt k (l.drop k) = E)) (fun iv => n - (intOf iv).toNat)
  case atStart => exact ⟨0, by omega, by omega, rfl, HE.out⟩
  case round =>
    obtain ⟨k, hk, hk9n, rfl, Hk⟩ := hrel
    by_cases hkn : k < n
    · obtain ⟨b, o, x, rfl, hb, hx, hc⟩ := Hr3.out.at_ (k := k) (by have := Hn.out; omega)
      have hx256 : x < 256 := Hok.out.at_ hx
      by_cases hgo : 128 ≤ x ∧ k < 9
      · obtain ⟨hgo1, hgo2⟩ := hgo
        have hk2 := Hk.out
        rw [cnt_drop hx, if_pos ⟨hgo1, hgo2⟩] at hk2
        have Hk2 := Lib.hid hk2
        clear hk2 hx
        go_wp2
        exact ⟨⟨k + 1, by omega, by omega, by go_num, Hk2.out⟩, by simp [intOf]; omega⟩
      · have hk2 := Hk.out
        rw [cnt_drop hx, if_neg hgo] at hk2
        subst hk2
        rcases Hend.out with ⟨h1, _⟩ | ⟨pre, y, t, h1, h2, h3⟩
        · exfalso; have := HE.out; have := Hn.out; omega
        have hpk : pre.length = k := by have := HE.out; omega
        obtain rfl : y = x := by
          rw [h1, List.getElem?_append_right (by omega), hpk, Nat.sub_self] at hx
          simpa using hx
        clear hx Hk
        rw [Nat.zero_add, hpk] at h3
        rcases h3 with ⟨rfl, h4, h5⟩ | ⟨h4, h5, rfl, h6⟩ | ⟨h4, h5, m, h6, _, h7⟩
        · -- the tenth byte is too great
          obtain ⟨rfl, rfl, rfl⟩ : n' = 0 ∧ l' = [] ∧ e' = 6 := by simpa using h5
          have hn9 : ¬ (9 = n) := by omega
          have hc9 : w3.cell? ⟨b, o + 9, none⟩ = some (.int .u8 y) := hc
          have hn10 : (9 : Int) < n := by omega
          have hn11 : 9 < n := by omega
          have hn12 : ((9 : Int) == n) = false := by rw [beq_eq_false_iff_ne]; omega
          have hy1 : (1 : Int) < y := by omega
          clear h1 h2 h5 hpk hgo hc
          by_cases h128 : 128 ≤ y
          case' pos =>
            have h128i : (128 : Int) ≤ y := by omega
            go_wp2_with fail
          case' neg =>
            have h128i : ¬ ((128 : Int) ≤ y) := by omega
            go_wp2_with fail
          all_goals (
            refine (rerr_any g [] 6 w3 H3.out).mono ?_
            rintro e1 w4 ⟨rfl, rfl⟩
            go_wp2
            go_ret
            exact ⟨rfl, hb3.out⟩)
        · -- not in its shortest form
          obtain ⟨rfl, rfl, rfl⟩ : n' = 0 ∧ l' = [] ∧ e' = 2 := by simpa using h6
          have hkn3 : ((k : Int) == n) = false := by rw [beq_eq_false_iff_ne]; omega
          clear h1 h2 h6 hpk hgo h4
          by_cases hk9 : k = 9
          case' pos =>
            subst hk9
            have hc9 : w3.cell? ⟨b, o + 9, none⟩ = some (.int .u8 (0 : Nat)) := hc
            have hn10 : (9 : Int) < n := by omega
            have hn11 : 9 < n := by omega
            have hn12 : ((9 : Int) == n) = false := by rw [beq_eq_false_iff_ne]; omega
            clear hc hkn3
            go_wp2_with fail
          case' neg =>
            have hk9i : ((k : Int) == 9) = false := by rw [beq_eq_false_iff_ne]; omega
            have hk0 : (0 : Int) < k := by omega
            go_wp2_with fail
          all_goals (
            refine (rerr_any g [] 2 w3 H3.out).mono ?_
            rintro e1 w4 ⟨rfl, rfl⟩
            go_wp2
            go_ret
            exact ⟨rfl, hb3.out⟩)
        · -- a number
          obtain ⟨rfl, rfl, rfl⟩ : n' = m ∧ l' = t ∧ e' = 0 := by simpa using h6
          have hy128 : y < 128 := by omega
          obtain ⟨D, hD⟩ : ∃ D, l'.length = D := ⟨_, rfl⟩
          have hln : n = k + 1 + D := by rw [Hn.out, h1, List.length_append, List.length_cons, hpk, hD]; omega
          have htk : l.take (k + 1) = leb n' := by
            rw [h7, h1, ← hpk, List.take_length_add_append]
            rfl
          have hbd : Below w3.heap.size w3 w3.drew := (Below.refl _ _).drew
          have Hd := Lib.hid (H3.out.below hbd)
          have HErr : Hid (Calls Try.prog 15 #[.pointer (some ⟨g, 0, none⟩)] w3.drew fun e w' => e = .returned (.int .i64 0) ∧ w3.drew = w') := rerr_any g l' 0 w3.drew Hd.out
          have hll := rleft_any g l' 0 w3.drew Hd.out
          rw [hD] at hll
          have HLeft : Hid (Calls Try.prog 13 #[.pointer (some ⟨g, 0, none⟩)] w3.drew fun e w' => e = .returned (.int .i64 D) ∧ w3.drew = w') := hll
          have hlen : (leb n').length = k + 1 := by rw [h7, List.length_append, hpk]; rfl
          obtain ⟨X, hX⟩ : ∃ X, strB (leb n') = X := ⟨_, rfl⟩
          have HU : Hid (Calls Try.prog 17 #[.int .u64 n'] w3.drew fun e w' => ∃ A4 c4, e = .returned (.slice A4 (k + 1) c4) ∧ Below w3.heap.size w3 w' ∧ Hid (Below w.heap.size w w') ∧ (convert 23 9 (.slice A4 (k + 1) c4)).run Try.prog w' = .ok (.string X) w') :=
            Lib.hid ((refUint_any n' Hlt.out w3.drew).mono fun e w' ⟨v, he, ho, hbb⟩ => by
              obtain ⟨A4, c4, rfl⟩ := ownB_slice ho
              rw [hlen] at ho he
              refine ⟨A4, c4, he, hbd.trans (hbb.mono (by simp)), Lib.hid ((hb3.out.drew).trans (hbb.mono (by simpa using hsz3))), ?_⟩
              rw [← hX]
              exact conv_any (RdB.of_own ho) hlen.symm (by
                rintro rfl
                rcases ho.2 with ⟨e, _⟩ | ⟨_, _, _, e, _⟩
                · injection e
                · injection e with e; cases e))
          have f21 : ∀ W : World, Below w3.heap.size w3 W → (convert 23 9 (.slice (some ⟨b, o, none⟩) (k + 1) c)).run Try.prog W = .ok (.string X) W := fun W hW => by
            rw [← hX, ← htk]
            exact conv_any (((Hr3.out.more (by omega)).below hW).take (k + 1)) (by rw [htk, hlen]) (fun e => by cases e)
          have hkc : (k : Int) + 1 ≤ c := by omega
          have hk1 : (0 : Int) ≤ (k : Int) + 1 := by omega
          have hyi : ¬ ((128 : Int) ≤ y) := by omega
          have hkn3 : ((k : Int) == n) = false := by rw [beq_eq_false_iff_ne]; omega
          have e1 : (n : Int) - k = D + 1 := by omega
          have e2 : (D : Int) + 1 ≤ 100 := by omega
          have e3 : (k : Int) + 1 ≤ 100 := by omega
          have hkw := wrapOne k (by omega)
          have hDw := wrapOne D (by omega)
          obtain ⟨M1, hM1⟩ : ∃ M : Int, M = (D : Int) + 1 := ⟨_, rfl⟩
          have hw1 : IntKind.i64.wrap ((n : Int) - k) = M1 := by rw [e1, hM1]; exact hDw.1
          have hw2 : IntKind.i64.wrap (M1 - 1) = (D : Int) := by rw [hM1]; exact hDw.2.2
          have hw3 := hkw.1
          clear hkw
          clear hDw e1 e2 e3
          have hS0 : Below w3.heap.size w3 w3.drew := hbd
          have h4' := Lib.hid h4
          have h5' := Lib.hid h5
          have hlast : Hid (0 < k → ((y : Int) == 0) = false) := Lib.hid (fun h => beq_eq_false_iff_ne.2 (fun e => h5 ⟨h, Int.ofNat.inj e⟩))
          clear h1 h2 h6 h7 hpk hgo htk hll hlen hX hbd hM1 hln h4 h5 H3 Hd hy128
          by_cases hk9 : k = 9
          case' pos =>
            have hk9i : ((k : Int) == 9) = true := by rw [beq_iff_eq]; omega
            have hc9 : w3.cell? ⟨b, o + 9, none⟩ = some (.int .u8 y) := by rw [hk9] at hc; exact hc
            have hn10 : (9 : Int) < n := by omega
            have hn11 : 9 < n := by omega
            have hy1 : ¬ ((1 : Int) < y) := by have := h4'.out; omega
            have hk0i : (0 : Int) < k := by omega
            have hy0 := hlast.out (by omega)
            clear hk9
            go_wp2_with fail
          case' neg =>
            have hk9i : ((k : Int) == 9) = false := by rw [beq_eq_false_iff_ne]; omega
            by_cases hk0 : 0 < k
            case' pos =>
              have hk0i : (0 : Int) < k := by omega
              have hy0 := hlast.out hk0
              go_wp2_with fail
            case' neg =>
              have hk0i : ¬ ((0 : Int) < k) := by omega
              go_wp2_with fail
          all_goals (
            refine wp_region_noPanic ?_
            refine wp_region_held_drew (S := (fun W => Below w3.heap.size w3 W)) (by kernel_rfl) ?_ (fun hHeld => ?_)
            · (first | assumption | exact Below.refl _ _ | exact (Below.refl _ _).drew)
            refine heldTake (i := 0) (v := ?_) rfl (by kernel_rfl) (by kernel_rfl) (by kernel_rfl) (fun _ _ _ h => h) (Or.inl ⟨by rfl, ?_⟩) (by assumption) ?_
            rotate_left
            · (intro w hSw; (try dsimp only at hSw); go_simp; try with_reducible rfl)
            try simp only [heldPut, List.set]
            refine heldOne (i := 1) rfl (by kernel_rfl) (fun K hK => ?_)
            go_simp
            (with_reducible refine HErr.out.mono ?_); rintro e w' ⟨rfl, rfl⟩
            go_wp2_with fail
            refine hK.out _ _ ?_ (fun hHeld => ?_)
            · (first | assumption | exact Below.refl _ _ | exact (Below.refl _ _).drew)
            clear hK K
            try simp only [heldPut, List.set]
            refine heldTake (i := 2) (v := ?_) rfl (by kernel_rfl) (by kernel_rfl) (by kernel_rfl) (fun _ _ _ h => h) (Or.inl ⟨by rfl, ?_⟩) (by assumption) ?_
            rotate_left
            · (intro w hSw; (try dsimp only at hSw); go_simp; try with_reducible rfl)
            try simp only [heldPut, List.set]
            refine heldTake (i := 3) (v := ?_) rfl (by kernel_rfl) (by kernel_rfl) (by kernel_rfl) (fun _ _ _ h => h) (Or.inl ⟨by rfl, ?_⟩) (by assumption) ?_
            rotate_left
            · (intro w hSw; (try dsimp only at hSw); go_simp; try with_reducible rfl)
            try simp only [heldPut, List.set]
            refine heldTake (i := 4) (v := ?_) rfl (by kernel_rfl) (by kernel_rfl) (by kernel_rfl) (fun _ _ _ h => h) (Or.inl ⟨by rfl, ?_⟩) (by assumption) ?_
            rotate_left
            · (intro w hSw; (try dsimp only at hSw); go_simp; try with_reducible rfl)
            try simp only [heldPut, List.set]
            refine heldTake (i := 6) (v := ?_) rfl (by kernel_rfl) (by kernel_rfl) (by kernel_rfl) (fun _ _ _ h => h) (Or.inl ⟨by rfl, ?_⟩) (by assumption) ?_
            rotate_left
            · (intro w hSw; (try dsimp only at hSw); go_simp; try with_reducible rfl)
            try simp only [heldPut, List.set]
            refine heldTake (i := 7) (v := ?_) rfl (by kernel_rfl) (by kernel_rfl) (by kernel_rfl) (fun _ _ _ h => h) (Or.inl ⟨by rfl, ?_⟩) (by assumption) ?_
            rotate_left
            · (intro w hSw; (try dsimp only at hSw); go_simp; try with_reducible rfl)
            try simp only [heldPut, List.set]
            refine heldTake (i := 8) (v := ?_) rfl (by kernel_rfl) (by kernel_rfl) (by kernel_rfl) (fun _ _ _ h => h) (Or.inl ⟨by rfl, ?_⟩) (by assumption) ?_
            rotate_left
            · (intro w hSw; (try dsimp only at hSw); go_simp; try with_reducible rfl)
            try simp only [heldPut, List.set]
            refine heldTake (i := 9) (v := ?_) rfl (by kernel_rfl) (by kernel_rfl) (by kernel_rfl) (fun _ _ _ h => h) (Or.inl ⟨by rfl, ?_⟩) (by assumption) ?_
            rotate_left
            · (intro w hSw; (try dsimp only at hSw); go_simp; try with_reducible rfl)
            try simp only [heldPut, List.set]
            refine heldTake (i := 10) (v := ?_) rfl (by kernel_rfl) (by kernel_rfl) (by kernel_rfl) (fun _ _ _ h => h) (Or.inl ⟨by rfl, ?_⟩) (by assumption) ?_
            rotate_left
            · (intro w hSw; (try dsimp only at hSw); go_simp; try with_reducible rfl)
            try simp only [heldPut, List.set]
            refine heldOne (i := 5) rfl (by kernel_rfl) (fun K hK => ?_)
            go_simp
            (with_reducible refine HLeft.out.mono ?_); rintro e w' ⟨rfl, rfl⟩
            go_wp2_with fail
            refine hK.out _ _ ?_ (fun hHeld => ?_)
            · (first | assumption | exact Below.refl _ _ | exact (Below.refl _ _).drew)
            clear hK K
            try simp only [heldPut, List.set]
            refine heldTake (i := 11) (v := ?_) rfl (by kernel_rfl) (by kernel_rfl) (by kernel_rfl) (fun _ _ _ h => h) (Or.inl ⟨by rfl, ?_⟩) (by assumption) ?_
            rotate_left
            · (intro w hSw; (try dsimp only at hSw); go_simp; try with_reducible rfl)
            try simp only [heldPut, List.set]
            refine heldTake (i := 12) (v := ?_) rfl (by kernel_rfl) (by kernel_rfl) (by kernel_rfl) (fun _ _ _ h => h) (Or.inl ⟨by rfl, ?_⟩) (by assumption) ?_
            rotate_left
            · (intro w hSw; (try dsimp only at hSw); go_simp; try with_reducible rfl)
            try simp only [heldPut, List.set]
            refine heldTake (i := 13) (v := ?_) rfl (by kernel_rfl) (by kernel_rfl) (by kernel_rfl) (fun _ _ _ h => h) (Or.inl ⟨by rfl, ?_⟩) (by assumption) ?_
            rotate_left
            · (intro w hSw; (try dsimp only at hSw); go_simp; try with_reducible rfl)
            try simp only [heldPut, List.set]
            refine heldTake (i := 14) (v := ?_) rfl (by kernel_rfl) (by kernel_rfl) (by kernel_rfl) (fun _ _ _ h => h) (Or.inl ⟨by rfl, ?_⟩) (by assumption) ?_
            rotate_left
            · (intro w hSw; (try dsimp only at hSw); go_simp; try with_reducible rfl)
            try simp only [heldPut, List.set]
            refine heldTake (i := 17) (v := ?_) rfl (by kernel_rfl) (by kernel_rfl) (by kernel_rfl) (fun _ _ _ h => h) (Or.inl ⟨by rfl, ?_⟩) (by assumption) ?_
            rotate_left
            · (intro w hSw; (try dsimp only at hSw); go_simp; try with_reducible rfl)
            try simp only [heldPut, List.set]
            refine heldTake (i := 18) (v := ?_) rfl (by kernel_rfl) (by kernel_rfl) (by kernel_rfl) (fun _ _ _ h => h) (Or.inl ⟨by rfl, ?_⟩) (by assumption) ?_
            rotate_left
            · (intro w hSw; (try dsimp only at hSw); go_simp; try with_reducible rfl)
            try simp only [heldPut, List.set]
            refine heldTake (i := 19) (v := ?_) rfl (by kernel_rfl) (by kernel_rfl) (by kernel_rfl) (fun _ _ _ h => h) (Or.inl ⟨by rfl, ?_⟩) (by assumption) ?_
            rotate_left
            · (intro w hSw; (try dsimp only at hSw); go_simp; try with_reducible rfl)
            try simp only [heldPut, List.set]
            refine heldTake (i := 20) (v := ?_) rfl (by kernel_rfl) (by kernel_rfl) (by kernel_rfl) (fun _ _ _ h => h) (Or.inl ⟨by rfl, ?_⟩) (by assumption) ?_
            rotate_left
            · (intro w hSw; (try dsimp only at hSw); go_simp; try with_reducible rfl)
            try simp only [heldPut, List.set]
            refine heldTake (i := 21) (v := ?_) rfl (by kernel_rfl) (by kernel_rfl) (by kernel_rfl) (fun _ _ _ h => h) (Or.inl ⟨by rfl, ?_⟩) (by assumption) ?_
            rotate_left
            · (intro w hSw; (try dsimp only at hSw); go_simp; try with_reducible rfl)
            try simp only [heldPut, List.set]
            refine heldOne (i := 15) rfl (by kernel_rfl) (fun K hK => ?_)
            go_simp
            (with_reducible refine HU.out.mono ?_); rintro e w' ⟨A4, c4, rfl, hS4, hb4, cv4⟩
            go_wp2_with fail
            refine hK.out _ _ ?_ (fun hHeld => ?_)
            · (first | assumption | exact Below.refl _ _ | exact (Below.refl _ _).drew)
            clear hK K
            try simp only [heldPut, List.set]
            refine heldOne (i := 16) rfl (by kernel_rfl) (fun K hK => ?_)
            go_simp
            refine hK.out _ _ ?_ (fun hHeld => ?_)
            · (first | assumption | exact Below.refl _ _ | exact (Below.refl _ _).drew)
            clear hK K
            try simp only [heldPut, List.set]
            refine heldTake (i := 22) (v := ?_) rfl (by kernel_rfl) (by kernel_rfl) (by kernel_rfl) (fun _ _ _ h => h) (Or.inl ⟨by rfl, ?_⟩) (by assumption) ?_
            rotate_left
            · (intro w hSw; (try dsimp only at hSw); go_simp; try with_reducible rfl)
            try simp only [heldPut, List.set]
            refine heldTake (i := 23) (v := ?_) rfl (by kernel_rfl) (by kernel_rfl) (by kernel_rfl) (fun _ _ _ h => h) (Or.inl ⟨by rfl, ?_⟩) (by assumption) ?_
            rotate_left
            · (intro w hSw; (try dsimp only at hSw); go_simp; try with_reducible rfl)
            try simp only [heldPut, List.set]
            refine heldTake (i := 24) (v := ?_) rfl (by kernel_rfl) (by kernel_rfl) (by kernel_rfl) (fun _ _ _ h => h) (Or.inl ⟨by rfl, ?_⟩) (by assumption) ?_
            rotate_left
            · (intro w hSw; (try dsimp only at hSw); go_simp; try with_reducible rfl)
            try simp only [heldPut, List.set]
            refine wpAnyH_done (by kernel_rfl) ?_ _
            refine NoPanic.normal ?_
            clear HErr HLeft HU f21
            go_wp2
            go_ret
            exact ⟨rfl, hb4.out⟩)
    · have hkn2 : k = n := by omega
      subst hkn2
      have hk2 := Hk.out
      rw [List.drop_of_length_le (by have := Hn.out; omega)] at hk2
      have hk3 : k = E := hk2
      subst hk3
      rcases Hend.out with ⟨_, h1⟩ | ⟨pre, y, t, h1, h2, _⟩
      · obtain ⟨rfl, rfl, rfl⟩ : n' = 0 ∧ l' = [] ∧ e' = 3 := by simpa using h1
        clear h1 hk2
        go_wp2_with fail
        refine (rerr_any g [] 3 w3 H3.out).mono ?_
        rintro e1 w4 ⟨rfl, rfl⟩
        go_wp2_with fail
        refine (rleft_any g [] 3 w3 H3.out).mono ?_
        rintro e1 w4 ⟨rfl, rfl⟩
        go_wp2
        go_ret
        exact ⟨rfl, hb3.out⟩
      · exfalso
        have h3 := congrArg List.length h1
        rw [List.length_append, List.length_cons] at h3
        have := HE.out; have := Hn.out; omega
end Go.Proofs.Ytgadcongolldjaa.packBytes
