/- Layer 1: the document's own Parse. -/
import Derived.Test.YthhlalnkihmfhaaDoorRsplit
import Derived.Test.YthhlalnkihmfhaaDoorRmake
namespace Go.Proofs.YthhlalnkihmfhaaDoor
open Go.RowKit

theorem idx_hit {c : UInt8} : ∀ (a : Nat) (l : List UInt8), (∀ j, j < a → l[j]? ≠ some c) → l[a]? = some c → Lib.indexByte l c = a
  | 0, [], _, h => by simp at h
  | 0, b :: r, _, h => by
    have hb : b = c := by simpa using h
    simp [Lib.indexByte, hb]
  | a + 1, [], _, h => by simp at h
  | a + 1, b :: r, hno, h => by
    have hb : (b == c) = false := beq_eq_false_iff_ne.2 fun e => hno 0 (by omega) (by simp [e])
    have ih := idx_hit a r (fun j hj => by have := hno (j + 1) (by omega); simpa using this) (by simpa using h)
    rw [Lib.indexByte, hb, ih]
    have : ((a : Int) == -1) = false := by rw [beq_eq_false_iff_ne]; omega
    simp [this]
theorem cutL_hit {c : UInt8} {l : List UInt8} {a : Nat} (hno : ∀ j, j < a → l[j]? ≠ some c) (h : l[a]? = some c) : cutL c l = some (l.take a, l.drop (a + 1)) := by
  rw [cutL, idx_hit a l hno h, if_neg (by omega)]
  simp
theorem idx_miss {c : UInt8} : ∀ (l : List UInt8), (∀ j : Nat, l[j]? ≠ some c) → Lib.indexByte l c = -1
  | [], _ => rfl
  | b :: r, hno => by
    have hb : (b == c) = false := beq_eq_false_iff_ne.2 fun e => hno 0 (by simp [e])
    have ih := idx_miss r (fun j => by have := hno (j + 1); simpa using this)
    simp [Lib.indexByte, hb, ih]
theorem cutL_miss {c : UInt8} {l : List UInt8} (hno : ∀ j : Nat, l[j]? ≠ some c) : cutL c l = none := by
  rw [cutL, idx_miss l hno, if_pos (by omega)]
/-- the row of parts, as it reads -/
theorem part_at {w : World} {base n c : Nat} {A : Option Addr} {xs : List (List UInt8)} (h : w.ownsRow base 9 1 (.slice A n c) n (strV xs)) {k : Nat} (hk : k < n) :
    ∃ g x, A = some ⟨g, 0, none⟩ ∧ g < w.heap.size ∧ (xs.map strOf)[k]? = some x ∧ w.cell? ⟨g, k, none⟩ = some (.string x) := by
  obtain ⟨g, cap, hv, _, hlt⟩ := h.form (by omega)
  have hA : A = some ⟨g, 0, none⟩ := by injection hv
  subst hA
  have hl : xs.length = n := by have := h.1; simp [strV] at this; omega
  have hg : xs[k]? = some (xs[k]'(by omega)) := List.getElem?_eq_getElem (by omega)
  have hc := h.cells (g := g) rfl k (.string (strOf (xs[k]'(by omega)))) (by simp [strV, hg])
  rw [Addr.add_lit, Nat.zero_add] at hc
  exact ⟨g, _, rfl, hlt, by simp [hg], hc⟩
theorem take_succ_pre {α : Type} {l : List α} {k : Nat} {x : α} (h : l[k]? = some x) : (l.take k ++ [x]) <+: l := by
  obtain ⟨h1, rfl⟩ := List.getElem?_eq_some_iff.1 h
  rw [← List.take_succ_eq_append_getElem h1]
  exact List.take_prefix _ _
theorem part_more {P : List ByteArray} {k : Nat} {x : ByteArray} {p : Pr} (hx : P[k]? = some x) (hp : partP x = some p) : pairsP (P.take (k + 1)) = pairsP (P.take k) ++ [p] := by
  obtain ⟨h1, rfl⟩ := List.getElem?_eq_some_iff.1 hx
  rw [List.take_succ_eq_append_getElem h1, pairsP_snoc hp]
theorem take_succ_eq {α : Type} {l : List α} {k : Nat} {x : α} (h : l[k]? = some x) : l.take k ++ [x] = l.take (k + 1) := by
  obtain ⟨h1, rfl⟩ := List.getElem?_eq_some_iff.1 h
  exact (List.take_succ_eq_append_getElem h1).symm
theorem partP_size {x : ByteArray} {p : Pr} (h : partP x = some p) : p.1.size ≤ x.size ∧ p.2.size ≤ x.size := by
  have hx : x.data.toList.length = x.size := by simp
  rw [partP, cutL] at h
  split at h
  · cases h
  · obtain rfl := Option.some.inj h
    simp only [strOf_size, List.length_take, List.length_drop]
    omega
theorem pairsP_ok {P : List ByteArray} (h : ∀ x ∈ P, x.size ≤ maxLen) : OkP (pairsP P) := fun i p hp => by
  obtain ⟨x, hx, hxp⟩ := List.mem_filterMap.1 (List.mem_iff_getElem?.2 ⟨i, hp⟩)
  have h1 := partP_size hxp
  have h2 := h x hx
  exact ⟨Nat.le_trans h1.1 h2, Nat.le_trans h1.2 h2⟩
theorem ext_take_ (s : ByteArray) (a : Nat) : s.extract 0 a = strOf (s.data.toList.take a) := by
  rw [ext_mid, List.drop_zero, Nat.sub_zero]

set_option maxRecDepth 100000 in
set_option maxHeartbeats 1000000 in
theorem rparse_any (s : ByteArray) (w : World) :
    Calls Tryd.prog 25 #[.string s] w fun e w' => ∃ v, e = .returned (.tuple #[v, .int .i64 ((parseP s).2 : Nat)]) ∧ w'.ownsRow w.heap.size 48 2 v (parseP s).1.length (cellsP (parseP s).1) ∧ Below w.heap.size w w' := by
  obtain ⟨i0, hi, hz0, hz1, hz2⟩ := info_parts Tryd.infoP
  by_cases hbig : 65536 < s.size
  · have Hf : Hid (parseP s = ([], 4)) := if_pos hbig
    have hb1 : decide ((65536 : Int) < (s.size : Int)) = true := decide_eq_true (by omega)
    go_enter Tryd.func25, Tryd.ntmps25
    go_wp2
    go_ret2
    rw [Hf.out]
    exact ⟨_, rfl, World.ownsRow_nil _ _ _ _, Below.refl _ _⟩
  · by_cases hz : s.size = 0
    · have Hf : Hid (parseP s = ([], 0)) := by show parseP s = _; rw [parseP, if_neg hbig, if_pos hz]
      have hb1 : decide ((65536 : Int) < (s.size : Int)) = false := decide_eq_false (by omega)
      have hb2 : s.toList.isEmpty = true := by
        rw [ByteArray.toList_eq, List.isEmpty_iff, ← List.length_eq_zero_iff, Array.length_toList]; exact hz
      go_enter Tryd.func25, Tryd.ntmps25
      go_wp2
      go_ret2
      rw [Hf.out]
      exact ⟨_, rfl, World.ownsRow_nil _ _ _ _, Below.refl _ _⟩
    · have Hf : Hid (parseP s = partsP (splitS 44 s) []) := by show parseP s = _; rw [parseP, if_neg hbig, if_neg hz]
      have hs1 : s.size ≤ 65536 := by omega
      have hb1 : decide ((65536 : Int) < (s.size : Int)) = false := decide_eq_false (by omega)
      have hb2 : s.toList.isEmpty = false := by
        rw [ByteArray.toList_eq, List.isEmpty_eq_false_iff, ← List.length_pos_iff]; show 0 < s.data.toList.length; rw [Array.length_toList]; show 0 < s.size; omega
      have Hsplit := Lib.hid (rsplit_any s 44 w (by omega))
      go_enter Tryd.func25, Tryd.ntmps25
      go_wp2_with fail
      refine Hsplit.out.mono ?_
      rintro e w1 ⟨v, rfl, hown, hb⟩
      obtain ⟨Ap, cp, rfl⟩ := own_slice hown
      have Hps : Hid ((splitL 44 s.data.toList).map strOf = splitS 44 s) := rfl
      generalize hN : (splitL 44 s.data.toList).length = N at hown
      have hNs : (splitS 44 s).length = N := by rw [← Hps.out, List.length_map]; exact hN
      have HN := Lib.hid hNs
      have Hown := Lib.hid hown
      clear hown hN hNs
      go_wp2
      go_loopw [5, 6] (fun v i wr => ∃ k : Nat, k ≤ N ∧ k ≤ 8 ∧ i = .int .i64 k ∧ wr.ownsRow w1.heap.size 48 2 v k (cellsP (pairsP ((splitS 44 s).take k))) ∧ Below w1.heap.size w1 wr ∧ Hid (Good ((splitS 44 s).take k))) (fun _ i _ => N - (intOf i).toNat)
      case atStart => exact ⟨0, Nat.zero_le _, Nat.zero_le _, rfl, by rw [List.take_zero]; exact World.ownsRow_nil _ _ _ _, Below.refl _ _, fun x hx => by simp at hx⟩
      case round =>
        obtain ⟨k, hk, hk8, rfl, hl, hbw, Hgood⟩ := hrel
        obtain ⟨A2, c2, rfl⟩ := own_slice hl
        by_cases hlt : k < N
        · obtain ⟨g, x, rfl, hg, hx, hc⟩ := part_at Hown.out hlt
          have hxs : x.size ≤ 65536 := by
            have := splitS_sizes (List.mem_iff_getElem?.2 ⟨k, Hps.out ▸ hx⟩)
            omega
          have Hx : Hid ((splitS 44 s)[k]? = some x) := Hps.out ▸ hx
          have hcr := (hbw.cell (p := ⟨g, k, none⟩) hg).trans hc
          have hw1 : IntKind.i64.wrap ((x.size : Int) - 1) = (x.size : Int) - 1 := by simp (disch := omega) only [IntWalk.i64_in]
          clear hx
          have hxl : x.data.toList.length = x.size := by simp
          have Hxl := Lib.hid hxl
          have Hl := Lib.hid hl
          clear hxl hl
          go_wp2
          go_loop [7, 8] (fun at_ kk => ∃ (r : Nat) (z : Int), r ≤ x.size ∧ kk = .int .i64 z ∧ z = (r : Int) - 1 ∧ ((at_ = .int .i64 (-1) ∧ Hid (∀ j, r ≤ j → x.data.toList[j]? ≠ some 61)) ∨
            ∃ a : Nat, r ≤ a ∧ a < x.size ∧ at_ = .int .i64 a ∧ Hid (x.data.toList[a]? = some 61) ∧ Hid (∀ j, r ≤ j → j < a → x.data.toList[j]? ≠ some 61))) (fun _ kk => (intOf kk + 1).toNat)
          case atStart => exact ⟨x.size, _, Nat.le_refl _, rfl, by first | rfl | exact hw1, .inl ⟨rfl, fun j hj h => by have := (List.getElem?_eq_some_iff.1 h).1; have := Hxl.out; omega⟩⟩
          case round =>
            obtain ⟨r, z, hr, rfl, hz, hat⟩ := hrel
            rcases Nat.eq_zero_or_pos r with h0 | h0
            · subst h0
              obtain rfl : z = -1 := by omega
              clear hz hr
              rcases hat with ⟨rfl, Hno⟩ | ⟨a, -, has, rfl, Ha, Hno⟩
              · have Hres : Hid (parseP s = ([], 2)) := by
                  have hp : partP x = none := by rw [partP, cutL_miss fun j => Hno.out j (Nat.zero_le _)]; rfl
                  exact Hf.out.trans (partsP_form Hgood.out (by rw [List.length_take]; omega) (take_succ_pre Hx.out) hp)
                go_wp2
                go_ret2
                rw [Hres.out]
                exact ⟨_, rfl, World.ownsRow_nil _ _ _ _, hb.trans (hbw.mono hb.size)⟩
              · have hp : partP x = some (strOf (x.data.toList.take a), strOf (x.data.toList.drop (a + 1))) := by
                  rw [partP, cutL_hit (fun j hj => Hno.out j (Nat.zero_le _) hj) Ha.out]; rfl
                have Hp := Lib.hid hp
                clear hp
                by_cases h8 : k = 8
                · subst h8
                  have Hres : Hid (parseP s = ([], 5)) := Hf.out.trans (partsP_many Hgood.out (by rw [List.length_take]; have := HN.out; omega) (take_succ_pre Hx.out) Hp.out)
                  go_wp2
                  go_ret2
                  rw [Hres.out]
                  exact ⟨_, rfl, World.ownsRow_nil _ _ _ _, hb.trans (hbw.mono hb.size)⟩
                · have hwa : IntKind.i64.wrap ((a : Int) + 1) = (a : Int) + 1 := by simp (disch := omega) only [IntWalk.i64_in]
                  have has1 : a + 1 ≤ x.size := by omega
                  have hi1 : (0 : Int) ≤ (a : Int) + 1 := by omega
                  have hi2 : (a : Int) + 1 ≤ (x.size : Int) := by omega
                  have has0 : a ≤ x.size := by omega
                  have hge := hbw.size
                  have hpart := Lib.hid (part_more Hx.out Hp.out)
                  go_wp2
                  go_region_law (first
                    | (refine step_append_src (base := w1.heap.size) rfl (.tmp 45) (.tmp 60) rfl Tryd.underlying24 hi hz0 hz1 hz2 rfl (by decide) rfl ((Hl.out.alloc _).drew) rfl (src_box (heap_drew (heap_alloc_new _ _))) (cellsP_one [(x.extract 0 a, x.extract (a + 1) x.size)]) (by unfold maxLen; omega) (by omega) (by simp; omega) ?_
                       intro v3 w3 hr3 hg3 hb3
                       replace hr3 := Lib.hid hr3; replace hg3 := Lib.hid hg3)
                    | fail)
                  all_goals (
                    go_wp2
                    refine ⟨⟨k + 1, by omega, by omega, by go_num, ?_, (((hbw.alloc hge _).drew).grown hg3.out (by simp; omega) (fun q hq => (Hl.out.lt q hq).1)), ?_⟩, by simp [intOf]; omega⟩
                    · have h := hr3.out
                      rw [hpart.out, cellsP_append, ← ext_take_, ← ext_end]
                      exact h
                    · show Good _
                      rw [← take_succ_eq Hx.out]
                      exact Hgood.out.snoc Hp.out)
            · obtain ⟨q, rfl⟩ : ∃ q, r = q + 1 := ⟨r - 1, by omega⟩
              obtain rfl : z = (q : Int) := by omega
              clear hz h0
              have hqs : q < x.size := by omega
              have hq := byte_at x q hqs
              have Hq := Lib.hid hq
              clear hq
              have hw2 : IntKind.i64.wrap ((q : Int) - 1) = (q : Int) - 1 := by simp (disch := omega) only [IntWalk.i64_in]
              have hge : decide ((0 : Int) ≤ (q : Int)) = true := decide_eq_true (by omega)
              by_cases hb : x[q]'hqs = 61
              · have hbe : (((x[q]'hqs).toNat : Int) == 61) = true := by rw [hb]; rfl
                have Hb := Lib.hid hb
                clear hb
                go_wp2
                go_round
                case rel => exact ⟨q, _, by omega, rfl, rfl, .inr ⟨q, Nat.le_refl _, hqs, rfl, Hq.out.trans (congrArg some Hb.out), fun j h1 h2 => by omega⟩⟩
                case measure => simp [intOf]
              · have hbe : (((x[q]'hqs).toNat : Int) == 61) = false := by
                  rw [beq_eq_false_iff_ne]; intro h; exact hb (UInt8.toNat_inj.1 (by show (x[q]'hqs).toNat = 61; omega))
                have Hb := Lib.hid hb
                clear hb
                go_wp2
                go_round
                case rel =>
                  refine ⟨q, _, by omega, rfl, rfl, ?_⟩
                  rcases hat with ⟨h1, h2⟩ | ⟨a, h1, h2, h3, h4, h5⟩
                  · refine .inl ⟨h1, fun j hj => ?_⟩
                    by_cases hjq : j = q
                    · subst hjq; rw [Hq.out]; exact fun h => Hb.out (Option.some.inj h)
                    · exact h2.out j (by omega)
                  · refine .inr ⟨a, by omega, h2, h3, h4, fun j hj hj2 => ?_⟩
                    by_cases hjq : j = q
                    · subst hjq; rw [Hq.out]; exact fun h => Hb.out (Option.some.inj h)
                    · exact h5.out j (by omega) hj2
                case measure => simp [intOf]
        · have hkN : k = N := by omega
          subst hkN
          have hall : (splitS 44 s).take k = splitS 44 s := List.take_of_length_le (by have := HN.out; omega)
          rw [hall] at hl Hgood
          have Hres : Hid (parseP s = makeP (pairsP (splitS 44 s))) := Hf.out.trans (partsP_all Hgood.out (by have := HN.out; omega))
          have hok : OkP (pairsP (splitS 44 s)) := pairsP_ok fun x hx => by have := splitS_sizes hx; unfold maxLen; omega
          have hlen : k = (pairsP (splitS 44 s)).length := by rw [pairsP_length Hgood.out]; exact HN.out.symm
          have Hmk := Lib.hid (rmake_any A2 k c2 (pairsP (splitS 44 s)) wr hlen (by omega) (RdP.of_own hl) hok)
          have hge := hbw.size
          have hge1 := hb.size
          clear hall hl hok hlen
          go_wp2_with fail
          refine Hmk.out.mono ?_
          rintro e w3 ⟨v, rfl, hown3, hb3⟩
          go_wp2
          go_ret2
          rw [Hres.out]
          exact ⟨_, rfl, own_mono hown3 (by omega), hb.trans ((hbw.trans (hb3.mono hge)).mono hge1)⟩
end Go.Proofs.YthhlalnkihmfhaaDoor
