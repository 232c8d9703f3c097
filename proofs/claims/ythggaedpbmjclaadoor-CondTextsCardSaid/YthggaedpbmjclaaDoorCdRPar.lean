/- Layer 13: words as a condition: the document's. -/
import Derived.Test.YthggaedpbmjclaaDoorCdPar
import Derived.Test.YthggaedpbmjclaaDoorCdRTxt
import Derived.Test.YthggaedpbmjclaaDoorCdRSig
namespace Go.Proofs.YthggaedpbmjclaaDoor
open Go.RowKit Go.Proofs

/-- where the document's Parse stands: what is returned (at g), the condition (at b), the words (at m) -/
structure ParSr (w : World) (g b m : Nat) (k : Nat) (z : Int) (t : Nat) (W : World) : Prop where
  c : W.heap[b]? = some (.cells #[.int .i64 k, .int .i64 z, .int .u64 t] 35 (0, 0))
  r : W.heap[g]? = some (.cells #[.int .i64 0, .int .i64 0, .int .u64 0] 35 (0, 0))
  nm : W.heap[m]? = some (.cells namesR 9 (0, 0))
  below : Below w.heap.size w W
  ne : g ≠ b
  nb : m ≠ b
  hb : w.heap.size ≤ b
  hg : w.heap.size ≤ g
theorem ParSr.later {w : World} {g b m k : Nat} {z : Int} {t : Nat} {W W' : World} (h : ParSr w g b m k z t W) (hb : Below W.heap.size W W') : ParSr w g b m k z t W' :=
  ⟨(hb.block _ (Array.getElem?_eq_some_iff.1 h.c).1).trans h.c, (hb.block _ (Array.getElem?_eq_some_iff.1 h.r).1).trans h.r, (hb.block _ (Array.getElem?_eq_some_iff.1 h.nm).1).trans h.nm, h.below.trans (hb.mono h.below.size), h.ne, h.nb, h.hb, h.hg⟩
theorem ParSr.set0 {w : World} {g b m : Nat} {k : Nat} {z : Int} {t : Nat} {W : World} (h : ParSr w g b m k z t W) (k' : Nat) : ParSr w g b m k' z t (W.setCell ⟨b, 0, none⟩ (.int .i64 (k' : Nat))) :=
  ⟨heap_setCell_same _ _ _ _ _ _ h.c, ((Only13.setCell W b 0 _).block g (Array.getElem?_eq_some_iff.1 h.r).1 h.ne).trans h.r, ((Only13.setCell W b 0 _).block m (Array.getElem?_eq_some_iff.1 h.nm).1 h.nb).trans h.nm, (Only13.setCell W b 0 _).below h.below h.below.size h.hb, h.ne, h.nb, h.hb, h.hg⟩
theorem ParSr.set1 {w : World} {g b m : Nat} {k : Nat} {z : Int} {t : Nat} {W : World} (h : ParSr w g b m k z t W) (z' : Int) : ParSr w g b m k z' t (W.setCell ⟨b, 1, none⟩ (.int .i64 z')) :=
  ⟨heap_setCell_same _ _ _ _ _ _ h.c, ((Only13.setCell W b 1 _).block g (Array.getElem?_eq_some_iff.1 h.r).1 h.ne).trans h.r, ((Only13.setCell W b 1 _).block m (Array.getElem?_eq_some_iff.1 h.nm).1 h.nb).trans h.nm, (Only13.setCell W b 1 _).below h.below h.below.size h.hb, h.ne, h.nb, h.hb, h.hg⟩
theorem ParSr.set2 {w : World} {g b m : Nat} {k : Nat} {z : Int} {t : Nat} {W : World} (h : ParSr w g b m k z t W) (t' : Nat) : ParSr w g b m k z t' (W.setCell ⟨b, 2, none⟩ (.int .u64 t')) :=
  ⟨heap_setCell_same _ _ _ _ _ _ h.c, ((Only13.setCell W b 2 _).block g (Array.getElem?_eq_some_iff.1 h.r).1 h.ne).trans h.r, ((Only13.setCell W b 2 _).block m (Array.getElem?_eq_some_iff.1 h.nm).1 h.nb).trans h.nm, (Only13.setCell W b 2 _).below h.below h.below.size h.hb, h.ne, h.nb, h.hb, h.hg⟩
theorem ParSr.cells {w : World} {g b m k : Nat} {z : Int} {t : Nat} {W : World} (h : ParSr w g b m k z t W) : W.cell? ⟨b, 0, none⟩ = some (.int .i64 k) ∧ W.cell? ⟨b, 1, none⟩ = some (.int .i64 z) ∧ W.cell? ⟨b, 2, none⟩ = some (.int .u64 t) ∧ (∀ j, W.frozen? ⟨b, j, none⟩ = false) ∧ (∀ j x, namesR[j]? = some x → W.cell? ⟨m, j, none⟩ = some x) :=
  ⟨cell_of_row _ _ 0 _ _ _ h.c, cell_of_row _ _ 1 _ _ _ h.c, cell_of_row _ _ 2 _ _ _ h.c, fun _ => frozen_of_row _ _ _ _ _ h.c, fun j _ hx => (cell_of_row _ _ j _ _ _ h.nm).trans hx⟩
theorem rnum_ex (s : ByteArray) (most : Nat) (w : World) (hs : s.size ≤ 9223372036854775807) :
    Calls Tryd.prog 15 #[.string s, .int .u64 most] w fun e w' => ∃ t : Nat, e = .returned (.tuple #[.int .u64 t, .bool (numN s.data.toList most).isSome]) ∧ (∀ y, numN s.data.toList most = some y → t = y) ∧ w = w' := by
  obtain ⟨t, b, h1, h2, h3, h4⟩ := rnumV_eq s.data.toList most
  refine (rnum_any s most w hs).mono ?_
  rintro _ w1 ⟨rfl, rfl⟩
  exact ⟨t, by rw [h1, h2], h3, rfl⟩
theorem ParSr.fin {w : World} {g b m k : Nat} {z : Int} {t : Nat} {W : World} (h : ParSr w g b m k z t W) (cs : Array Value) : Below w.heap.size w (W.setRow g cs) := below_setRow h.below h.hg _
/-- the kind that is found among the first names -/
def kindB (s : ByteArray) (i : Nat) : Nat := if kindN s < i then kindN s else 0
theorem kindB_one (s : ByteArray) : kindB s 1 = 0 := by unfold kindB; split <;> omega
theorem kindB_six (s : ByteArray) : kindB s 6 = kindN s := if_pos (by have := kindN_le s; omega)
theorem kindB_hit {s : ByteArray} {i : Nat} (h : kindN s = i) : kindB s (i + 1) = i := by unfold kindB; rw [if_pos (by omega), h]
theorem kindB_no {s : ByteArray} {i : Nat} (h : kindN s ≠ i) : kindB s (i + 1) = kindB s i := by
  unfold kindB
  by_cases h1 : kindN s < i
  · rw [if_pos (by omega), if_pos h1]
  · rw [if_neg (by omega), if_neg h1]
theorem names_at {i : Nat} (h1 : 1 ≤ i) (h5 : i ≤ 5) : namesR[i]? = some (.string (nameK i)) := by
  have : i = 1 ∨ i = 2 ∨ i = 3 ∨ i = 4 ∨ i = 5 := by omega
  rcases this with rfl | rfl | rfl | rfl | rfl <;> rfl
set_option maxRecDepth 100000 in
set_option maxHeartbeats 8000000 in
theorem rparse_any (A : Option Addr) (n c : Nat) (l : List ByteArray) (w : World) (hn : n = l.length) (hc : n ≤ c) (hl : ∀ x ∈ l, x.size ≤ 9223372036854775807) (hr : RdW w w.heap.size A l) (hmx : n ≤ 1000) :
    Calls Tryd.prog 7 #[.slice A n c] w fun e w' => e = .returned (poV .i64 (parsF l)) ∧ Below w.heap.size w w' := by
  obtain ⟨w1, hw1, hc1, hb1⟩ := boxRow w 35 #[.int .i64 0, .int .i64 0, .int .u64 0]
  obtain ⟨w2, hw2, hc2, hb2⟩ := boxRow w1 9 #[.string ⟨#[]⟩, .string ⟨#[97, 98, 111, 118, 101]⟩, .string ⟨#[98, 101, 108, 111, 119]⟩, .string ⟨#[97, 98, 115, 101, 110, 116]⟩, .string ⟨#[114, 105, 115, 101, 115]⟩, .string ⟨#[102, 97, 108, 108, 115]⟩]
  obtain ⟨w3, hw3, hc3, hb3⟩ := boxRow w2 35 #[.int .i64 0, .int .i64 0, .int .u64 0]
  obtain ⟨g, hg⟩ : ∃ g, g = w.heap.size := ⟨_, rfl⟩
  obtain ⟨bn, hbn⟩ : ∃ g, g = w1.heap.size := ⟨_, rfl⟩
  obtain ⟨bc, hbc⟩ : ∃ g, g = w2.heap.size := ⟨_, rfl⟩
  rw [← hg] at hc1
  rw [← hbn] at hc2
  rw [← hbc] at hc3
  have l1 := (Array.getElem?_eq_some_iff.1 hc1).1
  have l2 := (Array.getElem?_eq_some_iff.1 hc2).1
  have b12 := hb1.trans (hb2.mono hb1.size)
  have ST3 := Lib.hid (⟨hc3, (hb3.block _ (by have := hb2.size; omega)).trans ((hb2.block _ l1).trans hc1), (hb3.block _ l2).trans hc2, b12.trans (hb3.mono b12.size), (by have := hb2.size; omega), (by omega), (by rw [hbc]; exact b12.size), by omega⟩ : ParSr w g bc bn 0 0 0 w3)
  have HW1 := Lib.hid hw1
  have HW2 := Lib.hid hw2
  have HW3 := Lib.hid hw3
  have HG := Lib.hid hg
  have HBN := Lib.hid hbn
  have HBC := Lib.hid hbc
  obtain ⟨O, hO⟩ : ∃ O, O = parsF l := ⟨_, rfl⟩
  rw [← hO]
  obtain ⟨s, hs⟩ : ∃ s, s = l.headD ⟨#[]⟩ := ⟨_, rfl⟩
  have HO := Lib.hid hO
  have HS := Lib.hid hs
  have HN := Lib.hid hn
  have HL := Lib.hid hl
  have HR : Hid (∀ W, Below w.heap.size w W → RdW W w.heap.size A l) := fun W hW => hr.below hW
  clear hw1 hc1 hb1 hw2 hc2 hb2 hw3 hc3 hb3 hg hbn hbc l1 l2 b12 hO hs hn hl hr
  go_enter Tryd.func7, Tryd.ntmps7
  go_upto_region 1 with fail
  rw [← HW1.out, ← HG.out]
  go_upto_region 2 with fail
  rw [← HW2.out, ← HBN.out]
  go_upto_region 3 with fail
  rw [← HW3.out, ← HBC.out]
  clear HW1 HW2 HW3 HG HBN HBC
  go_upto_region 4 with fail
  go_loopw [6] (fun kv wx => ∃ i : Nat, 1 ≤ i ∧ i ≤ 6 ∧ kv = .int .i64 i ∧ Hid (ParSr w g bc bn (kindB s i) 0 0 wx)) (fun kv _ => 6 - (intOf kv).toNat)
  case atStart => exact ⟨1, by decide, by decide, rfl, by show ParSr _ _ _ _ _ _ _ _; rw [kindB_one]; exact ST3.out⟩
  case round =>
    obtain ⟨i, hi1, hi6, rfl, ST⟩ := hrel
    by_cases hlt : i ≤ 5
    · have q1 : decide ((i : Int) < 6) = true := decide_eq_true (by omega)
      have q2 : decide (i < 6) = true := decide_eq_true (by omega)
      have q4 : i < 6 := by omega
      obtain ⟨y, hy⟩ : ∃ y, y = i + 1 := ⟨_, rfl⟩
      have e5 : (i : Int) + 1 = (y : Int) := by omega
      have e6 : IntKind.i64.wrap (y : Int) = (y : Int) := by rw [IntKind.wrap_i64]; omega
      have HY : Hid (y = i + 1 ∧ y ≤ 6) := ⟨hy, by omega⟩
      obtain ⟨c0, c1, c2, z0, cn⟩ := ST.out.cells
      have cni := cn i _ (names_at hi1 hlt)
      have zi := z0 0
      clear cn z0 hy
      cases l with
      | nil =>
        have hk0 : kindN s = 0 := by rw [HS.out]; decide +kernel
        obtain rfl : n = 0 := HN.out
        go_upto_region 6 with fail
        go_quiet (fail)
        obtain ⟨V, hV⟩ : ∃ V, V = wr.drewN nq := ⟨_, rfl⟩
        have STV := Lib.hid (ST.out.later (show Below wr.heap.size wr V by rw [hV]; exact ⟨rfl, rfl, rfl, Nat.le_refl _, fun _ _ => rfl⟩))
        first | rw [← hV] | skip
        have HS2 : Hid (ParSr w g bc bn (kindB s y) 0 0 V) := by show ParSr _ _ _ _ _ _ _ _; rw [HY.out.1, kindB_no (by omega)]; exact STV.out
        clear hk0 ST STV c0 c1 c2 cni zi
        first | rw [hV] at HS2 | skip
        go_wp2
        go_roundw
        case rel => exact ⟨y, by have := HY.out; omega, HY.out.2, rfl, HS2⟩
        case measure => have := HY.out; simp [intOf]; omega
      | cons x r =>
        obtain ⟨b, q, rfl, hbb, hcl⟩ := HR.out wr ST.out.below (by simp)
        have a0 := hcl 0 x rfl
        rw [Nat.add_zero] at a0
        obtain rfl : s = x := HS.out
        have n0 : decide ((0 : Int) < (n : Int)) = true := decide_eq_true (by have := HN.out; simp at this; omega)
        have n0' : decide (0 < n) = true := decide_eq_true (by have := HN.out; simp at this; omega)
        have n0l : 0 < n := by have := HN.out; simp at this; omega
        clear hcl hbb
        by_cases hs : s = nameK i
        · have d1 : (s.toList == (nameK i).toList) = true := by rw [hs]; simp
          go_upto_region 6 with fail
          go_quiet (fail)
          obtain ⟨V, hV⟩ : ∃ V, V = wr.drewN nq := ⟨_, rfl⟩
          have STV := Lib.hid (ST.out.later (show Below wr.heap.size wr V by rw [hV]; exact ⟨rfl, rfl, rfl, Nat.le_refl _, fun _ _ => rfl⟩))
          first | rw [← hV] | skip
          have HS2 : Hid (ParSr w g bc bn (kindB s y) 0 0 (V.setCell ⟨bc, 0, none⟩ (.int .i64 i))) := by
            show ParSr _ _ _ _ _ _ _ _
            rw [HY.out.1, kindB_hit (kindN_first hs hi1 hlt)]
            exact STV.out.set0 i
          clear c0 c1 c2 cni zi
          obtain ⟨c0, -, -, z0, -⟩ := STV.out.cells
          have zi := z0 0
          clear hs ST z0 STV hV
          go_wp2
          go_roundw
          case rel => exact ⟨y, by have := HY.out; omega, HY.out.2, rfl, HS2⟩
          case measure => have := HY.out; simp [intOf]; omega
        · have d1 := toList_ne hs
          go_upto_region 6 with fail
          go_quiet (fail)
          obtain ⟨V, hV⟩ : ∃ V, V = wr.drewN nq := ⟨_, rfl⟩
          have STV := Lib.hid (ST.out.later (show Below wr.heap.size wr V by rw [hV]; exact ⟨rfl, rfl, rfl, Nat.le_refl _, fun _ _ => rfl⟩))
          first | rw [← hV] | skip
          have HS2 : Hid (ParSr w g bc bn (kindB s y) 0 0 V) := by
            show ParSr _ _ _ _ _ _ _ _
            rw [HY.out.1, kindB_no (fun e => hs (by have := kindN_pos (s := s) (by omega); rw [e] at this; exact this))]
            exact STV.out
          clear hs ST STV hV c0 c1 c2 cni zi
          go_wp2
          go_roundw
          case rel => exact ⟨y, by have := HY.out; omega, HY.out.2, rfl, HS2⟩
          case measure => have := HY.out; simp [intOf]; omega
    · obtain rfl : i = 6 := by omega
      rw [kindB_six] at ST
      obtain ⟨k, hk⟩ : ∃ k, k = kindN s := ⟨_, rfl⟩
      rw [← hk] at ST
      obtain ⟨c0, c1, c2, z0, cn⟩ := ST.out.cells
      have z1 := z0 1
      have z2 := z0 2
      clear z0 cn hi1 hi6 hlt
      by_cases hk0 : k = 0
      · have E : Hid (O = (0, 0, 0, 2)) := by
          show O = _
          rw [HO.out]
          exact if_pos (.inl (by rw [← HS.out, ← hk]; exact hk0))
        have k0 : ((k : Int) == 0) = true := by rw [beq_iff_eq]; omega
        clear hk hk0
        go_upto_region 9 with fail
        go_wp2_with (first | (refine wpList_store_row rfl _ _ _ rfl g #[.int .i64 0, .int .i64 0, .int .u64 0] rfl rfl _ _ ST.out.r Tryd.infoRc rfl (by simp [Value.oneCell']) ?_) | fail)
        refine bodyPost_ret (v := .tuple #[.agg #[.int .i64 0, .int .i64 0, .int .u64 0], .int .i64 2]) ?_ rfl ⟨by rw [E.out]; rfl, ST.out.fin _⟩
        exact results_pt rfl _ _ g _ _ _ _ rfl rfl (setRow_heap _ _ _ _ _ _ ST.out.r) Tryd.underlying35 rfl (by kernel_rfl)
      · have k0 : ((k : Int) == 0) = false := by rw [beq_eq_false_iff_ne]; omega
        have hk5 : k ≤ 5 := by rw [hk]; exact kindN_le s
        obtain ⟨x, r, hl⟩ : ∃ x r, l = x :: r := by
          cases l with
          | nil => exact absurd (show k = 0 by rw [hk, HS.out]; decide +kernel) hk0
          | cons x r => exact ⟨x, r, rfl⟩
        subst hl
        obtain rfl : s = x := HS.out
        obtain ⟨b, q, rfl, hbb, -⟩ := HR.out wr ST.out.below (by simp)
        have HF : Hid (∀ W, Below w.heap.size w W → ∀ i x, (s :: r)[i]? = some x → W.cell? ⟨b, q + i, none⟩ = some (.string x)) := fun W hW i x hx => by
          obtain ⟨b', q', e, -, h⟩ := HR.out W hW (by simp)
          injection e with e
          injection e with e1 e2 e3
          subst e1; subst e2
          exact h i x hx
        have hrl : r.length + 1 = n := by rw [HN.out]; simp
        clear hbb HR
        by_cases h4 : k < 4
        · have k4 : decide ((k : Int) < 4) = true := decide_eq_true (by omega)
          have k4' : decide (k < 4) = true := decide_eq_true h4
          have g4 : decide ((4 : Int) ≤ (k : Int)) = false := decide_eq_false (by omega)
          have g4' : decide (4 ≤ k) = false := decide_eq_false (by omega)
          by_cases hn2 : n = 2
          · have n2 : ((n : Int) == 2) = true := by rw [beq_iff_eq]; omega
            have n2b : ((n : Int) != 2) = false := by rw [bne, n2]; rfl
            obtain ⟨y, rfl⟩ : ∃ y, r = [y] := by
              match r, hrl with
              | [y], _ => exact ⟨y, rfl⟩
              | [], h => simp at h; omega
              | _ :: _ :: _, h => simp at h; omega
            have hly := HL.out y (by simp)
            obtain ⟨j, hj⟩ : ∃ j, j = n - 1 := ⟨_, rfl⟩
            have e9 : (n : Int) - 1 = (j : Int) := by omega
            have e10 : IntKind.i64.wrap (j : Int) = (j : Int) := by rw [IntKind.wrap_i64]; omega
            have jn : j < n := by omega
            have n1 : 1 < n := by omega
            have HA : Hid (∀ W, Below w.heap.size w W → W.cell? ⟨b, q + 1, none⟩ = some (.string y) ∧ W.cell? ⟨b, q + j, none⟩ = some (.string y)) := fun W hW => ⟨HF.out W hW 1 _ rfl, HF.out W hW j _ (by rw [show j = 1 by omega]; rfl)⟩
            obtain ⟨a1, aj⟩ := HA.out wr ST.out.below
            by_cases h3 : k = 3
            · have E : Hid (O = parsN k (some 0) (numN y.data.toList 1048576)) := by show O = _; rw [HO.out, parsF_2 hk.symm h3]
              have k3 : ((k : Int) == 3) = true := by rw [beq_iff_eq]; omega
              have g3 : decide ((3 : Int) ≤ (k : Int)) = true := decide_eq_true (by omega)
              have g3' : decide (3 ≤ k) = true := decide_eq_true (by omega)
              have HNG := Lib.hid (fun W => rnum_ex y 1048576 W hly)
              obtain ⟨R, hR⟩ : ∃ R, R = numN y.data.toList 1048576 := ⟨_, rfl⟩
              rw [← hR] at HNG E
              clear hk hk0 hk5 hrl hly hj hn2 h3 h4 hR
              go_upto_region 10 with fail
              go_wp2_with fail
              refine (HNG.out wr).mono ?_
              rintro _ w4 ⟨t, rfl, ht, rfl⟩
              clear HNG a1 aj
              cases R with
              | none =>
                rw [show (none : Option Nat).isSome = false from rfl]
                have ST5 := Lib.hid (ST.out.set2 t)
                go_upto_region 18 with fail
                go_wp2_with (first | (refine wpList_store_row rfl _ _ _ rfl g #[.int .i64 0, .int .i64 0, .int .u64 0] rfl rfl _ _ ST5.out.r Tryd.infoRc rfl (by simp [Value.oneCell']) ?_) | fail)
                refine bodyPost_ret (v := .tuple #[.agg #[.int .i64 0, .int .i64 0, .int .u64 0], .int .i64 27]) ?_ rfl ⟨by rw [E.out]; rfl, ST5.out.fin _⟩
                exact results_pt rfl _ _ g _ _ _ _ rfl rfl (setRow_heap _ _ _ _ _ _ ST5.out.r) Tryd.underlying35 rfl (by kernel_rfl)
              | some t' =>
                obtain rfl : t = t' := ht t' rfl
                rw [show (some t : Option Nat).isSome = true from rfl]
                have ST5 := Lib.hid (ST.out.set2 t)
                go_upto_region 17 with fail
                obtain ⟨w5, hw5⟩ : ∃ V, V = wr.setCell ⟨bc, 2, none⟩ (.int .u64 t) := ⟨_, rfl⟩
                rw [← hw5] at ST5 ⊢
                clear hw5 ST c0 c1 c2 z1 z2 ht
                go_upto_region 19 with fail
                obtain ⟨C, hC⟩ : ∃ C, C = checkC k (0 : Int) t := ⟨_, rfl⟩
                have HCK : Hid (∀ W, Calls Tryd.prog 10 #[.agg #[.int .i64 k, .int .i64 (0 : Int), .int .u64 t]] W fun e w' => e = .returned (.int .i64 C) ∧ Below W.heap.size W w') := by rw [hC]; exact fun W => rccheck_any k (0 : Int) t W
                have EC : Hid (O = if C = 0 then (k, (0 : Int), t, 0) else (0, 0, 0, C)) := by rw [hC]; exact E.out
                clear hC
                go_wp2_with (first | (refine wpList_load_row rfl _ _ rfl bc rfl _ _ _ _ ST5.out.c Tryd.underlying35 rfl (by kernel_rfl) ?_) | fail)
                all_goals
                  refine (HCK.out _).mono ?_
                  rintro _ w8 ⟨rfl, hb8⟩
                  have ST8 := Lib.hid (ST5.out.later hb8)
                  clear hb8 HCK
                  by_cases hz : C = 0
                  · subst hz
                    have EE : Hid (O = (k, (0 : Int), t, 0)) := EC.out
                    go_wp2_with (first | (refine wpList_load_row rfl _ _ rfl bc rfl _ _ _ _ ST8.out.c Tryd.underlying35 rfl (by kernel_rfl) ?_) | (refine wpList_store_row rfl _ _ _ rfl g #[.int .i64 k, .int .i64 (0 : Int), .int .u64 t] rfl rfl _ _ ST8.out.r Tryd.infoRc rfl (by simp [Value.oneCell']) ?_) | fail)
                    refine bodyPost_ret (v := .tuple #[.agg #[.int .i64 k, .int .i64 (0 : Int), .int .u64 t], .int .i64 0]) ?_ rfl ⟨by rw [EE.out]; rfl, ST8.out.fin _⟩
                    exact results_pt rfl _ _ g _ _ _ _ rfl rfl (setRow_heap _ _ _ _ _ _ ST8.out.r) Tryd.underlying35 rfl (by kernel_rfl)
                  · have EE : Hid (O = (0, 0, 0, C)) := by rw [EC.out]; exact if_neg hz
                    have q1 : (C == 0) = false := by rw [beq_eq_false_iff_ne]; exact hz
                    go_wp2_with (first | (refine wpList_store_row rfl _ _ _ rfl g #[.int .i64 0, .int .i64 0, .int .u64 0] rfl rfl _ _ ST8.out.r Tryd.infoRc rfl (by simp [Value.oneCell']) ?_) | fail)
                    refine bodyPost_ret (v := .tuple #[.agg #[.int .i64 0, .int .i64 0, .int .u64 0], .int .i64 C]) ?_ rfl ⟨by rw [EE.out]; rfl, ST8.out.fin _⟩
                    exact results_pt rfl _ _ g _ _ _ _ rfl rfl (setRow_heap _ _ _ _ _ _ ST8.out.r) Tryd.underlying35 rfl (by kernel_rfl)
            · have E : Hid (O = parsN k (signF y.data.toList) (some 0)) := by show O = _; rw [HO.out, parsF_1 hk.symm (by omega)]
              have k3 : ((k : Int) == 3) = false := by rw [beq_eq_false_iff_ne]; omega
              have g3 : decide ((3 : Int) ≤ (k : Int)) = false := decide_eq_false (by omega)
              have g3' : decide (3 ≤ k) = false := decide_eq_false (by omega)
              have HSG := Lib.hid (fun W => rsign_any y W hly)
              obtain ⟨R, hR⟩ : ∃ R, R = signF y.data.toList := ⟨_, rfl⟩
              rw [← hR] at HSG E
              clear hk hk0 hk5 hrl hly hj hn2 h3 h4 hR
              go_upto_region 10 with fail
              go_wp2_with fail
              refine (HSG.out wr).mono ?_
              rintro _ w4 ⟨z, rfl, hz, rfl⟩
              clear HSG a1 aj
              cases R with
              | none =>
                rw [show (none : Option Int).isSome = false from rfl]
                have ST5 := Lib.hid (ST.out.set1 z)
                go_upto_region 14 with fail
                go_wp2_with (first | (refine wpList_store_row rfl _ _ _ rfl g #[.int .i64 0, .int .i64 0, .int .u64 0] rfl rfl _ _ ST5.out.r Tryd.infoRc rfl (by simp [Value.oneCell']) ?_) | fail)
                refine bodyPost_ret (v := .tuple #[.agg #[.int .i64 0, .int .i64 0, .int .u64 0], .int .i64 27]) ?_ rfl ⟨by rw [E.out]; rfl, ST5.out.fin _⟩
                exact results_pt rfl _ _ g _ _ _ _ rfl rfl (setRow_heap _ _ _ _ _ _ ST5.out.r) Tryd.underlying35 rfl (by kernel_rfl)
              | some z' =>
                obtain rfl : z = z' := hz z' rfl
                rw [show (some z : Option Int).isSome = true from rfl]
                have ST5 := Lib.hid (ST.out.set1 z)
                go_upto_region 13 with fail
                obtain ⟨w5, hw5⟩ : ∃ V, V = wr.setCell ⟨bc, 1, none⟩ (.int .i64 z) := ⟨_, rfl⟩
                rw [← hw5] at ST5 ⊢
                clear hw5 ST c0 c1 c2 z1 z2 hz
                obtain ⟨c0, -, -, -, -⟩ := ST5.out.cells
                go_upto_region 19 with fail
                obtain ⟨C, hC⟩ : ∃ C, C = checkC k z (0 : Nat) := ⟨_, rfl⟩
                have HCK : Hid (∀ W, Calls Tryd.prog 10 #[.agg #[.int .i64 k, .int .i64 z, .int .u64 (0 : Nat)]] W fun e w' => e = .returned (.int .i64 C) ∧ Below W.heap.size W w') := by rw [hC]; exact fun W => rccheck_any k z (0 : Nat) W
                have EC : Hid (O = if C = 0 then (k, z, (0 : Nat), 0) else (0, 0, 0, C)) := by rw [hC]; exact E.out
                clear hC
                go_wp2_with (first | (refine wpList_load_row rfl _ _ rfl bc rfl _ _ _ _ ST5.out.c Tryd.underlying35 rfl (by kernel_rfl) ?_) | fail)
                all_goals
                  refine (HCK.out _).mono ?_
                  rintro _ w8 ⟨rfl, hb8⟩
                  have ST8 := Lib.hid (ST5.out.later hb8)
                  clear hb8 HCK
                  by_cases hz : C = 0
                  · subst hz
                    have EE : Hid (O = (k, z, (0 : Nat), 0)) := EC.out
                    go_wp2_with (first | (refine wpList_load_row rfl _ _ rfl bc rfl _ _ _ _ ST8.out.c Tryd.underlying35 rfl (by kernel_rfl) ?_) | (refine wpList_store_row rfl _ _ _ rfl g #[.int .i64 k, .int .i64 z, .int .u64 (0 : Nat)] rfl rfl _ _ ST8.out.r Tryd.infoRc rfl (by simp [Value.oneCell']) ?_) | fail)
                    refine bodyPost_ret (v := .tuple #[.agg #[.int .i64 k, .int .i64 z, .int .u64 (0 : Nat)], .int .i64 0]) ?_ rfl ⟨by rw [EE.out]; rfl, ST8.out.fin _⟩
                    exact results_pt rfl _ _ g _ _ _ _ rfl rfl (setRow_heap _ _ _ _ _ _ ST8.out.r) Tryd.underlying35 rfl (by kernel_rfl)
                  · have EE : Hid (O = (0, 0, 0, C)) := by rw [EC.out]; exact if_neg hz
                    have q1 : (C == 0) = false := by rw [beq_eq_false_iff_ne]; exact hz
                    go_wp2_with (first | (refine wpList_store_row rfl _ _ _ rfl g #[.int .i64 0, .int .i64 0, .int .u64 0] rfl rfl _ _ ST8.out.r Tryd.infoRc rfl (by simp [Value.oneCell']) ?_) | fail)
                    refine bodyPost_ret (v := .tuple #[.agg #[.int .i64 0, .int .i64 0, .int .u64 0], .int .i64 C]) ?_ rfl ⟨by rw [EE.out]; rfl, ST8.out.fin _⟩
                    exact results_pt rfl _ _ g _ _ _ _ rfl rfl (setRow_heap _ _ _ _ _ _ ST8.out.r) Tryd.underlying35 rfl (by kernel_rfl)
          · have n2 : ((n : Int) == 2) = false := by rw [beq_eq_false_iff_ne]; omega
            have n2b : ((n : Int) != 2) = true := by rw [bne, n2]; rfl
            have E : Hid (O = (0, 0, 0, 2)) := by
              show O = _
              rw [HO.out, parsF_many hk.symm (by rw [show wordsK k = 2 by unfold wordsK; rw [if_pos (by omega)]]; omega)]
            clear hk hk0 hk5 hrl hn2 h4
            go_upto_region 9 with fail
            go_wp2_with (first | (refine wpList_store_row rfl _ _ _ rfl g #[.int .i64 0, .int .i64 0, .int .u64 0] rfl rfl _ _ ST.out.r Tryd.infoRc rfl (by simp [Value.oneCell']) ?_) | fail)
            refine bodyPost_ret (v := .tuple #[.agg #[.int .i64 0, .int .i64 0, .int .u64 0], .int .i64 2]) ?_ rfl ⟨by rw [E.out]; rfl, ST.out.fin _⟩
            exact results_pt rfl _ _ g _ _ _ _ rfl rfl (setRow_heap _ _ _ _ _ _ ST.out.r) Tryd.underlying35 rfl (by kernel_rfl)
        · have k4 : decide ((k : Int) < 4) = false := decide_eq_false (by omega)
          have k4' : decide (k < 4) = false := decide_eq_false h4
          have g4 : decide ((4 : Int) ≤ (k : Int)) = true := decide_eq_true (by omega)
          have g4' : decide (4 ≤ k) = true := decide_eq_true (by omega)
          by_cases hn3 : n = 3
          · have n3 : ((n : Int) == 3) = true := by rw [beq_iff_eq]; omega
            have n3b : ((n : Int) != 3) = false := by rw [bne, n3]; rfl
            obtain ⟨y, u, rfl⟩ : ∃ y u, r = [y, u] := by
              match r, hrl with
              | [y, u], _ => exact ⟨y, u, rfl⟩
              | [], h => simp at h; omega
              | [_], h => simp at h; omega
              | _ :: _ :: _ :: _, h => simp at h; omega
            have hly := HL.out y (by simp)
            have hlu := HL.out u (by simp)
            obtain ⟨j, hj⟩ : ∃ j, j = n - 1 := ⟨_, rfl⟩
            have e9 : (n : Int) - 1 = (j : Int) := by omega
            have e10 : IntKind.i64.wrap (j : Int) = (j : Int) := by rw [IntKind.wrap_i64]; omega
            have jn : j < n := by omega
            have n1 : 1 < n := by omega
            have HA : Hid (∀ W, Below w.heap.size w W → W.cell? ⟨b, q + 1, none⟩ = some (.string y) ∧ W.cell? ⟨b, q + j, none⟩ = some (.string u)) := fun W hW => ⟨HF.out W hW 1 _ rfl, HF.out W hW j _ (by rw [show j = 2 by omega]; rfl)⟩
            obtain ⟨a1, aj⟩ := HA.out wr ST.out.below
            have E : Hid (O = parsN k (signF y.data.toList) (numN u.data.toList 1048576)) := by show O = _; rw [HO.out, parsF_3 hk.symm (by omega)]
            have k3 : ((k : Int) == 3) = false := by rw [beq_eq_false_iff_ne]; omega
            have g3 : decide ((3 : Int) ≤ (k : Int)) = true := decide_eq_true (by omega)
            have g3' : decide (3 ≤ k) = true := decide_eq_true (by omega)
            have HSG := Lib.hid (fun W => rsign_any y W hly)
            have HNG := Lib.hid (fun W => rnum_ex u 1048576 W hlu)
            obtain ⟨R, hR⟩ : ∃ R, R = signF y.data.toList := ⟨_, rfl⟩
            rw [← hR] at HSG E
            obtain ⟨M, hM⟩ : ∃ R, R = numN u.data.toList 1048576 := ⟨_, rfl⟩
            rw [← hM] at HNG E
            clear hk hk0 hk5 hrl hly hlu hj hn3 h4 hR hM
            go_upto_region 10 with fail
            go_wp2_with fail
            refine (HSG.out wr).mono ?_
            rintro _ w4 ⟨z, rfl, hz, rfl⟩
            clear HSG a1 aj
            cases R with
            | none =>
              have EB : Hid (O = (0, 0, 0, 27)) := by rw [E.out]; rfl
              rw [show (none : Option Int).isSome = false from rfl]
              have ST5 := Lib.hid (ST.out.set1 z)
              go_upto_region 14 with fail
              go_wp2_with (first | (refine wpList_store_row rfl _ _ _ rfl g #[.int .i64 0, .int .i64 0, .int .u64 0] rfl rfl _ _ ST5.out.r Tryd.infoRc rfl (by simp [Value.oneCell']) ?_) | fail)
              refine bodyPost_ret (v := .tuple #[.agg #[.int .i64 0, .int .i64 0, .int .u64 0], .int .i64 27]) ?_ rfl ⟨by rw [EB.out]; rfl, ST5.out.fin _⟩
              exact results_pt rfl _ _ g _ _ _ _ rfl rfl (setRow_heap _ _ _ _ _ _ ST5.out.r) Tryd.underlying35 rfl (by kernel_rfl)
            | some z' =>
              obtain rfl : z = z' := hz z' rfl
              rw [show (some z : Option Int).isSome = true from rfl]
              have ST5 := Lib.hid (ST.out.set1 z)
              go_upto_region 13 with fail
              obtain ⟨w5, hw5⟩ : ∃ V, V = wr.setCell ⟨bc, 1, none⟩ (.int .i64 z) := ⟨_, rfl⟩
              rw [← hw5] at ST5 ⊢
              clear hw5 ST c0 c1 c2 z1 z2 hz
              obtain ⟨c0, c1, c2, z0, -⟩ := ST5.out.cells
              have z2 := z0 2
              clear z0
              obtain ⟨a1, aj⟩ := HA.out w5 ST5.out.below
              go_upto_region 16 with fail
              go_wp2_with fail
              refine (HNG.out w5).mono ?_
              rintro _ w6 ⟨t, rfl, ht, rfl⟩
              clear HNG a1 aj
              cases M with
              | none =>
                rw [show (none : Option Nat).isSome = false from rfl]
                have ST7 := Lib.hid (ST5.out.set2 t)
                go_upto_region 18 with fail
                go_wp2_with (first | (refine wpList_store_row rfl _ _ _ rfl g #[.int .i64 0, .int .i64 0, .int .u64 0] rfl rfl _ _ ST7.out.r Tryd.infoRc rfl (by simp [Value.oneCell']) ?_) | fail)
                refine bodyPost_ret (v := .tuple #[.agg #[.int .i64 0, .int .i64 0, .int .u64 0], .int .i64 27]) ?_ rfl ⟨by rw [E.out]; rfl, ST7.out.fin _⟩
                exact results_pt rfl _ _ g _ _ _ _ rfl rfl (setRow_heap _ _ _ _ _ _ ST7.out.r) Tryd.underlying35 rfl (by kernel_rfl)
              | some t' =>
                obtain rfl : t = t' := ht t' rfl
                rw [show (some t : Option Nat).isSome = true from rfl]
                have ST7 := Lib.hid (ST5.out.set2 t)
                go_upto_region 17 with fail
                obtain ⟨w7, hw7⟩ : ∃ V, V = w5.setCell ⟨bc, 2, none⟩ (.int .u64 t) := ⟨_, rfl⟩
                rw [← hw7] at ST7 ⊢
                clear hw7 ST5 c0 c1 c2 z2 ht
                go_upto_region 19 with fail
                obtain ⟨C, hC⟩ : ∃ C, C = checkC k z t := ⟨_, rfl⟩
                have HCK : Hid (∀ W, Calls Tryd.prog 10 #[.agg #[.int .i64 k, .int .i64 z, .int .u64 t]] W fun e w' => e = .returned (.int .i64 C) ∧ Below W.heap.size W w') := by rw [hC]; exact fun W => rccheck_any k z t W
                have EC : Hid (O = if C = 0 then (k, z, t, 0) else (0, 0, 0, C)) := by rw [hC]; exact E.out
                clear hC
                go_wp2_with (first | (refine wpList_load_row rfl _ _ rfl bc rfl _ _ _ _ ST7.out.c Tryd.underlying35 rfl (by kernel_rfl) ?_) | fail)
                all_goals
                  refine (HCK.out _).mono ?_
                  rintro _ w8 ⟨rfl, hb8⟩
                  have ST8 := Lib.hid (ST7.out.later hb8)
                  clear hb8 HCK
                  by_cases hz : C = 0
                  · subst hz
                    have EE : Hid (O = (k, z, t, 0)) := EC.out
                    go_wp2_with (first | (refine wpList_load_row rfl _ _ rfl bc rfl _ _ _ _ ST8.out.c Tryd.underlying35 rfl (by kernel_rfl) ?_) | (refine wpList_store_row rfl _ _ _ rfl g #[.int .i64 k, .int .i64 z, .int .u64 t] rfl rfl _ _ ST8.out.r Tryd.infoRc rfl (by simp [Value.oneCell']) ?_) | fail)
                    refine bodyPost_ret (v := .tuple #[.agg #[.int .i64 k, .int .i64 z, .int .u64 t], .int .i64 0]) ?_ rfl ⟨by rw [EE.out]; rfl, ST8.out.fin _⟩
                    exact results_pt rfl _ _ g _ _ _ _ rfl rfl (setRow_heap _ _ _ _ _ _ ST8.out.r) Tryd.underlying35 rfl (by kernel_rfl)
                  · have EE : Hid (O = (0, 0, 0, C)) := by rw [EC.out]; exact if_neg hz
                    have q1 : (C == 0) = false := by rw [beq_eq_false_iff_ne]; exact hz
                    go_wp2_with (first | (refine wpList_store_row rfl _ _ _ rfl g #[.int .i64 0, .int .i64 0, .int .u64 0] rfl rfl _ _ ST8.out.r Tryd.infoRc rfl (by simp [Value.oneCell']) ?_) | fail)
                    refine bodyPost_ret (v := .tuple #[.agg #[.int .i64 0, .int .i64 0, .int .u64 0], .int .i64 C]) ?_ rfl ⟨by rw [EE.out]; rfl, ST8.out.fin _⟩
                    exact results_pt rfl _ _ g _ _ _ _ rfl rfl (setRow_heap _ _ _ _ _ _ ST8.out.r) Tryd.underlying35 rfl (by kernel_rfl)
          · have n3 : ((n : Int) == 3) = false := by rw [beq_eq_false_iff_ne]; omega
            have n3b : ((n : Int) != 3) = true := by rw [bne, n3]; rfl
            have E : Hid (O = (0, 0, 0, 2)) := by
              show O = _
              rw [HO.out, parsF_many hk.symm (by rw [show wordsK k = 3 by unfold wordsK; rw [if_neg (by omega)]]; omega)]
            clear hk hk0 hk5 hrl hn3 h4
            go_upto_region 9 with fail
            go_wp2_with (first | (refine wpList_store_row rfl _ _ _ rfl g #[.int .i64 0, .int .i64 0, .int .u64 0] rfl rfl _ _ ST.out.r Tryd.infoRc rfl (by simp [Value.oneCell']) ?_) | fail)
            refine bodyPost_ret (v := .tuple #[.agg #[.int .i64 0, .int .i64 0, .int .u64 0], .int .i64 2]) ?_ rfl ⟨by rw [E.out]; rfl, ST.out.fin _⟩
            exact results_pt rfl _ _ g _ _ _ _ rfl rfl (setRow_heap _ _ _ _ _ _ ST.out.r) Tryd.underlying35 rfl (by kernel_rfl)
end Go.Proofs.YthggaedpbmjclaaDoor
