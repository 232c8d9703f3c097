/- Layer 13: the document's Holds. -/
import Derived.Test.YthggaedpbmjclaaCdRow
import Derived.Test.YthggaedpbmjclaaCdRef
namespace Go.Proofs.Ythggaedpbmjclaa
open Go.RowKit Go.Proofs

section
variable {B s : Nat} {L : List Pt} {p : Pt}
/-- one point of the row, in its kind's word -/
def oneB (k : Nat) (p : Pt) (lim : Int) (tk now : Nat) (q : Pt) : Bool := if k = 4 then risesB p lim tk now q else fallsB p lim tk now q
theorem holds_45 {k : Nat} {lim : Int} {tk now : Nat} (hk : 4 ≤ k) : holdsK k lim tk L p now = L.any (oneB k p lim tk now) := by
  unfold holdsK
  rw [if_neg (by omega), if_neg (by omega), if_neg (by omega)]
  by_cases h : k = 4
  · rw [if_pos h]; congr 1; funext q; unfold oneB; rw [if_pos h]
  · rw [if_neg h]; congr 1; funext q; unfold oneB; rw [if_neg h]
set_option maxRecDepth 100000 in
set_option maxHeartbeats 1000000 in
theorem rhol_none {k tk now : Nat} {lim : Int} (A : Option Addr) (c : Nat) (w : World) :
    Calls Try.prog 13 #[.agg #[.int .i64 k, .int .i64 lim, .int .u64 tk], .slice A 0 c, .int .u64 now] w fun e w' => e = .returned (.tuple #[.bool false, .int .i64 0]) ∧ Below w.heap.size w w' := by
  go_enter Try.func13, Try.ntmps13
  go_wp2
  go_ret2
  exact ⟨rfl, (Below.refl _ _).alloc (Nat.le_refl _) _⟩
set_option maxRecDepth 100000 in
set_option maxHeartbeats 4000000 in
theorem rhol_some {k tk now : Nat} {lim : Int} {v : Value} (w : World) (h : RowP w B s v L) (hf : L.length ≤ 1000) (hok : ∀ q ∈ L, OkPt q) (hp : L.getLast? = some p) (hk : 1 ≤ k) (hk5 : k ≤ 5) (hl : 4 ≤ k → 0 ≤ lim) (hl2 : lim < 9223372036854775808) (htk : tk ≤ 1048576) (hn : now ≤ 4398046511104) :
    Calls Try.prog 13 #[.agg #[.int .i64 k, .int .i64 lim, .int .u64 tk], v, .int .u64 now] w fun e w' => e = .returned (.tuple #[.bool (holdsK k lim tk L p now), .int .i64 p.v]) ∧ Below w.heap.size w w' := by
  have hpo : OkPt p := hok p (List.mem_of_getLast? hp)
  obtain ⟨h0, hg⟩ := lastPt hp
  obtain ⟨g, o, c, rfl, hr⟩ := h.at_ hg
  obtain ⟨w1, hw1, hc1, hb1, hs1⟩ : ∃ w1 : World, w1 = w.alloc (.cells #[.int .i64 k, .int .i64 lim, .int .u64 tk] 49) ∧ w1.heap[w.heap.size]? = some (.cells #[.int .i64 k, .int .i64 lim, .int .u64 tk] 49 (0, 0)) ∧ Below w.heap.size w w1 ∧ w1.heap.size = w.heap.size + 1 := ⟨_, rfl, heap_alloc_new _ _, (Below.refl _ _).alloc (Nat.le_refl _) _, by simp⟩
  obtain ⟨w2, hw2, hc2, hb2, hs2⟩ := boxP2 w1 41 #[.int .u64 0, .int .i64 0] #[.int .u64 p.t, .int .i64 p.v]
  have hb02 : Below w.heap.size w w2 := hb1.trans (hb2.mono hb1.size)
  obtain ⟨n, hnn⟩ : ∃ n, n = L.length := ⟨_, rfl⟩
  obtain ⟨m, hm⟩ : ∃ m, m + 1 = n := ⟨n - 1, by omega⟩
  have hgm : L.length - 1 = m := by omega
  rw [hgm] at hr
  rw [← hnn] at h ⊢ h0 hf
  obtain ⟨bl, hbl⟩ : ∃ b, b = w1.heap.size := ⟨_, rfl⟩
  rw [← hbl] at hc2
  have HC : Hid (∀ W, Below w2.heap.size w2 W → W.cell? ⟨w.heap.size, 0, none⟩ = some (.int .i64 k) ∧ W.cell? ⟨w.heap.size, 1, none⟩ = some (.int .i64 lim) ∧ W.cell? ⟨w.heap.size, 2, none⟩ = some (.int .u64 tk) ∧ W.cell? ⟨bl, 0, none⟩ = some (.int .u64 p.t) ∧ W.cell? ⟨bl, 1, none⟩ = some (.int .i64 p.v) ∧ Below w.heap.size w W) := fun W hW => by
    have e1 : W.heap[w.heap.size]? = some (.cells #[.int .i64 k, .int .i64 lim, .int .u64 tk] 49 (0, 0)) := (hW.block _ (by omega)).trans ((hb2.block _ (by omega)).trans hc1)
    have e2 : W.heap[bl]? = some (.cells #[.int .u64 p.t, .int .i64 p.v] 41 (0, 0)) := (hW.block _ (by omega)).trans hc2
    have hbW := hb02.trans (hW.mono hb02.size)
    exact ⟨cell_of_row _ _ 0 _ _ _ e1, cell_of_row _ _ 1 _ _ _ e1, cell_of_row _ _ 2 _ _ _ e1, cell_of_row _ _ 0 _ _ _ e2, cell_of_row _ _ 1 _ _ _ e2, hbW⟩
  have HP : Hid (∀ W, Below w2.heap.size w2 W → ∀ i q, L[i]? = some q → W.cell? ⟨g, o + i * 2, none⟩ = some (.int .u64 q.t) ∧ W.cell? ⟨g, o + i * 2 + 1, none⟩ = some (.int .i64 q.v)) := fun W hW i q hi => by
    have hb := hb02.trans (hW.mono hb02.size)
    obtain ⟨g', o', c', e, hr'⟩ := (h.below hb).at_ hi
    injection e with e1 e2 e3
    injection e1 with e1
    have e0 : o = o' := congrArg Addr.off e1
    have e1 : g = g' := congrArg Addr.block e1
    subst e1; subst e0
    exact ⟨hr' 0 _ rfl, hr' 1 _ rfl⟩
  have HR1 : Hid (w1.rangeAt g (o + m * 2) (ptC p)) := fun j u hj => by
    have h1 := hr j u hj
    exact (hb1.cell (p := ⟨g, o + m * 2 + j, none⟩) (World.block_lt_of_cell? _ _ h1)).trans h1
  have HW1 := Lib.hid hw1
  have HW2 := Lib.hid hw2
  have HOK := Lib.hid hok
  have HPO := Lib.hid hpo
  have HBL := Lib.hid hbl
  have HNN := Lib.hid hnn
  have d1 : ((n : Int) == 0) = false := by rw [beq_eq_false_iff_ne]; omega
  have d2 : (n == 0) = false := by rw [beq_eq_false_iff_ne]; omega
  have e1 : (n : Int) - 1 = (m : Int) := by omega
  have e2 : IntKind.i64.wrap (m : Int) = (m : Int) := by rw [IntKind.wrap_i64]; omega
  have d3 : decide ((m : Int) < (n : Int)) = true := decide_eq_true (by omega)
  have d4 : decide (m < n) = true := decide_eq_true (by omega)
  have hmn : m < n := by omega
  clear h hok hp hpo hw1 hc1 hb1 hs1 hw2 hc2 hb2 hs2 hb02 hg hr hbl hnn hgm h0 hm
  go_enter Try.func13, Try.ntmps13
  go_upto_region 1 with fail
  rw [← HW1.out]
  go_upto_region 4 with (first
    | (refine wpList_load_mid rfl _ _ rfl g (o + m * 2) rfl (ptC p) _ HR1.out Try.underlying41 rfl Try.infoRp ?_)
    | (refine wpList_store_row rfl _ _ _ rfl w1.heap.size #[.int .u64 p.t, .int .i64 p.v] rfl rfl _ _ (heap_alloc_new _ _) Try.infoRp rfl (by simp [Value.oneCell']) ?_)
    | fail)
  first | rw [← HW2.out, act_put_pt] | rw [← HW2.out]
  rw [← HBL.out]
  obtain ⟨c0, c1, c2, l0, l1, hbw⟩ := HC.out w2 (Below.refl _ _)
  have HB := Lib.hid hbw
  clear hbw HW1 HW2 HBL HR1 d1 d2 d3 d4 e1 e2 hmn
  obtain ⟨z, hz⟩ : ∃ z, z = p.v := ⟨_, rfl⟩
  obtain ⟨t, ht⟩ : ∃ t, t = p.t := ⟨_, rfl⟩
  have HRES : Hid (∀ (r : Bool), r = holdsK k lim tk L p now → Ending.returned (.tuple #[.bool r, .int .i64 z]) = Ending.returned (.tuple #[.bool (holdsK k lim tk L p now), .int .i64 p.v])) := fun r h => by rw [h, hz]
  have hkk : k = 1 ∨ k = 2 ∨ k = 3 ∨ k = 4 ∨ k = 5 := by omega
  have HZ := Lib.hid hz
  have HT := Lib.hid ht
  rcases hkk with rfl | rfl | rfl | rfl | rfl
  · rw [← hz] at l1
    clear hz ht
    go_upto_region 6 with fail
    go_quiet (fail)
    go_wp2
    go_ret2
    exact ⟨HRES.out _ (by rw [HZ.out]; rfl), HB.out.trans ⟨rfl, rfl, rfl, Nat.le_refl _, fun _ _ => rfl⟩⟩
  · rw [← hz] at l1
    clear hz ht
    go_upto_region 8 with fail
    go_quiet (fail)
    go_wp2
    go_ret2
    exact ⟨HRES.out _ (by rw [HZ.out]; rfl), HB.out.trans ⟨rfl, rfl, rfl, Nat.le_refl _, fun _ _ => rfl⟩⟩
  · rw [← hz] at l1
    rw [← ht] at l0
    obtain ⟨u, hu⟩ : ∃ u, u = t + tk := ⟨_, rfl⟩
    have hpt := HPO.out.t
    have e3 : (t : Int) + (tk : Int) = (u : Int) := by omega
    have e4 : IntKind.u64.wrap (u : Int) = (u : Int) := by rw [IntKind.wrap_u64]; omega
    have HU := Lib.hid hu
    clear hz ht hu hpt
    by_cases h1 : u ≤ now
    · have d1 : decide ((u : Int) ≤ (now : Int)) = true := decide_eq_true (by omega)
      have d2 : decide (u ≤ now) = true := decide_eq_true h1
      go_upto_region 10 with fail
      go_quiet (fail)
      go_wp2
      go_ret2
      refine ⟨HRES.out _ ?_, HB.out.trans ⟨rfl, rfl, rfl, Nat.le_refl _, fun _ _ => rfl⟩⟩
      show _ = (decide (p.t < now) && decide (p.t + tk ≤ now))
      rw [← HT.out, ← HU.out, d2]
      simp
    · have d1 : decide ((u : Int) ≤ (now : Int)) = false := decide_eq_false (by omega)
      have d2 : decide (u ≤ now) = false := decide_eq_false h1
      go_upto_region 10 with fail
      go_quiet (fail)
      go_wp2
      go_ret2
      refine ⟨HRES.out _ ?_, HB.out.trans ⟨rfl, rfl, rfl, Nat.le_refl _, fun _ _ => rfl⟩⟩
      show _ = (decide (p.t < now) && decide (p.t + tk ≤ now))
      rw [← HT.out, ← HU.out, d2]
      simp
  · clear hz ht l0 l1 c0 c1 c2
    have e0 : holdsK 4 lim tk L p now = L.any (oneB 4 p lim tk now) := holds_45 (by decide)
    have HE : Hid (∀ (q : Pt) (W : World), OkPt q → Calls Try.prog 20 #[.int .i64 p.v, .int .i64 q.v, .int .i64 lim] W fun e w' => e = .returned (.bool (overB p.v q.v lim)) ∧ w' = W) := fun q W hq => rover_any p.v q.v lim W HPO.out.lo HPO.out.hi hq.lo hq.hi (hl (by decide)) hl2
    have HE0 := Lib.hid e0
    obtain ⟨c0, c1, c2, l0, l1, -⟩ := HC.out w2 (Below.refl _ _)
    clear e0 hl
    go_upto_region 13 with fail
    clear c0 c1 c2 l0 l1
    go_wp2
    go_loopw [9] (fun iv wx => ∃ i : Nat, i ≤ n ∧ iv = .int .i64 i ∧ Hid (Below w2.heap.size w2 wx) ∧ Hid (∀ (j : Nat) q, j < i → L[j]? = some q → oneB 4 p lim tk now q = false)) (fun iv _ => n - (intOf iv).toNat)
    case atStart => exact ⟨0, Nat.zero_le _, rfl, Below.refl _ _, fun j q hj => absurd hj (by omega)⟩
    case round =>
      obtain ⟨i, hi, rfl, HBR, HNO⟩ := hrel
      obtain ⟨r0, r1, r2, s0, s1, hbr⟩ := HC.out wr HBR.out
      have HB := Lib.hid hbr
      clear hbr
      by_cases hlt : i < n
      · have q1 : decide ((i : Int) < (n : Int)) = true := decide_eq_true (by omega)
        have q2 : decide (i < n) = true := decide_eq_true hlt
        obtain ⟨q, hq⟩ : ∃ q, L[i]? = some q := ⟨_, List.getElem?_eq_getElem (by rw [← HNN.out]; exact hlt)⟩
        obtain ⟨t0, t1⟩ := HP.out wr HBR.out i q hq
        have hqo : OkPt q := HOK.out q (List.mem_of_getElem? hq)
        have HEQ := Lib.hid (fun W => HE.out q W hqo)
        have HQ := Lib.hid hq
        obtain ⟨u, hu⟩ : ∃ u, u = q.t + tk := ⟨_, rfl⟩
        have e3 : (q.t : Int) + (tk : Int) = (u : Int) := by omega
        have hqt := hqo.t
        have e4 : IntKind.u64.wrap (u : Int) = (u : Int) := by rw [IntKind.wrap_u64]; omega
        have HU := Lib.hid hu
        clear hq hqo hu hqt
        obtain ⟨y, hy⟩ : ∃ y, y = i + 1 := ⟨_, rfl⟩
        have e5 : (i : Int) + 1 = (y : Int) := by omega
        have e6 : IntKind.i64.wrap (y : Int) = (y : Int) := by rw [IntKind.wrap_i64]; omega
        have HY := Lib.hid hy
        have hyn : y ≤ n := by omega
        clear hy
        by_cases hin : u < now
        · have d5 : decide ((u : Int) < (now : Int)) = true := decide_eq_true (by omega)
          have d6 : decide (u < now) = true := decide_eq_true hin
          have HNN2 : Hid (∀ (j : Nat) q, j < y → L[j]? = some q → oneB 4 p lim tk now q = false) := fun j q' hj hq' => by
            rw [HY.out] at hj
            by_cases hji : j = i
            · subst hji
              obtain rfl : q = q' := Option.some.inj (HQ.out.symm.trans hq')
              have : inTk tk now q = false := decide_eq_false (by have := HU.out; omega)
              simp [oneB, risesB, fallsB, this]
            · exact HNO.out j q' (by omega) hq'
          go_upto_region 16 with fail
          go_quiet (fail)
          go_wp2
          go_roundw
          case rel => exact ⟨y, hyn, rfl, HBR.out.trans ⟨rfl, rfl, rfl, Nat.le_refl _, fun _ _ => rfl⟩, HNN2⟩
          case measure => have := HY.out; simp [intOf]; omega
        · have d5 : decide ((u : Int) < (now : Int)) = false := decide_eq_false (by omega)
          have d6 : decide (u < now) = false := decide_eq_false hin
          have HIN : Hid (inTk tk now q = true) := decide_eq_true (by have := HU.out; omega)
          have HON : Hid (oneB 4 p lim tk now q = overB p.v q.v lim) := by
            show oneB 4 p lim tk now q = _
            simp [oneB, risesB, fallsB, HIN.out]
          go_upto_region 16 with fail
          go_quiet (fail)
          go_upto_region 17 with fail
          obtain ⟨V, hV⟩ : ∃ V, V = wr.drewN nq := ⟨_, rfl⟩
          have hbV : Below w2.heap.size w2 V := by rw [hV]; exact HBR.out.trans ⟨rfl, rfl, rfl, Nat.le_refl _, fun _ _ => rfl⟩
          rw [← hV]
          clear r0 r1 r2 s0 s1 t0 t1 hV
          obtain ⟨r0, r1, r2, s0, s1, hbr⟩ := HC.out V hbV
          obtain ⟨t0, t1⟩ := HP.out V hbV i q HQ.out
          have HBV := Lib.hid hbV
          clear hbV hbr
          obtain ⟨r, hr⟩ : ∃ r, r = overB p.v q.v lim := ⟨_, rfl⟩
          rw [← hr] at HEQ HON
          clear hr
          cases r with
          | true =>
            go_quiet ((go_at_call 20; exact Calls.quiet_of_same (HEQ.out _)))
            have s1' : (V.drewN nq).cell? ⟨bl, 1, none⟩ = some (.int .i64 p.v) := s1
            obtain ⟨V2, hV2⟩ : ∃ V2, V2 = V.drewN nq := ⟨_, rfl⟩
            have HB2 : Hid (Below w.heap.size w V2) := by rw [hV2]; exact (HC.out V HBV.out).2.2.2.2.2.trans ⟨rfl, rfl, rfl, Nat.le_refl _, fun _ _ => rfl⟩
            rw [← hV2] at s1' ⊢
            clear r0 r1 r2 s0 s1 t0 t1 hV2
            rw [← HZ.out] at s1'
            go_upto_region 18 with fail
            go_quiet (fail)
            go_wp2
            go_ret2
            refine ⟨HRES.out _ ?_, HB2.out.trans ⟨rfl, rfl, rfl, Nat.le_refl _, fun _ _ => rfl⟩⟩
            rw [HE0.out]
            exact (List.any_eq_true.2 ⟨q, List.mem_of_getElem? HQ.out, HON.out⟩).symm
          | false =>
            have HNN2 : Hid (∀ (j : Nat) q, j < y → L[j]? = some q → oneB 4 p lim tk now q = false) := fun j q' hj hq' => by
              rw [HY.out] at hj
              by_cases hji : j = i
              · subst hji
                obtain rfl : q = q' := Option.some.inj (HQ.out.symm.trans hq')
                exact HON.out
              · exact HNO.out j q' (by omega) hq'
            go_quiet ((go_at_call 20; exact Calls.quiet_of_same (HEQ.out _)))
            have HB2 : Hid (Below w2.heap.size w2 (V.drewN nq)) := HBV.out.trans ⟨rfl, rfl, rfl, Nat.le_refl _, fun _ _ => rfl⟩
            go_wp2
            go_roundw
            case rel => exact ⟨y, hyn, rfl, HB2.out, HNN2⟩
            case measure => have := HY.out; simp [intOf]; omega
      · obtain rfl : i = n := by omega
        have q1 : decide ((i : Int) < (i : Int)) = false := decide_eq_false (by omega)
        have q2 : decide (i < i) = false := decide_eq_false (by omega)
        rw [← HZ.out] at s1
        go_upto_region 19 with fail
        go_quiet (fail)
        go_wp2
        go_ret2
        refine ⟨HRES.out _ ?_, HB.out.trans ⟨rfl, rfl, rfl, Nat.le_refl _, fun _ _ => rfl⟩⟩
        rw [HE0.out]
        refine (List.any_eq_false.2 fun q hq => ?_).symm
        obtain ⟨j, hj⟩ := List.getElem?_of_mem hq
        have hjl := (List.getElem?_eq_some_iff.1 hj).1
        rw [HNO.out j q (by rw [HNN.out]; exact hjl) hj]
        decide
  · clear hz ht l0 l1 c0 c1 c2
    have e0 : holdsK 5 lim tk L p now = L.any (oneB 5 p lim tk now) := holds_45 (by decide)
    have HE : Hid (∀ (q : Pt) (W : World), OkPt q → Calls Try.prog 20 #[.int .i64 q.v, .int .i64 p.v, .int .i64 lim] W fun e w' => e = .returned (.bool (overB q.v p.v lim)) ∧ w' = W) := fun q W hq => rover_any q.v p.v lim W hq.lo hq.hi HPO.out.lo HPO.out.hi (hl (by decide)) hl2
    have HE0 := Lib.hid e0
    obtain ⟨c0, c1, c2, l0, l1, -⟩ := HC.out w2 (Below.refl _ _)
    clear e0 hl
    go_upto_region 13 with fail
    clear c0 c1 c2 l0 l1
    go_wp2
    go_loopw [9] (fun iv wx => ∃ i : Nat, i ≤ n ∧ iv = .int .i64 i ∧ Hid (Below w2.heap.size w2 wx) ∧ Hid (∀ (j : Nat) q, j < i → L[j]? = some q → oneB 5 p lim tk now q = false)) (fun iv _ => n - (intOf iv).toNat)
    case atStart => exact ⟨0, Nat.zero_le _, rfl, Below.refl _ _, fun j q hj => absurd hj (by omega)⟩
    case round =>
      obtain ⟨i, hi, rfl, HBR, HNO⟩ := hrel
      obtain ⟨r0, r1, r2, s0, s1, hbr⟩ := HC.out wr HBR.out
      have HB := Lib.hid hbr
      clear hbr
      by_cases hlt : i < n
      · have q1 : decide ((i : Int) < (n : Int)) = true := decide_eq_true (by omega)
        have q2 : decide (i < n) = true := decide_eq_true hlt
        obtain ⟨q, hq⟩ : ∃ q, L[i]? = some q := ⟨_, List.getElem?_eq_getElem (by rw [← HNN.out]; exact hlt)⟩
        obtain ⟨t0, t1⟩ := HP.out wr HBR.out i q hq
        have hqo : OkPt q := HOK.out q (List.mem_of_getElem? hq)
        have HEQ := Lib.hid (fun W => HE.out q W hqo)
        have HQ := Lib.hid hq
        obtain ⟨u, hu⟩ : ∃ u, u = q.t + tk := ⟨_, rfl⟩
        have e3 : (q.t : Int) + (tk : Int) = (u : Int) := by omega
        have hqt := hqo.t
        have e4 : IntKind.u64.wrap (u : Int) = (u : Int) := by rw [IntKind.wrap_u64]; omega
        have HU := Lib.hid hu
        clear hq hqo hu hqt
        obtain ⟨y, hy⟩ : ∃ y, y = i + 1 := ⟨_, rfl⟩
        have e5 : (i : Int) + 1 = (y : Int) := by omega
        have e6 : IntKind.i64.wrap (y : Int) = (y : Int) := by rw [IntKind.wrap_i64]; omega
        have HY := Lib.hid hy
        have hyn : y ≤ n := by omega
        clear hy
        by_cases hin : u < now
        · have d5 : decide ((u : Int) < (now : Int)) = true := decide_eq_true (by omega)
          have d6 : decide (u < now) = true := decide_eq_true hin
          have HNN2 : Hid (∀ (j : Nat) q, j < y → L[j]? = some q → oneB 5 p lim tk now q = false) := fun j q' hj hq' => by
            rw [HY.out] at hj
            by_cases hji : j = i
            · subst hji
              obtain rfl : q = q' := Option.some.inj (HQ.out.symm.trans hq')
              have : inTk tk now q = false := decide_eq_false (by have := HU.out; omega)
              simp [oneB, risesB, fallsB, this]
            · exact HNO.out j q' (by omega) hq'
          go_upto_region 16 with fail
          go_quiet (fail)
          go_wp2
          go_roundw
          case rel => exact ⟨y, hyn, rfl, HBR.out.trans ⟨rfl, rfl, rfl, Nat.le_refl _, fun _ _ => rfl⟩, HNN2⟩
          case measure => have := HY.out; simp [intOf]; omega
        · have d5 : decide ((u : Int) < (now : Int)) = false := decide_eq_false (by omega)
          have d6 : decide (u < now) = false := decide_eq_false hin
          have HIN : Hid (inTk tk now q = true) := decide_eq_true (by have := HU.out; omega)
          have HON : Hid (oneB 5 p lim tk now q = overB q.v p.v lim) := by
            show oneB 5 p lim tk now q = _
            simp [oneB, risesB, fallsB, HIN.out]
          go_upto_region 16 with fail
          go_quiet (fail)
          go_upto_region 17 with fail
          obtain ⟨V, hV⟩ : ∃ V, V = wr.drewN nq := ⟨_, rfl⟩
          have hbV : Below w2.heap.size w2 V := by rw [hV]; exact HBR.out.trans ⟨rfl, rfl, rfl, Nat.le_refl _, fun _ _ => rfl⟩
          rw [← hV]
          clear r0 r1 r2 s0 s1 t0 t1 hV
          obtain ⟨r0, r1, r2, s0, s1, hbr⟩ := HC.out V hbV
          obtain ⟨t0, t1⟩ := HP.out V hbV i q HQ.out
          have HBV := Lib.hid hbV
          clear hbV hbr
          obtain ⟨r, hr⟩ : ∃ r, r = overB q.v p.v lim := ⟨_, rfl⟩
          rw [← hr] at HEQ HON
          clear hr
          cases r with
          | true =>
            go_quiet ((go_at_call 20; exact Calls.quiet_of_same (HEQ.out _)))
            have s1' : (V.drewN nq).cell? ⟨bl, 1, none⟩ = some (.int .i64 p.v) := s1
            obtain ⟨V2, hV2⟩ : ∃ V2, V2 = V.drewN nq := ⟨_, rfl⟩
            have HB2 : Hid (Below w.heap.size w V2) := by rw [hV2]; exact (HC.out V HBV.out).2.2.2.2.2.trans ⟨rfl, rfl, rfl, Nat.le_refl _, fun _ _ => rfl⟩
            rw [← hV2] at s1' ⊢
            clear r0 r1 r2 s0 s1 t0 t1 hV2
            rw [← HZ.out] at s1'
            go_upto_region 18 with fail
            go_quiet (fail)
            go_wp2
            go_ret2
            refine ⟨HRES.out _ ?_, HB2.out.trans ⟨rfl, rfl, rfl, Nat.le_refl _, fun _ _ => rfl⟩⟩
            rw [HE0.out]
            exact (List.any_eq_true.2 ⟨q, List.mem_of_getElem? HQ.out, HON.out⟩).symm
          | false =>
            have HNN2 : Hid (∀ (j : Nat) q, j < y → L[j]? = some q → oneB 5 p lim tk now q = false) := fun j q' hj hq' => by
              rw [HY.out] at hj
              by_cases hji : j = i
              · subst hji
                obtain rfl : q = q' := Option.some.inj (HQ.out.symm.trans hq')
                exact HON.out
              · exact HNO.out j q' (by omega) hq'
            go_quiet ((go_at_call 20; exact Calls.quiet_of_same (HEQ.out _)))
            have HB2 : Hid (Below w2.heap.size w2 (V.drewN nq)) := HBV.out.trans ⟨rfl, rfl, rfl, Nat.le_refl _, fun _ _ => rfl⟩
            go_wp2
            go_roundw
            case rel => exact ⟨y, hyn, rfl, HB2.out, HNN2⟩
            case measure => have := HY.out; simp [intOf]; omega
      · obtain rfl : i = n := by omega
        have q1 : decide ((i : Int) < (i : Int)) = false := decide_eq_false (by omega)
        have q2 : decide (i < i) = false := decide_eq_false (by omega)
        rw [← HZ.out] at s1
        go_upto_region 19 with fail
        go_quiet (fail)
        go_wp2
        go_ret2
        refine ⟨HRES.out _ ?_, HB.out.trans ⟨rfl, rfl, rfl, Nat.le_refl _, fun _ _ => rfl⟩⟩
        rw [HE0.out]
        refine (List.any_eq_false.2 fun q hq => ?_).symm
        obtain ⟨j, hj⟩ := List.getElem?_of_mem hq
        have hjl := (List.getElem?_eq_some_iff.1 hj).1
        rw [HNO.out j q (by rw [HNN.out]; exact hjl) hj]
        decide
end
end Go.Proofs.Ythggaedpbmjclaa
