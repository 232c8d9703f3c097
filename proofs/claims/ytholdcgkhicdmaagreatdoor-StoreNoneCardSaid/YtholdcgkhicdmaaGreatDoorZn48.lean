/- Several texts in one: JlRscan, StoreNone. -/
import Derived.Test.YtholdcgkhicdmaaGreatDoorZn47
namespace Go.Proofs.YtholdcgkhicdmaaGreatDoor
open Go.RowKit
theorem takeJ_byLay {r C : List Nat} {N : Nat} (hr : OkB r) (_h8 : 8 ≤ r.length) (hN : N = takeN (r.take 4)) (hN1 : N ≤ 524288) (hN2 : N ≤ r.length - 8) (hC : C = (r.drop 8).take N) : takeJ r = if laidR C = r.take (8 + N) then some C else none := by
  have hCl : C.length = N := by rw [hC, List.length_take, List.length_drop]; omega
  have hCo : OkB C := by rw [hC]; exact (hr.drop 8).take N
  by_cases heq : laidR C = r.take (8 + N)
  · rw [if_pos heq]
    have e : r = laidR C ++ r.drop (8 + N) := by rw [heq]; exact (List.take_append_drop _ _).symm
    rw [e]
    exact takeJ_laid hCo (by omega)
  · rw [if_neg heq]
    cases ht : takeJ r with
    | none => rfl
    | some x =>
      obtain ⟨e, hx⟩ := takeJ_some hr ht
      exfalso
      have hx4 : r.take 4 = four x.length := by
        rw [e]; unfold laidR
        rw [List.append_assoc, List.take_left' (by rfl)]
      have hNx : N = x.length := by rw [hN, hx4]; exact takeN_four (by omega)
      have hd8 : r.drop 8 = x ++ r.drop (x.length + 8) := by
        conv => lhs; rw [e]
        unfold laidR
        have : ((four x.length ++ (four (sumN (four x.length ++ x)) ++ x)) ++ r.drop (x.length + 8)).drop 8 = (((four x.length ++ (four (sumN (four x.length ++ x)) ++ x)) ++ r.drop (x.length + 8)).drop 4).drop 4 := by rw [List.drop_drop]
        rw [this, List.append_assoc, List.drop_left' (by rfl), List.append_assoc, List.drop_left' (by rfl)]
      have hCx : C = x := by rw [hC, hd8, hNx, List.take_left]
      apply heq
      rw [hCx]
      conv => rhs; rw [e]
      rw [hNx, List.take_left' (by rw [laidR_length]; omega)]
structure Ready (w w3 w6 : World) (base g : Nat) (A4 : Option Addr) (c4 : Nat) (L : List (List Nat)) (A5 : Option Addr) (m c5 : Nat) (C : List Nat) (X : List (Option Addr × Nat × Nat)) : Prop where
  rs : RsX w6 base g (.slice A4 L.length c4) X L
  src : Src w6 (some ⟨w3.heap.size, 0, none⟩) 1 1 [.slice A5 m c5]
  n : m = C.length
  cap : m ≤ c5
  nil : A5 = none → m = 0
  rd : RdB w6 w6.heap.size A5 C
  far : ∀ a, A5 = some a → 0 < C.length → base ≤ a.block ∧ a.block ≠ g ∧ (Value.slice A4 L.length c4).ownBlock ≠ some a.block
  g : g < w6.heap.size
  hbase : base ≤ w6.heap.size
  bl : Below base w w6
theorem ready {w w3 w5 : World} {g : Nat} {A4 : Option Addr} {c4 : Nat} {L : List (List Nat)} {A5 : Option Addr} {m c5 : Nat} {C : List Nat} (hg : g < w.heap.size) (hb3 : Below w.heap.size w w3) (hRs : Rs w3 w.heap.size g (.slice A4 L.length c4) L) (hb5 : Below w3.heap.size w3 w5)
    (ho : w5.ownsRow w3.heap.size 5 1 (.slice A5 m c5) m (cellsB C)) : ∃ X, Ready w w5 (w5.alloc (.cells #[.slice A5 m c5] 77)) w.heap.size g A4 c4 L A5 m c5 C X := by
  obtain ⟨r1, r2, r3⟩ := rdB_of_own ho
  have hb6 : Below w5.heap.size w5 (w5.alloc (.cells #[.slice A5 m c5] 77)) := (Below.refl _ _).alloc (Nat.le_refl _) _
  obtain ⟨X, hX⟩ := (hRs.below hb5).below hb6
  have hs3 := hb3.size
  have hs5 := hb5.size
  have hs6 := hb6.size
  have hcap5 : m ≤ c5 := by
    rcases ho.2 with ⟨e, h0⟩ | ⟨_, cap, _, e, _, _, hn, _⟩
    · omega
    · injection e with _ _ e3
      omega
  refine ⟨X, hX, ⟨rfl, fun _ => ⟨_, rfl, fun j u hj => ?_⟩⟩, r2, hcap5, r3, (r1.below hb6).more hs6, fun a ha h0 => ?_, by omega, by omega, hb3.trans ((hb5.mono hs3).trans (hb6.mono (Nat.le_trans hs3 hs5)))⟩
  · cases j with
    | zero => simp at hj; subst hj; rw [Addr.add_lit, World.cell?_alloc_at _ _ _ _ rfl]; rfl
    | succ j => simp at hj
  · obtain ⟨g', cap, hv, hge, hlt⟩ := ho.form (by omega)
    injection hv with hv
    rw [ha] at hv
    injection hv with hv
    have hblk : a.block = g' := by rw [hv]
    refine ⟨by omega, by omega, fun e => ?_⟩
    obtain ⟨X', hX'⟩ := hRs
    have := (hX'.own.lt _ e).2
    omega
set_option maxRecDepth 100000 in
set_option maxHeartbeats 2000000 in
theorem rscan_any (g : Nat) (A : Option Addr) (n c : Nat) (l : List Nat) (B : Nat) (w : World) (hg : g < w.heap.size) (hn : n = l.length) (hc : n ≤ c) (hm : n ≤ 1000000) (hr : RdB w B A l) (hB : B ≤ w.heap.size) (hok : OkB l) :
    Calls Tryz.prog 30 #[.slice A n c] w fun e w' => ∃ v, e = .returned (.tuple #[v, .int .i64 (scanJ l).2]) ∧ Rs w' w.heap.size g v (scanJ l).1 ∧ Below w.heap.size w w' := by
  obtain ⟨i0, hi0, hz0, hz1, hz2⟩ := info_parts Tryz.infoSl
  obtain ⟨i1, hi1, hy0, hy1, hy2⟩ := info_parts Tryz.infoB
  have Hn := Lib.hid hn
  have Hr := Lib.hid hr
  have Hok := Lib.hid hok
  clear hn hr hok
  go_enter Tryz.func30, Tryz.ntmps30
  go_wp2
  go_loopw [4, 5] (fun cv ev wx => ∃ (k : Nat) (L : List (List Nat)), k ≤ n ∧ ev = .int .i64 k ∧ L.length ≤ k ∧ Hid (scanJ l = (L ++ (scanJ (l.drop k)).1, k + (scanJ (l.drop k)).2)) ∧ Hid (Rs wx w.heap.size g cv L) ∧ Hid (Below w.heap.size w wx)) (fun _ ev _ => n - (intOf ev).toNat)
  case atStart => exact ⟨0, [], Nat.zero_le _, rfl, Nat.le_refl _, by show _ = _; rw [List.drop_zero]; simp, Rs.nil _ _ _, Below.refl _ _⟩
  case round =>
    obtain ⟨k, L, hk, rfl, hLk, Hsc, HRs, Hb⟩ := hrel
    obtain ⟨A4, c4, rfl⟩ := HRs.out.slice
    have hw0 : IntKind.i64.wrap ((n : Int) - k) = (n : Int) - k := by rw [IntKind.wrap_i64]; omega
    by_cases h8 : n - k < 8
    · have d1 : decide ((n : Int) - k ≥ 8) = false := decide_eq_false (by omega)
      have d2 : decide ((8 : Int) ≤ (n : Int) - k) = false := decide_eq_false (by omega)
      have Hno : Hid (takeJ (l.drop k) = none) := by show _ = _; unfold takeJ; rw [if_pos (by rw [List.length_drop, ← Hn.out]; exact h8)]
      go_wp2
      go_ret2
      refine ⟨.slice A4 L.length c4, by rw [Hsc.out, scanJ_none Hno.out]; rfl, ?_, Hb.out⟩
      rw [Hsc.out, scanJ_none Hno.out, List.append_nil]
      exact HRs.out
    · have d1 : decide ((n : Int) - k ≥ 8) = true := decide_eq_true (by omega)
      have d2 : decide ((8 : Int) ≤ (n : Int) - k) = true := decide_eq_true (by omega)
      obtain ⟨b, o, rfl, hbl, hcl⟩ := Hr.out (by have := Hn.out; omega)
      obtain ⟨x0, x1, x2, x3, r, hl⟩ : ∃ x0 x1 x2 x3 r, l.drop k = x0 :: x1 :: x2 :: x3 :: r := by
        have hlen : 8 ≤ (l.drop k).length := by rw [List.length_drop, ← Hn.out]; omega
        match l.drop k, hlen with
        | [], h => simp at h
        | [_], h => simp at h
        | [_, _], h => simp at h
        | [_, _, _], h => simp at h
        | x0 :: x1 :: x2 :: x3 :: r, _ => exact ⟨_, _, _, _, _, rfl⟩
      have at_ : ∀ (j x : Nat), (l.drop k)[j]? = some x → wr.cell? ⟨b, o + (k + j), none⟩ = some (.int .u8 x) := fun j x hx => by
        rw [List.getElem?_drop] at hx
        exact (Hb.out.cell (p := ⟨b, o + (k + j), none⟩) (by show b < _; omega)).trans (hcl (k + j) x hx)
      have q0 : wr.cell? ⟨b, o + k, none⟩ = some (.int .u8 x0) := at_ 0 x0 (by rw [hl]; rfl)
      have q1 := at_ 1 x1 (by rw [hl]; rfl)
      have q2 := at_ 2 x2 (by rw [hl]; rfl)
      have q3 := at_ 3 x3 (by rw [hl]; rfl)
      have hx0 : x0 < 256 := Hok.out.drop k x0 (by rw [hl]; simp)
      have hx1 : x1 < 256 := Hok.out.drop k x1 (by rw [hl]; simp)
      have hx2 : x2 < 256 := Hok.out.drop k x2 (by rw [hl]; simp)
      have hx3 : x3 < 256 := Hok.out.drop k x3 (by rw [hl]; simp)
      obtain ⟨N, hN⟩ : ∃ N : Nat, N = takeN ((l.drop k).take 4) := ⟨_, rfl⟩
      have hN4 : (x0 : Int) + 256 * (x1 : Int) + 65536 * (x2 : Int) + 16777216 * (x3 : Int) = (N : Int) := by
        rw [hN, hl]
        simp [takeN]
      have HN := Lib.hid hN
      have w1_ : IntKind.i64.wrap ((k : Int) + 1) = (k : Int) + 1 := by rw [IntKind.wrap_i64]; omega
      have w2_ : IntKind.i64.wrap ((k : Int) + 2) = (k : Int) + 2 := by rw [IntKind.wrap_i64]; omega
      have w3_ : IntKind.i64.wrap ((k : Int) + 3) = (k : Int) + 3 := by rw [IntKind.wrap_i64]; omega
      have v0_ : IntKind.i64.wrap (x0 : Int) = x0 := by rw [IntKind.wrap_i64]; omega
      have v1_ : IntKind.i64.wrap (x1 : Int) = x1 := by rw [IntKind.wrap_i64]; omega
      have v2_ : IntKind.i64.wrap (x2 : Int) = x2 := by rw [IntKind.wrap_i64]; omega
      have v3_ : IntKind.i64.wrap (x3 : Int) = x3 := by rw [IntKind.wrap_i64]; omega
      have m1_ : IntKind.i64.wrap (256 * (x1 : Int)) = 256 * (x1 : Int) := by rw [IntKind.wrap_i64]; omega
      have m2_ : IntKind.i64.wrap (65536 * (x2 : Int)) = 65536 * (x2 : Int) := by rw [IntKind.wrap_i64]; omega
      have m3_ : IntKind.i64.wrap (16777216 * (x3 : Int)) = 16777216 * (x3 : Int) := by rw [IntKind.wrap_i64]; omega
      have a1_ : IntKind.i64.wrap ((x0 : Int) + 256 * (x1 : Int)) = (x0 : Int) + 256 * (x1 : Int) := by rw [IntKind.wrap_i64]; omega
      have a2_ : IntKind.i64.wrap ((x0 : Int) + 256 * (x1 : Int) + 65536 * (x2 : Int)) = (x0 : Int) + 256 * (x1 : Int) + 65536 * (x2 : Int) := by rw [IntKind.wrap_i64]; omega
      have a3_ : IntKind.i64.wrap ((x0 : Int) + 256 * (x1 : Int) + 65536 * (x2 : Int) + 16777216 * (x3 : Int)) = (N : Int) := by rw [IntKind.wrap_i64]; omega
      clear hl hN hN4 at_ hcl
      go_wp2
      go_quiet (fail)
      have hbw : Below wr.heap.size wr (wr.drewN nq) := ⟨rfl, rfl, rfl, Nat.le_refl _, fun _ _ => rfl⟩
      have HRs2 := Lib.hid (HRs.out.below hbw)
      have Hb2 := Lib.hid (Hb.out.trans (hbw.mono Hb.out.size))
      clear hbw q0 q1 q2 q3 hx0 hx1 hx2 hx3 w1_ w2_ w3_ v0_ v1_ v2_ v3_ m1_ m2_ m3_ a1_ a2_ a3_
      generalize wr.drewN nq = wa at *
      have hw8 : IntKind.i64.wrap ((n : Int) - k - 8) = (n : Int) - k - 8 := by rw [IntKind.wrap_i64]; omega
      have hlenk : (l.drop k).length = n - k := by rw [List.length_drop, ← Hn.out]
      have Hlenk := Lib.hid hlenk
      clear hlenk
      by_cases hbig : 524288 < N ∨ n - k - 8 < N
      · have Hno : Hid (takeJ (l.drop k) = none) := by show _ = _; unfold takeJ; rw [if_neg (by rw [Hlenk.out]; exact h8), ← HN.out, Hlenk.out, if_pos hbig]
        have hend : Hid ((scanJ l).2 = k ∧ (scanJ l).1 = L) := by show _ ∧ _; rw [Hsc.out, scanJ_none Hno.out]; simp
        rcases (by omega : 524288 < N ∨ (¬ 524288 < N ∧ n - k - 8 < N)) with hb2 | ⟨hb2, hb3⟩
        · have e1 : decide ((N : Int) > 524288) = true := decide_eq_true (by omega)
          have e2 : decide ((524288 : Int) < N) = true := decide_eq_true (by omega)
          clear hbig
          go_wp2
          go_ret2
          exact ⟨.slice A4 L.length c4, by rw [hend.out.1]; rfl, by rw [hend.out.2]; exact HRs2.out, Hb2.out⟩
        · have e1 : decide ((N : Int) > 524288) = false := decide_eq_false (by omega)
          have e2 : decide ((524288 : Int) < N) = false := decide_eq_false (by omega)
          have e3 : decide ((n : Int) - k - 8 < (N : Int)) = true := decide_eq_true (by omega)
          clear hbig
          go_wp2
          go_ret2
          exact ⟨.slice A4 L.length c4, by rw [hend.out.1]; rfl, by rw [hend.out.2]; exact HRs2.out, Hb2.out⟩
      · have e1 : decide ((N : Int) > 524288) = false := decide_eq_false (by omega)
        have e2 : decide ((524288 : Int) < N) = false := decide_eq_false (by omega)
        have e3 : decide ((n : Int) - k - 8 < (N : Int)) = false := decide_eq_false (by omega)
        obtain ⟨C, hC⟩ : ∃ C, C = ((l.drop k).drop 8).take N := ⟨_, rfl⟩
        have HTJ : Hid (takeJ (l.drop k) = if laidR C = (l.drop k).take (8 + N) then some C else none) := takeJ_byLay (Hok.out.drop k) (by rw [Hlenk.out]; omega) HN.out (by omega) (by rw [Hlenk.out]; omega) hC
        have hCl : N = C.length := by rw [hC, List.length_take, List.length_drop, Hlenk.out]; omega
        have HCl := Lib.hid hCl
        have HCo : Hid (OkB C) := by show OkB _; rw [hC]; exact ((Hok.out.drop k).drop 8).take N
        obtain ⟨A7, hA7⟩ : ∃ A7, A7 = subA (some ⟨b, o, none⟩) c (k + 8) := ⟨_, rfl⟩
        obtain ⟨A8, hA8⟩ : ∃ A8, A8 = subA (some ⟨b, o, none⟩) c k := ⟨_, rfl⟩
        have hln : l.length ≤ c := by rw [← Hn.out]; exact hc
        have HR7 : Hid (RdB w B A7 C) := by
          show RdB _ _ _ _
          have := (Hr.out.sub (lo := k + 8) hln).take N
          rw [hA7, hC, List.drop_drop]
          exact this
        have HR8 : Hid (RdB w B A8 ((l.drop k).take (8 + N))) := by show RdB _ _ _ _; rw [hA8]; exact (Hr.out.sub (lo := k) hln).take (8 + N)
        have hwk : IntKind.i64.wrap ((k : Int) + 8) = (k : Int) + 8 := by rw [IntKind.wrap_i64]; omega
        have hwN : IntKind.i64.wrap ((k : Int) + 8 + N) = (k : Int) + 8 + N := by rw [IntKind.wrap_i64]; omega
        have s7 : ∀ W : World, (Instr.sliceAt 77 (.slice (some ⟨b, o, none⟩) n c) (some (.int .i64 ((k : Int) + 8))) (some (.int .i64 ((k : Int) + 8 + N))) none).run Tryz.prog W = .ok (.slice A7 N (c - (k + 8))) W := fun W => by
          have := slB_lh (some ⟨b, o, none⟩) n c (k + 8) (k + 8 + N) ((k : Int) + 8) ((k : Int) + 8 + N) (by omega) (by omega) (by omega) (by omega) W
          rwa [← hA7, Nat.add_sub_cancel_left] at this
        have s8 : ∀ W : World, (Instr.sliceAt 77 (.slice (some ⟨b, o, none⟩) n c) (some (.int .i64 (k : Int))) (some (.int .i64 ((k : Int) + 8 + N))) none).run Tryz.prog W = .ok (.slice A8 (8 + N) (c - k)) W := fun W => by
          have := slB_lh (some ⟨b, o, none⟩) n c k (k + 8 + N) (k : Int) ((k : Int) + 8 + N) rfl (by omega) (by omega) (by omega) W
          rwa [← hA8, show k + 8 + N - k = 8 + N by omega] at this
        have Hl8 : Hid (8 + N = ((l.drop k).take (8 + N)).length) := by show _ = _; rw [List.length_take, Hlenk.out]; omega
        have Hn7 : Hid (A7 ≠ none) := fun e => by have := subA_nil (hA7 ▸ e : subA (some ⟨b, o, none⟩) c (k + 8) = none); cases this
        have Hn8 : Hid (A8 ≠ none) := fun e => by have := subA_nil (hA8 ▸ e : subA (some ⟨b, o, none⟩) c k = none); cases this
        have hN5 : N ≤ 524288 := by omega
        have hNk : k + (N + 8) ≤ n := by omega
        clear hbig hC hCl hA7 hA8
        go_wp2_with fail
        refine (rlay_any A7 N (c - (k + 8)) C B wa HCl.out (by omega) (HR7.out.below (Hb2.out.mono hB)) (Nat.le_trans hB Hb2.out.size) HCo.out).mono ?_
        rintro e w2 ⟨v2, rfl, ho2, hb2⟩
        obtain ⟨A2, c2, rfl⟩ := ownB_slice ho2
        have ho2' : w2.ownsRow wa.heap.size 5 1 (.slice A2 (N + 8) c2) (N + 8) (cellsB (laidR C)) := ho2
        obtain ⟨r1, r2, r3⟩ := rdB_of_own ho2'
        have hbd : Below w2.heap.size w2 w2.drew := (Below.refl _ _).drew
        have hcv1 := conv_any (w := w2.drew) (c := c2) (r1.below hbd) r2 r3
        have Hb3 := Lib.hid (Hb2.out.trans ((hb2.trans (hbd.mono hb2.size)).mono Hb2.out.size))
        have hcv2 := conv_any (w := w2.drew) (c := c - k) (HR8.out.below (Hb3.out.mono hB)) Hl8.out (fun e => absurd e Hn8.out)
        have HRs3 := Lib.hid ((HRs2.out.below hb2).below hbd)
        have hse := strB_eq (laidR_ok HCo.out) ((Hok.out.drop k).take (8 + N))
        clear ho2 ho2' hb2 r1 r2 r3 hbd
        by_cases heq : laidR C = (l.drop k).take (8 + N)
        · have g1 : ((strB (laidR C)).toList == (strB ((l.drop k).take (8 + N))).toList) = true := by rw [hse]; exact decide_eq_true heq
          have g2 : ((strB (laidR C)).toList != (strB ((l.drop k).take (8 + N))).toList) = false := by rw [bne, g1]; rfl
          have Hyes : Hid (takeJ (l.drop k) = some C) := by show _ = _; rw [HTJ.out, if_pos heq]
          clear hse heq
          go_wp2
          go_region
          all_goals
            have Hsrc : Hid (∀ W, Below w.heap.size w W → Src W A7 N 1 (cellsB C)) := fun W hW => src_of_rdB (HR7.out.below (hW.mono hB)) HCl.out
            have Hb4 := Lib.hid (Hb3.out.alloc Hb3.out.size (.cells #[] 5))
            have Hbm := Lib.hid ((Below.refl w2.drew.heap.size w2.drew).alloc (Nat.le_refl _) (.cells #[] 5))
            go_wp2_with (at_builtin; first
              | (refine wpList_append_src (base := w2.drew.heap.size) rfl (.tmp 76) (.tmp 77) rfl Tryz.underlying77 hi1 hy0 hy1 hy2 rfl (by decide) rfl (World.ownsRow_made w2.drew #[] 0 (Nat.le_refl _) (Nat.zero_le _) rfl) rfl (Hsrc.out _ Hb4.out) (cellsB_one _) (by unfold maxLen; omega) (by omega) (by simp) ?_; intro v5 w5 ho5 hg5 _; obtain ⟨A5, c5, rfl⟩ := ownB_slice ho5; have hb5 := Hbm.out.grown hg5 (by simp) (fun k hk => by have e : some w2.drew.heap.size = some k := hk; injection e with e; omega); have ho6 : w5.ownsRow w2.drew.heap.size 5 1 (.slice A5 N c5) N (cellsB C) := (by have := ho5; rwa [List.nil_append, Nat.zero_add] at this); obtain ⟨X, hX⟩ := ready hg Hb3.out HRs3.out hb5 ho6; have HX := Lib.hid hX; clear ho5 hg5 hb5 ho6 hX)
              | (refine wpList_append_src (base := w.heap.size) rfl (.tmp 75) (.tmp 79) rfl Tryz.underlying82 hi0 hz0 hz1 hz2 rfl (by decide) rfl HX.out.rs.own rfl HX.out.src (fun u hu => by simp at hu; rw [hu]; rfl) (by unfold maxLen; omega) (by omega) HX.out.hbase ?_; intro v7 w7 ho7 hg7 hb7; have hRs7 : Hid (Rs w7 w.heap.size g v7 (L ++ [C])) := Rs.app ⟨X, HX.out.rs⟩ HX.out.g HX.out.n HX.out.cap HX.out.nil HX.out.rd HCo.out HX.out.far HX.out.rs ho7 hg7 hb7; have Hb7 := Lib.hid (HX.out.bl.grown hg7 HX.out.bl.size (fun k hk => (HX.out.rs.own.lt k hk).1)); clear ho7 hg7 hb7))
            have Hsc2 : Hid (scanJ l = ((L ++ [C]) ++ (scanJ (l.drop (k + (N + 8)))).1, (k + (N + 8)) + (scanJ (l.drop (k + (N + 8)))).2)) := by
              show _ = _
              rw [Hsc.out, scanJ_some Hyes.out, List.drop_drop, ← HCl.out]
              simp only [List.append_assoc, List.cons_append, List.nil_append, Nat.add_assoc]
            go_wp2
            go_roundw
            case rel => exact ⟨k + (N + 8), L ++ [C], by omega, by congr 1; omega, by rw [List.length_append]; show _ + 1 ≤ _; omega, Hsc2.out, hRs7.out, Hb7.out⟩
            case measure => simp [intOf]; omega
        · have g1 : ((strB (laidR C)).toList == (strB ((l.drop k).take (8 + N))).toList) = false := by rw [hse]; exact decide_eq_false heq
          have g2 : ((strB (laidR C)).toList != (strB ((l.drop k).take (8 + N))).toList) = true := by rw [bne, g1]; rfl
          have Hno : Hid (takeJ (l.drop k) = none) := by show _ = _; rw [HTJ.out, if_neg heq]
          have hend : Hid ((scanJ l).2 = k ∧ (scanJ l).1 = L) := by show _ ∧ _; rw [Hsc.out, scanJ_none Hno.out]; simp
          clear hse heq
          go_wp2
          go_region
          all_goals
            go_wp2
            go_ret2
            exact ⟨.slice A4 L.length c4, by rw [hend.out.1]; rfl, by rw [hend.out.2]; exact HRs3.out, Hb3.out⟩
end Go.Proofs.YtholdcgkhicdmaaGreatDoor
namespace Go.Proofs.YtholdcgkhicdmaaGreatDoor
open Go.RowKit
theorem nm0_lit : nmG 0 = ⟨#[115, 46, 48]⟩ := by decide +kernel
theorem nm0_value : valueB (⟨#[115, 46, 48]⟩ : ByteArray) = true := by decide +kernel
theorem nmO_value : valueB (⟨#[111, 116, 104, 101, 114]⟩ : ByteArray) = true := by decide +kernel
theorem nm0_max : (⟨#[115, 46, 48]⟩ : ByteArray).size ≤ maxLen := by decide +kernel
theorem nmO_max : (⟨#[111, 116, 104, 101, 114]⟩ : ByteArray).size ≤ maxLen := by decide +kernel
theorem put_oth (l : List Nat) : putP [(nmG 0, (⟨l, 0⟩ : Fl))] nmO ⟨l, 0⟩ = [(nmO, ⟨l, 0⟩), (nmG 0, ⟨l, 0⟩)] := by
  have e1 : eqS (nmG 0) nmO = false := eqS_no nm0_ne_other
  simp [putP, delP, insP, e1, lt_other_zero]
theorem had_oth (l : List Nat) : had [(nmG 0, (⟨l, 0⟩ : Fl))] nmO = ⟨[], 0⟩ := by
  unfold had
  rw [findP_ne nm0_ne_other]
  rfl
namespace storeNone
set_option maxRecDepth 100000 in
set_option maxHeartbeats 8000000 in
theorem walk {ev : Value} (self : Nat) (q : Int) (A : Option Addr) (n c : Nat) (l : List Nat) (kind : Nat) (w : World) (hg : Gl w ev) (hk : kind < 256) (hn : n = l.length) (hnc : n ≤ c) (hr : RdB w w.heap.size A l) (hok : OkB l) :
    Calls Tryz.prog 5 #[.int .u8 self, .int .i64 q, .slice A n c, .int .u8 kind] w fun e w' => e = .returned (.bool true) ∧ Below w.heap.size w w' := by
  have HG := Lib.hid hg
  have HN := Lib.hid hn
  have HR := Lib.hid hr
  have HO := Lib.hid hok
  have HAW := Lib.hid (awake9_any w hg)
  clear hg hn hr hok
  go_enter Tryz.func5, Tryz.ntmps5
  go_wp2_with fail
  refine HAW.out.mono ?_
  rintro _ w0 ⟨rfl, hb0⟩
  have HB0 := Lib.hid hb0
  clear hb0 HAW
  by_cases h1 : 100 < n
  · have d1 : decide ((100 : Int) < (n : Int)) = true := decide_eq_true (by omega)
    go_wp2
    go_ret
    exact ⟨rfl, HB0.out⟩
  have d1 : decide ((100 : Int) < (n : Int)) = false := decide_eq_false (by omega)
  go_wp2_with fail
  refine (new_any w0).mono ?_
  rintro _ w1 ⟨rfl, hw1⟩
  have hd1 : Disk w1 (fun k => k = w0.heap.size) w0.heap.size [] 0 0 := by rw [hw1]; exact Disk.new w0
  have hb1 : Below w.heap.size w w1 := HB0.out.trans (by rw [hw1]; exact (Below.refl _ _).alloc HB0.out.size _)
  have hl1 : w1.heap.size = w0.heap.size + 1 := by rw [hw1]; simp
  obtain ⟨gd, hgd⟩ : ∃ gd, gd = w0.heap.size := ⟨_, rfl⟩
  rw [← hgd] at hd1 ⊢
  have HD1 := Lib.hid hd1
  have HB1 := Lib.hid hb1
  have HZ1 := Lib.hid (⟨hl1, hgd⟩ : _ ∧ _)
  clear hw1 hd1 hb1 hl1 hgd
  go_wp2_with fail
  refine (cnew_any w1).mono ?_
  rintro _ w2 ⟨rfl, hb2, hz2, hT2⟩
  obtain ⟨g, hgg⟩ : ∃ g, g = w1.heap.size := ⟨_, rfl⟩
  rw [← hgg] at hT2 ⊢
  have hdt : DkT w2 (fun k => k = gd) gd g [] 0 := ⟨⟨0, 0, Nat.le_refl _, Nat.le_refl _, HD1.out.below hb2⟩, ⟨0, 0, 0, Nat.zero_le _, Nat.le_refl _, Nat.le_refl _, hT2⟩⟩
  have hb02 : Below w.heap.size w w2 := HB1.out.trans (hb2.mono HB1.out.size)
  have hgl := HG.out.l
  have hwl := HB0.out.size
  have hG2 := HG.out.below hb02
  have hne : g ≠ gd := by have := HZ1.out.1; have := HZ1.out.2; omega
  have hgw : w.heap.size ≤ g := by have := HZ1.out.1; omega
  have hdw : w.heap.size ≤ gd := by have := HZ1.out.2; omega
  have HF := Lib.hid (first_any (self := self) (q := q) w2 hG2 hdt hne (by omega) (by omega))
  have HB2 := Lib.hid hb02
  have HGW := Lib.hid (⟨hgw, hdw⟩ : _ ∧ _)
  clear hb2 hz2 hT2 hgg hdt hb02 hG2 hne HD1 hgw hdw HZ1 HB1 HB0 hwl
  go_wp2_with fail
  refine (sto_open_nil1 (.pointer (some ⟨g, 0, none⟩)) self q w2).mono ?_
  rintro _ w3 ⟨rfl, rfl⟩
  go_wp2_with fail
  refine (sto_open_nil2 ⟨gd, 0, none⟩ self q w2).mono ?_
  rintro _ w3 ⟨rfl, rfl⟩
  go_wp2_with fail
  refine HF.out.mono ?_
  rintro _ w4 ⟨p, z, rfl, hcase, ho4, ht4⟩
  have hb4 : Below w.heap.size w w4 := Only.after HB2.out ho4 (fun k hk => by have := HGW.out; omega)
  have HB4 := Lib.hid hb4
  have HT4 := Lib.hid ht4
  clear hb4 ho4 ht4 HF
  have HPN : Hid (∀ W : World, Calls Tryz.prog 11 #[.pointer none, .agg #[.bool false, .int .u8 0, .int .u64 0, .int .u64 0, .string ⟨#[]⟩, .slice none 0 0, .int .u8 0, .int .u8 0, .int .i64 0, .int .u8 0, .int .u8 0, .int .u64 0, .int .u64 0]] W fun e w' => e = .returned (.tuple #[.int .u64 0, .int .u64 0, .int .i64 1]) ∧ Below W.heap.size W w') := fun W => sto_put_nil zeroI none 0 W
  have hd : (decide (31 < self) = true ∧ decide ((31 : Int) < (self : Int)) = true ∧ z = 20 ∧ p = .pointer none) ∨ (decide (31 < self) = false ∧ decide ((31 : Int) < (self : Int)) = false ∧ decide (q < 64) = true ∧ z = 26 ∧ p = .pointer none) ∨
      (decide (31 < self) = false ∧ decide ((31 : Int) < (self : Int)) = false ∧ decide (q < 64) = false ∧ decide (65536 < q) = true ∧ z = 26 ∧ p = .pointer none) ∨ (decide (31 < self) = false ∧ decide ((31 : Int) < (self : Int)) = false ∧ decide (q < 64) = false ∧ decide (65536 < q) = false ∧ z = 0 ∧ ∃ st, p = .pointer (some ⟨st, 0, none⟩)) := by
    rcases hcase with ⟨hs, h1, h2⟩ | ⟨hs, hq, h1, h2⟩ | ⟨hs, hq1, hq2, h1, h2⟩
    · exact .inl ⟨decide_eq_true hs, decide_eq_true (by omega), h1, h2⟩
    · by_cases hq1 : q < 64
      · exact .inr (.inl ⟨decide_eq_false (by omega), decide_eq_false (by omega), decide_eq_true hq1, h1, h2⟩)
      · exact .inr (.inr (.inl ⟨decide_eq_false (by omega), decide_eq_false (by omega), decide_eq_false hq1, decide_eq_true (by omega), h1, h2⟩))
    · exact .inr (.inr (.inr ⟨decide_eq_false (by omega), decide_eq_false (by omega), decide_eq_false (by omega), decide_eq_false (by omega), h1, h2⟩))
  clear hcase
  rcases hd with ⟨e1, e2, rfl, rfl⟩ | ⟨e1, e2, e3, rfl, rfl⟩ | ⟨e1, e2, e3, e4, rfl, rfl⟩ | ⟨e1, e2, e3, e4, rfl, st, rfl⟩
  all_goals
    go_wp2_with fail
    refine (HPN.out _).mono ?_
    rintro _ w5 ⟨rfl, hb5⟩
    have HB5 := Lib.hid (HB4.out.trans (hb5.mono HB4.out.size))
    have HT5 := Lib.hid (HT4.out.below hb5)
    clear hb5 HPN
    go_wp2_with fail
    refine (sto_sizes_nil w5).mono ?_
    rintro _ w6 ⟨rfl, rfl⟩
    go_wp2_with fail
    refine (sto_ack_nil 1 w5).mono ?_
    rintro _ w6 ⟨rfl, hb6⟩
    have HB6 := Lib.hid (HB5.out.trans (hb6.mono HB5.out.size))
    have HT6 := Lib.hid (HT5.out.below hb6)
    clear hb6 HT5 HB5 HT4 HB4
    go_wp2_with fail
    refine (sto_sync_nil w6).mono ?_
    rintro _ w7 ⟨rfl, rfl⟩
    go_wp2_with fail
    refine (sto_spool_nil w6).mono ?_
    rintro _ w7 ⟨rfl, rfl⟩
    go_wp2_with fail
    refine (sto_fires_nil w6).mono ?_
    rintro _ w7 ⟨rfl, rfl⟩
    go_wp2_with fail
    refine (sto_life_nil w6).mono ?_
    rintro _ w7 ⟨rfl, rfl⟩
    go_wp2_with fail
    refine (sto_next_nil w6).mono ?_
    rintro _ w7 ⟨rfl, rfl⟩
    go_wp2_with fail
    refine (sto_evicted_nil w6).mono ?_
    rintro _ w7 ⟨rfl, rfl⟩
    go_wp2_with fail
    refine (sto_room_nil w6).mono ?_
    rintro _ w7 ⟨rfl, rfl⟩
    go_wp2_with fail
    refine (new_any w6).mono ?_
    rintro _ w7 ⟨rfl, hw7⟩
    have hd7 : Disk w7 (fun k => k = w6.heap.size) w6.heap.size [] 0 0 := by rw [hw7]; exact Disk.new w6
    have hb67 : Below w6.heap.size w6 w7 := by rw [hw7]; exact (Below.refl _ _).alloc (Nat.le_refl _) _
    have hb7 : Below w.heap.size w w7 := HB6.out.trans (hb67.mono HB6.out.size)
    have hl7 : w7.heap.size = w6.heap.size + 1 := by rw [hw7]; simp
    have HT7 := Lib.hid (HT6.out.below hb67)
    obtain ⟨x, hx⟩ : ∃ x, x = w6.heap.size := ⟨_, rfl⟩
    rw [← hx] at hd7 ⊢
    have HD7 := Lib.hid hd7
    have HB7 := Lib.hid hb7
    have HX := Lib.hid (⟨hx, hl7⟩ : _ ∧ _)
    clear hw7 hd7 hb7 hb67 hl7 hx
    obtain ⟨kk, hkk⟩ : ∃ kk, kk = 5 + kind % 250 := ⟨_, rfl⟩
    have hk2 : kk < 256 := by omega
    have hk5 : 5 ≤ kk := by omega
    obtain ⟨kr, hkr⟩ : ∃ kr, kr = kind % 250 := ⟨_, rfl⟩
    have m1 : (kind : Int) % 250 = (kr : Int) := by omega
    have m2 : IntKind.u8.wrap (5 + (kr : Int)) = (kk : Int) := by rw [IntKind.wrap_u8]; omega
    have m3 : 5 + (kr : Int) = (kk : Int) := by omega
    clear hkr
    clear hkk
    go_wp2_with fail
    have HLY := Lib.hid (rlay_any (some ⟨w7.heap.size, 0, none⟩) 1 1 [kk] (w7.heap.size + 1) (w7.alloc (.cells #[.int .u8 kk] 5)) rfl (by decide) (rdB_block (heap_alloc_new _ _) rfl _ (by omega)) (by simp) (fun y hy => by
      obtain rfl : y = kk := by simpa using hy
      exact hk2))
    have hb8 : Below w7.heap.size w7 (w7.alloc (.cells #[.int .u8 kk] 5)) := (Below.refl _ _).alloc (Nat.le_refl _) _
    have HB8 := Lib.hid hb8
    clear hb8 m1 m2 m3
    refine HLY.out.mono ?_
    rintro _ w8 ⟨v8, rfl, ho8, hb8⟩
    obtain ⟨A8, c8, rfl⟩ := ownB_slice ho8
    have hl8 : (laidR [kk]).length = 9 := by rw [laidR_length]; rfl
    have hok8 : OkB (laidR [kk]) := laidR_ok (fun y hy => by
      obtain rfl : y = kk := by simpa using hy
      exact hk2)
    have hb78 : Below w7.heap.size w7 w8 := HB8.out.trans (hb8.mono HB8.out.size)
    obtain ⟨r8, -, -⟩ := rdB_of_own ho8
    have HA8 := Lib.hid (append_ok (s := ⟨#[115, 46, 48]⟩) (m := 9) (d := c8) (l := laidR [kk]) w8 (HD7.out.below hb78) nm0_value nm0_max (fun _ => by show ([] : List (ByteArray × Fl)).length < 64; decide) hl8.symm hok8 (by show ([] : List Nat).length + 9 ≤ 1048576; decide) r8 (by decide))
    have HB9 := Lib.hid (HB7.out.trans (hb78.mono HB7.out.size))
    have HT8 := Lib.hid (HT7.out.below hb78)
    have HS8 := Lib.hid hb78.size
    clear ho8 hb8 hl8 hok8 hb78 r8 HLY HB8 HT7 HD7
    go_wp2_with fail
    refine HA8.out.mono ?_
    rintro _ w9 ⟨rfl, S9, hd9, hst9⟩
    have hd9' : Disk w9 S9 x [(nmG 0, ⟨laidR [kk], 0⟩)] 1 0 := by
      have e : putP ([] : List (ByteArray × Fl)) ⟨#[115, 46, 48]⟩ ⟨(had ([] : List (ByteArray × Fl)) ⟨#[115, 46, 48]⟩).by_ ++ laidR [kk], (had ([] : List (ByteArray × Fl)) ⟨#[115, 46, 48]⟩).syn⟩ = [(nmG 0, ⟨laidR [kk], 0⟩)] := by rw [nm0_lit]; rfl
      rw [← e]
      exact hd9
    have hxw : w.heap.size ≤ x := by have := HX.out.1; have := HB6.out.size; omega
    have hgx : g < x := by have := HX.out.1; have := HT6.out.lt; omega
    have hS9 : ∀ k, S9 k → x ≤ k := fun k hk => (hst9.new k hk).elim (fun h => by omega) (fun h => by have := HX.out; have := HS8.out; omega)
    have hb9 : Below w.heap.size w w9 := Only.after HB9.out hst9.only (fun k hk => by omega)
    have ht9 : TabN w9 g 18 := HT8.out.only hst9.only (fun h => by omega)
    have HKO := Lib.hid (kind_open (k := kk) w9 (HG.out.below hb9) (dkt_of hd9' (n := 18) (by decide) (by decide) ht9) (by decide) (fun h => by have := hS9 _ h; omega) (fun h => by have := hS9 _ h; omega) (by have := HGW.out.1; omega) hk5 hk2)
    have HB10 := Lib.hid hb9
    have HGL := Lib.hid ht9.lt
    clear hd9 hd9' hst9 hxw hgx hS9 hb9 ht9 HA8 HT8 HS8
    go_wp2_with fail
    refine HKO.out.mono ?_
    rintro _ w10 ⟨rfl, ho10, ht10⟩
    have hb10 : Below w.heap.size w w10 := Only.after HB10.out ho10 (fun k hk => by have := HGW.out.1; omega)
    have HB11 := Lib.hid hb10
    have HT10 := Lib.hid ht10
    clear ho10 ht10 hb10 HKO HB10 HX HT6 HB6 HB9 HB7
    go_wp2_with fail
    refine (new_any w10).mono ?_
    rintro _ w11 ⟨rfl, hw11⟩
    have hd11 : Disk w11 (fun k => k = w10.heap.size) w10.heap.size [] 0 0 := by rw [hw11]; exact Disk.new w10
    have hb1011 : Below w10.heap.size w10 w11 := by rw [hw11]; exact (Below.refl _ _).alloc (Nat.le_refl _) _
    have hb11 : Below w.heap.size w w11 := HB11.out.trans (hb1011.mono HB11.out.size)
    have hl11 : w11.heap.size = w10.heap.size + 1 := by rw [hw11]; simp
    obtain ⟨y, hy⟩ : ∃ y, y = w10.heap.size := ⟨_, rfl⟩
    rw [← hy] at hd11 ⊢
    have hgy : g < y := by rw [hy]; exact HT10.out.lt
    have hyw : w.heap.size ≤ y := by rw [hy]; exact HB11.out.size
    have hrl : RdB w11 w11.heap.size A l := (HR.out.below hb11).more hb11.size
    have HA11 := Lib.hid (append_ok (s := ⟨#[115, 46, 48]⟩) (m := n) (d := c) (l := l) w11 hd11 nm0_value nm0_max (fun _ => by show ([] : List (ByteArray × Fl)).length < 64; decide) HN.out HO.out (by show ([] : List Nat).length + n ≤ 1048576; rw [List.length_nil]; omega) hrl (by decide))
    have HB12 := Lib.hid hb11
    have HT11 := Lib.hid (HT10.out.below hb1011)
    have HY := Lib.hid (⟨hgy, hyw, hy, hl11⟩ : _ ∧ _ ∧ _ ∧ _)
    clear hw11 hd11 hb1011 hb11 hl11 hy hgy hyw hrl HT10
    go_wp2_with fail
    refine HA11.out.mono ?_
    rintro _ w12 ⟨rfl, S12, hd12, hst12⟩
    have hd12' : Disk w12 S12 y [(nmG 0, ⟨l, 0⟩)] 1 0 := by
      have e : putP ([] : List (ByteArray × Fl)) ⟨#[115, 46, 48]⟩ ⟨(had ([] : List (ByteArray × Fl)) ⟨#[115, 46, 48]⟩).by_ ++ l, (had ([] : List (ByteArray × Fl)) ⟨#[115, 46, 48]⟩).syn⟩ = [(nmG 0, ⟨l, 0⟩)] := by rw [nm0_lit]; rfl
      rw [← e]
      exact hd12
    have hS12 : ∀ k, S12 k → y ≤ k := fun k hk => (hst12.new k hk).elim (fun h => by omega) (fun h => by have := HY.out.2.2; omega)
    have hb12 : Below w.heap.size w w12 := Only.after HB12.out hst12.only (fun k hk => by have := HY.out.2.1; omega)
    have ht12 : TabN w12 g 19 := HT11.out.only hst12.only (fun h => by have := HY.out.1; omega)
    have hrl : RdB w12 w12.heap.size A l := (HR.out.below hb12).more hb12.size
    have HA12 := Lib.hid (append_ok (s := ⟨#[111, 116, 104, 101, 114]⟩) (m := n) (d := c) (l := l) w12 hd12' nmO_value nmO_max (fun _ => by show ([(nmG 0, (⟨l, 0⟩ : Fl))] : List (ByteArray × Fl)).length < 64; simp) HN.out HO.out (by
      have e : had [(nmG 0, (⟨l, 0⟩ : Fl))] ⟨#[111, 116, 104, 101, 114]⟩ = ⟨[], 0⟩ := had_oth l
      rw [e]
      show ([] : List Nat).length + n ≤ 1048576
      rw [List.length_nil]; omega) hrl (by decide))
    have HB13 := Lib.hid hb12
    have HT12 := Lib.hid ht12
    have HS12 := Lib.hid hS12
    have HZ12 := Lib.hid hst12.only.size
    clear hd12 hd12' hst12 hS12 hb12 ht12 hrl HA11 HB12 HT11
    go_wp2_with fail
    refine HA12.out.mono ?_
    rintro _ w13 ⟨rfl, S13, hd13, hst13⟩
    have hd13' : Disk w13 S13 y [(nmO, ⟨l, 0⟩), (nmG 0, ⟨l, 0⟩)] 2 0 := by
      have e : had [(nmG 0, (⟨l, 0⟩ : Fl))] ⟨#[111, 116, 104, 101, 114]⟩ = ⟨[], 0⟩ := had_oth l
      rw [e] at hd13
      rw [← put_oth]
      exact hd13
    have hS13 : ∀ k, S13 k → y ≤ k := fun k hk => (hst13.new k hk).elim (fun h => HS12.out k h) (fun h => by have := HY.out.2.2; have := HZ12.out; omega)
    have hb13 : Below w.heap.size w w13 := Only.after HB13.out hst13.only (fun k hk => by have := HS12.out k hk; have := HY.out.2.1; omega)
    have ht13 : TabN w13 g 19 := HT12.out.only hst13.only (fun h => by have := HS12.out _ h; have := HY.out.1; omega)
    have HRO := Lib.hid (raw_open (l := l) w13 (HG.out.below hb13) (dkt_of hd13' (n := 19) (by decide) (by decide) ht13) (by decide) (fun h => by have := hS13 _ h; have := HY.out.1; omega) (fun h => by have := hS13 _ h; have := HY.out.2.1; omega) (by have := HGW.out.1; omega) HO.out (by have := HN.out; omega))
    have HB14 := Lib.hid hb13
    have HS13 := Lib.hid hS13
    have HG13 := Lib.hid (ht13.lt)
    clear hd13 hd13' hst13 hS13 hb13 ht13 HA12 HB13 HT12 HS12
    go_wp2_with fail
    refine HRO.out.mono ?_
    rintro _ w14 ⟨p14, z14, rfl, ho14, hraw⟩
    have hb14 : Below w.heap.size w w14 := Only.after HB14.out ho14 (fun k hk => by
      rcases hk with hk | hk
      · have := HS13.out k hk; have := HY.out.2.1; omega
      · have := HGW.out.1; omega)
    have hgl14 : g < w14.heap.size := by have := ho14.size; have := HG13.out; omega
    have hrl : RdB w14 w14.heap.size A l := (HR.out.below hb14).more hb14.size
    have HSC := Lib.hid (rscan_any g A n c l w14.heap.size w14 hgl14 HN.out hnc (by omega) hrl (Nat.le_refl _) HO.out)
    have HB15 := Lib.hid hb14
    have HRAW := Lib.hid hraw
    clear ho14 hraw hb14 hgl14 hrl HRO HB14
    go_wp2_with fail
    refine HSC.out.mono ?_
    rintro _ w15 ⟨v15, rfl, hrs, hb15⟩
    obtain ⟨A15, c15, rfl⟩ := hrs.slice
    have HB16 := Lib.hid (HB15.out.trans (hb15.mono HB15.out.size))
    have HB1415 := Lib.hid hb15
    clear hrs hb15 HSC HB15
    obtain ⟨z15, hz15⟩ : ∃ z, z = (scanJ l).2 := ⟨_, rfl⟩
    rw [← hz15]
    clear hz15
    obtain ⟨m, hm⟩ : ∃ m, m = (scanJ l).1.length := ⟨_, rfl⟩
    rw [← hm]
    by_cases hm0 : 0 < m
    · have d9 : decide (0 < m) = true := decide_eq_true hm0
      clear hm
      go_wp2
      go_ret
      exact ⟨rfl, HB16.out⟩
    · have d9 : decide (0 < m) = false := decide_eq_false hm0
      have hnil : (scanJ l).1 = [] := List.eq_nil_of_length_eq_zero (by omega)
      obtain ⟨hz0, S14, LL14, wr14, sy14, hd14, hln⟩ := HRAW.out hnil
      subst hz0
      have HNM := Lib.hid (names_any w15 (hd14.below HB1415.out))
      rw [hln] at HNM
      have hm1 : m = 0 := by omega
      subst hm1
      clear hm hd14 hln hm0 d9 hnil HRAW
      go_wp2_with fail
      refine HNM.out.mono ?_
      rintro _ w16 ⟨v16, rfl, ho16, hb16⟩
      obtain ⟨A16, c16, rfl⟩ := ownB_slice ho16
      have HB17 := Lib.hid (HB16.out.trans (hb16.mono HB16.out.size))
      clear ho16 hb16 HNM
      go_wp2
      go_ret
      exact ⟨rfl, HB17.out⟩
end storeNone
end Go.Proofs.YtholdcgkhicdmaaGreatDoor
