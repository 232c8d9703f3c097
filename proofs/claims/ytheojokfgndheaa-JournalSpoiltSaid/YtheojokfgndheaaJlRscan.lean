/- Layer 7: the document's own Scan. -/
import Derived.Test.YtheojokfgndheaaJlRef
import Derived.Test.YtheojokfgndheaaJlScan
namespace Go.Proofs.Ytheojokfgndheaa
open Go.RowKit

/-- a record is there just if the document's record of its content is -/
theorem takeJ_byLay {r C : List Nat} {N : Nat} (hr : OkB r) (h8 : 8 ≤ r.length) (hN : N = takeN (r.take 4)) (hN1 : N ≤ 524288) (hN2 : N ≤ r.length - 8) (hC : C = (r.drop 8).take N) : takeJ r = if laidR C = r.take (8 + N) then some C else none := by
  have hCl : C.length = N := by rw [hC, List.length_take, List.length_drop]; omega
  have hCo : OkB C := by rw [hC]; exact (hr.drop 8).take N
  by_cases heq : laidR C = r.take (8 + N)
  · rw [if_pos heq]
    have e : r = laidR C ++ r.drop (8 + N) := by rw [heq]; exact (List.take_append_drop _ _).symm
    rw [e]
    exact takeJ_laid hCo (by omega)
  · rw [if_neg heq]
    cases ht : takeJ r with
    | none => rfl
    | some x =>
      obtain ⟨e, hx⟩ := takeJ_some hr ht
      exfalso
      have hx4 : r.take 4 = four x.length := by
        rw [e]; unfold laidR
        rw [List.append_assoc, List.take_left' (by rfl)]
      have hNx : N = x.length := by rw [hN, hx4]; exact takeN_four (by omega)
      have hd8 : r.drop 8 = x ++ r.drop (x.length + 8) := by
        conv => lhs; rw [e]
        unfold laidR
        have : ((four x.length ++ (four (sumN (four x.length ++ x)) ++ x)) ++ r.drop (x.length + 8)).drop 8 = (((four x.length ++ (four (sumN (four x.length ++ x)) ++ x)) ++ r.drop (x.length + 8)).drop 4).drop 4 := by rw [List.drop_drop]
        rw [this, List.append_assoc, List.drop_left' (by rfl), List.append_assoc, List.drop_left' (by rfl)]
      have hCx : C = x := by rw [hC, hd8, hNx, List.take_left]
      apply heq
      rw [hCx]
      conv => rhs; rw [e]
      rw [hNx, List.take_left' (by rw [laidR_length]; omega)]

/-- all that an append of one more record asks for -/
structure Ready (w w3 w6 : World) (base g : Nat) (A4 : Option Addr) (c4 : Nat) (L : List (List Nat)) (A5 : Option Addr) (m c5 : Nat) (C : List Nat) (X : List (Option Addr × Nat × Nat)) : Prop where
  rs : RsX w6 base g (.slice A4 L.length c4) X L
  src : Src w6 (some ⟨w3.heap.size, 0, none⟩) 1 1 [.slice A5 m c5]
  n : m = C.length
  nil : A5 = none → m = 0
  rd : RdB w6 w6.heap.size A5 C
  far : ∀ a, A5 = some a → 0 < C.length → base ≤ a.block ∧ a.block ≠ g ∧ (Value.slice A4 L.length c4).ownBlock ≠ some a.block
  g : g < w6.heap.size
  hbase : base ≤ w6.heap.size
  bl : Below base w w6
theorem ready {w w3 w5 : World} {g : Nat} {A4 : Option Addr} {c4 : Nat} {L : List (List Nat)} {A5 : Option Addr} {m c5 : Nat} {C : List Nat} (hg : g < w.heap.size) (hb3 : Below w.heap.size w w3) (hRs : Rs w3 w.heap.size g (.slice A4 L.length c4) L) (hb5 : Below w3.heap.size w3 w5)
    (ho : w5.ownsRow w3.heap.size 5 1 (.slice A5 m c5) m (cellsB C)) : ∃ X, Ready w w5 (w5.alloc (.cells #[.slice A5 m c5] 30)) w.heap.size g A4 c4 L A5 m c5 C X := by
  obtain ⟨r1, r2, r3⟩ := rdB_of_own ho
  have hb6 : Below w5.heap.size w5 (w5.alloc (.cells #[.slice A5 m c5] 30)) := (Below.refl _ _).alloc (Nat.le_refl _) _
  obtain ⟨X, hX⟩ := (hRs.below hb5).below hb6
  have hs3 := hb3.size
  have hs5 := hb5.size
  have hs6 := hb6.size
  refine ⟨X, hX, ⟨rfl, fun _ => ⟨_, rfl, fun j u hj => ?_⟩⟩, r2, r3, (r1.below hb6).more hs6, fun a ha h0 => ?_, by omega, by omega, hb3.trans ((hb5.mono hs3).trans (hb6.mono (Nat.le_trans hs3 hs5)))⟩
  · cases j with
    | zero => simp at hj; subst hj; rw [Addr.add_lit, World.cell?_alloc_at _ _ _ _ rfl]; rfl
    | succ j => simp at hj
  · obtain ⟨g', cap, hv, hge, hlt⟩ := ho.form (by omega)
    injection hv with hv
    rw [ha] at hv
    injection hv with hv
    have hblk : a.block = g' := by rw [hv]
    refine ⟨by omega, by omega, fun e => ?_⟩
    obtain ⟨X', hX'⟩ := hRs
    have := (hX'.own.lt _ e).2
    omega

set_option maxRecDepth 100000 in
set_option maxHeartbeats 2000000 in
theorem rscan_any (g : Nat) (A : Option Addr) (n c : Nat) (l : List Nat) (B : Nat) (w : World) (hg : g < w.heap.size) (hn : n = l.length) (hc : n ≤ c) (hm : n ≤ 1000000) (hr : RdB w B A l) (hB : B ≤ w.heap.size) (hok : OkB l) :
    Calls Try.prog 32 #[.slice A n c] w fun e w' => ∃ v, e = .returned (.tuple #[v, .int .i64 (scanJ l).2]) ∧ Rs w' w.heap.size g v (scanJ l).1 ∧ Below w.heap.size w w' := by
  obtain ⟨i0, hi0, hz0, hz1, hz2⟩ := info_parts Try.infoSl
  obtain ⟨i1, hi1, hy0, hy1, hy2⟩ := info_parts Try.infoB
  have Hn := Lib.hid hn
  have Hr := Lib.hid hr
  have Hok := Lib.hid hok
  clear hn hr hok
  go_enter Try.func32, Try.ntmps32
  go_wp2
  go_loopw [4, 5] (fun cv ev wx => ∃ (k : Nat) (L : List (List Nat)), k ≤ n ∧ ev = .int .i64 k ∧ L.length ≤ k ∧ Hid (scanJ l = (L ++ (scanJ (l.drop k)).1, k + (scanJ (l.drop k)).2)) ∧ Hid (Rs wx w.heap.size g cv L) ∧ Hid (Below w.heap.size w wx)) (fun _ ev _ => n - (intOf ev).toNat)
  case atStart => exact ⟨0, [], Nat.zero_le _, rfl, Nat.le_refl _, by show _ = _; rw [List.drop_zero]; simp, Rs.nil _ _ _, Below.refl _ _⟩
  case round =>
    obtain ⟨k, L, hk, rfl, hLk, Hsc, HRs, Hb⟩ := hrel
    obtain ⟨A4, c4, rfl⟩ := HRs.out.slice
    have hw0 : IntKind.i64.wrap ((n : Int) - k) = (n : Int) - k := by rw [IntKind.wrap_i64]; omega
    by_cases h8 : n - k < 8
    · have d1 : decide ((n : Int) - k ≥ 8) = false := decide_eq_false (by omega)
      have d2 : decide ((8 : Int) ≤ (n : Int) - k) = false := decide_eq_false (by omega)
      have Hno : Hid (takeJ (l.drop k) = none) := by show _ = _; unfold takeJ; rw [if_pos (by rw [List.length_drop, ← Hn.out]; exact h8)]
      go_wp2
      go_ret2
      refine ⟨.slice A4 L.length c4, by rw [Hsc.out, scanJ_none Hno.out]; rfl, ?_, Hb.out⟩
      rw [Hsc.out, scanJ_none Hno.out, List.append_nil]
      exact HRs.out
    · have d1 : decide ((n : Int) - k ≥ 8) = true := decide_eq_true (by omega)
      have d2 : decide ((8 : Int) ≤ (n : Int) - k) = true := decide_eq_true (by omega)
      obtain ⟨b, o, rfl, hbl, hcl⟩ := Hr.out (by have := Hn.out; omega)
      obtain ⟨x0, x1, x2, x3, r, hl⟩ : ∃ x0 x1 x2 x3 r, l.drop k = x0 :: x1 :: x2 :: x3 :: r := by
        have hlen : 8 ≤ (l.drop k).length := by rw [List.length_drop, ← Hn.out]; omega
        match l.drop k, hlen with
        | [], h => simp at h
        | [_], h => simp at h
        | [_, _], h => simp at h
        | [_, _, _], h => simp at h
        | x0 :: x1 :: x2 :: x3 :: r, _ => exact ⟨_, _, _, _, _, rfl⟩
      have at_ : ∀ (j x : Nat), (l.drop k)[j]? = some x → wr.cell? ⟨b, o + (k + j), none⟩ = some (.int .u8 x) := fun j x hx => by
        rw [List.getElem?_drop] at hx
        exact (Hb.out.cell (p := ⟨b, o + (k + j), none⟩) (by show b < _; omega)).trans (hcl (k + j) x hx)
      have q0 : wr.cell? ⟨b, o + k, none⟩ = some (.int .u8 x0) := at_ 0 x0 (by rw [hl]; rfl)
      have q1 := at_ 1 x1 (by rw [hl]; rfl)
      have q2 := at_ 2 x2 (by rw [hl]; rfl)
      have q3 := at_ 3 x3 (by rw [hl]; rfl)
      have hx0 : x0 < 256 := Hok.out.drop k x0 (by rw [hl]; simp)
      have hx1 : x1 < 256 := Hok.out.drop k x1 (by rw [hl]; simp)
      have hx2 : x2 < 256 := Hok.out.drop k x2 (by rw [hl]; simp)
      have hx3 : x3 < 256 := Hok.out.drop k x3 (by rw [hl]; simp)
      obtain ⟨N, hN⟩ : ∃ N : Nat, N = takeN ((l.drop k).take 4) := ⟨_, rfl⟩
      have hN4 : (x0 : Int) + 256 * (x1 : Int) + 65536 * (x2 : Int) + 16777216 * (x3 : Int) = (N : Int) := by
        rw [hN, hl]
        simp [takeN]
      have HN := Lib.hid hN
      have w1_ : IntKind.i64.wrap ((k : Int) + 1) = (k : Int) + 1 := by rw [IntKind.wrap_i64]; omega
      have w2_ : IntKind.i64.wrap ((k : Int) + 2) = (k : Int) + 2 := by rw [IntKind.wrap_i64]; omega
      have w3_ : IntKind.i64.wrap ((k : Int) + 3) = (k : Int) + 3 := by rw [IntKind.wrap_i64]; omega
      have v0_ : IntKind.i64.wrap (x0 : Int) = x0 := by rw [IntKind.wrap_i64]; omega
      have v1_ : IntKind.i64.wrap (x1 : Int) = x1 := by rw [IntKind.wrap_i64]; omega
      have v2_ : IntKind.i64.wrap (x2 : Int) = x2 := by rw [IntKind.wrap_i64]; omega
      have v3_ : IntKind.i64.wrap (x3 : Int) = x3 := by rw [IntKind.wrap_i64]; omega
      have m1_ : IntKind.i64.wrap (256 * (x1 : Int)) = 256 * (x1 : Int) := by rw [IntKind.wrap_i64]; omega
      have m2_ : IntKind.i64.wrap (65536 * (x2 : Int)) = 65536 * (x2 : Int) := by rw [IntKind.wrap_i64]; omega
      have m3_ : IntKind.i64.wrap (16777216 * (x3 : Int)) = 16777216 * (x3 : Int) := by rw [IntKind.wrap_i64]; omega
      have a1_ : IntKind.i64.wrap ((x0 : Int) + 256 * (x1 : Int)) = (x0 : Int) + 256 * (x1 : Int) := by rw [IntKind.wrap_i64]; omega
      have a2_ : IntKind.i64.wrap ((x0 : Int) + 256 * (x1 : Int) + 65536 * (x2 : Int)) = (x0 : Int) + 256 * (x1 : Int) + 65536 * (x2 : Int) := by rw [IntKind.wrap_i64]; omega
      have a3_ : IntKind.i64.wrap ((x0 : Int) + 256 * (x1 : Int) + 65536 * (x2 : Int) + 16777216 * (x3 : Int)) = (N : Int) := by rw [IntKind.wrap_i64]; omega
      clear hl hN hN4 at_ hcl
      go_wp2
      go_quiet (fail)
      have hbw : Below wr.heap.size wr (wr.drewN nq) := ⟨rfl, rfl, rfl, Nat.le_refl _, fun _ _ => rfl⟩
      have HRs2 := Lib.hid (HRs.out.below hbw)
      have Hb2 := Lib.hid (Hb.out.trans (hbw.mono Hb.out.size))
      clear hbw q0 q1 q2 q3 hx0 hx1 hx2 hx3 w1_ w2_ w3_ v0_ v1_ v2_ v3_ m1_ m2_ m3_ a1_ a2_ a3_
      generalize wr.drewN nq = wa at *
      have hw8 : IntKind.i64.wrap ((n : Int) - k - 8) = (n : Int) - k - 8 := by rw [IntKind.wrap_i64]; omega
      have hlenk : (l.drop k).length = n - k := by rw [List.length_drop, ← Hn.out]
      have Hlenk := Lib.hid hlenk
      clear hlenk
      by_cases hbig : 524288 < N ∨ n - k - 8 < N
      · have Hno : Hid (takeJ (l.drop k) = none) := by show _ = _; unfold takeJ; rw [if_neg (by rw [Hlenk.out]; exact h8), ← HN.out, Hlenk.out, if_pos hbig]
        have hend : Hid ((scanJ l).2 = k ∧ (scanJ l).1 = L) := by show _ ∧ _; rw [Hsc.out, scanJ_none Hno.out]; simp
        rcases (by omega : 524288 < N ∨ (¬ 524288 < N ∧ n - k - 8 < N)) with hb2 | ⟨hb2, hb3⟩
        · have e1 : decide ((N : Int) > 524288) = true := decide_eq_true (by omega)
          have e2 : decide ((524288 : Int) < N) = true := decide_eq_true (by omega)
          clear hbig
          go_wp2
          go_ret2
          exact ⟨.slice A4 L.length c4, by rw [hend.out.1]; rfl, by rw [hend.out.2]; exact HRs2.out, Hb2.out⟩
        · have e1 : decide ((N : Int) > 524288) = false := decide_eq_false (by omega)
          have e2 : decide ((524288 : Int) < N) = false := decide_eq_false (by omega)
          have e3 : decide ((n : Int) - k - 8 < (N : Int)) = true := decide_eq_true (by omega)
          clear hbig
          go_wp2
          go_ret2
          exact ⟨.slice A4 L.length c4, by rw [hend.out.1]; rfl, by rw [hend.out.2]; exact HRs2.out, Hb2.out⟩
      · have e1 : decide ((N : Int) > 524288) = false := decide_eq_false (by omega)
        have e2 : decide ((524288 : Int) < N) = false := decide_eq_false (by omega)
        have e3 : decide ((n : Int) - k - 8 < (N : Int)) = false := decide_eq_false (by omega)
        obtain ⟨C, hC⟩ : ∃ C, C = ((l.drop k).drop 8).take N := ⟨_, rfl⟩
        have HTJ : Hid (takeJ (l.drop k) = if laidR C = (l.drop k).take (8 + N) then some C else none) := takeJ_byLay (Hok.out.drop k) (by rw [Hlenk.out]; omega) HN.out (by omega) (by rw [Hlenk.out]; omega) hC
        have hCl : N = C.length := by rw [hC, List.length_take, List.length_drop, Hlenk.out]; omega
        have HCl := Lib.hid hCl
        have HCo : Hid (OkB C) := by show OkB _; rw [hC]; exact ((Hok.out.drop k).drop 8).take N
        obtain ⟨A7, hA7⟩ : ∃ A7, A7 = subA (some ⟨b, o, none⟩) c (k + 8) := ⟨_, rfl⟩
        obtain ⟨A8, hA8⟩ : ∃ A8, A8 = subA (some ⟨b, o, none⟩) c k := ⟨_, rfl⟩
        have hln : l.length ≤ c := by rw [← Hn.out]; exact hc
        have HR7 : Hid (RdB w B A7 C) := by
          show RdB _ _ _ _
          have := (Hr.out.sub (lo := k + 8) hln).take N
          rw [hA7, hC, List.drop_drop]
          exact this
        have HR8 : Hid (RdB w B A8 ((l.drop k).take (8 + N))) := by show RdB _ _ _ _; rw [hA8]; exact (Hr.out.sub (lo := k) hln).take (8 + N)
        have hwk : IntKind.i64.wrap ((k : Int) + 8) = (k : Int) + 8 := by rw [IntKind.wrap_i64]; omega
        have hwN : IntKind.i64.wrap ((k : Int) + 8 + N) = (k : Int) + 8 + N := by rw [IntKind.wrap_i64]; omega
        have s7 : ∀ W : World, (Instr.sliceAt 30 (.slice (some ⟨b, o, none⟩) n c) (some (.int .i64 ((k : Int) + 8))) (some (.int .i64 ((k : Int) + 8 + N))) none).run Try.prog W = .ok (.slice A7 N (c - (k + 8))) W := fun W => by
          have := slB_lh (some ⟨b, o, none⟩) n c (k + 8) (k + 8 + N) ((k : Int) + 8) ((k : Int) + 8 + N) (by omega) (by omega) (by omega) (by omega) W
          rwa [← hA7, Nat.add_sub_cancel_left] at this
        have s8 : ∀ W : World, (Instr.sliceAt 30 (.slice (some ⟨b, o, none⟩) n c) (some (.int .i64 (k : Int))) (some (.int .i64 ((k : Int) + 8 + N))) none).run Try.prog W = .ok (.slice A8 (8 + N) (c - k)) W := fun W => by
          have := slB_lh (some ⟨b, o, none⟩) n c k (k + 8 + N) (k : Int) ((k : Int) + 8 + N) rfl (by omega) (by omega) (by omega) W
          rwa [← hA8, show k + 8 + N - k = 8 + N by omega] at this
        have Hl8 : Hid (8 + N = ((l.drop k).take (8 + N)).length) := by show _ = _; rw [List.length_take, Hlenk.out]; omega
        have Hn7 : Hid (A7 ≠ none) := fun e => by have := subA_nil (hA7 ▸ e : subA (some ⟨b, o, none⟩) c (k + 8) = none); cases this
        have Hn8 : Hid (A8 ≠ none) := fun e => by have := subA_nil (hA8 ▸ e : subA (some ⟨b, o, none⟩) c k = none); cases this
        have hN5 : N ≤ 524288 := by omega
        have hNk : k + (N + 8) ≤ n := by omega
        clear hbig hC hCl hA7 hA8
        go_wp2_with fail
        refine (rlay_any A7 N (c - (k + 8)) C B wa HCl.out (by omega) (HR7.out.below (Hb2.out.mono hB)) (Nat.le_trans hB Hb2.out.size) HCo.out).mono ?_
        rintro e w2 ⟨v2, rfl, ho2, hb2⟩
        obtain ⟨A2, c2, rfl⟩ := ownB_slice ho2
        have ho2' : w2.ownsRow wa.heap.size 5 1 (.slice A2 (N + 8) c2) (N + 8) (cellsB (laidR C)) := ho2
        obtain ⟨r1, r2, r3⟩ := rdB_of_own ho2'
        have hbd : Below w2.heap.size w2 w2.drew := (Below.refl _ _).drew
        have hcv1 := conv_any (w := w2.drew) (c := c2) (r1.below hbd) r2 r3
        have Hb3 := Lib.hid (Hb2.out.trans ((hb2.trans (hbd.mono hb2.size)).mono Hb2.out.size))
        have hcv2 := conv_any (w := w2.drew) (c := c - k) (HR8.out.below (Hb3.out.mono hB)) Hl8.out (fun e => absurd e Hn8.out)
        have HRs3 := Lib.hid ((HRs2.out.below hb2).below hbd)
        have hse := strB_eq (laidR_ok HCo.out) ((Hok.out.drop k).take (8 + N))
        clear ho2 ho2' hb2 r1 r2 r3 hbd
        by_cases heq : laidR C = (l.drop k).take (8 + N)
        · have g1 : ((strB (laidR C)).toList == (strB ((l.drop k).take (8 + N))).toList) = true := by rw [hse]; exact decide_eq_true heq
          have g2 : ((strB (laidR C)).toList != (strB ((l.drop k).take (8 + N))).toList) = false := by rw [bne, g1]; rfl
          have Hyes : Hid (takeJ (l.drop k) = some C) := by show _ = _; rw [HTJ.out, if_pos heq]
          clear hse heq
          go_wp2
          go_region
          all_goals
            have Hsrc : Hid (∀ W, Below w.heap.size w W → Src W A7 N 1 (cellsB C)) := fun W hW => src_of_rdB (HR7.out.below (hW.mono hB)) HCl.out
            have Hb4 := Lib.hid (Hb3.out.alloc Hb3.out.size (.cells #[] 5))
            have Hbm := Lib.hid ((Below.refl w2.drew.heap.size w2.drew).alloc (Nat.le_refl _) (.cells #[] 5))
            go_wp2_with (at_builtin; first
              | (refine wpList_append_src (base := w2.drew.heap.size) rfl (.tmp 76) (.tmp 77) rfl Try.underlying30 hi1 hy0 hy1 hy2 rfl (by decide) rfl (World.ownsRow_made w2.drew #[] 0 (Nat.le_refl _) (Nat.zero_le _) rfl) rfl (Hsrc.out _ Hb4.out) (cellsB_one _) (by unfold maxLen; omega) (by omega) (by simp) ?_; intro v5 w5 ho5 hg5 _; obtain ⟨A5, c5, rfl⟩ := ownB_slice ho5; have hb5 := Hbm.out.grown hg5 (by simp) (fun k hk => by have e : some w2.drew.heap.size = some k := hk; injection e with e; omega); have ho6 : w5.ownsRow w2.drew.heap.size 5 1 (.slice A5 N c5) N (cellsB C) := (by have := ho5; rwa [List.nil_append, Nat.zero_add] at this); obtain ⟨X, hX⟩ := ready hg Hb3.out HRs3.out hb5 ho6; have HX := Lib.hid hX; clear ho5 hg5 hb5 ho6 hX)
              | (refine wpList_append_src (base := w.heap.size) rfl (.tmp 75) (.tmp 79) rfl Try.underlying55 hi0 hz0 hz1 hz2 rfl (by decide) rfl HX.out.rs.own rfl HX.out.src (fun u hu => by simp at hu; rw [hu]; rfl) (by unfold maxLen; omega) (by omega) HX.out.hbase ?_; intro v7 w7 ho7 hg7 hb7; have hRs7 : Hid (Rs w7 w.heap.size g v7 (L ++ [C])) := Rs.app ⟨X, HX.out.rs⟩ HX.out.g HX.out.n HX.out.nil HX.out.rd HCo.out HX.out.far HX.out.rs ho7 hg7 hb7; have Hb7 := Lib.hid (HX.out.bl.grown hg7 HX.out.bl.size (fun k hk => (HX.out.rs.own.lt k hk).1)); clear ho7 hg7 hb7))
            have Hsc2 : Hid (scanJ l = ((L ++ [C]) ++ (scanJ (l.drop (k + (N + 8)))).1, (k + (N + 8)) + (scanJ (l.drop (k + (N + 8)))).2)) := by
              show _ = _
              rw [Hsc.out, scanJ_some Hyes.out, List.drop_drop, ← HCl.out]
              simp only [List.append_assoc, List.cons_append, List.nil_append, Nat.add_assoc]
            go_wp2
            go_roundw
            case rel => exact ⟨k + (N + 8), L ++ [C], by omega, by congr 1; omega, by rw [List.length_append]; show _ + 1 ≤ _; omega, Hsc2.out, hRs7.out, Hb7.out⟩
            case measure => simp [intOf]; omega
        · have g1 : ((strB (laidR C)).toList == (strB ((l.drop k).take (8 + N))).toList) = false := by rw [hse]; exact decide_eq_false heq
          have g2 : ((strB (laidR C)).toList != (strB ((l.drop k).take (8 + N))).toList) = true := by rw [bne, g1]; rfl
          have Hno : Hid (takeJ (l.drop k) = none) := by show _ = _; rw [HTJ.out, if_neg heq]
          have hend : Hid ((scanJ l).2 = k ∧ (scanJ l).1 = L) := by show _ ∧ _; rw [Hsc.out, scanJ_none Hno.out]; simp
          clear hse heq
          go_wp2
          go_region
          all_goals
            go_wp2
            go_ret2
            exact ⟨.slice A4 L.length c4, by rw [hend.out.1]; rfl, by rw [hend.out.2]; exact HRs3.out, Hb3.out⟩
end Go.Proofs.Ytheojokfgndheaa
