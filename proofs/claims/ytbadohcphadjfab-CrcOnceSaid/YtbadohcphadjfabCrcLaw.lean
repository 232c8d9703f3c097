/- The walk of watchfirelaw02.CrcOnce. -/
import Derived.Test.YtbadohcphadjfabCrcAwake
import Derived.Test.YtbadohcphadjfabCrcStr
import Derived.Test.YtbadohcphadjfabCrcNil
import Derived.Test.YtbadohcphadjfabCrcRows
import Derived.Test.YtbadohcphadjfabHeld
namespace Go.Proofs.Ytbadohcphadjfab.crcOnce
open Go.RowKit Go.Proofs.Ytbadohcphadjfab

section
variable {P : Program} {md : Region.Mode} {ops : Array Oper} {Q : Exit → Act → World → Prop} {S : World → Prop}
theorem heldTwo {i j : Nat} {o o' : Oper} {fuel : Nat} {listed : Array Bool} {a : Act} {w : World} (ho : ops.toList[i]? = some o) (ho' : ops.toList[j]? = some o') (hr : Region.ready md ops listed = [i, j])
    (h : ∀ K' : Act → World → Prop, Shut (∀ a w, S w → (S w → wpAnyH P md ops Q S fuel (listed.setIfInBounds i true) a w) → K' a w) → if Region.wanted o (yielded ops a.tmps) = true then Oper.wp P o a w K' Q else K' (a.put o.dst undef) w)
    (h' : ∀ K' : Act → World → Prop, Shut (∀ a w, S w → (S w → wpAnyH P md ops Q S fuel (listed.setIfInBounds j true) a w) → K' a w) → if Region.wanted o' (yielded ops a.tmps) = true then Oper.wp P o' a w K' Q else K' (a.put o'.dst undef) w) :
    wpAnyH P md ops Q S (fuel + 1) listed a w :=
  wpAnyH_ready hr (by simp) (AllReadyH.cons (by rw [← Array.getElem?_toList]; exact ho) h (AllReadyH.cons (by rw [← Array.getElem?_toList]; exact ho') h' AllReadyH.nil))
end

/-- what one box holds is kept by another one -/
theorem box0 (W : World) (v : Value) (t : TypeId) : (W.alloc (.cells #[v] t)).cell? ⟨W.heap.size, 0, none⟩ = some v := by
  rw [World.cell?_alloc_at _ _ _ _ rfl]; rfl
theorem box1 (W : World) (v : Value) (t : TypeId) (o : Obj) : ((W.alloc (.cells #[v] t)).alloc o).cell? ⟨W.heap.size, 0, none⟩ = some v := by
  rw [World.cell?_alloc_past _ _ _ (by simp)]; exact box0 W v t
theorem boxS (W : World) (v : Value) (t : TypeId) (o : Obj) : ((W.alloc o).alloc (.cells #[v] t)).cell? ⟨W.heap.size + 1, 0, none⟩ = some v := by
  rw [World.cell?_alloc_at _ _ _ _ (by simp)]; rfl

set_option maxRecDepth 100000 in
set_option maxHeartbeats 8000000 in
theorem walk (A : Option Addr) (n c : Nat) (A' : Option Addr) (m d : Nat) (l : List Nat) (w : World) (hnx : n ≤ maxLen) (hr : RdR w w.heap.size A n) (hm : m = l.length) (hmx : m ≤ maxLen) (hA : A' = none → m = 0) (hs : RdB w w.heap.size A' l) (hok : OkB l) :
    Calls Try.prog 6 #[.slice A n c, .slice A' m d] w fun e w' => e = .returned (.bool true) ∧ Below w.heap.size w w' := by
  obtain ⟨i0, hi, hz0, hz1, hz2⟩ := info_parts Try.infoB
  have Ha := Lib.hid cawake_any
  have Hr := Lib.hid hr
  have Hm := Lib.hid hm
  have Hs := Lib.hid hs
  have Hok := Lib.hid hok
  have HA := Lib.hid hA
  clear hr hm hs hok hA
  unfold maxLen at hnx hmx
  go_enter Try.func6, Try.ntmps6
  go_wp2_with fail
  refine (Ha.out _).mono ?_
  rintro e w1 ⟨rfl, hw1⟩
  have hge1 := hw1.size
  by_cases h10 : 10 < n
  · have e1 : decide ((10 : Int) < (n : Int)) = true := decide_eq_true (by omega)
    go_wp2
    go_ret
    exact ⟨rfl, hw1⟩
  have e1 : decide ((10 : Int) < (n : Int)) = false := decide_eq_false (by omega)
  by_cases h300 : 300 < m
  · have e2 : decide ((300 : Int) < (m : Int)) = true := decide_eq_true (by omega)
    go_wp2
    go_ret
    exact ⟨rfl, hw1⟩
  have e2 : decide ((300 : Int) < (m : Int)) = false := decide_eq_false (by omega)
  go_wp2_with fail
  refine (new_any w1).mono ?_
  rintro e w2 ⟨rfl, hw2, hsz2, hT2⟩
  have HT2 := Lib.hid hT2
  have hbw2 := hw1.trans (hw2.mono hge1)
  clear hsz2 hT2 hw2
  obtain ⟨g, hg⟩ : ∃ g, w1.heap.size = g := ⟨_, rfl⟩
  rw [hg] at HT2 hge1
  rw [hg]
  clear hg hw1
  go_wp2
  go_loopw [6, 8, 29] (fun u _ i wr => ∃ k : Nat, k ≤ n ∧ i = .int .i64 k ∧ u = .int .u64 (2 * k : Nat) ∧ Below w.heap.size w wr ∧ ∃ dd, dd ≤ 1 ∧ ∃ bb, bb ≤ k * 600 ∧ Hid (Tab wr g dd (2 * k) bb)) (fun _ _ i _ => n - (intOf i).toNat)
  case atStart => exact ⟨0, Nat.zero_le _, rfl, rfl, hbw2, 0, by omega, 0, by omega, HT2⟩
  case round =>
    obtain ⟨k, hk, rfl, rfl, hbr, dd, hdd, bb, hbb, HT⟩ := hrel
    by_cases hlt : k < n
    · obtain ⟨b, o, rfl, hb, hc⟩ := Hr.out (by omega)
      obtain ⟨Ar, nr, cr, lr, hc1, hn1, hnr, hrd, hok1⟩ := hc k hlt
      have hc2 := (hbr.cell (p := ⟨b, o + k, none⟩) hb).trans hc1
      have Hn1 := Lib.hid hn1
      have hger := hbr.size
      unfold maxLen at hnr
      by_cases h3 : 300 < nr
      · have e3 : decide ((300 : Int) < (nr : Int)) = true := decide_eq_true (by omega)
        clear hc hc1 hn1 hrd hok1
        go_wp2
        go_ret
        exact ⟨rfl, hbr⟩
      · have e3 : decide ((300 : Int) < (nr : Int)) = false := decide_eq_false (by omega)
        have hoff : Off Ar g lr := fun h0 a ha => by
          obtain ⟨b', o', e, hb', _⟩ := hrd h0
          rw [e] at ha; cases ha; show b' ≠ g; omega
        have Hse := Lib.hid (seal_any g dd (2 * k) bb hdd Ar nr cr lr w.heap.size wr HT.out hn1 (by omega) (by omega) (by omega) (hrd.below hbr) hger hok1 hoff)
        have Hok1 := Lib.hid hok1
        clear hc hc1 hrd hok1 hoff hn1
        go_wp2_with fail
        refine Hse.out.mono ?_
        rintro e w3 ⟨v, rfl, hown, ht3, hT3⟩
        obtain ⟨A3, c3, rfl⟩ := ownB_slice hown
        obtain ⟨gx, cap, hv, hbx, hltx⟩ := hown.form (by omega)
        obtain ⟨rfl, rfl⟩ : A3 = some ⟨gx, 0, none⟩ ∧ c3 = cap := by injection hv with h1 _ h3; exact ⟨h1, h3⟩
        have hcap : nr + 4 ≤ c3 := by
          rcases hown.2 with ⟨e, _⟩ | ⟨g', cap', cur, e, _, _, hnc, _⟩
          · cases e
          · injection e with _ _ e3; omega
        clear hv
        have hglt := HT.out.lt
        have hgx : gx ≠ g := by omega
        have hx := sumN_lt Hok1.out
        have hbw3 : Below w.heap.size w w3 := hbr.grown ht3.grown hger (fun k hk => by cases hk; exact hge1)
        obtain ⟨y0, y1, y2, y3, hy⟩ : ∃ y0 y1 y2 y3, four (sumN lr) = [y0, y1, y2, y3] := ⟨_, _, _, _, rfl⟩
        have hoky : OkB [y0, y1, y2, y3] := by rw [← hy]; exact okB_four _
        have Hop := Lib.hid (open_any g 1 (2 * k + 1) (bb + nr) (by decide) gx 0 nr c3 lr y0 y1 y2 y3 true w3.heap.size w3 hT3 Hn1.out (by omega) hcap (by omega) (by omega) (by rw [← hy]; exact RdB.of_own hown) (Nat.le_refl _) Hok1.out hoky hgx (by rw [beq_iff_eq, ← hy, takeN_four hx]))
        clear hown ht3 hT3 Hse hoky hy hx
        go_wp2_with fail
        refine Hop.out.mono ?_
        rintro e w7 ⟨v7, rfl, _, ht7, hT7⟩
        have hbw7 : Below w.heap.size w w7 := hbw3.grown ht7.grown hbw3.size (fun k hk => by cases hk; exact hge1)
        have HT7 := Lib.hid hT7
        clear ht7 hT7 Hop
        go_wp2
        refine ⟨⟨k + 1, by omega, by go_num, ?_, hbw7, 1, by decide, bb + nr + nr, by omega, ?_⟩, by simp [intOf]; omega⟩
        · go_num
        · have h := HT7.out
          rwa [show 2 * k + 1 + 1 = 2 * (k + 1) by omega] at h
    · have hkn : k = n := by omega
      subst hkn
      go_wp2_with fail
      refine (counts_any g dd (2 * k) bb wr HT.out).mono ?_
      rintro e wc ⟨rfl, hq⟩
      have hbc : Below wr.heap.size wr wc := by obtain ⟨q, rfl⟩ := hq; exact ⟨rfl, rfl, rfl, Nat.le_refl _, fun _ _ => rfl⟩
      have HTc := Lib.hid (HT.out.below hbc)
      have hbwc : Below w.heap.size w wc := hbr.trans (hbc.mono hbr.size)
      clear hq HT hbc hbr
      go_wp2_with fail
      refine (counts_nil wc).mono ?_
      rintro e w' ⟨rfl, rfl⟩
      go_wp2_with fail
      refine (open_nil (.slice A' m d) wc).mono ?_
      rintro e w' ⟨rfl, rfl⟩
      go_wp2_with fail
      have hgc := HTc.out.lt
      have HSum7 : Hid (∀ (W : World) (q : Nat), Below wc.heap.size wc W → q ≠ g → W.cell? ⟨q, 0, none⟩ = some (.slice A' m d) →
          Calls Try.prog 16 #[.pointer (some ⟨g, 0, none⟩), .slice (some ⟨q, 0, none⟩) 1 1] W fun e W' => e = .returned (.int .u32 (sumN l : Nat)) ∧ Below w.heap.size w W' ∧ W.heap.size ≤ W'.heap.size ∧ (∀ p v, p ≠ g → W.cell? ⟨p, 0, none⟩ = some v → W'.cell? ⟨p, 0, none⟩ = some v)) := fun W q hW hq hc => by
        have hbW : Below w.heap.size w W := hbwc.trans (hW.mono hbwc.size)
        have h := tsum_any g dd (2 * k) bb q hdd A' m d l w.heap.size W (HTc.out.below hW) Hm.out (by unfold maxLen; omega) (by omega) (by omega) (Hs.out.below hbW) Hok.out (fun h0 a ha => by
          obtain ⟨b, o, e, hb, _⟩ := Hs.out h0
          rw [e] at ha; cases ha; show b ≠ g; omega) hq hc
        refine h.mono ?_
        rintro e W' ⟨he, ht, _⟩
        exact ⟨he, hbW.grown ht.grown hbW.size (fun k hk => by cases hk; exact hge1), ht.grown.size, fun p v hp hv => ht.grown.cell (a := ⟨p, 0, none⟩) hv (fun e => hp (by injection e))⟩
      have HSum11 : Hid (∀ (W : World) (q g2 : Nat), Below w.heap.size w W → Tab W g2 0 0 0 → w.heap.size ≤ g2 → q ≠ g2 → W.cell? ⟨q, 0, none⟩ = some (.slice A' m d) →
          Calls Try.prog 16 #[.pointer (some ⟨g2, 0, none⟩), .slice (some ⟨q, 0, none⟩) 1 1] W fun e W' => e = .returned (.int .u32 (sumN l : Nat)) ∧ Below w.heap.size w W') := fun W q g2 hW hT hg2 hq hc => by
        have h := tsum_any g2 0 0 0 q (by decide) A' m d l w.heap.size W hT Hm.out (by unfold maxLen; omega) (by decide) (by omega) (Hs.out.below hW) Hok.out (fun h0 a ha => by
          obtain ⟨b, o, e, hb, _⟩ := Hs.out h0
          rw [e] at ha; cases ha; show b ≠ g2; omega) hq hc
        refine h.mono ?_
        rintro e W' ⟨he, ht, _⟩
        exact ⟨he, hW.grown ht.grown hW.size (fun k hk => by cases hk; exact hg2)⟩
      have HConv : Hid (∀ W : World, Below w.heap.size w W → (convert 22 9 (.slice A' m d)).run Try.prog W = .ok (.string (strB l)) W) := fun W hW => conv_any (Hs.out.below hW) Hm.out HA.out
      have HSeal : Hid (∀ W : World, Below w.heap.size w W → Calls Try.prog 9 #[.pointer none, .slice A' m d] W fun e W' => ∃ A9 c9, e = .returned (.slice A9 (m + 4 : Nat) c9) ∧ Below w.heap.size w W' ∧ (convert 22 9 (.slice A9 (m + 4 : Nat) c9)).run Try.prog W' = .ok (.string (strB l ++ ⟨#[0, 0, 0, 0]⟩)) W') := fun W hW => by
        refine (seal_nil A' m d l w.heap.size W Hm.out (by omega) (Hs.out.below hW) hW.size).mono ?_
        rintro e W' ⟨v, rfl, hown, hb⟩
        obtain ⟨A9, c9, rfl⟩ := ownB_slice hown
        have h := conv_any (c := c9) (RdB.of_own hown) (show m + 4 = (l ++ [0, 0, 0, 0]).length by rw [List.length_append, ← Hm.out]; rfl) (fun hA => by
          obtain ⟨gx, cap, hv, _, _⟩ := hown.form (by omega)
          rw [hA] at hv
          injection hv with h1
          cases h1)
        refine ⟨A9, c9, rfl, hW.trans (hb.mono hW.size), ?_⟩
        rw [h]
        congr 1
        congr 1
        unfold strB
        rw [List.map_append]
        apply ByteArray.ext
        simp
      have hsz4 : ¬ 9223372036854775807 < (strB l).size + 4 := by
        have : (strB l).size = l.length := by simp [strB, ByteArray.size]
        rw [this, ← Hm.out]; omega
      refine wp_region_noPanic ?_
      refine wp_region_held_drew (S := (fun W => Below w.heap.size w W)) (by kernel_rfl) ?_ (fun hHeld => ?_)
      · exact RowKit.Below.drew hbwc
      refine heldTake (i := 0) (v := ?_) rfl (by kernel_rfl) (by kernel_rfl) (by kernel_rfl) (fun _ _ _ h => h) (Or.inl ⟨by rfl, ?_⟩) (by assumption) ?_
      rotate_left
      · (intro w hSw; (try dsimp only at hSw); go_simp; try with_reducible rfl)
      try simp only [heldPut, List.set]
      refine heldTake (i := 1) (v := ?_) rfl (by kernel_rfl) (by kernel_rfl) (by kernel_rfl) (fun _ _ _ h => h) (Or.inl ⟨by rfl, ?_⟩) (by assumption) ?_
      rotate_left
      · (intro w hSw; (try dsimp only at hSw); go_simp; try with_reducible rfl)
      try simp only [heldPut, List.set]
      refine heldTake (i := 2) (v := ?_) rfl (by kernel_rfl) (by kernel_rfl) (by kernel_rfl) (fun _ _ _ h => h) (Or.inl ⟨by rfl, ?_⟩) (by assumption) ?_
      rotate_left
      · (intro w hSw; (try dsimp only at hSw); go_simp; try with_reducible rfl)
      try simp only [heldPut, List.set]
      refine heldTake (i := 3) (v := ?_) rfl (by kernel_rfl) (by kernel_rfl) (by kernel_rfl) (fun _ _ _ h => h) (Or.inl ⟨by rfl, ?_⟩) (by assumption) ?_
      rotate_left
      · (intro w hSw; (try dsimp only at hSw); go_simp; try with_reducible rfl)
      try simp only [heldPut, List.set]
      refine heldTake (i := 4) (v := ?_) rfl (by kernel_rfl) (by kernel_rfl) (by kernel_rfl) (fun _ _ _ h => h) (Or.inl ⟨by rfl, ?_⟩) (by assumption) ?_
      rotate_left
      · (intro w hSw; (try dsimp only at hSw); go_simp; try with_reducible rfl)
      try simp only [heldPut, List.set]
      refine heldTake (i := 5) (v := ?_) rfl (by kernel_rfl) (by kernel_rfl) (by kernel_rfl) (fun _ _ _ h => h) (Or.inl ⟨by rfl, ?_⟩) (by assumption) ?_
      rotate_left
      · (intro w hSw; (try dsimp only at hSw); go_simp; try with_reducible rfl)
      try simp only [heldPut, List.set]
      refine heldTake (i := 9) (v := ?_) rfl (by kernel_rfl) (by kernel_rfl) (by kernel_rfl) (fun _ _ _ h => h) (Or.inl ⟨by rfl, ?_⟩) (by assumption) ?_
      rotate_left
      · (intro w hSw; (try dsimp only at hSw); go_simp; try with_reducible rfl)
      try simp only [heldPut, List.set]
      refine heldTwo (i := 6) (j := 10) rfl rfl (by kernel_rfl) (fun K hK => ?x6_10_0) (fun K hK => ?y6_10_0)
      case' x6_10_0 =>
        go_simp
        refine hK.out _ _ ?_ (fun hHeld => ?_)
        · exact (hHeld.alloc hHeld.size _)
        clear hK K
        try simp only [heldPut, List.set]
        refine heldTwo (i := 7) (j := 10) rfl rfl (by kernel_rfl) (fun K hK => ?x7_10_1) (fun K hK => ?y7_10_1)
        case' x7_10_1 =>
          go_simp
          refine (HSum7.out _ _ (by repeat (first | exact Below.refl _ _ | refine RowKit.Below.drew ?_ | refine RowKit.Below.alloc ?_ (by simp <;> omega) _)) (by simp <;> omega) (by first | exact box0 _ _ _ | exact box1 _ _ _ _ | exact boxS _ _ _ _)).mono ?_
          rintro e W7 ⟨rfl, hb7, hz7, hk7⟩
          go_wp2_with fail
          refine hK.out _ _ hb7 (fun hHeld => ?_)
          have z7 := hHeld.size
          clear hK K hb7
          try simp only [heldPut, List.set]
          refine heldTwo (i := 8) (j := 10) rfl rfl (by kernel_rfl) (fun K hK => ?x8_10_2) (fun K hK => ?y8_10_2)
          case' x8_10_2 =>
            go_simp
            refine (new_any _).mono ?_
            rintro e W8 ⟨rfl, hb8, hz8q, hT8⟩
            have hz8 := Nat.le_of_eq hz8q.symm
            clear hz8q
            go_wp2_with fail
            refine hK.out _ _ (hHeld.trans (hb8.mono hHeld.size)) (fun hHeld8 => ?_)
            clear hK K
            try simp only [heldPut, List.set]
            refine heldOne (i := 10) rfl (by kernel_rfl) (fun K hK => ?_)
            go_simp
            refine hK.out _ _ (hHeld8.alloc hHeld8.size _) (fun hHeld => ?_)
            clear hK K
            try simp only [heldPut, List.set]
            have HEnd : Hid (Tab (W8.alloc (.cells #[.slice A' m d] 22)) W7.heap.size 0 0 0 ∧ w.heap.size ≤ W7.heap.size ∧ W8.heap.size ≠ W7.heap.size ∧ (W8.alloc (.cells #[.slice A' m d] 22)).cell? ⟨W8.heap.size, 0, none⟩ = some (.slice A' m d)) := ⟨hT8.alloc _, z7, by omega, box0 _ _ _⟩
            clear hHeld8 hb8 hz8 hT8 hz7 hk7
          case' y8_10_2 =>
            go_simp
            refine hK.out _ _ ?_ (fun hHeld => ?_)
            · exact (hHeld.alloc hHeld.size _)
            clear hK K
            try simp only [heldPut, List.set]
            refine heldOne (i := 8) rfl (by kernel_rfl) (fun K hK => ?_)
            go_simp
            refine (new_any _).mono ?_
            rintro e W8 ⟨rfl, hb8, hz8q, hT8⟩
            have hz8 := Nat.le_of_eq hz8q.symm
            clear hz8q
            go_wp2_with fail
            refine hK.out _ _ (hHeld.trans (hb8.mono hHeld.size)) (fun hHeld8 => ?_)
            clear hK K
            try simp only [heldPut, List.set]
            have HEnd : Hid (Tab W8 (W7.heap.size + 1) 0 0 0 ∧ w.heap.size ≤ (W7.heap.size + 1) ∧ W7.heap.size ≠ (W7.heap.size + 1) ∧ W8.cell? ⟨W7.heap.size, 0, none⟩ = some (.slice A' m d)) := ⟨by simpa using hT8, by omega, by omega, (hb8.cell (p := ⟨W7.heap.size, 0, none⟩) (by simp)).trans (box0 _ _ _)⟩
            have hHeld := hHeld8
            clear hHeld8 hb8 hz8 hT8 hz7 hk7
        case' y7_10_1 =>
          go_simp
          refine hK.out _ _ ?_ (fun hHeld => ?_)
          · exact (hHeld.alloc hHeld.size _)
          clear hK K
          try simp only [heldPut, List.set]
          refine heldOne (i := 7) rfl (by kernel_rfl) (fun K hK => ?_)
          go_simp
          refine (HSum7.out _ _ (by repeat (first | exact Below.refl _ _ | refine RowKit.Below.drew ?_ | refine RowKit.Below.alloc ?_ (by simp <;> omega) _)) (by simp <;> omega) (by first | exact box0 _ _ _ | exact box1 _ _ _ _ | exact boxS _ _ _ _)).mono ?_
          rintro e W7 ⟨rfl, hb7, hz7, hk7⟩
          go_wp2_with fail
          refine hK.out _ _ hb7 (fun hHeld => ?_)
          have z7 := hHeld.size
          clear hK K hb7
          try simp only [heldPut, List.set]
          refine heldOne (i := 8) rfl (by kernel_rfl) (fun K hK => ?_)
          go_simp
          refine (new_any _).mono ?_
          rintro e W8 ⟨rfl, hb8, hz8q, hT8⟩
          have hz8 := Nat.le_of_eq hz8q.symm
          clear hz8q
          go_wp2_with fail
          refine hK.out _ _ (hHeld.trans (hb8.mono hHeld.size)) (fun hHeld8 => ?_)
          clear hK K
          try simp only [heldPut, List.set]
          have z72 : wc.heap.size + 2 ≤ W7.heap.size := Nat.le_trans (by simp [World.drew]) hz7
          have HEnd : Hid (Tab W8 W7.heap.size 0 0 0 ∧ w.heap.size ≤ W7.heap.size ∧ (wc.heap.size + 1) ≠ W7.heap.size ∧ W8.cell? ⟨(wc.heap.size + 1), 0, none⟩ = some (.slice A' m d)) := ⟨hT8, z7, by omega, (hb8.cell (p := ⟨(wc.heap.size + 1), 0, none⟩) (by show (wc.heap.size + 1) < W7.heap.size; omega)).trans (hk7 (wc.heap.size + 1) _ (by omega) (boxS _ _ _ _))⟩
          have hHeld := hHeld8
          clear hHeld8 hb8 hz8 hT8 hz7 hk7
      case' y6_10_0 =>
        go_simp
        refine hK.out _ _ ?_ (fun hHeld => ?_)
        · exact (hHeld.alloc hHeld.size _)
        clear hK K
        try simp only [heldPut, List.set]
        refine heldOne (i := 6) rfl (by kernel_rfl) (fun K hK => ?_)
        go_simp
        refine hK.out _ _ ?_ (fun hHeld => ?_)
        · exact (hHeld.alloc hHeld.size _)
        clear hK K
        try simp only [heldPut, List.set]
        refine heldOne (i := 7) rfl (by kernel_rfl) (fun K hK => ?_)
        go_simp
        refine (HSum7.out _ _ (by repeat (first | exact Below.refl _ _ | refine RowKit.Below.drew ?_ | refine RowKit.Below.alloc ?_ (by simp <;> omega) _)) (by simp <;> omega) (by first | exact box0 _ _ _ | exact box1 _ _ _ _ | exact boxS _ _ _ _)).mono ?_
        rintro e W7 ⟨rfl, hb7, hz7, hk7⟩
        go_wp2_with fail
        refine hK.out _ _ hb7 (fun hHeld => ?_)
        have z7 := hHeld.size
        clear hK K hb7
        try simp only [heldPut, List.set]
        refine heldOne (i := 8) rfl (by kernel_rfl) (fun K hK => ?_)
        go_simp
        refine (new_any _).mono ?_
        rintro e W8 ⟨rfl, hb8, hz8q, hT8⟩
        have hz8 := Nat.le_of_eq hz8q.symm
        clear hz8q
        go_wp2_with fail
        refine hK.out _ _ (hHeld.trans (hb8.mono hHeld.size)) (fun hHeld8 => ?_)
        clear hK K
        try simp only [heldPut, List.set]
        have z72 : wc.heap.size + 2 ≤ W7.heap.size := Nat.le_trans (by simp [World.drew]) hz7
        have HEnd : Hid (Tab W8 W7.heap.size 0 0 0 ∧ w.heap.size ≤ W7.heap.size ∧ wc.heap.size ≠ W7.heap.size ∧ W8.cell? ⟨wc.heap.size, 0, none⟩ = some (.slice A' m d)) := ⟨hT8, z7, by omega, (hb8.cell (p := ⟨wc.heap.size, 0, none⟩) (by show wc.heap.size < W7.heap.size; omega)).trans (hk7 wc.heap.size _ (by omega) (box1 _ _ _ _))⟩
        have hHeld := hHeld8
        clear hHeld8 hb8 hz8 hT8 hz7 hk7
      all_goals (
        refine heldOne (i := 11) rfl (by kernel_rfl) (fun K hK => ?_)
        go_simp
        refine (HSum11.out _ _ _ hHeld HEnd.out.1 HEnd.out.2.1 HEnd.out.2.2.1 HEnd.out.2.2.2).mono ?_
        rintro e W11 ⟨rfl, hb11⟩
        go_wp2_with fail
        refine hK.out _ _ hb11 (fun hHeld => ?_)
        clear hK K HEnd hb11
        try simp only [heldPut, List.set]
        refine heldTake (i := 12) (v := ?_) rfl (by kernel_rfl) (by kernel_rfl) (by kernel_rfl) (fun _ _ _ h => h) (Or.inl ⟨by rfl, ?_⟩) (by assumption) ?_
        rotate_left
        · (intro w hSw; (try dsimp only at hSw); go_simp; try with_reducible rfl)
        try simp only [heldPut, List.set]
        refine heldTake (i := 13) (v := ?_) rfl (by kernel_rfl) (by kernel_rfl) (by kernel_rfl) (fun _ _ _ h => h) (Or.inl ⟨by rfl, ?_⟩) (by assumption) ?_
        rotate_left
        · (intro w hSw; (try dsimp only at hSw); go_simp; try with_reducible rfl)
        try simp only [heldPut, List.set]
        refine heldTake (i := 14) (v := ?_) rfl (by kernel_rfl) (by kernel_rfl) (by kernel_rfl) (fun _ _ _ h => h) (Or.inl ⟨by rfl, ?_⟩) (by assumption) ?_
        rotate_left
        · (intro w hSw; (try dsimp only at hSw); go_simp; try with_reducible rfl)
        try simp only [heldPut, List.set]
        refine heldTake (i := 15) (v := ?_) rfl (by kernel_rfl) (by kernel_rfl) (by kernel_rfl) (fun _ _ _ h => h) (Or.inl ⟨by rfl, ?_⟩) (by assumption) ?_
        rotate_left
        · (intro w hSw; (try dsimp only at hSw); go_simp; try with_reducible rfl)
        try simp only [heldPut, List.set]
        refine heldTake (i := 16) (v := ?_) rfl (by kernel_rfl) (by kernel_rfl) (by kernel_rfl) (fun _ _ _ h => h) (Or.inl ⟨by rfl, ?_⟩) (by assumption) ?_
        rotate_left
        · (intro w hSw; (try dsimp only at hSw); go_simp; try with_reducible rfl)
        try simp only [heldPut, List.set]
        refine heldOne (i := 17) rfl (by kernel_rfl) (fun K hK => ?_)
        go_simp
        refine hK.out _ _ ?_ (fun hHeld => ?_)
        · exact (hHeld.alloc hHeld.size _)
        clear hK K
        try simp only [heldPut, List.set]
        refine heldOne (i := 18) rfl (by kernel_rfl) (fun K hK => ?_)
        go_simp
        refine (tsum_nil _ _).mono ?_
        rintro e W' ⟨rfl, rfl⟩
        go_wp2_with fail
        refine hK.out _ _ ?_ (fun hHeld => ?_)
        · exact hHeld
        clear hK K
        try simp only [heldPut, List.set]
        refine heldTake (i := 19) (v := ?_) rfl (by kernel_rfl) (by kernel_rfl) (by kernel_rfl) (fun _ _ _ h => h) (Or.inl ⟨by rfl, ?_⟩) (by assumption) ?_
        rotate_left
        · (intro w hSw; (try dsimp only at hSw); go_simp; try with_reducible rfl)
        try simp only [heldPut, List.set]
        refine heldTake (i := 20) (v := ?_) rfl (by kernel_rfl) (by kernel_rfl) (by kernel_rfl) (fun _ _ _ h => h) (Or.inl ⟨by rfl, ?_⟩) (by assumption) ?_
        rotate_left
        · (intro w hSw; (try dsimp only at hSw); go_simp; try with_reducible rfl)
        try simp only [heldPut, List.set]
        refine heldTake (i := 21) (v := ?_) rfl (by kernel_rfl) (by kernel_rfl) (by kernel_rfl) (fun _ _ _ h => h) (Or.inl ⟨by rfl, ?_⟩) (by assumption) ?_
        rotate_left
        · (intro w hSw; (try dsimp only at hSw); go_simp; try with_reducible rfl)
        try simp only [heldPut, List.set]
        refine heldTake (i := 22) (v := ?_) rfl (by kernel_rfl) (by kernel_rfl) (by kernel_rfl) (fun _ _ _ h => h) (Or.inl ⟨by rfl, ?_⟩) (by assumption) ?_
        rotate_left
        · (intro w hSw; (try dsimp only at hSw); go_simp; try with_reducible rfl)
        try simp only [heldPut, List.set]
        refine heldTake (i := 23) (v := ?_) rfl (by kernel_rfl) (by kernel_rfl) (by kernel_rfl) (fun _ _ _ h => h) (Or.inl ⟨by rfl, ?_⟩) (by assumption) ?_
        rotate_left
        · (intro w hSw; (try dsimp only at hSw); go_simp; try with_reducible rfl)
        try simp only [heldPut, List.set]
        refine heldOne (i := 24) rfl (by kernel_rfl) (fun K hK => ?_)
        go_simp
        refine (tadd_nil _ _ _ _ _).mono ?_
        rintro e W' ⟨rfl, rfl⟩
        go_wp2_with fail
        refine hK.out _ _ ?_ (fun hHeld => ?_)
        · exact hHeld
        clear hK K
        try simp only [heldPut, List.set]
        refine heldTake (i := 25) (v := ?_) rfl (by kernel_rfl) (by kernel_rfl) (by kernel_rfl) (fun _ _ _ h => h) (Or.inl ⟨by rfl, ?_⟩) (by assumption) ?_
        rotate_left
        · (intro w hSw; (try dsimp only at hSw); go_simp; try with_reducible rfl)
        try simp only [heldPut, List.set]
        refine heldTake (i := 26) (v := ?_) rfl (by kernel_rfl) (by kernel_rfl) (by kernel_rfl) (fun _ _ _ h => h) (Or.inl ⟨by rfl, ?_⟩) (by assumption) ?_
        rotate_left
        · (intro w hSw; (try dsimp only at hSw); go_simp; try with_reducible rfl)
        try simp only [heldPut, List.set]
        refine heldTake (i := 27) (v := ?_) rfl (by kernel_rfl) (by kernel_rfl) (by kernel_rfl) (fun _ _ _ h => h) (Or.inl ⟨by rfl, ?_⟩) (by assumption) ?_
        rotate_left
        · (intro w hSw; (try dsimp only at hSw); go_simp; try with_reducible rfl)
        try simp only [heldPut, List.set]
        refine heldTake (i := 28) (v := ?_) rfl (by kernel_rfl) (by kernel_rfl) (by kernel_rfl) (fun _ _ _ h => h) (Or.inl ⟨by rfl, ?_⟩) (by assumption) ?_
        rotate_left
        · (intro w hSw; (try dsimp only at hSw); go_simp; try with_reducible rfl)
        try simp only [heldPut, List.set]
        refine heldTake (i := 29) (v := ?_) rfl (by kernel_rfl) (by kernel_rfl) (by kernel_rfl) (fun _ _ _ h => h) (Or.inl ⟨by rfl, ?_⟩) (by assumption) ?_
        rotate_left
        · (intro w hSw; (try dsimp only at hSw); go_simp; try with_reducible rfl)
        try simp only [heldPut, List.set]
        refine heldTake (i := 30) (v := ?_) rfl (by kernel_rfl) (by kernel_rfl) (by kernel_rfl) (fun _ _ _ h => h) (Or.inl ⟨by rfl, ?_⟩) (by assumption) ?_
        rotate_left
        · (intro w hSw; (try dsimp only at hSw); go_simp; try with_reducible rfl)
        try simp only [heldPut, List.set]
        refine heldTake (i := 31) (v := ?_) rfl (by kernel_rfl) (by kernel_rfl) (by kernel_rfl) (fun _ _ _ h => h) (Or.inl ⟨by rfl, ?_⟩) (by assumption) ?_
        rotate_left
        · (intro w hSw; (try dsimp only at hSw); go_simp; try with_reducible rfl)
        try simp only [heldPut, List.set]
        refine heldTake (i := 32) (v := ?_) rfl (by kernel_rfl) (by kernel_rfl) (by kernel_rfl) (fun _ _ _ h => h) (Or.inl ⟨by rfl, ?_⟩) (by assumption) ?_
        rotate_left
        · (intro w hSw; (try dsimp only at hSw); go_simp; try with_reducible rfl)
        try simp only [heldPut, List.set]
        refine heldTake (i := 33) (v := ?_) rfl (by kernel_rfl) (by kernel_rfl) (by kernel_rfl) (fun _ _ _ h => h) (Or.inl ⟨by rfl, ?_⟩) (by assumption) ?_
        rotate_left
        · (intro w hSw; (try dsimp only at hSw); go_simp; try with_reducible rfl)
        try simp only [heldPut, List.set]
        refine heldTake (i := 34) (v := ?_) rfl (by kernel_rfl) (by kernel_rfl) (by kernel_rfl) (fun _ _ _ h => h) (Or.inl ⟨by rfl, ?_⟩) (by assumption) ?_
        rotate_left
        · (intro w hSw; (try dsimp only at hSw); go_simp; try with_reducible rfl)
        try simp only [heldPut, List.set]
        refine heldTake (i := 35) (v := ?_) rfl (by kernel_rfl) (by kernel_rfl) (by kernel_rfl) (fun _ _ _ h => h) (Or.inl ⟨by rfl, ?_⟩) (by assumption) ?_
        rotate_left
        · (intro w hSw; (try dsimp only at hSw); go_simp; try with_reducible rfl)
        try simp only [heldPut, List.set]
        refine heldTake (i := 36) (v := ?_) rfl (by kernel_rfl) (by kernel_rfl) (by kernel_rfl) (fun _ _ _ h => h) (Or.inl ⟨by rfl, ?_⟩) (by assumption) ?_
        rotate_left
        · (intro w hSw; (try dsimp only at hSw); go_simp; try with_reducible rfl)
        try simp only [heldPut, List.set]
        refine heldTake (i := 37) (v := ?_) rfl (by kernel_rfl) (by kernel_rfl) (by kernel_rfl) (fun _ _ _ h => h) (Or.inl ⟨by rfl, ?_⟩) (by assumption) ?_
        rotate_left
        · (intro w hSw; (try dsimp only at hSw); go_simp; try with_reducible rfl)
        try simp only [heldPut, List.set]
        refine heldTake (i := 38) (v := ?_) rfl (by kernel_rfl) (by kernel_rfl) (by kernel_rfl) (fun _ _ _ h => h) (Or.inl ⟨by rfl, ?_⟩) (by assumption) ?_
        rotate_left
        · (intro w hSw; (try dsimp only at hSw); go_simp; try with_reducible rfl)
        try simp only [heldPut, List.set]
        refine heldTake (i := 39) (v := ?_) rfl (by kernel_rfl) (by kernel_rfl) (by kernel_rfl) (fun _ _ _ h => h) (Or.inl ⟨by rfl, ?_⟩) (by assumption) ?_
        rotate_left
        · (intro w hSw; (try dsimp only at hSw); go_simp; try with_reducible rfl)
        try simp only [heldPut, List.set]
        refine heldTake (i := 42) (v := ?_) rfl (by kernel_rfl) (by kernel_rfl) (by kernel_rfl) (fun _ _ _ h => h) (Or.inl ⟨by rfl, ?_⟩) (by assumption) ?_
        rotate_left
        · (intro w hSw; (try dsimp only at hSw); go_simp; try with_reducible rfl)
        try simp only [heldPut, List.set]
        refine heldTake (i := 43) (v := ?_) rfl (by kernel_rfl) (by kernel_rfl) (by kernel_rfl) (fun _ _ _ h => h) (Or.inl ⟨by rfl, ?_⟩) (by assumption) ?_
        rotate_left
        · (intro w hSw; have hcv := HConv.out w hSw; clear hSw; (try dsimp only at hcv); go_simp; try with_reducible rfl)
        try simp only [heldPut, List.set]
        refine heldTake (i := 44) (v := ?_) rfl (by kernel_rfl) (by kernel_rfl) (by kernel_rfl) (fun _ _ _ h => h) (Or.inl ⟨by rfl, ?_⟩) (by assumption) ?_
        rotate_left
        · (intro w hSw; (try dsimp only at hSw); go_simp; try with_reducible rfl)
        try simp only [heldPut, List.set]
        refine heldOne (i := 40) rfl (by kernel_rfl) (fun K hK => ?_)
        go_simp
        refine (HSeal.out _ hHeld).mono ?_
        rintro e W40 ⟨A40, c40, rfl, hb40, hcv⟩
        go_wp2_with fail
        refine hK.out _ _ ?_ (fun hHeld => ?_)
        · exact hb40
        clear hK K hb40
        try simp only [heldPut, List.set]
        refine heldOne (i := 41) rfl (by kernel_rfl) (fun K hK => ?_)
        go_simp
        refine hK.out _ _ ?_ (fun hHeld => ?_)
        · exact hHeld
        clear hK K
        try simp only [heldPut, List.set]
        refine heldTake (i := 45) (v := ?_) rfl (by kernel_rfl) (by kernel_rfl) (by kernel_rfl) (fun _ _ _ h => h) (Or.inl ⟨by rfl, ?_⟩) (by assumption) ?_
        rotate_left
        · (intro w hSw; (try dsimp only at hSw); go_simp; try with_reducible rfl)
        try simp only [heldPut, List.set]
        refine heldTake (i := 46) (v := ?_) rfl (by kernel_rfl) (by kernel_rfl) (by kernel_rfl) (fun _ _ _ h => h) (Or.inl ⟨by rfl, ?_⟩) (by assumption) ?_
        rotate_left
        · (intro w hSw; (try dsimp only at hSw); go_simp; try with_reducible rfl)
        try simp only [heldPut, List.set]
        refine heldTake (i := 47) (v := ?_) rfl (by kernel_rfl) (by kernel_rfl) (by kernel_rfl) (fun _ _ _ h => h) (Or.inl ⟨by rfl, ?_⟩) (by assumption) ?_
        rotate_left
        · (intro w hSw; (try dsimp only at hSw); go_simp; try with_reducible rfl)
        try simp only [heldPut, List.set]
        refine wpAnyH_done (by kernel_rfl) ?_ _
        refine NoPanic.normal ?_
        go_wp2_with fail
        go_ret
        exact ⟨rfl, hHeld⟩)
end Go.Proofs.Ytbadohcphadjfab.crcOnce
