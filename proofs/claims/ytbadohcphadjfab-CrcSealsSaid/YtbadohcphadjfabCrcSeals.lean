/- The walk of watchfirelaw02.CrcSeals. -/
import Derived.Test.YtbadohcphadjfabCrcAwake
import Derived.Test.YtbadohcphadjfabCrcStr
import Derived.Test.YtbadohcphadjfabCrcBurst
import Derived.Test.YtbadohcphadjfabHeld
namespace Go.Proofs.Ytbadohcphadjfab.crcSeals
open Go.RowKit Go.Proofs.Ytbadohcphadjfab

set_option maxRecDepth 100000 in
set_option maxHeartbeats 4000000 in
theorem walk (A : Option Addr) (n c : Nat) (l : List Nat) (w : World) (hn : n = l.length) (hm : n ≤ maxLen) (hnc : n ≤ c) (hA : A = none → n = 0) (hr : RdB w w.heap.size A l) (hok : OkB l) :
    Calls Try.prog 3 #[.slice A n c] w fun e w' => e = .returned (.bool true) ∧ Below w.heap.size w w' := by
  obtain ⟨i0, hi, hz0, hz1, hz2⟩ := info_parts Try.infoB
  have Ha := Lib.hid cawake_any
  have Hn := Lib.hid hn
  have Hr := Lib.hid hr
  have Hok := Lib.hid hok
  have HA := Lib.hid hA
  clear hn hr hok hA
  unfold maxLen at hm
  by_cases h1000 : 1000 < n
  · have hb1 : decide ((1000 : Int) < (n : Int)) = true := decide_eq_true (by omega)
    go_enter Try.func3, Try.ntmps3
    go_wp2_with fail
    refine (Ha.out _).mono ?_
    rintro e w1 ⟨rfl, hb1⟩
    go_wp2
    go_ret
    exact ⟨rfl, hb1⟩
  · have hb1 : decide ((1000 : Int) < (n : Int)) = false := decide_eq_false (by omega)
    go_enter Try.func3, Try.ntmps3
    go_wp2_with fail
    refine (Ha.out _).mono ?_
    rintro e w1 ⟨rfl, hw1⟩
    have hge1 := hw1.size
    go_wp2_with fail
    refine (new_any w1).mono ?_
    rintro e w2 ⟨rfl, hw2, hsz2, hT2⟩
    have Hsz2 := Lib.hid hsz2
    have HT2 := Lib.hid hT2
    have hbw2 := hw1.trans (hw2.mono hge1)
    have hge2 := hbw2.size
    clear hsz2 hT2 hw2
    have Hr2 := Lib.hid (Hr.out.below hbw2)
    have Hoff : Hid (Off A w1.heap.size l) := fun h0 a ha => by
      obtain ⟨b, o, e, hb, _⟩ := Hr.out h0
      rw [e] at ha; cases ha; show b ≠ w1.heap.size; omega
    have hx := sumN_lt Hok.out
    have hseal := seal_any w1.heap.size 0 0 0 (by decide) A n c l w.heap.size w2 HT2.out Hn.out (by omega) (by decide) (by omega) Hr2.out hge2 Hok.out Hoff.out
    have Hse := Lib.hid hseal
    clear hseal
    go_wp2_with fail
    refine Hse.out.mono ?_
    rintro e w3 ⟨v, rfl, hown, ht3, hT3⟩
    obtain ⟨A3, c3, rfl⟩ := ownB_slice hown
    obtain ⟨gx, cap, hv, hbx, hltx⟩ := hown.form (by omega)
    obtain ⟨rfl, rfl⟩ : A3 = some ⟨gx, 0, none⟩ ∧ c3 = cap := by injection hv with h1 _ h3; exact ⟨h1, h3⟩
    have hcap : n + 4 ≤ c3 := by
      rcases hown.2 with ⟨e, _⟩ | ⟨g', cap', cur, e, _, _, hnc, _⟩
      · cases e
      · injection e with _ _ e3; omega
    clear hv
    have hgx : gx ≠ w1.heap.size := by have := Hsz2.out; omega
    have hbw3 : Below w.heap.size w w3 := hbw2.grown ht3.grown hge2 (fun k hk => by cases hk; exact hge1)
    have hge3 := hbw3.size
    have Hx3 := Lib.hid (RdB.of_own hown)
    have HT3 := Lib.hid hT3
    clear hown ht3 hT3 Hse Hr2
    have Hr3 := Lib.hid (Hr.out.below hbw3)
    -- what is wanted
    have hs1 : Src (w3.alloc (.cells #[] 5)) A n 1 (cellsB l) := src_of_rdB (Hr3.out.below (((Below.refl _ w3).alloc (Nat.le_refl _) _).mono hge3)) Hn.out
    have HS1 := Lib.hid hs1
    clear hs1
    go_wp2_with (at_builtin; refine wpList_append_src (base := w3.heap.size) rfl (.tmp 20) (.tmp 21) rfl Try.underlying22 hi hz0 hz1 hz2 rfl (by decide) rfl (World.ownsRow_made _ #[] 0 (Nat.le_refl _) (Nat.zero_le _) rfl) rfl HS1.out (cellsB_one _) (by unfold maxLen; omega) (by omega) (by simp) ?_; intro v4 w4 hr4 hg4 _; obtain ⟨A4, c4, rfl⟩ := ownB_slice hr4; replace hg4 : Below w3.heap.size w3 w4 := ((Below.refl _ w3).alloc (Nat.le_refl _) _).grown hg4 (by simp) (fun q hq => by cases hq; exact Nat.le_refl _); rw [Nat.zero_add, List.nil_append] at hr4; rw [Nat.zero_add]; replace hr4 := Lib.hid hr4)
    have hge4 := hg4.size
    have Hr4 := Lib.hid (Hr3.out.below (hg4.mono hge3))
    refine (rsum_any A n c l w4 w.heap.size Hn.out (by unfold maxLen; omega) Hr4.out Hok.out).mono ?_
    rintro e w5 ⟨rfl, rfl⟩
    go_wp2_with fail
    refine (rfour_any (sumN l) w4 hx).mono ?_
    rintro e w5 ⟨v5, rfl, hown5, hb5⟩
    obtain ⟨A5, c5, rfl⟩ := ownB_slice hown5
    have hge5 := hb5.size
    have HS5 := Lib.hid (src_of_rdB (RdB.of_own hown5) (show 4 = (four (sumN l)).length from rfl))
    have Hw5 := Lib.hid (ownB_below hr4.out hb5)
    clear hown5 hr4
    go_wp2_with (at_builtin; refine wpList_append_src (base := w3.heap.size) rfl (.tmp 22) (.tmp 25) rfl Try.underlying22 hi hz0 hz1 hz2 rfl (by decide) rfl Hw5.out rfl HS5.out (cellsB_one _) (by unfold maxLen; omega) (by omega) (by omega) ?_; intro v6 w6 hr6 hg6 _; obtain ⟨A6, c6, rfl⟩ := ownB_slice hr6; replace hg6 : Below w3.heap.size w3 w6 := (hg4.trans (hb5.mono hge4)).grown hg6 (by omega) (fun q hq => (Hw5.out.lt q hq).1); rw [← cellsB_append] at hr6; replace hr6 := Lib.hid hr6)
    have hge6 := hg6.size
    have HT6 := Lib.hid (HT3.out.below hg6)
    have hbw6 := hbw3.trans (hg6.mono hge3)
    have Hx6 := Lib.hid (Hx3.out.below hg6)
    obtain ⟨g6, cap6, hv6, hbg6, hlt6⟩ := hr6.out.form (by omega)
    obtain ⟨rfl, rfl⟩ : A6 = some ⟨g6, 0, none⟩ ∧ c6 = cap6 := by injection hv6 with h1 _ h3; exact ⟨h1, h3⟩
    clear hv6
    have hg6g : g6 ≠ w1.heap.size := by have := Hsz2.out; omega
    have Hwant6 := Lib.hid (RdB.of_own hr6.out)
    clear HS1 HS5 Hw5 hr6 hg4 hb5 hg6 Hr3 Hr4 Hx3 HT3
    obtain ⟨y0, y1, y2, y3, hy⟩ : ∃ y0 y1 y2 y3, four (sumN l) = [y0, y1, y2, y3] := ⟨_, _, _, _, rfl⟩
    have hoky : OkB [y0, y1, y2, y3] := by rw [← hy]; exact okB_four _
    have hop := open_any w1.heap.size 1 (0 + 1) (0 + n) (by decide) gx 0 n c3 l y0 y1 y2 y3 true w3.heap.size w6 HT6.out Hn.out (by omega) hcap (by decide) (by omega) (by rw [← hy]; exact Hx6.out) hge6 Hok.out hoky hgx (by rw [beq_iff_eq, ← hy, takeN_four hx])
    have Hop := Lib.hid hop
    have Hoky := Lib.hid hoky
    have Hy := Lib.hid hy
    clear hop hoky hy
    go_wp2_with fail
    refine Hop.out.mono ?_
    rintro e w7 ⟨v7, rfl, hown7, ht7, hT7⟩
    rw [if_pos trivial, if_pos trivial] at hown7
    obtain ⟨A7, c7, rfl⟩ := ownB_slice hown7
    have HT7 := Lib.hid hT7
    have hge7 := ht7.grown.size
    have hbw7 := hbw6.grown ht7.grown hbw6.size (fun k hk => by cases hk; exact hge1)
    have Hy7 := Lib.hid (RdB.of_own hown7)
    have Hx7 := Lib.hid (Hx6.out.turned (g := w1.heap.size) (by intro _ a ha; cases ha; exact hgx) ht7)
    have Hwant7 := Lib.hid (Hwant6.out.turned (g := w1.heap.size) (by intro _ a ha; cases ha; exact hg6g) ht7)
    have HA7 : Hid (A7 = none → n = 0) := fun h => by
      subst h
      rcases hown7.2 with ⟨_, h0⟩ | ⟨g', cap', cur, e, _⟩
      · exact h0
      · cases e
    have HO7 : Hid (Off A7 w1.heap.size l) := fun _ a ha => by
      subst ha
      have h1 := (hown7.lt a.block rfl).1
      have := Hsz2.out
      omega
    have Hlen : Hid (n + 4 = (l ++ four (sumN l)).length) := by show _ = _; rw [List.length_append, ← Hn.out]; rfl
    clear hown7 ht7 hT7 Hop Hx6 Hwant6 HT6 Hoff HT2
    have Hr7 := Lib.hid (Hr.out.below hbw7)
    by_cases h4 : n < 4
    · have e1 : decide ((4 : Int) ≤ (n : Int)) = false := decide_eq_false (by omega)
      have e0 : ((0 : Int) == 0) = true := rfl
      go_wp2_with fail
      refine (open_short w1.heap.size A n c h4 w7).mono ?_
      rintro e w8 ⟨rfl, rfl⟩
      go_wp2
      go_quiet (fail)
      go_wp2
      have hbw8 := hbw7.trans (cbelow_drewN (Below.refl w.heap.size w7) nq)
      have cx := fun m => conv_any (w := (w7.drewN nq).drewN m) (c := c3) Hx7.out Hlen.out (fun h => by cases h)
      have cw := fun m => conv_any (w := (w7.drewN nq).drewN m) (c := c6) Hwant7.out Hlen.out (fun h => by cases h)
      have cy := fun m => conv_any (w := (w7.drewN nq).drewN m) (c := c7) Hy7.out Hn.out HA7.out
      have cb := fun m => conv_any (w := (w7.drewN nq).drewN m) (c := c) Hr7.out Hn.out HA.out
      generalize (w7.drewN nq) = w8 at *
      go_quiet (fail)
      go_wp2
      go_ret
      exact ⟨rfl, hbw8.trans (cbelow_drewN (Below.refl w.heap.size w8) nq)⟩
    · obtain ⟨k, rfl⟩ : ∃ k, n = k + 4 := ⟨n - 4, by omega⟩
      obtain ⟨b, o, rfl, hb, _⟩ := Hr.out (by have := Hn.out; omega)
      obtain ⟨x0, x1, x2, x3, hxs⟩ : ∃ x0 x1 x2 x3, l.drop k = [x0, x1, x2, x3] := by
        have h4 : (l.drop k).length = 4 := by rw [List.length_drop, ← Hn.out]; omega
        match l.drop k, h4 with
        | [a, b, c, d], _ => exact ⟨a, b, c, d, rfl⟩
      obtain ⟨l', hl'⟩ : ∃ l', l.take k = l' := ⟨_, rfl⟩
      have hsplit : l = l' ++ [x0, x1, x2, x3] := by rw [← hl', ← hxs, List.take_append_drop]
      have hk : k = l'.length := by rw [← hl', List.length_take, ← Hn.out]; omega
      have hok' : OkB l' := by rw [← hl']; exact Hok.out.take k
      have hok4 : OkB [x0, x1, x2, x3] := fun x hxm => Hok.out x (by rw [hsplit]; exact List.mem_append_right _ hxm)
      have hx' := sumN_lt hok'
      have hbg : b ≠ w1.heap.size := by omega
      have hrs := Hr7.out
      rw [hsplit] at hrs
      have hop := open_any w1.heap.size 1 (0 + 1 + 1) (0 + (k + 4) + (k + 4)) (by decide) b o k c l' x0 x1 x2 x3 (sumN l' == takeN [x0, x1, x2, x3]) w.heap.size w7 HT7.out hk (by omega) hnc (by decide) (by omega) hrs (by omega) hok' hok4 hbg rfl
      obtain ⟨z0, z1, z2, z3, hz⟩ : ∃ z0 z1 z2 z3, four (sumN l') = [z0, z1, z2, z3] := ⟨_, _, _, _, rfl⟩
      have hokz : OkB [z0, z1, z2, z3] := by rw [← hz]; exact okB_four _
      have heq : ((strB [z0, z1, z2, z3]).toList == (strB [x0, x1, x2, x3]).toList) = (sumN l' == takeN [x0, x1, x2, x3]) := by
        rw [strB_eq hokz hok4, ← hz, Bool.eq_iff_iff, decide_eq_true_iff, beq_iff_eq]
        exact ⟨fun h => by rw [← h, takeN_four hx'], fun h => by rw [h, four_takeN rfl hok4]⟩
      have Hf : Hid (∀ w : World, Calls Try.prog 10 #[.int .u32 (sumN l' : Nat)] w fun e w' => e = .returned (.slice (some ⟨w.heap.size, 0, none⟩) 4 4) ∧ w' = w.alloc (.cells #[.int .u8 z0, .int .u8 z1, .int .u8 z2, .int .u8 z3] 5)) := fun w => by
        have h := rfour_eq (sumN l') w hx'
        rw [hz] at h
        exact h
      have Hop := Lib.hid hop
      have Hk := Lib.hid hk
      have Hok4 := Lib.hid hok4
      have Hokz := Lib.hid hokz
      have Hok' := Lib.hid hok'
      have Hrs := Lib.hid hrs
      clear hop hk hok4 hokz hok' hrs hz hsplit hl' hxs HT7
      generalize (sumN l' == takeN [x0, x1, x2, x3]) = okb at *
      go_wp2_with fail
      refine Hop.out.mono ?_
      rintro e w8 ⟨v8, rfl, hown8, ht8, hT8⟩
      obtain ⟨A8, c8, rfl⟩ := ownB_slice hown8
      have hbw8 := hbw7.grown ht8.grown hbw7.size (fun k hk => by cases hk; exact hge1)
      have hge8 := ht8.grown.size
      have Hx8 := Lib.hid (Hx7.out.turned (g := w1.heap.size) (by intro _ a ha; cases ha; exact hgx) ht8)
      have Hwant8 := Lib.hid (Hwant7.out.turned (g := w1.heap.size) (by intro _ a ha; cases ha; exact hg6g) ht8)
      have HA8 : Hid (A8 = none → (if okb = true then k else 0) = 0) := fun h => by
        subst h
        rcases hown8.2 with ⟨_, h0⟩ | ⟨g', cap', cur, e, _⟩
        · exact h0
        · cases e
      generalize hzn : (if okb = true then k else 0) = zn at *
      generalize hzl : (if okb = true then l' else []) = zl at *
      have Hz8 := Lib.hid (RdB.of_own hown8)
      have Hy8 := Lib.hid (Hy7.out.turned (g := w1.heap.size) HO7.out ht8)
      have hlt7 : b < w7.heap.size := by have := hbw7.size; omega
      have hlt8 : b < w8.heap.size := by omega
      have hrs8 := Hrs.out.turned (g := w1.heap.size) (by intro _ a ha; cases ha; exact hbg) ht8
      have hin8 : RdB w8 w8.heap.size (some ⟨b, o, none⟩) l' := fun _ => by
        obtain ⟨b', o', e, _, hc⟩ := hrs8 (by simp)
        obtain ⟨rfl, rfl⟩ : b = b' ∧ o = o' := by injection e with e; injection e with e1 e2; exact ⟨e1, e2⟩
        exact ⟨b, o, rfl, hlt8, fun i x hx => hc i x (by rw [List.getElem?_append_left (List.getElem?_eq_some_iff.1 hx).1]; exact hx)⟩
      have hend8 : RdB w8 w8.heap.size (some ⟨b, o + k, none⟩) [x0, x1, x2, x3] := fun _ => by
        obtain ⟨b', o', e, _, hc⟩ := hrs8 (by simp)
        obtain ⟨rfl, rfl⟩ : b = b' ∧ o = o' := by injection e with e; injection e with e1 e2; exact ⟨e1, e2⟩
        refine ⟨b, o + k, rfl, hlt8, fun i x hx => ?_⟩
        have h := hc (k + i) x (by rw [List.getElem?_append_right (by have := Hk.out; omega), Hk.out, Nat.add_sub_cancel_left]; exact hx)
        rwa [← Nat.add_assoc] at h
      have Hin8 := Lib.hid hin8
      have hall8 := Lib.hid (Hr7.out.turned (g := w1.heap.size) (by intro _ a ha; cases ha; exact hbg) ht8)
      have hW : Below w8.heap.size w8 (w8.alloc (.cells #[.int .u8 z0, .int .u8 z1, .int .u8 z2, .int .u8 z3] 5)).drew := ((Below.refl _ _).alloc (Nat.le_refl _) _).drew
      have HSum : Hid (Calls Try.prog 11 #[.slice (some ⟨b, o, none⟩) k c] w8.drew fun e w' => e = .returned (.int .u32 (sumN l' : Nat)) ∧ w8.drew = w') :=
        rsum_any (some ⟨b, o, none⟩) k c l' w8.drew w8.heap.size Hk.out (by unfold maxLen; omega) (hin8.below (Below.refl _ _).drew) Hok'.out
      have f56a : (convert 22 9 (.slice (some ⟨b, o + k, none⟩) 4 (c - k))).run Try.prog w8.drew = .ok (.string (strB [x0, x1, x2, x3])) w8.drew := conv_any (hend8.below (Below.refl _ _).drew) rfl (fun h => by cases h)
      have f56b : (convert 22 9 (.slice (some ⟨b, o + k, none⟩) 4 (c - k))).run Try.prog (w8.alloc (.cells #[.int .u8 z0, .int .u8 z1, .int .u8 z2, .int .u8 z3] 5)).drew = .ok (.string (strB [x0, x1, x2, x3])) (w8.alloc (.cells #[.int .u8 z0, .int .u8 z1, .int .u8 z2, .int .u8 z3] 5)).drew := conv_any (hend8.below hW) rfl (fun h => by cases h)
      have f50 : (convert 22 9 (.slice (some ⟨w8.heap.size, 0, none⟩) 4 4)).run Try.prog (w8.alloc (.cells #[.int .u8 z0, .int .u8 z1, .int .u8 z2, .int .u8 z3] 5)).drew = .ok (.string (strB [z0, z1, z2, z3])) (w8.alloc (.cells #[.int .u8 z0, .int .u8 z1, .int .u8 z2, .int .u8 z3] 5)).drew :=
        conv_any (B := w8.heap.size + 1) (fun _ => ⟨w8.heap.size, 0, rfl, by omega, fun i x hx => by
          rw [World.cell?_drew, World.cell?_alloc_at _ _ _ _ rfl]
          match i, hx with
          | 0, hx => cases hx; rfl
          | 1, hx => cases hx; rfl
          | 2, hx => cases hx; rfl
          | 3, hx => cases hx; rfl⟩) rfl (fun h => by cases h)
      have w1e : IntKind.i64.wrap (((k + 4 : Nat) : Int) - 4) = (k : Int) := by rw [IntKind.wrap_i64]; omega
      have g4 : decide ((4 : Int) ≤ ((k + 4 : Nat) : Int)) = true := decide_eq_true (by omega)
      have g4' : decide ((4 : Int) ≤ (k : Int) + 4) = true := decide_eq_true (by omega)
      have hbl : Below w8.heap.size w8 (w8.alloc (.cells #[.int .u8 z0, .int .u8 z1, .int .u8 z2, .int .u8 z3] 5)).drew := hW
      have hsz7 := hbw7.size
      have hz2' : A8 = none → zn = 0 := HA8.out
      have HC : Hid (((∀ m, (convert 22 9 (.slice (some ⟨gx, 0, none⟩) (k + 4 + 4) c3)).run Try.prog ((w8.alloc (.cells #[.int .u8 z0, .int .u8 z1, .int .u8 z2, .int .u8 z3] 5)).drew.drewN m) = .ok (.string (strB (l ++ four (sumN l)))) ((w8.alloc (.cells #[.int .u8 z0, .int .u8 z1, .int .u8 z2, .int .u8 z3] 5)).drew.drewN m)) ∧
          (∀ m, (convert 22 9 (.slice (some ⟨g6, 0, none⟩) (k + 4 + 4) c6)).run Try.prog ((w8.alloc (.cells #[.int .u8 z0, .int .u8 z1, .int .u8 z2, .int .u8 z3] 5)).drew.drewN m) = .ok (.string (strB (l ++ four (sumN l)))) ((w8.alloc (.cells #[.int .u8 z0, .int .u8 z1, .int .u8 z2, .int .u8 z3] 5)).drew.drewN m)) ∧
          (∀ m, (convert 22 9 (.slice A7 (k + 4) c7)).run Try.prog ((w8.alloc (.cells #[.int .u8 z0, .int .u8 z1, .int .u8 z2, .int .u8 z3] 5)).drew.drewN m) = .ok (.string (strB l)) ((w8.alloc (.cells #[.int .u8 z0, .int .u8 z1, .int .u8 z2, .int .u8 z3] 5)).drew.drewN m)) ∧
          (∀ m, (convert 22 9 (.slice (some ⟨b, o, none⟩) (k + 4) c)).run Try.prog ((w8.alloc (.cells #[.int .u8 z0, .int .u8 z1, .int .u8 z2, .int .u8 z3] 5)).drew.drewN m) = .ok (.string (strB l)) ((w8.alloc (.cells #[.int .u8 z0, .int .u8 z1, .int .u8 z2, .int .u8 z3] 5)).drew.drewN m))) ∧
          (∀ m, (convert 22 9 (.slice A8 zn c8)).run Try.prog ((w8.alloc (.cells #[.int .u8 z0, .int .u8 z1, .int .u8 z2, .int .u8 z3] 5)).drew.drewN m) = .ok (.string (strB zl)) ((w8.alloc (.cells #[.int .u8 z0, .int .u8 z1, .int .u8 z2, .int .u8 z3] 5)).drew.drewN m)) ∧
          (∀ m, (convert 22 9 (.slice (some ⟨b, o, none⟩) k c)).run Try.prog ((w8.alloc (.cells #[.int .u8 z0, .int .u8 z1, .int .u8 z2, .int .u8 z3] 5)).drew.drewN m) = .ok (.string (strB l')) ((w8.alloc (.cells #[.int .u8 z0, .int .u8 z1, .int .u8 z2, .int .u8 z3] 5)).drew.drewN m)) ∧
          (okb = true → zn = k ∧ zl = l') ∧ (okb = false → zn = 0) ∧ ∀ m, Below w.heap.size w ((w8.alloc (.cells #[.int .u8 z0, .int .u8 z1, .int .u8 z2, .int .u8 z3] 5)).drew.drewN m)) := by
        have hd : ∀ m, Below w8.heap.size w8 ((w8.alloc (.cells #[.int .u8 z0, .int .u8 z1, .int .u8 z2, .int .u8 z3] 5)).drew.drewN m) := fun m => cbelow_drewN hbl m
        refine ⟨⟨fun m => conv_any (Hx8.out.below ((hd m).mono (by omega))) Hlen.out (fun h => by cases h), fun m => conv_any (Hwant8.out.below ((hd m).mono (by omega))) Hlen.out (fun h => by cases h), fun m => conv_any (Hy8.out.below ((hd m).mono (by omega))) Hn.out HA7.out, fun m => conv_any (hall8.out.below ((hd m).mono (by omega))) Hn.out (fun h => by cases h)⟩, fun m => conv_any (Hz8.out.below (hd m)) ?_ hz2', fun m => conv_any (Hin8.out.below (hd m)) Hk.out (fun h => by cases h), ?_, ?_, fun m => hbw8.trans ((hd m).mono hbw8.size)⟩
        · rw [← hzn, ← hzl]
          split
          · exact Hk.out
          · rfl
        · rintro rfl; exact ⟨hzn.symm, hzl.symm⟩
        · rintro rfl; exact hzn.symm
      have Hend8 := Lib.hid hend8
      clear f56a f56b hz2' hzn hzl hown8 ht8 hT8 hrs8 hin8 hend8 Hop Hx7 Hwant7 Hy7 Hr7 Hrs hW hbl Hx8 Hwant8 Hz8 Hy8 Hin8 hall8 HA8 HA7 HO7 Hlen Hok4 Hokz Hok' Hk Hoky Hy hi hz0 hz1 hz2 i0 Hn Hr Hok HA Ha
      have hk1 : k ≤ 996 := by omega
      have w2e : IntKind.i64.wrap ((k : Int) + 4 - 4) = (k : Int) := by rw [IntKind.wrap_i64]; omega
      have hk2 : (k : Int) ≤ 996 := by omega
      have hk0 : (0 : Int) ≤ (k : Int) := Int.natCast_nonneg _
      clear hm hge1 hge2 hge3 hge4 hge5 hge6 hge7 hge8 hbw2 hbw3 hbw6 hbw7 hbw8 hx hx' hgx hg6g hbg hltx hbx hbg6 hlt6 hcap hsz7 hlt7 hb Hsz2 h1000 h4
      go_wp2
      have w3e : IntKind.i64.wrap (k : Int) = (k : Int) := by rw [IntKind.wrap_i64]; omega
      have hkc : (k : Int) ≤ (c : Int) := by omega
      have hkc' : ¬ c = k := by omega
      have hk4 : (k : Int) ≤ (k : Int) + 4 := by omega
      have hK0 : Below w8.heap.size w8 w8.drew := (Below.refl _ _).drew
      have f56 : ∀ W : World, Below w8.heap.size w8 W → (convert 22 9 (.slice (some ⟨b, o + k, none⟩) 4 (c - k))).run Try.prog W = .ok (.string (strB [x0, x1, x2, x3])) W := fun W hW => conv_any (Hend8.out.below hW) rfl (fun h => by cases h)
      refine wp_region_noPanic ?_
      refine wp_region_held_drew (S := (fun W => Below w8.heap.size w8 W)) (by kernel_rfl) ?_ (fun hHeld => ?_)
      · (first | assumption | (repeat (first | assumption | exact Below.refl _ _ | refine RowKit.Below.drew ?_ | refine RowKit.Below.alloc ?_ (by simp <;> omega) _)))
      refine heldTake (i := 0) (v := ?_) rfl (by kernel_rfl) (by kernel_rfl) (by kernel_rfl) (fun _ _ _ h => h) (Or.inl ⟨by rfl, ?_⟩) (by assumption) ?_
      rotate_left
      · (intro w hSw; (try dsimp only at hSw); go_simp; try with_reducible rfl)
      try simp only [heldPut, List.set]
      refine heldTake (i := 1) (v := ?_) rfl (by kernel_rfl) (by kernel_rfl) (by kernel_rfl) (fun _ _ _ h => h) (Or.inl ⟨by rfl, ?_⟩) (by assumption) ?_
      rotate_left
      · (intro w hSw; (try dsimp only at hSw); go_simp; try with_reducible rfl)
      try simp only [heldPut, List.set]
      refine heldTake (i := 2) (v := ?_) rfl (by kernel_rfl) (by kernel_rfl) (by kernel_rfl) (fun _ _ _ h => h) (Or.inl ⟨by rfl, ?_⟩) (by assumption) ?_
      rotate_left
      · (intro w hSw; (try dsimp only at hSw); go_simp; try with_reducible rfl)
      try simp only [heldPut, List.set]
      refine heldTake (i := 3) (v := ?_) rfl (by kernel_rfl) (by kernel_rfl) (by kernel_rfl) (fun _ _ _ h => h) (Or.inl ⟨by rfl, ?_⟩) (by assumption) ?_
      rotate_left
      · (intro w hSw; (try dsimp only at hSw); go_simp; try with_reducible rfl)
      try simp only [heldPut, List.set]
      refine heldTake (i := 4) (v := ?_) rfl (by kernel_rfl) (by kernel_rfl) (by kernel_rfl) (fun _ _ _ h => h) (Or.inl ⟨by rfl, ?_⟩) (by assumption) ?_
      rotate_left
      · (intro w hSw; (try dsimp only at hSw); go_simp; try with_reducible rfl)
      try simp only [heldPut, List.set]
      refine heldTake (i := 5) (v := ?_) rfl (by kernel_rfl) (by kernel_rfl) (by kernel_rfl) (fun _ _ _ h => h) (Or.inl ⟨by rfl, ?_⟩) (by assumption) ?_
      rotate_left
      · (intro w hSw; (try dsimp only at hSw); go_simp; try with_reducible rfl)
      try simp only [heldPut, List.set]
      refine heldTake (i := 6) (v := ?_) rfl (by kernel_rfl) (by kernel_rfl) (by kernel_rfl) (fun _ _ _ h => h) (Or.inl ⟨by rfl, ?_⟩) (by assumption) ?_
      rotate_left
      · (intro w hSw; (try dsimp only at hSw); go_simp; try with_reducible rfl)
      try simp only [heldPut, List.set]
      refine heldTake (i := 7) (v := ?_) rfl (by kernel_rfl) (by kernel_rfl) (by kernel_rfl) (fun _ _ _ h => h) (Or.inl ⟨by rfl, ?_⟩) (by assumption) ?_
      rotate_left
      · (intro w hSw; (try dsimp only at hSw); go_simp; try with_reducible rfl)
      try simp only [heldPut, List.set]
      refine heldTake (i := 12) (v := ?_) rfl (by kernel_rfl) (by kernel_rfl) (by kernel_rfl) (fun _ _ _ h => h) (Or.inl ⟨by rfl, ?_⟩) (by assumption) ?_
      rotate_left
      · (intro w hSw; (try dsimp only at hSw); go_simp; try with_reducible rfl)
      try simp only [heldPut, List.set]
      refine heldTake (i := 13) (v := ?_) rfl (by kernel_rfl) (by kernel_rfl) (by kernel_rfl) (fun _ _ _ h => h) (Or.inl ⟨by rfl, ?_⟩) (by assumption) ?_
      rotate_left
      · (intro w hSw; (try dsimp only at hSw); go_simp; try with_reducible rfl)
      try simp only [heldPut, List.set]
      refine heldTake (i := 14) (v := ?_) rfl (by kernel_rfl) (by kernel_rfl) (by kernel_rfl) (fun _ _ _ h => h) (Or.inl ⟨by rfl, ?_⟩) (by assumption) ?_
      rotate_left
      · (intro w hSw; (try dsimp only at hSw); go_simp; try with_reducible rfl)
      try simp only [heldPut, List.set]
      refine heldTake (i := 15) (v := ?_) rfl (by kernel_rfl) (by kernel_rfl) (by kernel_rfl) (fun _ _ _ h => h) (Or.inl ⟨by rfl, ?_⟩) (by assumption) ?_
      rotate_left
      · (intro w hSw; (try dsimp only at hSw); go_simp; try with_reducible rfl)
      try simp only [heldPut, List.set]
      refine heldTake (i := 8) (v := ?_) rfl (by kernel_rfl) (by kernel_rfl) (by kernel_rfl) (fun _ _ _ h => h) (Or.inl ⟨by rfl, ?_⟩) (by assumption) ?_
      rotate_left
      · (intro w hSw; (try dsimp only at hSw); go_simp; try with_reducible rfl)
      try simp only [heldPut, List.set]
      refine heldTake (i := 16) (v := ?_) rfl (by kernel_rfl) (by kernel_rfl) (by kernel_rfl) (fun _ _ _ h => h) (Or.inl ⟨by rfl, ?_⟩) (by assumption) ?_
      rotate_left
      · (intro w hSw; (try dsimp only at hSw); go_simp; try with_reducible rfl)
      try simp only [heldPut, List.set]
      refine heldTake (i := 17) (v := ?_) rfl (by kernel_rfl) (by kernel_rfl) (by kernel_rfl) (fun _ _ _ h => h) (Or.inl ⟨by rfl, ?_⟩) (by assumption) ?_
      rotate_left
      · (intro w hSw; (try dsimp only at hSw); go_simp; try with_reducible rfl)
      try simp only [heldPut, List.set]
      refine heldOne (i := 9) rfl (by kernel_rfl) (fun K hK => ?_)
      go_simp
      (with_reducible refine HSum.out.mono ?_); rintro e w' ⟨rfl, rfl⟩
      go_wp2_with fail
      refine hK.out _ _ ?_ (fun hHeld => ?_)
      · (first | assumption | (repeat (first | assumption | exact Below.refl _ _ | refine RowKit.Below.drew ?_ | refine RowKit.Below.alloc ?_ (by simp <;> omega) _)))
      clear hK K
      try simp only [heldPut, List.set]
      refine heldOne (i := 10) rfl (by kernel_rfl) (fun K hK => ?_)
      go_simp
      (with_reducible refine (Hf.out _).mono ?_); rintro e w' ⟨rfl, rfl⟩
      go_wp2_with fail
      refine hK.out _ _ ?_ (fun hHeld => ?_)
      · (first | assumption | (repeat (first | assumption | exact Below.refl _ _ | refine RowKit.Below.drew ?_ | refine RowKit.Below.alloc ?_ (by simp <;> omega) _)))
      clear hK K
      try simp only [heldPut, List.set]
      refine heldOne (i := 11) rfl (by kernel_rfl) (fun K hK => ?_)
      go_simp
      refine hK.out _ _ ?_ (fun hHeld => ?_)
      · (first | assumption | (repeat (first | assumption | exact Below.refl _ _ | refine RowKit.Below.drew ?_ | refine RowKit.Below.alloc ?_ (by simp <;> omega) _)))
      clear hK K
      try simp only [heldPut, List.set]
      refine heldTake (i := 18) (v := ?_) rfl (by kernel_rfl) (by kernel_rfl) (by kernel_rfl) (fun _ _ _ h => h) (Or.inl ⟨by rfl, ?_⟩) (by assumption) ?_
      rotate_left
      · (intro w hSw; (try dsimp only at hSw); go_simp; try with_reducible rfl)
      try simp only [heldPut, List.set]
      refine heldTake (i := 19) (v := ?_) rfl (by kernel_rfl) (by kernel_rfl) (by kernel_rfl) (fun _ _ _ h => h) (Or.inl ⟨by rfl, ?_⟩) (by assumption) ?_
      rotate_left
      · (intro w hSw; (try dsimp only at hSw); go_simp; try with_reducible rfl)
      try simp only [heldPut, List.set]
      refine heldTake (i := 20) (v := ?_) rfl (by kernel_rfl) (by kernel_rfl) (by kernel_rfl) (fun _ _ _ h => h) (Or.inl ⟨by rfl, ?_⟩) (by assumption) ?_
      rotate_left
      · (intro w hSw; (try dsimp only at hSw); go_simp; try with_reducible rfl)
      try simp only [heldPut, List.set]
      refine wpAnyH_done (by kernel_rfl) ?_ _
      refine NoPanic.normal ?_
      clear HSum Hf f50 heq f56 hK0 Hend8
      go_wp2
      obtain ⟨⟨cx, cw, cy, cb⟩, cz, ci, hyes, hno, hb9⟩ := HC.out
      clear HC
      generalize (w8.alloc (.cells #[.int .u8 z0, .int .u8 z1, .int .u8 z2, .int .u8 z3] 5)).drew = w9 at *
      cases okb with
      | false =>
        obtain rfl := hno rfl
        clear hyes hno cz ci
        have Hb9 := Lib.hid hb9
        clear hb9
        go_quiet (fail)
        go_wp2
        go_ret
        exact ⟨rfl, Hb9.out _⟩
      | true =>
        obtain ⟨rfl, rfl⟩ := hyes rfl
        clear hyes hno
        have Hb9 := Lib.hid hb9
        clear hb9
        go_quiet (fail)
        go_wp2
        go_ret
        exact ⟨rfl, Hb9.out _⟩
end Go.Proofs.Ytbadohcphadjfab.crcSeals
