/- Layer 10: send: the document's example (Awake). -/
import Derived.Test.YtholdcgkhicdmaaSdNil
namespace Go.Proofs.Ytholdcgkhicdmaa
open Go.RowKit
def cellsU (l : List Nat) : List Value := l.map fun x => .int .u64 (x : Nat)
theorem cellsU_app (a b : List Nat) : cellsU (a ++ b) = cellsU a ++ cellsU b := List.map_append
theorem cellsU_one (l : List Nat) : ∀ u ∈ cellsU l, u.oneCell' = true := fun u hu => by
  obtain ⟨x, _, rfl⟩ := List.mem_map.1 hu
  rfl
theorem Try.infoU64 : (Try.prog.info? 24).map (fun i => (i.zero, i.size, i.bytes)) = some (some (.int .u64 0), 1, 8) := by kernel_rfl
/-- a number is appended to a row of its own -/
theorem gotapp {w : World} {base b x : Nat} {v : Value} {l : List Nat} (ho : w.ownsRow base 24 1 v l.length (cellsU l)) (hl : l.length ≤ 100000) (hb : base ≤ w.heap.size) (hsrc : w.cell? ⟨b, 0, none⟩ = some (.int .u64 x)) :
    ∃ A' c' w', (Builtin.append_ #[44, 44] 44 #[v, .slice (some ⟨b, 0, none⟩) 1 1]).run Try.prog w = .ok (.slice A' (l.length + 1) c') w' ∧ w'.ownsRow base 24 1 (.slice A' (l.length + 1) c') (l ++ [x]).length (cellsU (l ++ [x])) ∧ Only (fun k => v.ownBlock = some k) w w' := by
  obtain ⟨i0, hi0, hz0, hz1, hz2⟩ := info_parts Try.infoU64
  have hnews : ∀ (j : Nat) u, ([.int .u64 x] : List Value)[j]? = some u → w.cell? ((⟨b, 0, none⟩ : Addr).add j) = some u := fun j u hj => by
    match j with
    | 0 =>
      have hj : Value.int .u64 x = u := by simpa using hj
      rw [Addr.add_lit, Nat.zero_add, ← hj]; exact hsrc
    | j + 1 => simp at hj
  obtain ⟨v', w', h1, h2, h3, h4⟩ := run_append_src (P := Try.prog) (w := w) (ty := 44) (t := 44) (e := 24) (base := base) (m := 1) (c := 1) (A := some ⟨b, 0, none⟩) (news := [.int .u64 x]) Try.underlying44 hi0 hz0 hz1 hz2 rfl (by decide) ho ⟨rfl, fun _ => ⟨_, rfl, hnews⟩⟩ (cellsU_one [x]) (by unfold maxLen; omega) (by omega) hb
  obtain ⟨A', c', rfl⟩ := ownB_slice h2
  have hc : cellsU l ++ [.int .u64 x] = cellsU (l ++ [x]) := (cellsU_app l [x]).symm
  rw [hc] at h2
  exact ⟨A', c', w', h1, by rw [List.length_append]; exact h2, Only.of_grown h3 (fun k hk => hk)⟩
def awk : Nat → Fg × List Nat
  | 0 => (⟨1, 1, 0, 1, false, false⟩, [])
  | k + 1 => (dueF 4 k (awk k).1, (awk k).2 ++ List.replicate (dueN k [(awk k).1]) k)
theorem awk_v : ∀ k, (awk k).1.v ≤ 4
  | 0 => by decide
  | k + 1 => by
    show (dueF 4 k (awk k).1).v ≤ 4
    unfold dueF
    split
    · exact Nat.min_le_right _ _
    · exact awk_v k
theorem awk_len : ∀ k, (awk k).2.length ≤ k
  | 0 => Nat.le_refl _
  | k + 1 => by
    show ((awk k).2 ++ List.replicate (dueN k [(awk k).1]) k).length ≤ _
    have h1 := awk_len k
    have h2 := dueN_le k 1 [(awk k).1]
    rw [List.length_append, List.length_replicate]
    have h3 : dueN k [(awk k).1] ≤ 1 := h2
    omega
theorem awk_end : (awk 12).2 = [0, 1, 3, 7, 11] := by decide
set_option maxRecDepth 100000 in
set_option maxHeartbeats 2000000 in
theorem awake10_any (w : World) : Calls Try.prog 6 #[] w fun e w' => e = .returned (.bool true) ∧ Below w.heap.size w w' := by
  go_enter Try.func6, Try.ntmps6
  go_wp2_with fail
  refine (sdnew_any 2 1 4 (by decide) (by decide) (by decide) (by decide) (by decide) w).mono ?_
  rintro _ w1 ⟨rfl, hs1, hb1⟩
  obtain ⟨s, hs⟩ : ∃ s, s = w.heap.size := ⟨_, rfl⟩
  rw [← hs] at hs1 ⊢
  have HB1 := Lib.hid (⟨hb1, hs⟩ : _ ∧ _)
  have HOF := Lib.hid (sdoffer_any (i := 1) (now := 0) w1 hs1 (by decide) (by decide))
  clear hs1 hb1 hs
  go_wp2_with fail
  refine HOF.out.mono ?_
  rintro e2 w2 (⟨h, -⟩ | ⟨-, rfl, S, hs2, hst2⟩)
  · exact absurd rfl h
  have HS2 : Hid (SdAt w2 S s ⟨2, 1, 4, 0, 0, 0⟩ [(awk 0).1]) := hs2
  have HST2 := Lib.hid hst2
  clear hs2 hst2 HOF
  go_wp2
  go_loopw [3, 11] (fun gv iv wx => ∃ (k : Nat) (A : Option Addr) (n c : Nat), k ≤ 12 ∧ iv = .int .u64 k ∧ gv = .slice A n c ∧ n = (awk k).2.length ∧ Hid ((∃ X : Sd, SdAt wx S s X [(awk k).1] ∧ X.t ≤ k ∧ X.a ≤ k ∧ X.m = 4) ∧ wx.ownsRow w2.heap.size 24 1 (.slice A n c) (awk k).2.length (cellsU (awk k).2) ∧ Only S w2 wx)) (fun _ iv _ => 12 - (intOf iv).toNat)
  case atStart => exact ⟨0, none, 0, 0, by decide, rfl, rfl, rfl, ⟨_, HS2.out, by decide, by decide, rfl⟩, World.ownsRow_nil _ _ _ _, Only.refl _ _⟩
  case round =>
    obtain ⟨k, A, n, c, hk, rfl, rfl, hn, HB⟩ := hrel
    have HN := Lib.hid hn
    clear hn
    by_cases hlt : k < 12
    · have q1 : decide ((k : Int) < (12 : Int)) = true := decide_eq_true (by omega)
      have q2 : decide (k < 12) = true := decide_eq_true hlt
      obtain ⟨⟨X, hX, ht, ha, hm⟩, hg, ho⟩ := HB.out
      have HDU := Lib.hid (sddue_any (now := k) wr hX (by omega) (by omega) (by omega) (fun f hf => by
        rw [List.mem_singleton] at hf
        have := awk_v k
        rw [hf]; omega))
      obtain ⟨d, hd⟩ : ∃ d, d = dueN k [(awk k).1] := ⟨_, rfl⟩
      rw [← hd, hm] at HDU
      have hd1 : d ≤ 1 := by rw [hd]; exact dueN_le k 1 [(awk k).1]
      have HX := Lib.hid (⟨ht, ha, hm⟩ : _ ∧ _ ∧ _)
      have HG := Lib.hid (⟨hg, ho⟩ : _ ∧ _)
      have HD := Lib.hid hd
      clear hX ht ha hm hg ho hd HB
      go_wp2_with fail
      refine HDU.out.mono ?_
      rintro _ w4 ⟨⟨DA, dc, rfl⟩, hs4, hst4⟩
      have hw2l : ∀ j, S j → j < w2.heap.size := fun j hj => HS2.out.lt j hj
      have hgown : ∀ j, (Value.slice A n c).ownBlock = some j → ¬ S j := fun j hj hS => by
        have h1 := (HG.out.1.lt j hj).1
        have h2 := hw2l j hS
        omega
      have hm4 := (dueX_le k [(awk k).1] X)
      have HS4 : Hid (∃ X : Sd, SdAt w4 S s X (dueL 4 k [(awk k).1]) ∧ X.t ≤ k + 1 ∧ X.a ≤ k + 1 ∧ X.m = 4) := ⟨_, hs4, by have := hm4.2.2.2.2.1; have := HX.out.1; have h9 : ([(awk k).1] : List Fg).length = 1 := rfl; omega, by have := hm4.2.2.2.2.2; have := HX.out.2.1; have h9 : ([(awk k).1] : List Fg).length = 1 := rfl; omega, by rw [hm4.1]; exact HX.out.2.2⟩
      have HG4 : Hid (w4.ownsRow w2.heap.size 24 1 (.slice A n c) (awk k).2.length (cellsU (awk k).2) ∧ Only S w2 w4) := ⟨hst4.only.own HG.out.1 hgown, HG.out.2.trans hst4.only (fun _ h => .inl h)⟩
      have HWL := Lib.hid hw2l
      clear hs4 hst4 hgown hm4 hw2l HDU HX HG
      obtain ⟨g, hg⟩ : ∃ g, g = (awk k).2 := ⟨_, rfl⟩
      have hgl : g.length ≤ 12 := by rw [hg]; exact Nat.le_trans (awk_len k) hk
      rw [← hg] at HG4 HN
      have HGE := Lib.hid hg
      clear hg
      go_wp2_with fail
      go_loopw [3, 18] (fun gv iv wx => ∃ (j : Nat) (A : Option Addr) (n c : Nat), j ≤ d ∧ iv = .int .i64 j ∧ gv = .slice A n c ∧ n = (g ++ List.replicate j k).length ∧ Hid ((∃ X : Sd, SdAt wx S s X (dueL 4 k [(awk k).1]) ∧ X.t ≤ k + 1 ∧ X.a ≤ k + 1 ∧ X.m = 4) ∧ wx.ownsRow w2.heap.size 24 1 (.slice A n c) (g ++ List.replicate j k).length (cellsU (g ++ List.replicate j k)) ∧ Only S w2 wx)) (fun _ iv _ => d - (intOf iv).toNat)
      case atStart => exact ⟨0, A, n, c, Nat.zero_le _, rfl, rfl, by rw [HN.out]; simp, HS4.out, by simpa using HG4.out.1, HG4.out.2⟩
      case round =>
        obtain ⟨j, A, n, c, hj, rfl, rfl, hn, HB⟩ := hrel
        have HN5 := Lib.hid hn
        clear hn
        by_cases hlt2 : j < d
        · have p1 : decide ((j : Int) < (d : Int)) = true := decide_eq_true (by omega)
          have p2 : decide (j < d) = true := decide_eq_true hlt2
          obtain ⟨hX, hg, ho⟩ := HB.out
          have hbA : Below wr.heap.size wr (wr.alloc (.cells #[.int .u64 k] 24)) := (Below.refl _ _).alloc (Nat.le_refl _) _
          have hxA := heap_alloc_new wr (.cells #[.int .u64 k] 24)
          have hgl2 : (g ++ List.replicate j k).length ≤ 100000 := by rw [List.length_append, List.length_replicate]; omega
          have hsz := ho.size
          obtain ⟨A', c', W3, hrun, hg3, ho3⟩ := gotapp (b := wr.heap.size) (x := k) ((Only.of_below hbA (fun _ => False)).own hg (fun _ _ h => h)) hgl2 (Nat.le_trans hsz hbA.size) (cell_of_row _ _ 0 _ _ _ hxA)
          rw [← HN5.out] at hrun hg3
          have hno : ∀ i, S i → ¬ (Value.slice A n c).ownBlock = some i := fun i hi hk => by
            have h1 := (hg.lt i hk).1
            have h2 := HWL.out i hi
            omega
          obtain ⟨X3, hX3, hx4, hx5, hx6⟩ := hX
          have e3 : g ++ List.replicate j k ++ [k] = g ++ List.replicate (j + 1) k := by rw [List.append_assoc, ← List.replicate_succ']
          have HE : Hid ((∃ X : Sd, SdAt W3 S s X (dueL 4 k [(awk k).1]) ∧ X.t ≤ k + 1 ∧ X.a ≤ k + 1 ∧ X.m = 4) ∧ W3.ownsRow w2.heap.size 24 1 (.slice A' (n + 1) c') (g ++ List.replicate (j + 1) k).length (cellsU (g ++ List.replicate (j + 1) k)) ∧ Only S w2 W3) := by
            rw [← e3]
            exact ⟨⟨X3, (hX3.below hbA).keep ho3 hno, hx4, hx5, hx6⟩, hg3, (ho.trans (Only.of_below hbA S) (fun _ h => .inl h)).trans ho3 (fun i hi => .inr (hg.lt i hi).1)⟩
          have hn3 : n + 1 = (g ++ List.replicate (j + 1) k).length := by rw [HN5.out, ← e3, List.length_append (bs := [k])]; rfl
          have HN3 := Lib.hid hn3
          clear hg ho hbA hxA hgl2 hsz hg3 ho3 hno hX3 hx4 hx5 hx6 e3 hn3 HB
          go_upto_region 10 with (first
            | (at_builtin; refine Lib.wpList_append_run _ rfl _ _ _ _ rfl _ _ rfl rfl _ _ hrun ?_)
            | fail)
          clear hrun
          go_wp2
          go_roundw
          case rel => exact ⟨j + 1, A', n + 1, c', by omega, by go_num, rfl, HN3.out, HE.out⟩
          case measure => simp [intOf]; omega
        · obtain rfl : j = d := by omega
          have p1 : decide ((j : Int) < (j : Int)) = false := decide_eq_false (by omega)
          have p2 : decide (j < j) = false := decide_eq_false (by omega)
          have e0 : awk (k + 1) = (dueF 4 k (awk k).1, g ++ List.replicate j k) := by rw [HGE.out, HD.out]; rfl
          have HE : Hid ((∃ X : Sd, SdAt wr S s X [(awk (k + 1)).1] ∧ X.t ≤ k + 1 ∧ X.a ≤ k + 1 ∧ X.m = 4) ∧ wr.ownsRow w2.heap.size 24 1 (.slice A n c) (awk (k + 1)).2.length (cellsU (awk (k + 1)).2) ∧ Only S w2 wr) := by
            rw [e0]; exact HB.out
          have hn3 : n = (awk (k + 1)).2.length := by rw [e0]; exact HN5.out
          have HN3 := Lib.hid hn3
          clear e0 hn3 HB HN5
          go_wp2
          go_roundw
          case rel => exact ⟨k + 1, A, n, c, by omega, by go_num, rfl, HN3.out, HE.out⟩
          case measure => simp [intOf]; omega
    · obtain rfl : k = 12 := by omega
      obtain ⟨-, hg, ho⟩ := HB.out
      have hn5 : n = 5 := by rw [HN.out, awk_end]; rfl
      subst hn5
      rw [awk_end] at hg
      have hSl : ∀ j, S j → w.heap.size ≤ j := fun j hj => by
        have h1 := HB1.out.1.size
        have h2 := HB1.out.2
        rcases HST2.out.new j hj with h3 | h3
        · have h3 : j = s := h3
          omega
        · omega
      have hbw : Below w.heap.size w wr := (HB1.out.1.trans (HST2.out.only.below HB1.out.1.size (fun j hj => by have hj : j = s := hj; have := HB1.out.2; omega))).trans (ho.below (Nat.le_trans HB1.out.1.size HST2.out.only.size) hSl)
      have HBW := Lib.hid hbw
      obtain ⟨b, c', hv, -, -⟩ := hg.form (by decide)
      injection hv with hv1 _ hv3
      subst hv1
      have hc : ∀ (j : Nat) u, (cellsU [0, 1, 3, 7, 11])[j]? = some u → wr.cell? ⟨b, j, none⟩ = some u := fun j u hj => by
        have := hg.cells (g := b) rfl _ _ hj
        rw [Addr.add_lit, Nat.zero_add] at this
        exact this
      have c1 : wr.cell? ⟨b, 1, none⟩ = some (.int .u64 1) := hc 1 _ rfl
      have c2 : wr.cell? ⟨b, 2, none⟩ = some (.int .u64 3) := hc 2 _ rfl
      have c3 : wr.cell? ⟨b, 3, none⟩ = some (.int .u64 7) := hc 3 _ rfl
      have c4 : wr.cell? ⟨b, 4, none⟩ = some (.int .u64 11) := hc 4 _ rfl
      clear hg ho hSl hbw hc HB HST2 HB1 HS2 HN
      go_wp2
      go_ret
      exact ⟨rfl, HBW.out⟩
end Go.Proofs.Ytholdcgkhicdmaa
