/- Layer 6: the document's own disk: Crash. -/
import Derived.Test.YtheojokfgndheaaDkRfCs
import Derived.Test.YtheojokfgndheaaDkCrashAny
import Derived.Deep.CutRange
import Derived.BigRegion
namespace Go.Proofs.Ytheojokfgndheaa
open Go.RowKit Go.Maps

theorem setCell_far (w : World) (b c i j : Nat) (u v : Value) (h : b ≠ c) : (w.setCell ⟨b, i, none⟩ u).setCell ⟨c, j, none⟩ v = (w.setCell ⟨c, j, none⟩ v).setCell ⟨b, i, none⟩ u := by
  have hh : ((w.setCell ⟨b, i, none⟩ u).setCell ⟨c, j, none⟩ v).heap = ((w.setCell ⟨c, j, none⟩ v).setCell ⟨b, i, none⟩ u).heap := by
    simp only [World.setCell]
    apply Array.ext_getElem?
    intro k
    simp only [Array.getElem?_modify]
    by_cases hk : b = k
    · by_cases hk2 : c = k
      · exact absurd (hk.trans hk2.symm) h
      · simp only [if_pos hk, if_neg hk2]
    · simp only [if_neg hk]
  show ({ w with heap := _ } : World) = { w with heap := _ }
  exact congrArg (fun x => ({ w with heap := x } : World)) hh

theorem crash_step2 {L : List (ByteArray × Fl)} {ts : List (Nat × Nat)} {R : List RE} {k ke bi : Nat} {x y : RE} (hE : flsR R = crashK L ts k) (hx : R[k]? = some x) (hk : k < L.length) (hta : tearAt ts k = (ke, bi))
    (hy : y.fl = (x.s, tornF ⟨x.by_, x.syn⟩ ke bi)) : flsR (R.set k y) = crashK L ts (k + 1) := by
  have h1 : L[k]? = some x.fl := by
    have h := flsR_get hx
    rw [hE, crashK_at, if_neg (Nat.lt_irrefl _)] at h
    exact h
  have h2 : flsR (R.set k y) = (flsR R).set k y.fl := by unfold flsR; rw [List.map_set]
  rw [h2, hE, hy]
  conv => rhs; unfold crashK
  rw [h1, hta]
  rfl
section
variable {l : List Nat} {n syn ke bi q y : Nat}
theorem torn_yes (hl : l.length = n) (hq : q = min ke (n - syn)) (hy : y = syn + q) (hs : syn ≤ n) (h1 : 0 < q) (h2 : bi < 8) : tornF ⟨l, syn⟩ ke bi = ⟨(l.take y).set (y - 1) (l.getD (y - 1) 0 ^^^ 2 ^ bi), y⟩ := by
  have e : min l.length (syn + ke) = y := by omega
  unfold tornF
  simp only [e]
  rw [if_pos ⟨by omega, h2⟩, List.take_set]
theorem torn_no (hl : l.length = n) (hq : q = min ke (n - syn)) (hy : y = syn + q) (hs : syn ≤ n) (h : ¬ (0 < q ∧ bi < 8)) : tornF ⟨l, syn⟩ ke bi = ⟨l.take y, y⟩ := by
  have e : min l.length (syn + ke) = y := by omega
  unfold tornF
  simp only [e]
  rw [if_neg (fun h' => h ⟨by omega, h'.2⟩)]
end

/-- the slice at A reads as these numbers -/
def RdN (w : World) (B : Nat) (A : Option Addr) (l : List Nat) : Prop :=
  0 < l.length → ∃ b o, A = some ⟨b, o, none⟩ ∧ b < B ∧ ∀ (i : Nat) (x : Nat), l[i]? = some x → w.cell? ⟨b, o + i, none⟩ = some (.int .i64 x)

set_option maxRecDepth 100000 in
set_option maxHeartbeats 4000000 in
theorem rcrash_any {T : Nat → Prop} {m : Nat} {L : List (ByteArray × Fl)} {wr0 sy : Nat} {A B : Option Addr} {n c cb : Nat} {ts : List (Nat × Nat)} (w : World) (h : RfL w T m L wr0 sy) (hn : n = ts.length) (hnm : n ≤ 140737488351232)
    (hk : RdN w w.heap.size A (ts.map (·.1))) (hb : RdN w w.heap.size B (ts.map (·.2))) (hA : ∀ a, A = some a → 0 < ts.length → ¬ T a.block) (hB : ∀ a, B = some a → 0 < ts.length → ¬ T a.block) (hok : OkT ts) :
    Calls Try.prog 23 #[.pointer (some ⟨m, 0, none⟩), .slice A n c, .slice B n cb] w fun e w' => e = .returned (.tuple #[]) ∧ RLeaves w w' T m (crashL L ts) wr0 sy := by
  obtain ⟨i0, hi0, hz0, hz1, hz2⟩ := info_parts Try.infoB
  obtain ⟨v, R, rfl, h⟩ := h
  have HF := Lib.hid h
  have HK := Lib.hid hk
  have HB := Lib.hid hb
  have HTA := Lib.hid hA
  have HTB := Lib.hid hB
  have HN := Lib.hid hn
  have HOk := Lib.hid hok
  have hfew := h.few
  clear h hk hb hA hB hn hok
  go_enter Try.func23, Try.ntmps23
  go_wp2
  go_loopw [6] (fun iv w2 => ∃ (k : Nat) (T' : Nat → Prop) (v' : Value) (R' : List RE), k ≤ R.length ∧ iv = .int .i64 k ∧ Hid (flsR R' = crashK (flsR R) ts k ∧ Rf w2 T' m v' R' wr0 sy) ∧ Hid (Step w T w2 T')) (fun iv _ => R.length - (intOf iv).toNat)
  case atStart => exact ⟨0, T, v, R, Nat.zero_le _, rfl, ⟨rfl, HF.out⟩, Step.refl _ _⟩
  case round =>
    obtain ⟨k, T', v', R', hk, rfl, Hd, Hst⟩ := hrel
    have hRl : R'.length = R.length := by
      have := congrArg List.length Hd.out.1
      rw [crashK_length] at this
      simpa [flsR] using this
    obtain ⟨A0, c0', rfl⟩ := Hd.out.2.slice
    have hc0 := Hd.out.2.c0
    have hml := Hd.out.2.lt m Hd.out.2.mT
    rw [hRl] at hc0
    by_cases hlt : k < R.length
    · obtain ⟨x, hx⟩ : ∃ x, R'[k]? = some x := ⟨R'[k]'(by omega), List.getElem?_eq_getElem (by omega)⟩
      obtain ⟨g, cap, hv, hgl, x0, x1, x2, hfz⟩ := Hd.out.2.at_ hx
      injection hv with hv1 hv2 hv3
      subst hv1
      subst hv3
      have hxx := Hd.out.2.each x (List.mem_of_getElem? hx)
      have hxm := hxx.max
      have hxn := hxx.n
      have hxs := hxx.syn
      have hxc := hxx.cap
      rw [← hxn] at hxm hxs
      have HX := Lib.hid hxx
      have Hx := Lib.hid hx
      have HRl := Lib.hid hRl
      have HXn := Lib.hid hxn
      have HR := Lib.hid Hd.out.2
      have HE := Lib.hid Hd.out.1
      obtain ⟨ke, bi, hta⟩ : ∃ ke bi, tearAt ts k = (ke, bi) := ⟨_, _, rfl⟩
      have hkb : ke < 65536 ∧ bi < 65536 := by have := tearAt_ok HOk.out k; rw [hta] at this; exact this
      have Hta := Lib.hid hta
      obtain ⟨hke, hbi⟩ := hkb
      clear hta hxx hx hxn hRl hv2 x0
      go_upto_if 28 with fail
      go_cut [8, 9] from 10 to 114 (fun p q wx => p = .int .i64 ke ∧ q = .int .i64 bi ∧ Below wr.heap.size wr wx)
      case first =>
        by_cases ht : k < ts.length
        · have hkn : k < n := by rw [HN.out]; exact ht
          obtain ⟨tb, tof, rfl, htb, htc⟩ := HK.out (by simpa using (by omega : 0 < ts.length))
          obtain ⟨ub, uo, rfl, hub, huc⟩ := HB.out (by simpa using (by omega : 0 < ts.length))
          have htk : ts[k]? = some (ke, bi) := by
            have := Hta.out
            unfold tearAt at this
            rw [List.getD_eq_getElem?_getD, List.getElem?_eq_getElem ht] at this
            rw [List.getElem?_eq_getElem ht]
            exact congrArg some this
          have t0 := (Hst.out.only.cell (p := ⟨tb, tof + k, none⟩) htb (show ¬ T tb from HTA.out ⟨tb, tof, none⟩ rfl (by omega))).trans (htc k ke (by rw [List.getElem?_map, htk]; rfl))
          have u0 := (Hst.out.only.cell (p := ⟨ub, uo + k, none⟩) hub (show ¬ T ub from HTB.out ⟨ub, uo, none⟩ rfl (by omega))).trans (huc k bi (by rw [List.getElem?_map, htk]; rfl))
          clear htc huc htk
          go_wp2
          go_region
          all_goals
            go_wp2
            go_meet
            exact ⟨rfl, rfl, (Below.refl _ _).drew⟩
        · have hkn : ¬ k < n := by rw [HN.out]; exact ht
          have hkn2 : decide (k < n) = false := decide_eq_false hkn
          have hz : ke = 0 ∧ bi = 0 := by
            have := Hta.out
            unfold tearAt at this
            rw [List.getD_eq_getElem?_getD, List.getElem?_eq_none (by omega)] at this
            injection this with h1 h2
            exact ⟨h1.symm, h2.symm⟩
          obtain ⟨rfl, rfl⟩ := hz
          go_wp2
          go_meet
          exact ⟨rfl, rfl, Below.refl _ _⟩
      case rest =>
        obtain ⟨rfl, rfl, hb1⟩ := hcut
        have HB1 := Lib.hid hb1
        have x1' := (hb1.cell (p := ⟨g, k * 3 + 1, none⟩) hgl).trans x1
        have x2' := (hb1.cell (p := ⟨g, k * 3 + 2, none⟩) hgl).trans x2
        have hgw := Nat.lt_of_lt_of_le hgl hb1.size
        clear hb1
        obtain ⟨q, hq⟩ : ∃ q : Nat, q = min ke (x.n - x.syn) := ⟨_, rfl⟩
        have hsub : IntKind.i64.wrap ((x.n : Int) - x.syn) = (x.n : Int) - x.syn := by rw [IntKind.wrap_i64]; omega
        obtain ⟨W1, rfl⟩ : ∃ W1, W1 = wc := ⟨_, rfl⟩
        go_upto_region 7 with fail
        go_region
        all_goals
          go_upto_if 48 with fail
          go_cut [8] from 10 to 114 (fun p wx => p = .int .i64 (q : Int) ∧ Below W1.heap.size W1 wx)
          case first =>
            by_cases hc : x.n - x.syn < ke
            · have hc1 : decide ((x.n : Int) - x.syn < ke) = true := decide_eq_true (by omega)
              have hc2 : decide ((ke : Int) > (x.n : Int) - x.syn) = true := decide_eq_true (by omega)
              have hqq : (x.n : Int) - x.syn = q := by omega
              have Hqq := Lib.hid hqq
              clear hqq hq
              go_wp2
              go_region
              all_goals
                go_wp2
                go_meet
                exact ⟨congrArg (Value.int .i64) Hqq.out, ((Below.refl _ _).drew).drew⟩
            · have hc1 : decide ((x.n : Int) - x.syn < ke) = false := decide_eq_false (by omega)
              have hc2 : decide ((ke : Int) > (x.n : Int) - x.syn) = false := decide_eq_false (by omega)
              obtain rfl : q = ke := by omega
              clear hq
              go_wp2
              go_meet
              exact ⟨rfl, (Below.refl _ _).drew⟩
          case rest =>
            obtain ⟨rfl, hb2⟩ := hcut
            have hbc := HB1.out.trans (hb2.mono HB1.out.size)
            have HBc := Lib.hid hbc
            have hgc := Nat.lt_of_lt_of_le hgl hbc.size
            clear hb2 hbc x1' x2' hgw
            obtain ⟨y, hy⟩ : ∃ y : Nat, y = x.syn + q := ⟨_, rfl⟩
            have hyn : y ≤ x.n := by omega
            have hadd : IntKind.i64.wrap ((x.syn : Int) + q) = (y : Int) := by rw [IntKind.wrap_i64]; omega
            have hadd2 : (x.syn : Int) + q = (y : Int) := by omega
            have hwy : IntKind.i64.wrap (y : Int) = (y : Int) := by rw [IntKind.wrap_i64]; omega
            have hsl : ∀ w : World, (Instr.sliceAt 30 (.slice x.A x.n x.c) none (some (.int .i64 y)) none).run Try.prog w = .ok (.slice x.A y x.c) w := fun w => sliceR_k x.A x.n x.c y (by omega) w
            have hlen : (x.by_.take y).length = y := by rw [List.length_take, ← HXn.out]; omega
            have Hlen := Lib.hid hlen
            have Hq := Lib.hid hq
            have Hy := Lib.hid hy
            have hq0 : 0 < q ↔ x.syn < y := by omega
            have Hq0 := Lib.hid hq0
            have hxl : x.by_.length = x.n := HXn.out.symm
            have HXl := Lib.hid hxl
            clear hlen hq hsub hq0 hxl hc0 hy
            go_upto_region 9 with fail
            have HC1 : Hid (∀ W, Below wc.heap.size wc W → W.cell? ⟨g, k * 3 + 1, none⟩ = some (.slice x.A x.n x.c)) := fun W hW => (hW.cell (p := ⟨g, k * 3 + 1, none⟩) hgc).trans ((HBc.out.cell (p := ⟨g, k * 3 + 1, none⟩) hgl).trans x1)
            have HC2 : Hid (∀ W, Below wc.heap.size wc W → W.cell? ⟨g, k * 3 + 2, none⟩ = some (.int .i64 x.syn)) := fun W hW => (hW.cell (p := ⟨g, k * 3 + 2, none⟩) hgc).trans ((HBc.out.cell (p := ⟨g, k * 3 + 2, none⟩) hgl).trans x2)
            have HFg : Hid (∀ o W, Below wc.heap.size wc W → W.frozen? ⟨g, o, none⟩ = false) := fun o W hW => (hW.frozen (p := ⟨g, o, none⟩) hgc).trans ((HBc.out.frozen (p := ⟨g, o, none⟩) hgl).trans (hfz o))
            have HS1 : Hid (∀ W, Below wc.heap.size wc W → Src W x.A y 1 (cellsB (x.by_.take y))) := fun W hW => src_of_rdB (((HX.out.rd.below HBc.out).below (hW.mono HBc.out.size)).take y) Hlen.out.symm
            clear x1 x2 hfz
            refine wp_region_noPanic ?_
            refine keepBegin (S := fun W => Below wc.heap.size wc W) 16 (by kernel_rfl) ?_ (fun hHeld => ?_)
            · exact (RowKit.Below.refl _ _).drew
            refine keepTake (i := 0) (v := ?_) [0] rfl (by kernel_rfl) (by kernel_rfl) (by kernel_rfl) (by kernel_rfl) (by kernel_rfl) (by kernel_rfl) (fun _ _ _ h => h) (Or.inl ⟨by rfl, ?_⟩) (by assumption) ?_
            rotate_left
            · (intro W hSw; (try dsimp only at hSw); have f1 := HC1.out W hSw; have f2 := HC2.out W hSw; go_simp; try with_reducible rfl)
            try simp only [keepPut, List.set, Nat.zero_add]
            refine keepTake (i := 2) (v := ?_) [2] rfl (by kernel_rfl) (by kernel_rfl) (by kernel_rfl) (by kernel_rfl) (by kernel_rfl) (by kernel_rfl) (fun _ _ _ h => h) (Or.inl ⟨by rfl, ?_⟩) (by assumption) ?_
            rotate_left
            · (intro W hSw; (try dsimp only at hSw); have f1 := HC1.out W hSw; have f2 := HC2.out W hSw; go_simp; try with_reducible rfl)
            try simp only [keepPut, List.set, Nat.zero_add]
            refine keepTake (i := 3) (v := ?_) [3] rfl (by kernel_rfl) (by kernel_rfl) (by kernel_rfl) (by kernel_rfl) (by kernel_rfl) (by kernel_rfl) (fun _ _ _ h => h) (Or.inl ⟨by rfl, ?_⟩) (by assumption) ?_
            rotate_left
            · (intro W hSw; (try dsimp only at hSw); have f1 := HC1.out W hSw; have f2 := HC2.out W hSw; go_simp; try with_reducible rfl)
            try simp only [keepPut, List.set, Nat.zero_add]
            refine keepTake (i := 4) (v := ?_) [4] rfl (by kernel_rfl) (by kernel_rfl) (by kernel_rfl) (by kernel_rfl) (by kernel_rfl) (by kernel_rfl) (fun _ _ _ h => h) (Or.inl ⟨by rfl, ?_⟩) (by assumption) ?_
            rotate_left
            · (intro W hSw; (try dsimp only at hSw); have f1 := HC1.out W hSw; have f2 := HC2.out W hSw; go_simp; try with_reducible rfl)
            try simp only [keepPut, List.set, Nat.zero_add]
            refine keepTake (i := 5) (v := ?_) [5] rfl (by kernel_rfl) (by kernel_rfl) (by kernel_rfl) (by kernel_rfl) (by kernel_rfl) (by kernel_rfl) (fun _ _ _ h => h) (Or.inl ⟨by rfl, ?_⟩) (by assumption) ?_
            rotate_left
            · (intro W hSw; (try dsimp only at hSw); have f1 := HC1.out W hSw; have f2 := HC2.out W hSw; go_simp; try with_reducible rfl)
            try simp only [keepPut, List.set, Nat.zero_add]
            refine keepTake (i := 6) (v := ?_) [6] rfl (by kernel_rfl) (by kernel_rfl) (by kernel_rfl) (by kernel_rfl) (by kernel_rfl) (by kernel_rfl) (fun _ _ _ h => h) (Or.inl ⟨by rfl, ?_⟩) (by assumption) ?_
            rotate_left
            · (intro W hSw; (try dsimp only at hSw); have f1 := HC1.out W hSw; have f2 := HC2.out W hSw; go_simp; try with_reducible rfl)
            try simp only [keepPut, List.set, Nat.zero_add]
            refine keepTake (i := 7) (v := ?_) [7] rfl (by kernel_rfl) (by kernel_rfl) (by kernel_rfl) (by kernel_rfl) (by kernel_rfl) (by kernel_rfl) (fun _ _ _ h => h) (Or.inl ⟨by rfl, ?_⟩) (by assumption) ?_
            rotate_left
            · (intro W hSw; (try dsimp only at hSw); have f1 := HC1.out W hSw; have f2 := HC2.out W hSw; go_simp; try with_reducible rfl)
            try simp only [keepPut, List.set, Nat.zero_add]
            refine keepTake (i := 8) (v := ?_) [8] rfl (by kernel_rfl) (by kernel_rfl) (by kernel_rfl) (by kernel_rfl) (by kernel_rfl) (by kernel_rfl) (fun _ _ _ h => h) (Or.inl ⟨by rfl, ?_⟩) (by assumption) ?_
            rotate_left
            · (intro W hSw; (try dsimp only at hSw); have f1 := HC1.out W hSw; have f2 := HC2.out W hSw; go_simp; try with_reducible rfl)
            try simp only [keepPut, List.set, Nat.zero_add]
            refine keepTake (i := 9) (v := ?_) [9] rfl (by kernel_rfl) (by kernel_rfl) (by kernel_rfl) (by kernel_rfl) (by kernel_rfl) (by kernel_rfl) (fun _ _ _ h => h) (Or.inl ⟨by rfl, ?_⟩) (by assumption) ?_
            rotate_left
            · (intro W hSw; (try dsimp only at hSw); have f1 := HC1.out W hSw; have f2 := HC2.out W hSw; go_simp; try with_reducible rfl)
            try simp only [keepPut, List.set, Nat.zero_add]
            refine keepTake (i := 10) (v := ?_) [10] rfl (by kernel_rfl) (by kernel_rfl) (by kernel_rfl) (by kernel_rfl) (by kernel_rfl) (by kernel_rfl) (fun _ _ _ h => h) (Or.inl ⟨by rfl, ?_⟩) (by assumption) ?_
            rotate_left
            · (intro W hSw; (try dsimp only at hSw); have f1 := HC1.out W hSw; have f2 := HC2.out W hSw; go_simp; try with_reducible rfl)
            try simp only [keepPut, List.set, Nat.zero_add]
            refine keepTake (i := 11) (v := ?_) [11] rfl (by kernel_rfl) (by kernel_rfl) (by kernel_rfl) (by kernel_rfl) (by kernel_rfl) (by kernel_rfl) (fun _ _ _ h => h) (Or.inl ⟨by rfl, ?_⟩) (by assumption) ?_
            rotate_left
            · (intro W hSw; (try dsimp only at hSw); have f1 := HC1.out W hSw; have f2 := HC2.out W hSw; go_simp; try with_reducible rfl)
            try simp only [keepPut, List.set, Nat.zero_add]
            refine keepTake (i := 12) (v := ?_) [12] rfl (by kernel_rfl) (by kernel_rfl) (by kernel_rfl) (by kernel_rfl) (by kernel_rfl) (by kernel_rfl) (fun _ _ _ h => h) (Or.inl ⟨by rfl, ?_⟩) (by assumption) ?_
            rotate_left
            · (intro W hSw; (try dsimp only at hSw); have f1 := HC1.out W hSw; have f2 := HC2.out W hSw; go_simp; try with_reducible rfl)
            try simp only [keepPut, List.set, Nat.zero_add]
            refine keepAll (rs := [1]) (by kernel_rfl) (by simp) (AllReadyK.cons rfl (fun K hK => ?_) AllReadyK.nil)
            go_simp
            refine hK.out _ _ (hHeld.alloc hHeld.size _) (fun hHeld1 => ?_)
            clear hK K
            try simp only [keepPut, List.set, Nat.zero_add]
            refine keepAll (rs := [13]) (by kernel_rfl) (by simp) (AllReadyK.cons rfl (fun K hK => ?_) AllReadyK.nil)
            refine stepF_append rfl (.tmp 60) (.tmp 71) rfl Try.underlying30 hi0 hz0 hz1 hz2 rfl (by decide) (wi := wc) hHeld1 rfl (n := 0) (xs := []) (World.ownsRow_made _ #[] 0 (by simp) (Nat.zero_le _) rfl) rfl (HS1.out _ hHeld1) (cellsB_one _) (by unfold maxLen; omega) (by omega) ?_
            intro A4 c4 w2 HO1 HB2 _
            replace HO1 : Hid (w2.ownsRow wc.heap.size 5 1 (.slice A4 y c4) y ([] ++ cellsB (x.by_.take y))) := finF HO1 (Nat.zero_add _)
            refine hK.out _ _ HB2 (fun hHeld2 => ?_)
            clear hK K
            try simp only [keepPut, List.set, Nat.zero_add]
            refine keepTake (i := 14) (v := ?_) [15, 14] rfl (by kernel_rfl) (by kernel_rfl) (by kernel_rfl) (by kernel_rfl) (by kernel_rfl) (by kernel_rfl) (fun _ _ _ h => h) (Or.inl ⟨by rfl, ?_⟩) (by assumption) ?_
            rotate_left
            · (intro W hSw; (try dsimp only at hSw); have f1 := HC1.out W hSw; have f2 := HC2.out W hSw; go_simp; try with_reducible rfl)
            try simp only [keepPut, List.set, Nat.zero_add]
            refine keepTake (i := 15) (v := ?_) [15] rfl (by kernel_rfl) (by kernel_rfl) (by kernel_rfl) (by kernel_rfl) (by kernel_rfl) (by kernel_rfl) (fun _ _ _ h => h) (Or.inl ⟨by rfl, ?_⟩) (by assumption) ?_
            rotate_left
            · (intro W hSw; (try dsimp only at hSw); have f1 := HC1.out W hSw; have f2 := HC2.out W hSw; go_simp; try with_reducible rfl)
            try simp only [keepPut, List.set, Nat.zero_add]
            refine keepLast rfl (by kernel_rfl) (fun K hK => ?_)
            have f1 := HC1.out w2 HB2
            have f4 := HFg.out (k * 3 + 1) w2 HB2
            have f5 := Nat.lt_of_lt_of_le hgc HB2.size
            go_simp
            refine hK.out _ _ ?_
            clear hK K
            try simp only [keepPut, List.set, Nat.zero_add]
            refine keepDone (by kernel_rfl) ?_ _
            refine NoPanic.normal ?_
            have e1 := HC1.out w2 HB2
            have e2 := HC2.out w2 HB2
            have fz1 := HFg.out (k * 3 + 1) w2 HB2
            have fz2 := HFg.out (k * 3 + 2) w2 HB2
            have ho : Hid (w2.ownsRow wc.heap.size 5 1 (.slice A4 y c4) y (cellsB (x.by_.take y))) := by
              have := HO1.out
              rwa [List.nil_append] at this
            have HOK : Hid (OkB (x.by_.take y)) := fun z hz => HX.out.ok z (List.mem_of_mem_take hz)
            have h1c := World.cell?_setCell_same w2 ⟨g, k * 3 + 1, none⟩ (.slice A4 y c4) e1
            have h2c := (World.cell?_setCell_other w2 ⟨g, k * 3 + 1, none⟩ ⟨g, k * 3 + 2, none⟩ (.slice A4 y c4) (by simp)).trans e2
            have hfc : ∀ o, (w2.setCell ⟨g, k * 3 + 1, none⟩ (.slice A4 y c4)).frozen? ⟨g, o, none⟩ = false := fun o => by rw [World.frozen?_setCell]; exact HFg.out o w2 HB2
            clear f1 f4 f5 HC1 HC2 HFg HS1 HO1 e1 e2 fz1 fz2
            by_cases hp : 0 < q ∧ bi < 8
            · obtain ⟨hp1, hp2⟩ := hp
              have hy1 : 1 ≤ y := by have := Hy.out; omega
              obtain ⟨r, rfl⟩ : ∃ r, A4 = some ⟨r, 0, none⟩ := by
                obtain ⟨r, cap', hv, _⟩ := ho.out.form (by omega)
                injection hv with hv
                exact ⟨r, hv⟩
              have hrl := ho.out.lt r rfl
              have hgr : g ≠ r := by omega
              have hlt2 : y - 1 < x.by_.length := by have := HXl.out; omega
              obtain ⟨a, ha⟩ : ∃ a : Nat, a = x.by_.getD (y - 1) 0 := ⟨_, rfl⟩
              have ha256 : a < 256 := by rw [ha, List.getD_eq_getElem?_getD, List.getElem?_eq_getElem hlt2]; exact HX.out.ok _ (List.getElem_mem hlt2)
              have hbc : (w2.setCell ⟨g, k * 3 + 1, none⟩ (.slice (some ⟨r, 0, none⟩) y c4)).cell? ⟨r, y - 1, none⟩ = some (.int .u8 a) := by
                rw [World.cell?_setCell_other _ _ _ _ (by simp <;> omega)]
                have := ho.out.cells (g := r) rfl (y - 1) (.int .u8 a) (cellsB_get (by rw [List.getElem?_take, if_pos (by omega), ha, List.getD_eq_getElem?_getD, List.getElem?_eq_getElem hlt2]; rfl))
                rw [Addr.add_lit, Nat.zero_add] at this
                exact this
              have hbf : (w2.setCell ⟨g, k * 3 + 1, none⟩ (.slice (some ⟨r, 0, none⟩) y c4)).frozen? ⟨r, y - 1, none⟩ = false := by
                rw [World.frozen?_setCell]
                rcases ho.out.2 with ⟨e1, _⟩ | ⟨g', cap', cur, e1, _, h2, _⟩
                · cases e1
                · injection e1 with e1
                  injection e1 with e1
                  have e1 : r = g' := congrArg Addr.block e1
                  subst e1
                  simp [World.frozen?, h2]
              obtain ⟨p, hpy⟩ : ∃ p : Nat, p = y - 1 := ⟨_, rfl⟩
              rw [← hpy] at hbc hbf
              have hyp : (y : Int) - 1 = p := by omega
              have hpn : p < y := by omega
              have hx8 : bits .xor .u8 (a : Int) (2 ^ bi % 256) = ((a ^^^ 2 ^ bi : Nat) : Int) := by
                have h8 : 2 ^ bi < 256 := by
                  have : (2 : Nat) ^ bi ≤ 2 ^ 7 := Nat.pow_le_pow_right (by omega) (by omega)
                  omega
                have h9 : ((2 ^ bi : Nat) : Int) = (2 : Int) ^ bi := by simp
                have h10 : (2 : Int) ^ bi % 256 = ((2 ^ bi : Nat) : Int) := by rw [← h9]; exact Int.emod_eq_of_lt (Int.natCast_nonneg _) (by exact_mod_cast h8)
                rw [h10]
                exact u8_xor_nat a (2 ^ bi) ha256 h8
              have HG : Hid (∀ (v : Value), (w2.setCell ⟨g, k * 3 + 1, none⟩ (.slice (some ⟨r, 0, none⟩) y c4)).setCell ⟨r, p, none⟩ v = (w2.setCell ⟨r, p, none⟩ v).setCell ⟨g, k * 3 + 1, none⟩ (.slice (some ⟨r, 0, none⟩) y c4)) := fun v => setCell_far _ _ _ _ _ _ _ hgr
              have Ha := Lib.hid ha
              have Ha8 : Hid (a < 2 ^ 8) := ha256
              have Hp := Lib.hid hpy
              have Hgr := Lib.hid hgr
              have hq1 : decide ((q : Int) > 0) = true := decide_eq_true (by omega)
              have hq2 : decide ((0 : Int) < q) = true := decide_eq_true (by omega)
              have hq3 : decide ((bi : Int) < 8) = true := decide_eq_true (by omega)
              clear ha hpy hy1 hlt2 ha256
              generalize hW3 : (w2.setCell ⟨g, k * 3 + 1, none⟩ (.slice (some ⟨r, 0, none⟩) y c4)) = w3 at *
              have HW3 := Lib.hid hW3
              have hl3 : r < w3.heap.size := by rw [← hW3]; simp; omega
              have hg3 : g < w3.heap.size := by rw [← hW3]; simp; omega
              clear hW3
              go_wp2
              go_region
              all_goals
                have h1d := (World.cell?_setCell_other w3 ⟨r, p, none⟩ ⟨g, k * 3 + 1, none⟩ (.int .u8 ((a ^^^ 2 ^ bi : Nat) : Int)) (by simp <;> omega)).trans h1c
                have h2d := (World.cell?_setCell_other w3 ⟨r, p, none⟩ ⟨g, k * 3 + 2, none⟩ (.int .u8 ((a ^^^ 2 ^ bi : Nat) : Int)) (by simp <;> omega)).trans h2c
                have hfd : ∀ o, (w3.setCell ⟨r, p, none⟩ (.int .u8 ((a ^^^ 2 ^ bi : Nat) : Int))).frozen? ⟨g, o, none⟩ = false := fun o => by rw [World.frozen?_setCell]; exact hfc o
                have HB2' := Lib.hid HB2
                clear HB2 h1c h2c hfc hHeld hHeld1 hHeld2 hbc hbf hx8
                go_wp2
                go_roundw
                case rel =>
                  have hbb : Below wr.heap.size wr (w2.setCell ⟨r, p, none⟩ (.int .u8 ((a ^^^ 2 ^ bi : Nat) : Int))).drew := ((HBc.out.trans (HB2'.out.mono HBc.out.size)).setCell (p := ⟨r, p, none⟩) (Nat.le_trans HBc.out.size hrl.1) _).drew
                  have ho2 := ownB_below (ownB_mono (ownsRow_set ho.out p (.int .u8 ((a ^^^ 2 ^ bi : Nat) : Int))) HBc.out.size) (Below.refl _ _).drew
                  have hset : (cellsB (x.by_.take y)).set p (.int .u8 ((a ^^^ 2 ^ bi : Nat) : Int)) = cellsB ((x.by_.take y).set p (a ^^^ 2 ^ bi)) := by
                    unfold cellsB
                    rw [List.map_set]
                    rfl
                  rw [hset] at ho2
                  have hl' : ((x.by_.take y).set p (a ^^^ 2 ^ bi)).length = y := by rw [List.length_set]; exact Hlen.out
                  have hok2 : OkB ((x.by_.take y).set p (a ^^^ 2 ^ bi)) := fun z hz => by
                    rcases List.mem_or_eq_of_mem_set hz with hz | hz
                    · exact HOK.out z hz
                    · rw [hz]
                      refine Nat.xor_lt_two_pow (n := 8) Ha8.out (Nat.pow_lt_pow_right (by omega) hp2)
                  obtain ⟨T2, g1, g2⟩ := HR.out.setBoth (k := y) Hx.out hbb ho2 hok2 (by have := HXl.out; omega) (by rw [hl']; exact Nat.le_refl _) (by rw [hl']; omega)
                  have hw : ((w2.setCell ⟨r, p, none⟩ (.int .u8 ((a ^^^ 2 ^ bi : Nat) : Int))).drew.setCell ⟨g, k * 3 + 1, none⟩ (.slice (some ⟨r, 0, none⟩) y c4)).setCell ⟨g, k * 3 + 2, none⟩ (.int .i64 y) = (w3.setCell ⟨r, p, none⟩ (.int .u8 ((a ^^^ 2 ^ bi : Nat) : Int))).drew.setCell ⟨g, k * 3 + 2, none⟩ (.int .i64 y) := by
                    rw [HG.out]
                    rfl
                  rw [hw] at g1 g2
                  refine ⟨k + 1, T2, _, _, by omega, by go_num, ⟨?_, g1⟩, Hst.out.trans g2⟩
                  refine crash_step2 HE.out Hx.out (by simpa [flsR] using hlt) Hta.out ?_
                  show (x.s, Fl.mk ((x.by_.take y).set p (a ^^^ 2 ^ bi)) y) = _
                  rw [torn_yes HXl.out Hq.out Hy.out hxs hp1 hp2, Hp.out, Ha.out]
                case measure => simp [intOf]; omega
            · have HP := Lib.hid hp
              have HB2' := Lib.hid HB2
              have hfin : ∀ (w3 : World), Hid (w3 = (w2.setCell ⟨g, k * 3 + 1, none⟩ (.slice A4 y c4)).setCell ⟨g, k * 3 + 2, none⟩ (.int .i64 y) → ∃ (k' : Nat) (T' : Nat → Prop) (v' : Value) (R' : List RE), k' ≤ R.length ∧ Value.int .i64 ((k : Int) + 1) = .int .i64 k' ∧ Hid (flsR R' = crashK (flsR R) ts k' ∧ Rf w3 T' m v' R' wr0 sy) ∧ Hid (Step w T w3 T')) := fun w3 hw3 => by
                subst hw3
                have hbb := HBc.out.trans (HB2'.out.mono HBc.out.size)
                have ho2 := ownB_mono ho.out HBc.out.size
                obtain ⟨T2, g1, g2⟩ := HR.out.setBoth (k := y) Hx.out hbb ho2 HOK.out (by have := HXl.out; omega) (by rw [Hlen.out]; exact Nat.le_refl _) (by rw [Hlen.out]; omega)
                refine ⟨k + 1, T2, _, _, by omega, by go_num, ⟨?_, g1⟩, Hst.out.trans g2⟩
                refine crash_step2 HE.out Hx.out (by simpa [flsR] using hlt) Hta.out ?_
                show (x.s, Fl.mk (x.by_.take y) y) = _
                rw [torn_no HXl.out Hq.out Hy.out hxs HP.out]
              clear HB2 hHeld hHeld1 hHeld2 hp
              by_cases hp1 : 0 < q
              · have hbi8 : decide ((bi : Int) < 8) = false := decide_eq_false (by have := HP.out; omega)
                have hq1 : decide ((q : Int) > 0) = true := decide_eq_true (by omega)
                have hq2 : decide ((0 : Int) < q) = true := decide_eq_true (by omega)
                go_wp2
                go_roundw
                case rel => exact (hfin _).out rfl
                case measure => simp [intOf]; omega
              · have hq1 : decide ((q : Int) > 0) = false := decide_eq_false (by omega)
                have hq2 : decide ((0 : Int) < q) = false := decide_eq_false (by omega)
                go_wp2
                go_roundw
                case rel => exact (hfin _).out rfl
                case measure => simp [intOf]; omega
    · obtain rfl : k = R.length := by omega
      have hd : decide (R.length < R.length) = false := decide_eq_false (Nat.lt_irrefl _)
      go_wp2
      go_end0
      exact ⟨rfl, T', ⟨_, _, Hd.out.1.trans (by unfold crashL; simp [flsR]), Hd.out.2⟩, Hst.out⟩
end Go.Proofs.Ytheojokfgndheaa
