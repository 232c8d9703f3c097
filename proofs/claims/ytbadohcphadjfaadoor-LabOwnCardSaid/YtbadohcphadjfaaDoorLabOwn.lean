/- The walk of watchfirelaw01.LabOwn. -/
import Derived.Test.YtbadohcphadjfaaDoorMerge
import Derived.Test.YtbadohcphadjfaaDoorAwake
import Derived.Test.YtbadohcphadjfaaDoorRef
namespace Go.Proofs.YtbadohcphadjfaaDoor.labOwn
open Go.RowKit Go.Proofs.YtbadohcphadjfaaDoor

theorem own_cap1 {W : World} {base n c : Nat} {e : TypeId} {size : Nat} {A : Option Addr} {xs : List Value} (h : W.ownsRow base e size (.slice A (n + 1) c) (n + 1) xs) : (n : Int) + 1 ≤ (c : Int) := by
  rcases h.2 with ⟨h1, _⟩ | ⟨g', cap', cur, h1, _, _, hnc, _⟩
  · injection h1 with _ h2; omega
  · injection h1 with _ _ h3; omega
theorem own_cap {W : World} {base n c : Nat} {e : TypeId} {size : Nat} {A : Option Addr} {xs : List Value} (h : W.ownsRow base e size (.slice A (n + 1) c) (n + 1) xs) : (n : Int) ≤ (c : Int) := by
  rcases h.2 with ⟨h1, _⟩ | ⟨g', cap', cur, h1, _, _, hnc, _⟩
  · injection h1 with _ h2; omega
  · injection h1 with _ _ h3; omega

/-- The m pairs at A lie in a block of their own, from B on and below G. -/
def Room (B G : Nat) (A : Option Addr) (m : Nat) (W : World) : Prop :=
  0 < m → ∃ g cur, A = some ⟨g, 0, none⟩ ∧ B ≤ g ∧ g < G ∧ W.heap[g]? = some (.cells cur 48 (0, 0)) ∧ m * 2 ≤ cur.size
theorem Room.of_own {W : World} {B B' m c : Nat} {A : Option Addr} {xs : List Value} (h : W.ownsRow B 48 2 (.slice A m c) m xs) (hB : B' ≤ B) : Room B' W.heap.size A m W := fun h0 => by
  rcases h.2 with ⟨_, h1⟩ | ⟨g, cap, cur, hv, hb, hg, hmc, _, hsz, _⟩
  · omega
  · injection hv with h1 _ h3
    exact ⟨g, cur, h1, by omega, (Array.getElem?_eq_some_iff.1 hg).1, hg, by omega⟩
theorem Room.below {W W' : World} {B G m : Nat} {A : Option Addr} (h : Room B G A m W) (hb : Below G W W') : Room B G A m W' := fun h0 => by
  obtain ⟨g, cur, e, h1, h2, h3, h4⟩ := h h0
  exact ⟨g, cur, e, h1, h2, (hb.block g h2).trans h3, h4⟩
theorem Room.more {W : World} {B G G' m : Nat} {A : Option Addr} (h : Room B G A m W) (hG : G ≤ G') : Room B G' A m W := fun h0 => by
  obtain ⟨g, cur, e, h1, h2, h3, h4⟩ := h h0
  exact ⟨g, cur, e, h1, by omega, h3, h4⟩
theorem heap_set {W : World} {g q : Nat} {cur : Array Value} {e : TypeId} {fz : Nat × Nat} (h : W.heap[g]? = some (.cells cur e fz)) (v : Value) : (W.setCell ⟨g, q, none⟩ v).heap[g]? = some (.cells (cur.setIfInBounds q v) e fz) := by
  obtain ⟨h1, h2⟩ := Array.getElem?_eq_some_iff.1 h
  unfold World.setCell
  simp [Array.getElem_modify, h1, h2]
theorem Room.set {W : World} {B G m : Nat} {A : Option Addr} (h : Room B G A m W) (g q : Nat) (v : Value) : Room B G A m (W.setCell ⟨g, q, none⟩ v) := fun h0 => by
  obtain ⟨g', cur, e, h1, h2, h3, h4⟩ := h h0
  by_cases hg : g' = g
  · subst hg
    exact ⟨g', _, e, h1, h2, heap_set h3 v, by simpa using h4⟩
  · exact ⟨g', cur, e, h1, h2, (RowKit.Below.heap_setCell _ _ _ _ hg).trans h3, h4⟩

theorem own_max {W : World} {base n c : Nat} {e : TypeId} {size : Nat} {A : Option Addr} {xs : List Value} (h : W.ownsRow base e size (.slice A n c) n xs) : n ≤ maxLen := by
  rcases h.2 with ⟨_, h1⟩ | ⟨g', cap', cur, _, _, _, hnc, hc, _⟩
  · omega
  · omega

/-- The three rows, in the block G, as they stand while they are written over. -/
def Good (B G : Nat) (W0 W : World) : Prop :=
  Below B W0 W ∧ ∀ k, k < 3 → ∃ A m c, W.cell? ⟨G, k, none⟩ = some (.slice A m c) ∧ m ≤ maxLen ∧ Room B G A m W
theorem Good.set {B G : Nat} {W0 W : World} (h : Good B G W0 W) (g q : Nat) (v : Value) (hB : B ≤ g) (hG : g < G) : Good B G W0 (W.setCell ⟨g, q, none⟩ v) := by
  refine ⟨h.1.setCell hB v, fun k hk => ?_⟩
  obtain ⟨A, m, c, h1, h2, h3⟩ := h.2 k hk
  refine ⟨A, m, c, ?_, h2, h3.set g q v⟩
  refine (World.cell?_setCell_other _ _ _ _ (fun e => ?_)).trans h1
  have := congrArg Addr.block e
  simp at this
  omega
theorem Good.start {B : Nat} {W : World} {A1 A2 A3 : Option Addr} {m1 m2 m3 c1 c2 c3 : Nat} {t : TypeId} (hB : B ≤ W.heap.size) (h1 : Room B W.heap.size A1 m1 W) (h2 : Room B W.heap.size A2 m2 W) (h3 : Room B W.heap.size A3 m3 W) (k1 : m1 ≤ maxLen) (k2 : m2 ≤ maxLen) (k3 : m3 ≤ maxLen) :
    Good B W.heap.size W (W.alloc (.cells #[.slice A1 m1 c1, .slice A2 m2 c2, .slice A3 m3 c3] t)) := by
  have hb : Below W.heap.size W (W.alloc (.cells #[.slice A1 m1 c1, .slice A2 m2 c2, .slice A3 m3 c3] t)) := (RowKit.Below.refl _ _).alloc (Nat.le_refl _) _
  refine ⟨hb.mono hB, fun k hk => ?_⟩
  rcases k with _ | _ | _ | k
  · exact ⟨_, _, _, World.cell?_alloc_at _ _ _ _ rfl, k1, h1.below hb⟩
  · exact ⟨_, _, _, World.cell?_alloc_at _ _ _ _ rfl, k2, h2.below hb⟩
  · exact ⟨_, _, _, World.cell?_alloc_at _ _ _ _ rfl, k3, h3.below hb⟩
  · omega
theorem cell_in {W : World} {g q : Nat} {cur : Array Value} {e : TypeId} (h : W.heap[g]? = some (.cells cur e (0, 0))) (hq : q < cur.size) : W.cell? ⟨g, q, none⟩ = some cur[q] ∧ W.frozen? ⟨g, q, none⟩ = false := by
  constructor
  · simp [World.cell?, h, hq]
  · simp [World.frozen?, h]
theorem rdS_one (w : World) (s : ByteArray) (t : TypeId) : RdS (w.alloc (.cells #[.string s] t)) (w.alloc (.cells #[.string s] t)).heap.size (some ⟨w.heap.size, 0, none⟩) [s] := fun _ => by
  refine ⟨_, _, rfl, by simp, fun i u hi => ?_⟩
  rcases i with _ | i
  · simp at hi; subst hi
    exact (World.cell?_alloc_at _ _ _ _ rfl)
  · simp at hi
theorem rdS_two (w : World) (s u : ByteArray) (t : TypeId) : RdS (w.alloc (.cells #[.string s, .string u] t)) (w.alloc (.cells #[.string s, .string u] t)).heap.size (some ⟨w.heap.size, 0, none⟩) [s, u] := fun _ => by
  refine ⟨_, _, rfl, by simp, fun i r hi => ?_⟩
  rcases i with _ | _ | i
  · simp at hi; subst hi
    exact (World.cell?_alloc_at _ _ _ _ rfl)
  · simp at hi; subst hi
    exact (World.cell?_alloc_at _ _ _ _ rfl)
  · simp at hi

set_option maxRecDepth 100000 in
set_option maxHeartbeats 4000000 in
theorem walk (A : Option Addr) (n c : Nat) (l : List Pr) (x : Pr) (w : World) (hn : n = l.length) (hA : OkA A n) (hnx : n ≤ maxLen) (hr : RdP w w.heap.size A l) :
    Calls Tryd.prog 7 #[.slice A n c, .agg #[.string x.1, .string x.2]] w fun e w' => e = .returned (.bool true) ∧ Below w.heap.size w w' := by
  obtain ⟨i0, hi, hz0, hz1, hz2⟩ := info_parts Tryd.infoP
  have Ha := Lib.hid awake_any
  have Hn := Lib.hid hn
  have Hr := Lib.hid hr
  have HA := Lib.hid hA
  clear hn hr hA
  unfold maxLen at hnx
  by_cases h12 : 12 < n
  · have e1 : decide ((12 : Int) < (n : Int)) = true := decide_eq_true (by omega)
    go_enter Tryd.func7, Tryd.ntmps7
    go_wp2_with fail
    refine (Ha.out _).mono ?_
    rintro e w1 ⟨rfl, hb1⟩
    go_wp2
    go_ret
    exact ⟨rfl, ((Below.refl _ _).alloc (Nat.le_refl _) _).trans (hb1.mono (by simp))⟩
  · have e1 : decide ((12 : Int) < (n : Int)) = false := decide_eq_false (by omega)
    go_enter Tryd.func7, Tryd.ntmps7
    go_wp2_with fail
    refine (Ha.out _).mono ?_
    rintro e wi ⟨rfl, hb1⟩
    have c0 := (hb1.cell (p := ⟨w.heap.size, 0, none⟩) (by simp)).trans (World.cell?_alloc_at _ _ _ _ rfl)
    have c1 := (hb1.cell (p := ⟨w.heap.size, 1, none⟩) (by simp)).trans (World.cell?_alloc_at _ _ _ _ rfl)
    have hlt1 : w.heap.size < wi.heap.size := by have := hb1.size; simp at this; omega
    have hbw : Below w.heap.size w wi := ((Below.refl _ _).alloc (Nat.le_refl _) _).trans (hb1.mono (by simp))
    clear hb1
    obtain ⟨g3, hg3⟩ : ∃ g, w.heap.size = g := ⟨_, rfl⟩
    have Hg3 := Lib.hid hg3
    rw [hg3] at c0 c1 hlt1 hbw
    rw [hg3]
    have hgw : g3 ≤ w.heap.size := Nat.le_of_eq hg3.symm
    clear hg3
    have HC1 : Hid (∀ W, Below wi.heap.size wi W → W.cell? ⟨g3, 0, none⟩ = some (.string x.1)) := fun W hW => (hW.cell (p := ⟨g3, 0, none⟩) hlt1).trans c0
    have HC2 : Hid (∀ W, Below wi.heap.size wi W → W.cell? ⟨g3, 1, none⟩ = some (.string x.2)) := fun W hW => (hW.cell (p := ⟨g3, 1, none⟩) hlt1).trans c1
    have Hrw : Hid (RdP w g3 A l) := by show RdP w g3 A l; rw [← Hg3.out]; exact Hr.out
    have HS1 : Hid (∀ W, Below wi.heap.size wi W → Src W A n 2 (cellsP l)) := fun W hW => src_of_rd (B := g3) ((Hrw.out.below hbw).below (hW.mono (by omega))) Hn.out
    have hq1 : ((wi.alloc (.cells #[] 48)).alloc (.cells #[.string x.1, .string x.2] 48)).heap[wi.heap.size + 1]? = some (.cells #[.string x.1, .string x.2] 48) := by
      have h := heap_alloc_new (wi.alloc (.cells #[] 48)) (.cells #[.string x.1, .string x.2] 48)
      rwa [World.size_alloc] at h
    have hq2 : ((wi.alloc (.cells #[.string x.1, .string x.2] 48)).alloc (.cells #[] 48)).heap[wi.heap.size]? = some (.cells #[.string x.1, .string x.2] 48) :=
      (RowKit.Below.heap_alloc _ _ _ (by simp)).trans (heap_alloc_new _ _)
    replace hq1 := Lib.hid hq1; replace hq2 := Lib.hid hq2
    go_wp2
    go_region_law (first
      | (refine step_append_b rfl (.tmp 19) (.tmp 20) rfl Tryd.underlying24 hi hz0 hz1 hz2 rfl (by decide) (wi := wi) ((RowKit.Below.refl _ _).alloc (by simp) _).drew rfl (World.ownsRow_made _ #[] 0 (by simp) (Nat.zero_le _) rfl).drew rfl (HS1.out _ ((RowKit.Below.refl _ _).alloc (by simp) _).drew) (cellsP_one _) (by unfold maxLen; omega) (by omega) ?_
         intro A4 c4 w1 HO1 HB1 HK1
         replace HO1 : Hid (w1.ownsRow wi.heap.size 48 2 (.slice A4 n c4) n (cellsP l)) := fin_own HO1 (Nat.le_refl _) (Nat.zero_add n) rfl rfl
         clear HK1
         have f1 := HC1.out w1 HB1; have f2 := HC2.out w1 HB1; have g1 := HB1.size)
      | (refine step_append_b rfl (.tmp 19) (.tmp 20) rfl Tryd.underlying24 hi hz0 hz1 hz2 rfl (by decide) (wi := wi) (((RowKit.Below.refl _ _).alloc (by simp) _).alloc (by simp) _).drew rfl ((World.ownsRow_made _ #[] 0 (by simp) (Nat.zero_le _) rfl).alloc _).drew rfl (HS1.out _ (((RowKit.Below.refl _ _).alloc (by simp) _).alloc (by simp) _).drew) (cellsP_one _) (by unfold maxLen; omega) (by omega) ?_
         intro A4 c4 w1 HO1 HB1 HK1
         replace HO1 : Hid (w1.ownsRow wi.heap.size 48 2 (.slice A4 n c4) n (cellsP l)) := fin_own HO1 (Nat.le_refl _) (Nat.zero_add n) rfl rfl; have hbx := Lib.hid (HK1 _ _ hq1.out (fun q hq hn => by have h2 := (Option.some.inj hq : wi.heap.size = q); omega))
         clear HK1
         have f1 := HC1.out w1 HB1; have f2 := HC2.out w1 HB1; have g1 := HB1.size)
      | (refine step_append_b rfl (.tmp 21) (.tmp 23) rfl Tryd.underlying24 hi hz0 hz1 hz2 rfl (by decide) (wi := wi) (RowKit.Below.alloc HB1 (by omega) _) rfl (HO1.out.alloc _) rfl (src_box (heap_alloc_new _ _)) (cellsP_one [x]) (by unfold maxLen; omega) (by omega) ?_
         intro A5 c5 w2 HO2 HB2 _
         have k2 := own_cap HO2; have k3 := own_cap1 HO2; replace HO2 := Lib.hid HO2)
      | (refine step_append_b rfl (.tmp 21) (.tmp 23) rfl Tryd.underlying24 hi hz0 hz1 hz2 rfl (by decide) (wi := wi) HB1 rfl HO1.out rfl (src_box hbx.out) (cellsP_one [x]) (by unfold maxLen; omega) (by omega) ?_
         intro A5 c5 w2 HO2 HB2 _
         have k2 := own_cap HO2; have k3 := own_cap1 HO2; replace HO2 := Lib.hid HO2)
      | (refine step_append_b rfl (.tmp 19) (.tmp 20) rfl Tryd.underlying24 hi hz0 hz1 hz2 rfl (by decide) (wi := wi) (((RowKit.Below.refl _ _).alloc (by simp) _).alloc (by simp) _).drew rfl (own_made2 _ _ _ _).drew rfl (HS1.out _ (((RowKit.Below.refl _ _).alloc (by simp) _).alloc (by simp) _).drew) (cellsP_one _) (by unfold maxLen; omega) (by omega) ?_
         intro A4 c4 w1 HO1 HB1 HK1
         replace HO1 : Hid (w1.ownsRow wi.heap.size 48 2 (.slice A4 n c4) n (cellsP l)) := fin_own HO1 (Nat.le_refl _) (Nat.zero_add n) rfl rfl; have hbx := Lib.hid (HK1 _ _ hq2.out (fun q hq hn => by have h2 := (Option.some.inj hq : wi.heap.size + 1 = q); omega))
         clear HK1
         have f1 := HC1.out w1 HB1; have f2 := HC2.out w1 HB1; have g1 := HB1.size)
      | fail)
    all_goals (
      obtain ⟨g5, cap5, hv5, hbg5, hlt5⟩ := HO2.out.form (by omega)
      obtain ⟨rfl, rfl⟩ : A5 = some ⟨g5, 0, none⟩ ∧ c5 = cap5 := by injection hv5 with h1 _ h3; exact ⟨h1, h3⟩
      clear hv5
      have hbw2 := hbw.trans (HB2.mono (by omega))
      have hge2 := hbw2.size
      have Hall : Hid (RdP w2 w2.heap.size (some ⟨g5, 0, none⟩) (l ++ [x])) := RdP.of_own (base := wi.heap.size) (n := n + 1) (c := c5) (by rw [cellsP_append]; exact HO2.out)
      have Hin : Hid (RdP w2 w2.heap.size (some ⟨g5, 0, none⟩) l) := fun h0 => by
        obtain ⟨b, o, e, hb, hc⟩ := Hall.out (by simp)
        exact ⟨b, o, e, hb, fun i p hp => hc i p (by rw [List.getElem?_append_left (List.getElem?_eq_some_iff.1 hp).1]; exact hp)⟩
      clear HO1 HB1 f1 f2 g1 hq1 hq2 HC1 HC2 HS1 HO2)
    all_goals (
      have Hmk := Lib.hid (make_any (some ⟨g5, 0, none⟩) n c5 l w2 Hn.out ⟨fun h => (by cases h), fun a h => (by cases h; exact ⟨_, _, rfl⟩)⟩ (by omega) Hin.out)
      go_wp2_with fail
      refine Hmk.out.mono ?_
      rintro e w3 ⟨v3, rfl, hown3, hb3⟩
      have Hown3 := Lib.hid hown3
      clear hown3
      obtain ⟨A3, c3, rfl⟩ := own_slice Hown3.out
      have hbw3 := hbw2.trans (hb3.mono (by omega))
      have hge3 := hb3.size
      have Hin3 := Lib.hid ((Hin.out.below hb3).more hge3)
      have Hall3 := Lib.hid ((Hall.out.below hb3))
      go_wp2_with fail
      refine (merge_any (some ⟨g5, 0, none⟩) n c5 l none 0 0 [] w3 Hn.out rfl (by omega) Hin3.out RdP.none_).mono ?_
      rintro e w4 ⟨v4, rfl, hown4, hb4⟩
      have Hown4 := Lib.hid hown4
      clear hown4
      obtain ⟨A4', c4', rfl⟩ := own_slice Hown4.out
      have hbw4 := hbw3.trans (hb4.mono (by omega))
      have hge4 := hb4.size
      have Hown3 := Lib.hid (own_below Hown3.out hb4)
      have Hin4 := Lib.hid ((Hin3.out.below hb4).more hge4)
      have Hall4 := Lib.hid ((Hall3.out.below (hb4.mono hge3)))
      go_wp2_with fail
      have Hall4 := Hall4
      have hB3 : w2.heap.size ≤ w3.heap.size := hge3
      have R3 : Room w2.heap.size w4.heap.size A3 (makeP l).1.length w4 := Room.of_own Hown3.out (Nat.le_refl _)
      have R4 : Room w2.heap.size w4.heap.size A4' (mergeP l []).1.length w4 := Room.of_own Hown4.out hge3
      have m3 := own_max Hown3.out
      have m4 := own_max Hown4.out
      clear Hown3 Hown4 Hin Hall Hin3 Hall3 Hmk
      have hbw2c : Below wi.heap.size wi w4 := (HB2.trans (hb3.mono (by omega))).trans (hb4.mono (by omega))
      have F1 := (hbw2c.cell (p := ⟨g3, 0, none⟩) hlt1).trans c0
      have F2 := (hbw2c.cell (p := ⟨g3, 1, none⟩) hlt1).trans c1
      clear hbw2c c0 c1 HB2
      refine (only_any (some ⟨g5, 0, none⟩) n c5 l (some ⟨w4.heap.size, 0, none⟩) 2 2 [⟨#[97]⟩, ⟨#[98]⟩] _ Hn.out rfl (by omega) (by decide) ((Hin4.out.below ((RowKit.Below.refl _ _).alloc (Nat.le_refl _) _)).more (by simp)) (rdS_two w4 ⟨#[97]⟩ ⟨#[98]⟩ _)).mono ?_
      rintro e w5 ⟨v5, rfl, hown5, hb5⟩
      obtain ⟨A5', c5', rfl⟩ := own_slice hown5
      have hb45 : Below w4.heap.size w4 w5 := ((RowKit.Below.refl _ _).alloc (Nat.le_refl _) _).trans (hb5.mono (by simp))
      have hge5 := hb45.size
      have R5 : Room w2.heap.size w5.heap.size A5' (onlyP l [⟨#[97]⟩, ⟨#[98]⟩] true).length w5 := Room.of_own hown5 (by simp; omega)
      have m5 := own_max hown5
      have R3 := (R3.below hb45).more hge5
      have R4 := (R4.below hb45).more hge5
      clear hown5 hb5
      generalize (onlyP l [⟨#[97]⟩, ⟨#[98]⟩] true).length = q5 at *
      have Hin5 := Hin4.out.below hb45
      go_wp2_with fail
      refine (without_any (some ⟨g5, 0, none⟩) n c5 l (some ⟨w5.heap.size, 0, none⟩) 1 1 [⟨#[97]⟩] _ Hn.out rfl (by omega) (by decide) ((Hin5.below ((RowKit.Below.refl _ _).alloc hge5 _)).more (by simp; omega)) (rdS_one w5 ⟨#[97]⟩ _)).mono ?_
      rintro e w6 ⟨v6, rfl, _, hb6⟩
      have hb56 : Below w5.heap.size w5 w6 := ((RowKit.Below.refl _ _).alloc (Nat.le_refl _) _).trans (hb6.mono (by simp))
      have hge6 := hb56.size
      have R3 := (R3.below hb56).more hge6
      have R4 := (R4.below hb56).more hge6
      have R5 := (R5.below hb56).more hge6
      have hbB : Below w2.heap.size w4 w6 := (hb45.mono (by omega)).trans (hb56.mono (by omega))
      have Hall6 := Lib.hid (Hall4.out.below hbB)
      have hbw6 : Below g3 w w6 := hbw4.trans (hbB.mono (by omega))
      have hBG : w2.heap.size ≤ w6.heap.size := by omega
      have G1 : Hid (w6.cell? ⟨g3, 0, none⟩ = some (.string x.1)) := (hbB.cell (p := ⟨g3, 0, none⟩) (by show g3 < _; omega)).trans F1
      have G2 : Hid (w6.cell? ⟨g3, 1, none⟩ = some (.string x.2)) := (hbB.cell (p := ⟨g3, 1, none⟩) (by show g3 < _; omega)).trans F2
      have hg3B : g3 < w2.heap.size := by omega
      clear Hin5 Hin4 Hall4 hb6 hbw hbw2 hbw3 hbw4 F1 F2 hb3 hb4 hB3 hge3 hge4 hge5 hge6 hb45 hb56 hbB
      have HG := Lib.hid (Good.start (c1 := c3) (c2 := c4') (c3 := c5') (t := 24) hBG R3 R4 R5 m3 m4 m5)
      generalize (makeP l).1.length = q3 at *
      generalize (mergeP l []).1.length = q4 at *
      generalize w2.heap.size = B at *
      clear R3 R4 R5 m3 m4 m5
      go_wp2_with fail
      go_loopw [12, 13, 49] (fun _ _ i wr => ∃ k : Nat, k ≤ 3 ∧ i = .int .i64 k ∧ Hid (Good B w6.heap.size w6 wr)) (fun _ _ i _ => 3 - (intOf i).toNat)
      case atStart => exact ⟨0, by omega, rfl, HG⟩
      case round =>
        obtain ⟨k, hk, rfl, HGr⟩ := hrel
        by_cases hlt : k < 3
        · obtain ⟨Ar, mr, cr, hcr, hmr, hR⟩ := HGr.out.2 k hlt
          have HR := Lib.hid hR
          clear hR
          unfold maxLen at hmr
          go_wp2
          go_loopw [13, 55] (fun _ i wr => ∃ j : Nat, j ≤ mr ∧ i = .int .i64 j ∧ Hid (Good B w6.heap.size w6 wr) ∧ Hid (Room B w6.heap.size Ar mr wr)) (fun _ i _ => mr - (intOf i).toNat)
          case atStart => exact ⟨0, Nat.zero_le _, rfl, HGr, HR⟩
          case round =>
            obtain ⟨j, hj, rfl, HGs, HRs⟩ := hrel
            by_cases hjm : j < mr
            · obtain ⟨g, cur, rfl, hBg, hgG, hg, hsz⟩ := HRs.out (by omega)
              obtain ⟨d1, f1⟩ := cell_in (q := j * 2) hg (by omega)
              obtain ⟨d2, f2⟩ := cell_in (q := j * 2 + 1) hg (by omega)
              clear hg
              have HGs2 := (HGs.out.set g (j * 2) (.string ⟨#[122, 122]⟩) hBg hgG).set g (j * 2 + 1) (.string ⟨#[]⟩) hBg hgG
              have HRs2 := (HRs.out.set g (j * 2) (.string ⟨#[122, 122]⟩)).set g (j * 2 + 1) (.string ⟨#[]⟩)
              replace HGs2 := Lib.hid HGs2
              replace HRs2 := Lib.hid HRs2
              go_wp2
              exact ⟨⟨j + 1, by omega, by go_num, HGs2, HRs2⟩, by simp [intOf]; omega⟩
            · have hjm : j = mr := by omega
              subst hjm
              go_wp2
              exact ⟨⟨k + 1, by omega, by go_num, HGs⟩, by simp [intOf]; omega⟩
        · have hk3 : k = 3 := by omega
          subst hk3
          have hb6r := HGr.out.1
          have p1 := (hb6r.cell (p := ⟨g3, 0, none⟩) hg3B).trans G1.out
          have p2 := (hb6r.cell (p := ⟨g3, 1, none⟩) hg3B).trans G2.out
          have Hall7 := Hall6.out.below hb6r
          have hin7 : RdP wr B (some ⟨g5, 0, none⟩) l := fun h0 => by
            obtain ⟨b, o, e, hb, hc⟩ := Hall7 (by simp)
            exact ⟨b, o, e, hb, fun i p hp => hc i p (by rw [List.getElem?_append_left (List.getElem?_eq_some_iff.1 hp).1]; exact hp)⟩
          have hat : (l ++ [x])[n]? = some x := by rw [Hn.out]; simp
          obtain ⟨b7, o7, e7, hb7, hc7⟩ := Hall7 (by simp)
          injection e7 with e7
          injection e7 with e7 e8
          subst e7; subst e8
          obtain ⟨p3, p4⟩ := hc7 n x hat
          rw [Nat.zero_add] at p3 p4
          have hrl : RdP wr B A l := ((Hrw.out.below hbw6).below (hb6r.mono (by omega))).more (by omega)
          have Hq : Hid (∀ m, Calls Tryd.prog 19 #[.slice (some ⟨g5, 0, none⟩) n c5, .slice A n c] (wr.drewN m) fun e w' => e = .returned (.bool true) ∧ ∃ q, w' = (wr.drewN m).drewN q) := fun m => by
            have h := rsame_any (some ⟨g5, 0, none⟩) n c5 l A n c l (wr.drewN m) B Hn.out Hn.out (by unfold maxLen; omega) (hin7.below (below_drewN (RowKit.Below.refl _ _) m)) (hrl.below (below_drewN (RowKit.Below.refl _ _) m))
            rw [decide_eq_true rfl] at h
            exact h
          have hfin : Hid (Below w.heap.size w wr) := by
            show Below w.heap.size w wr
            rw [Hg3.out]
            exact hbw6.trans (hb6r.mono (by omega))
          clear hat Hall7 hin7 hrl hc7 hbw6 hb6r Hall6 G1 G2 HG HGr Hrw
          go_wp2_with fail
          go_quiet ((go_at_call 19; exact Calls.quiet_of (Hq.out _)))
          go_wp2_with fail
          go_ret
          exact ⟨rfl, below_drewN hfin.out _⟩)
end Go.Proofs.YtbadohcphadjfaaDoor.labOwn
