/- Several texts in one: SpList. -/
import Derived.Test.YtgcfofnlgdfmoaaMf33
/- Layer 8: clones, List. -/
namespace Go.Proofs.Ytgcfofnlgdfmoaa
open Go.RowKit

/-- the same entries, but for where their labels lie -/
def SameE (L M : List Ett) : Prop := L.map (fun e => (e.i, e.x)) = M.map (fun e => (e.i, e.x))
/-- entries at A whose labels lie below block B, or in the last row -/
structure RowE (w : World) (base : Nat) (v : Value) (M : List Ett) : Prop where
  own : w.ownsRow base 68 14 v M.length (cellsE M)
  ok : ∀ e ∈ M, EntOk w (fun k => v.ownBlock = some k) e
theorem SameE.len {L M : List Ett} (h : SameE L M) : L.length = M.length := by have := congrArg List.length h; simpa using this
theorem SameE.get {L M : List Ett} (h : SameE L M) (k : Nat) : (L[k]?.map fun e => (e.i, e.x)) = M[k]?.map fun e => (e.i, e.x) := by
  have := congrArg (·[k]?) h
  simpa using this
theorem SameE.set {L M : List Ett} {k : Nat} {e m : Ett} (h : SameE L M) (hk : M[k]? = some m) (he : e.i = m.i ∧ e.x = m.x) : SameE L (M.set k e) := by
  unfold SameE at h ⊢
  rw [h]
  refine List.ext_getElem? fun j => ?_
  rw [List.getElem?_map, List.getElem?_map, List.getElem?_set]
  split
  · rename_i hj
    subst hj
    split
    · rw [hk]; simp [he.1, he.2]
    · rename_i hl; rw [List.getElem?_eq_none (by omega)]
  · rfl

set_option maxRecDepth 100000 in
set_option maxHeartbeats 400000 in
theorem clone_S (A : Option Addr) (n c : Nat) (L : List Ett) (w : World) (hn : n = L.length) (hm : n ≤ 100000) (hA : A = none → n = 0) (hs : ∀ W, Below w.heap.size w W → Src W A n 14 (cellsE L)) :
    Calls Try.prog 63 #[.slice A n c] w fun e w' => ∃ A' c', e = .returned (.slice A' n c') ∧ w'.ownsRow w.heap.size 68 14 (.slice A' n c') n (cellsE L) ∧ Below w.heap.size w w' := by
  obtain ⟨i0, hi0, hz0, hz1, hz2⟩ := info_parts Try.infoEnt
  have q22 : ∀ (w : World) (a : Option Addr) (n c n' c' : Nat), (binOp .eql 63 (.slice a n c) (.slice none n' c')).run Try.prog w = .ok (.bool a.isNone) w := fun w a n c n' c' => Lib.run_eql_slice_nil w _ _ a n c n' c' Try.underlying63
  cases A with
  | none =>
    obtain rfl : n = 0 := hA rfl
    obtain rfl : L = [] := List.eq_nil_of_length_eq_zero hn.symm
    clear hn hs hA
    go_enter Try.func63, Try.ntmps63
    go_wp2
    go_ret
    exact ⟨none, 0, rfl, World.ownsRow_nil _ _ _ _, Below.refl _ _⟩
  | some a =>
    have hba : Below w.heap.size w (w.alloc (.cells #[] 68)) := (Below.refl _ _).alloc (Nat.le_refl _) _
    have HS := Lib.hid (hs _ hba)
    have HBA := Lib.hid hba
    clear hs hba hn hA
    go_enter Try.func63, Try.ntmps63
    go_wp2_with (at_builtin; (
      refine wpList_append_src (base := w.heap.size) rfl _ _ rfl Try.underlying63 hi0 hz0 hz1 hz2 rfl (by decide) rfl (World.ownsRow_made w #[] 0 (Nat.le_refl _) (by decide) rfl) rfl HS.out (cellsE_one L) (by unfold maxLen; omega) (by omega) HBA.out.size ?_
      intro v9 w9 ho9 hg9 hb9
      have hlow : Below w.heap.size w w9 := HBA.out.trans ⟨hg9.os, hg9.tape, hg9.output, hg9.size, fun k hk => hg9.block k (Nat.lt_of_lt_of_le hk HBA.out.size) (fun e => by injection e with e; have e : k = w.heap.size := e; omega)⟩
      rw [Nat.zero_add, List.nil_append] at ho9
      have HO9 := Lib.hid ho9
      have HL9 := Lib.hid hlow
      clear ho9 hlow hg9 hb9))
    obtain ⟨A', c', hv⟩ := own_slice HO9.out
    subst hv
    go_wp2
    go_ret
    exact ⟨A', c', rfl, HO9.out, HL9.out⟩
theorem iclone_C (x : It) (A : Option Addr) (n c : Nat) (w : World) (hn : n = x.l.length) (hA : A = none → n = 0) (hm : n * 32 ≤ 140737488351232) (hr : RdP w w.heap.size A x.l) :
    Calls Try.prog 75 #[.agg (itC x A c).toArray] w fun e w' => ∃ A' c', e = .returned (.agg (itC x A' c').toArray) ∧ w'.ownsRow w.heap.size 151 2 (.slice A' x.l.length c') x.l.length (cellsP x.l) ∧ Below w.heap.size w w' := by
  subst hn
  refine (iclone_any x A x.l.length c w rfl hA hm hr).mono ?_
  rintro e w' ⟨A', n', c', h1, h2, h3, h4⟩
  subst h2
  exact ⟨A', c', h1, h3, h4⟩
set_option maxRecDepth 100000 in
set_option maxHeartbeats 2000000 in
/-- entries with labels of their own -/
theorem clones_any (A : Option Addr) (n c : Nat) (L : List Ett) (w : World) (hn : n = L.length) (hm : n ≤ 100000) (hA : A = none → n = 0) (hs : ∀ W, Below w.heap.size w W → Src W A n 14 (cellsE L)) (hok : OkE w L) :
    Calls Try.prog 48 #[.slice A n c] w fun e w' => ∃ A' c' M, e = .returned (.slice A' n c') ∧ SameE L M ∧ RowE w' w.heap.size (.slice A' n c') M ∧ Below w.heap.size w w' := by
  have HCL := Lib.hid (clone_S A n c L w hn hm hA hs)
  have HN := Lib.hid hn
  have HO := Lib.hid hok
  clear hn hok hs hA
  go_enter Try.func48, Try.ntmps48
  go_wp2_with fail
  refine HCL.out.mono ?_
  rintro _ w1 ⟨A', c', rfl, ho1, hb1⟩
  have hr1 : RowE w1 w.heap.size (.slice A' n c') L := ⟨by rw [← HN.out]; exact ho1, fun e he => by
    have q := HO.out e he
    have qb := q.below hb1
    exact ⟨q.ok, q.sh, q.ln, q.lb, q.ix, q.nil, qb.rd, fun a ha h0 hk => by have h1 := rdP_lt q.rd ha h0; have h2 := (ho1.lt _ hk).1; omega⟩⟩
  have HR1 := Lib.hid hr1
  have HB1 := Lib.hid hb1
  clear ho1 hb1 hr1 HCL HO
  go_wp2
  go_loopw [10] (fun iv wx => ∃ (k : Nat) (M : List Ett), k ≤ n ∧ iv = .int .i64 k ∧ Hid (SameE L M) ∧ Hid (RowE wx w.heap.size (.slice A' n c') M) ∧ Hid (Below w.heap.size w wx)) (fun iv _ => n - (intOf iv).toNat)
  case atStart => exact ⟨0, L, Nat.zero_le _, rfl, rfl, HR1.out, HB1.out⟩
  case round =>
    obtain ⟨k, M, hk, rfl, HSM, HR, HB⟩ := hrel
    have hlM : M.length = n := by rw [HN.out]; exact HSM.out.len.symm
    by_cases hlt : k < n
    · obtain ⟨m, hm2⟩ : ∃ m, M[k]? = some m := ⟨M[k]'(by omega), List.getElem?_eq_getElem _⟩
      have hent := HR.out.ok m (List.mem_iff_getElem?.2 ⟨k, hm2⟩)
      have hown := HR.out.own
      rw [hlM] at hown
      obtain ⟨b, cc, hv, _, hbl⟩ := hown.form (by omega)
      injection hv with hv1 hv2 hv3
      subst hv1
      have hbw : w.heap.size ≤ b := (hown.lt b rfl).1
      have hrg : wr.rangeAt b (k * 14) (entC m) := fun j u hj => by
        have := hown.cells (g := b) rfl _ _ (cellsE_get hm2 hj)
        rw [Addr.add_lit, Nat.zero_add] at this
        exact this
      have HM := Lib.hid hm2
      have HE := Lib.hid hent
      have HOWN := Lib.hid hown
      have HLM := Lib.hid hlM
      clear hm2 hent hown hv2 hv3 hlM
      go_upto_region 5 with (first
        | (refine wpList_load_mid rfl _ _ rfl b (k * 14) rfl (entC m) _ hrg Try.underlying68 rfl Try.infoEn ?_)
        | (refine wpList_store_row rfl _ _ _ rfl wr.heap.size _ rfl rfl _ _ (heap_alloc_new _ _) Try.infoEn rfl (by simp [Value.oneCell', entC, itC]) ?_)
        | fail)
      obtain ⟨V, hV, -, hbV, hrV, hlV⟩ := boxE wr _ m
      rw [← hV, act_put_no]
      have hq2 := HE.out.below hbV
      have HOV := Lib.hid (ownB_below HOWN.out hbV)
      have HBV := Lib.hid (HB.out.trans (hbV.mono HB.out.size))
      have HbV := Lib.hid hbV
      have HCC := Lib.hid (iclone_C m.x m.A m.x.l.length m.c V rfl hq2.nil (by have := hq2.ln; omega) hq2.rd)
      clear hV hbV hq2 hrg
      go_wp2_with (first | (refine wpList_load_mid rfl _ _ rfl wr.heap.size 1 rfl (itC m.x m.A m.c) _ hrV Try.underlying60 rfl Try.infoIt ?_) | fail)
      refine HCC.out.mono ?_
      rintro _ w4 ⟨A4, c4, rfl, ho4, hb4⟩
      have HO4 := Lib.hid ho4
      have hown4 := ownB_below HOV.out hb4
      have HOW4 := Lib.hid hown4
      have HB4 := Lib.hid (HBV.out.trans (hb4.mono HBV.out.size))
      have Hb4 := Lib.hid (HbV.out.trans (hb4.mono HbV.out.size))
      have hth : Hid (w4.there b (k * 14 + 1) 13) := own_there hown4 (by omega)
      have hz4 := hb4.size
      have hsc : (storeCells ⟨b, k * 14 + 1, none⟩ (itC m.x A4 c4)).run Try.prog w4 = .ok () (w4.setCells b (k * 14 + 1) (itC m.x A4 c4)) := by
        have h13 : (itC m.x A4 c4).length = 13 := rfl
        have := run_storeCells_cells (P := Try.prog) b (k * 14 + 1) (itC m.x A4 c4) 0 w4 (fun j hj => by rw [h13] at hj; simpa using (hth.out j hj).1) (fun j hj => by rw [h13] at hj; simpa using (hth.out j hj).2) (fun v hv => by
          simp only [itC, List.mem_cons, List.not_mem_nil, or_false] at hv
          rcases hv with rfl | rfl | rfl | rfl | rfl | rfl | rfl | rfl | rfl | rfl | rfl | rfl | rfl <;> rfl)
        simpa using this
      clear hb4 hrV HCC ho4 hown4
      go_wp2
      have hw5 : Only (fun q => q = b) w4 (w4.setCells b (k * 14 + 1) (itC m.x A4 c4)) := onlyCells (T := fun q => q = b) rfl _ _ _
      obtain ⟨w5, hw5e⟩ : ∃ w5, w5 = w4.setCells b (k * 14 + 1) (itC m.x A4 c4) := ⟨_, rfl⟩
      have hown5 : w5.ownsRow w.heap.size 68 14 (.slice (some ⟨b, 0, none⟩) n c') n (cellsE (M.set k ⟨m.i, m.x, A4, c4⟩)) := by
        have := own_setCells (itC m.x A4 c4) (k * 14 + 1) HOW4.out
        rw [cellsE_setL m.x A4 c4 HM.out] at this
        rw [hw5e]
        exact this
      rw [← hw5e] at hw5 ⊢
      have hlow : Below w.heap.size w w5 := HB4.out.trans ⟨hw5.os, hw5.tape, hw5.output, hw5.size, fun q hq => hw5.block q (Nat.lt_of_lt_of_le hq HB4.out.size) (fun e => by have e : q = b := e; omega)⟩
      have hrow : RowE w5 w.heap.size (.slice (some ⟨b, 0, none⟩) n c') (M.set k ⟨m.i, m.x, A4, c4⟩) := by
        refine ⟨by rw [List.length_set, HLM.out]; exact hown5, fun e he => ?_⟩
        rcases List.mem_or_eq_of_mem_set he with he | rfl
        · have q := (HR.out.ok e he).below Hb4.out
          exact q.only hw5 (fun a ha h0 e' => q.ap a ha h0 (by have e' : a.block = b := e'; rw [e']; rfl)) (fun _ h => .inl h)
        · have q := HE.out
          have hp := RdP.of_own HO4.out
          refine ⟨q.ok, q.sh, q.ln, q.lb, q.ix, own_nilA HO4.out, hw5.rdP hp (fun a ha h0 e' => ?_), fun a ha h0 e' => ?_⟩
          · have ha : A4 = some a := ha
            have h1 := (HO4.out.lt a.block (by rw [ha]; rfl)).1
            have e' : a.block = b := e'
            have := Hb4.out.size
            omega
          · have ha : A4 = some a := ha
            have h1 := (HO4.out.lt a.block (by rw [ha]; rfl)).1
            injection e' with e'
            have e' : b = a.block := e'
            have := Hb4.out.size
            omega
      have HLO := Lib.hid hlow
      have HRW := Lib.hid hrow
      have HSS : Hid (SameE L (M.set k ⟨m.i, m.x, A4, c4⟩)) := HSM.out.set HM.out ⟨rfl, rfl⟩
      clear hw5 hw5e hown5 hlow hrow hsc
      go_roundw
      case rel => exact ⟨k + 1, _, by omega, by go_num, HSS.out, HRW.out, HLO.out⟩
      case measure => simp [intOf]; omega
    · obtain rfl : k = n := by omega
      go_wp2
      go_ret
      exact ⟨A', c', M, rfl, HSM.out, HR.out, HB.out⟩

/-- what List answers -/
def listE (L : List Ett) (m many : Nat) : List Ett := (L.drop m).take many
theorem srcE_cut {w : World} {b n c : Nat} {L : List Ett} (hn : n = L.length) (ho : w.ownsRow 0 68 14 (.slice (some ⟨b, 0, none⟩) n c) n (cellsE L)) {m k : Nat} (hm : m ≤ n) (hk : k ≤ n - m) : Src w (some (subE b c m)) k 14 (cellsE (listE L m k)) := by
  have hlen : (listE L m k).length = k := by unfold listE; rw [List.length_take, List.length_drop]; omega
  refine ⟨by rw [cellsE_length, hlen], fun h0 => ⟨_, rfl, fun j u hj => ?_⟩⟩
  have hcap := (own_capE ho).1
  have hs : subE b c m = ⟨b, m * 14, none⟩ := by unfold subE; rw [if_neg (by omega)]
  have hj2 := (List.getElem?_eq_some_iff.1 hj).1
  rw [cellsE_length, hlen] at hj2
  unfold listE at hj
  rw [cellsE_take, List.getElem?_take, if_pos (by omega), cellsE_drop, List.getElem?_drop] at hj
  rw [hs, Addr.add_mid]
  have := ho.cells (g := b) rfl _ _ hj
  rw [Addr.add_lit, Nat.zero_add] at this
  exact this

def subO (A : Option Addr) (c lo : Nat) : Option Addr := if c = lo then A else A.map (·.add (lo * 14))
theorem slO_l (A : Option Addr) (n c lo : Nat) (h1 : lo ≤ n) (w : World) :
    (Instr.sliceAt 63 (.slice A n c) (some (.int .i64 lo)) none none).run Try.prog w = .ok (.slice (subO A c lo) (n - lo) (c - lo)) w := by
  rw [run_sliceAt_slice _ _ _ _ _ _ huE, run_slice_l _ _ _ _ _ huE .i64 (lo : Int) (by omega) (by omega), sizeOfE]
  simp [Result.andThen, sliced, subO]
theorem srcO_cut {w : World} {A : Option Addr} {n c : Nat} {L : List Ett} (hn : n = L.length) (ho : w.ownsRow 0 68 14 (.slice A n c) n (cellsE L)) {m k : Nat} (hm : m ≤ n) (hk : k ≤ n - m) : Src w (subO A c m) k 14 (cellsE (listE L m k)) ∧ (subO A c m = none → k = 0) := by
  cases A with
  | none =>
    have h0 := own_nilA ho rfl
    have hk0 : k = 0 := by omega
    subst hk0
    have : listE L m 0 = [] := by unfold listE; rw [List.take_zero]
    rw [this]
    exact ⟨⟨rfl, fun h => absurd h (by omega)⟩, fun _ => rfl⟩
  | some a =>
    have hf : a = ⟨a.block, 0, none⟩ := by
      rcases ho.2 with ⟨e1, _⟩ | ⟨g, cap, cur, e1, _⟩
      · injection e1 with e1; cases e1
      · injection e1 with e1; injection e1 with e1; rw [e1]
    rw [hf] at ho ⊢
    have hs : subO (some ⟨a.block, 0, none⟩) c m = some (subE a.block c m) := by
      unfold subO subE
      split
      · rfl
      · simp only [Option.map_some, Addr.add]
        split
        · rename_i hz; rw [hz]
        · first | rfl | rw [Nat.zero_add]
    rw [hs]
    exact ⟨srcE_cut hn ho hm hk, fun h => by cases h⟩

set_option maxRecDepth 100000 in
set_option maxHeartbeats 2000000 in
theorem list_any {S : Nat → Prop} {s N : Nat} {X : Sp} {L : List Ett} (z : Int) (_ : -9223372036854775808 ≤ z) (_ : z < 9223372036854775808) (w : World) (h : SpAt w S s X L) (hrise : RiseE L) :
    Calls Try.prog 23 #[.pointer (some ⟨s, 0, none⟩), .int .u64 N, .int .i64 z] w fun e w' => ∃ A' c' M m, e = .returned (.slice A' M.length c') ∧ SameE (listE L m (min z.toNat (L.length - m))) M ∧ RowE w' w.heap.size (.slice A' M.length c') M ∧
      m ≤ L.length ∧ (∀ k, k < m → idxE L k ≤ N) ∧ (∀ k, m ≤ k → k < L.length → N < idxE L k) ∧ Below w.heap.size w w' := by
  have HU : Hid (∀ W, Below w.heap.size w W → _) := fun W hW => upTo_any (N := N) W (h.below hW) hrise
  obtain ⟨v, k1, r1⟩ := h.sp
  obtain ⟨A, c, rfl⟩ := own_slice r1.own
  have c37 := k1.c37
  have HH := Lib.hid h
  have HC37 : Hid (∀ W, Below w.heap.size w W → W.cell? ⟨s, 37, none⟩ = some (.slice A L.length c)) := fun W hW => (hW.cell (p := ⟨s, 37, none⟩) k1.slt).trans k1.c37
  have HOWN := Lib.hid r1.own
  have hfew := h.few
  obtain ⟨n, hn⟩ : ∃ n, n = L.length := ⟨_, rfl⟩
  rw [← hn] at HC37 HOWN HU hfew ⊢
  have HN := Lib.hid hn
  clear k1 r1 h hrise c37 hn
  go_enter Try.func23, Try.ntmps23
  go_upto_region 3 with fail
  refine wp_region_noPanic ?_
  refine wp_region_held_drew (S := fun W => Below w.heap.size w W) (by kernel_rfl) ?_ (fun hHeld => ?_)
  · exact (RowKit.Below.refl _ _).drew
  refine heldTake (i := 0) (v := ?_) rfl (by kernel_rfl) (by kernel_rfl) (by kernel_rfl) (fun _ _ _ h => h) (Or.inl ⟨by rfl, ?_⟩) (by assumption) ?_
  rotate_left
  · (intro W hSw; (try dsimp only at hSw); have f2 := HC37.out W hSw; go_simp; try with_reducible rfl)
  try simp only [heldPut, List.set]
  refine heldTake (i := 1) (v := ?_) rfl (by kernel_rfl) (by kernel_rfl) (by kernel_rfl) (fun _ _ _ h => h) (Or.inl ⟨by rfl, ?_⟩) (by assumption) ?_
  rotate_left
  · (intro W hSw; (try dsimp only at hSw); have f2 := HC37.out W hSw; go_simp; try with_reducible rfl)
  try simp only [heldPut, List.set]
  refine heldTake (i := 2) (v := ?_) rfl (by kernel_rfl) (by kernel_rfl) (by kernel_rfl) (fun _ _ _ h => h) (Or.inl ⟨by rfl, ?_⟩) (by assumption) ?_
  rotate_left
  · (intro W hSw; (try dsimp only at hSw); have f2 := HC37.out W hSw; go_simp; try with_reducible rfl)
  try simp only [heldPut, List.set]
  refine heldTake (i := 3) (v := ?_) rfl (by kernel_rfl) (by kernel_rfl) (by kernel_rfl) (fun _ _ _ h => h) (Or.inl ⟨by rfl, ?_⟩) (by assumption) ?_
  rotate_left
  · (intro W hSw; (try dsimp only at hSw); have f2 := HC37.out W hSw; go_simp; try with_reducible rfl)
  try simp only [heldPut, List.set]
  refine heldTake (i := 4) (v := ?_) rfl (by kernel_rfl) (by kernel_rfl) (by kernel_rfl) (fun _ _ _ h => h) (Or.inl ⟨by rfl, ?_⟩) (by assumption) ?_
  rotate_left
  · (intro W hSw; (try dsimp only at hSw); have f2 := HC37.out W hSw; go_simp; try with_reducible rfl)
  try simp only [heldPut, List.set]
  refine heldTake (i := 5) (v := ?_) rfl (by kernel_rfl) (by kernel_rfl) (by kernel_rfl) (fun _ _ _ h => h) (Or.inl ⟨by rfl, ?_⟩) (by assumption) ?_
  rotate_left
  · (intro W hSw; (try dsimp only at hSw); have f2 := HC37.out W hSw; go_simp; try with_reducible rfl)
  try simp only [heldPut, List.set]
  refine heldTake (i := 6) (v := ?_) rfl (by kernel_rfl) (by kernel_rfl) (by kernel_rfl) (fun _ _ _ h => h) (Or.inl ⟨by rfl, ?_⟩) (by assumption) ?_
  rotate_left
  · (intro W hSw; (try dsimp only at hSw); have f2 := HC37.out W hSw; go_simp; try with_reducible rfl)
  try simp only [heldPut, List.set]
  refine heldOne (i := 7) rfl (by kernel_rfl) (fun K hK => ?_)
  go_simp
  refine (HU.out _ hHeld).mono ?_
  rintro e' w1 ⟨m, rfl, hm, hlo, hhi, hb1⟩
  have HB1 : Hid (Below w.heap.size w w1) := hHeld.trans (hb1.mono hHeld.size)
  have HLO := Lib.hid hlo
  have HHI := Lib.hid hhi
  have e3 := slO_l A n c m hm
  have HE3 := Lib.hid e3
  clear hb1 hlo hhi e3
  go_wp2_with fail
  refine hK.out _ _ HB1.out (fun hHeld2 => ?_)
  clear hK K
  try simp only [heldPut, List.set]
  refine heldTake (i := 8) (v := ?_) rfl (by kernel_rfl) (by kernel_rfl) (by kernel_rfl) (fun _ _ _ h => h) (Or.inl ⟨by rfl, ?_⟩) (by assumption) ?_
  rotate_left
  · (intro W hSw; (try dsimp only at hSw); have f3 := HE3.out W; go_simp; try with_reducible rfl)
  try simp only [heldPut, List.set]
  refine heldTake (i := 9) (v := ?_) rfl (by kernel_rfl) (by kernel_rfl) (by kernel_rfl) (fun _ _ _ h => h) (Or.inl ⟨by rfl, ?_⟩) (by assumption) ?_
  rotate_left
  · (intro W hSw; (try dsimp only at hSw);  go_simp; try with_reducible rfl)
  try simp only [heldPut, List.set]
  refine wpAnyH_done (by kernel_rfl) ?_ _
  refine NoPanic.normal ?_
  obtain ⟨k, hk⟩ : ∃ k, k = min z.toNat (n - m) := ⟨_, rfl⟩
  have hkn : k ≤ n - m := by omega
  have hcap := (own_capE HOWN.out).1
  have e4 := slE_h (subO A c m) (n - m) (c - m) k (by omega)
  have HE4 := Lib.hid e4
  have HKK := Lib.hid hk
  obtain ⟨t, ht⟩ : ∃ t, t = z.toNat := ⟨_, rfl⟩
  have hmx : max z 0 = (t : Int) := by omega
  have hmn : min (t : Int) ((n : Int) - (m : Int)) = (k : Int) := by omega
  have hmn2 : min (t : Int) ((n - m : Nat) : Int) = (k : Int) := by omega
  have f4 := e4
  clear hk ht e4 hHeld hHeld2
  go_wp2_with fail
  have hlen : k = (listE L m k).length := by unfold listE; rw [List.length_take, List.length_drop, ← HN.out]; omega
  have hsrc := srcO_cut HN.out (ownB_below HOWN.out HB1.out) hm hkn
  have hok : OkE w1 (listE L m k) := fun e he => ((HH.out.ent e (List.mem_of_mem_drop (List.mem_of_mem_take he))).free).below HB1.out
  refine (clones_any (subO A c m) k (c - m) (listE L m k) w1 hlen (by omega) hsrc.2 (fun W hW => (srcO_cut HN.out (ownB_below (ownB_below HOWN.out HB1.out) hW) hm hkn).1) hok).mono ?_
  rintro _ w2 ⟨A2, c2, M, rfl, hsm, hrow, hb2⟩
  have hml : M.length = k := by rw [← hsm.len]; exact hlen.symm
  have HSM := Lib.hid hsm
  have HRW := Lib.hid hrow
  have HML := Lib.hid hml
  have HB2 := Lib.hid (HB1.out.trans (hb2.mono HB1.out.size))
  have hz12 := HB1.out.size
  clear hlen hsrc hok hsm hrow hml hb2 f4 hmx hmn hmn2
  go_wp2
  go_ret
  refine ⟨A2, c2, M, m, by rw [HML.out]; rfl, by rw [← HKK.out]; exact HSM.out, ⟨by rw [HML.out]; have h := ownB_mono HRW.out.own hz12; rw [HML.out] at h; exact h, by rw [HML.out]; exact HRW.out.ok⟩, hm, HLO.out, HHI.out, HB2.out⟩
end Go.Proofs.Ytgcfofnlgdfmoaa
