/- Layer 10: send: what is due, and is counted as sent. -/
import Derived.Test.YtholdcgkhicdmaaSdSend
import Derived.Lib.AppendZeros
namespace Go.Proofs.Ytholdcgkhicdmaa
open Go.RowKit

def dueB (now : Nat) (f : Fg) : Bool := !f.c && decide (f.d ≤ now)
def dueF (m now : Nat) (f : Fg) : Fg := if dueB now f then sndF m now f else f
def dueL (m now : Nat) (L : List Fg) : List Fg := L.map (dueF m now)
def dueK (m now k : Nat) (L : List Fg) : List Fg := (L.take k).map (dueF m now) ++ L.drop k
def dueX (now : Nat) : Sd → List Fg → Sd
  | X, [] => X
  | X, f :: L => dueX now (if dueB now f then sndX X f else X) L
def dueN (now : Nat) (L : List Fg) : Nat := (L.filter (dueB now)).length
theorem dueK_len (m now k : Nat) (L : List Fg) : (dueK m now k L).length = L.length := by
  unfold dueK
  rw [List.length_append, List.length_map, ← List.length_append, List.take_append_drop]
theorem dueK_zero (m now : Nat) (L : List Fg) : dueK m now 0 L = L := rfl
theorem dueK_all (m now : Nat) (L : List Fg) : dueK m now L.length L = dueL m now L := by
  unfold dueK dueL
  rw [List.take_length, List.drop_length, List.append_nil]
theorem dueK_get {m now k : Nat} {L : List Fg} {f : Fg} (h : L[k]? = some f) : (dueK m now k L)[k]? = some f := by
  have hk := (List.getElem?_eq_some_iff.1 h).1
  unfold dueK
  rw [List.getElem?_append_right (by rw [List.length_map, List.length_take]; omega), List.length_map, List.length_take, Nat.min_eq_left (by omega), Nat.sub_self, List.getElem?_drop, Nat.add_zero]
  exact h
theorem dueK_step {m now k : Nat} {L : List Fg} {f : Fg} (h : L[k]? = some f) : dueK m now (k + 1) L = (dueK m now k L).set k (dueF m now f) := by
  have hk := (List.getElem?_eq_some_iff.1 h).1
  have hd : L.drop k = f :: L.drop (k + 1) := by
    rw [List.drop_eq_getElem_cons hk, (List.getElem?_eq_some_iff.1 h).2]
  have ht : L.take (k + 1) = L.take k ++ [f] := by rw [List.take_add_one, h]; rfl
  unfold dueK
  rw [ht, List.map_append, hd, List.set_append_right _ _ (by rw [List.length_map, List.length_take]; omega), List.length_map, List.length_take, Nat.min_eq_left (by omega), Nat.sub_self, List.set_cons_zero, List.append_assoc]
  rfl
theorem dueX_app (now : Nat) (f : Fg) : ∀ (L : List Fg) (X : Sd), dueX now X (L ++ [f]) = if dueB now f then sndX (dueX now X L) f else dueX now X L
  | [], _ => rfl
  | _ :: L, _ => dueX_app now f L _
theorem dueX_step {now k : Nat} {X : Sd} {L : List Fg} {f : Fg} (h : L[k]? = some f) : dueX now X (L.take (k + 1)) = if dueB now f then sndX (dueX now X (L.take k)) f else dueX now X (L.take k) := by
  have ht : L.take (k + 1) = L.take k ++ [f] := by rw [List.take_add_one, h]; rfl
  rw [ht, dueX_app]
theorem dueN_step {now k : Nat} {L : List Fg} {f : Fg} (h : L[k]? = some f) : dueN now (L.take (k + 1)) = dueN now (L.take k) + if dueB now f then 1 else 0 := by
  have ht : L.take (k + 1) = L.take k ++ [f] := by rw [List.take_add_one, h]; rfl
  unfold dueN
  rw [ht, List.filter_append, List.length_append]
  cases hb : dueB now f <;> simp [hb]
theorem dueN_le (now k : Nat) (L : List Fg) : dueN now (L.take k) ≤ k := Nat.le_trans (List.length_filter_le _ _) (by rw [List.length_take]; omega)
theorem dueX_le (now : Nat) : ∀ (L : List Fg) (X : Sd), (dueX now X L).m = X.m ∧ (dueX now X L).b = X.b ∧ (dueX now X L).W = X.W ∧ (dueX now X L).f = X.f ∧ (dueX now X L).t ≤ X.t + L.length ∧ (dueX now X L).a ≤ X.a + L.length
  | [], X => ⟨rfl, rfl, rfl, rfl, Nat.le_refl _, Nat.le_refl _⟩
  | f :: L, X => by
    have ih := dueX_le now L (if dueB now f then sndX X f else X)
    unfold dueX
    rw [List.length_cons]
    cases hb : dueB now f with
    | false =>
      rw [hb] at ih
      simp only [Bool.false_eq_true, if_false] at ih ⊢
      exact ⟨ih.1, ih.2.1, ih.2.2.1, ih.2.2.2.1, by have := ih.2.2.2.2.1; omega, by have := ih.2.2.2.2.2; omega⟩
    | true =>
      rw [hb] at ih
      simp only [if_true] at ih ⊢
      have h1 : (sndX X f).a ≤ X.a + 1 := by unfold sndX; dsimp only; split <;> omega
      have h2 : (sndX X f).t = X.t + 1 := rfl
      exact ⟨ih.1, ih.2.1, ih.2.2.1, ih.2.2.2.1, by have := ih.2.2.2.2.1; omega, by have := ih.2.2.2.2.2; omega⟩
theorem SdR.ownS {w : World} {S : Nat → Prop} {s : Nat} {v : Value} {L : List Fg} (h : SdR w S s v L) {k : Nat} (hk : v.ownBlock = some k) : S k := by
  rcases h.row with ⟨rfl, _⟩ | ⟨g, o, c, cur, rfl, k2, _⟩
  · cases hk
  · have hk : some g = some k := hk
    injection hk with hk
    rw [← hk]; exact k2
section
variable {S : Nat → Prop} {s : Nat} {X : Sd} {L : List Fg}
set_option maxRecDepth 100000 in
set_option maxHeartbeats 400000 in
theorem sddue_nil (now : Nat) (w : World) : Calls Try.prog 9 #[.pointer none, .int .u64 now] w fun e w' => e = .returned (.slice none 0 0) ∧ w = w' := by
  go_enter Try.func9, Try.ntmps9
  go_wp2
  go_ret
  exact ⟨rfl, rfl⟩
set_option maxRecDepth 100000 in
set_option maxHeartbeats 400000 in
theorem sddue_late {now : Nat} (w : World) (hn : 1099511627776 < now) : Calls Try.prog 9 #[.pointer (some ⟨s, 0, none⟩), .int .u64 now] w fun e w' => e = .returned (.slice none 0 0) ∧ w = w' := by
  have d1 : decide ((1099511627776 : Int) < (now : Int)) = true := decide_eq_true (by omega)
  have d2 : decide (1099511627776 < now) = true := decide_eq_true hn
  go_enter Try.func9, Try.ntmps9
  go_wp2
  go_ret
  exact ⟨rfl, rfl⟩
set_option maxRecDepth 100000 in
set_option maxHeartbeats 2000000 in
theorem sddue_any {now : Nat} (w : World) (h : SdAt w S s X L) (hnow : now ≤ 1099511627776) (ht : X.t ≤ 1099511627776) (ha : X.a ≤ 1099511627776) (hv : ∀ f ∈ L, f.v ≤ 1099511627776) :
    Calls Try.prog 9 #[.pointer (some ⟨s, 0, none⟩), .int .u64 now] w fun e w' => (∃ A c, e = .returned (.slice A (dueN now L) c)) ∧ SdAt w' S s (dueX now X L) (dueL X.m now L) ∧ Step w S w' S := by
  have d1 : decide ((1099511627776 : Int) < (now : Int)) = false := decide_eq_false (by omega)
  have d2 : decide (1099511627776 < now) = false := decide_eq_false (by omega)
  obtain ⟨v, h1, h2⟩ := h.row
  obtain ⟨A, c, rfl⟩ := h2.slice
  have hfw := h.few
  obtain ⟨n, hn⟩ : ∃ n, n = L.length := ⟨_, rfl⟩
  rw [← hn] at hfw h1 h2
  have c4 : w.cell? ⟨s, 4, none⟩ = some (.slice A n c) := cell_of_row _ _ 4 _ _ _ h1
  have HH := Lib.hid h
  have HN := Lib.hid hn
  have HV := Lib.hid (⟨hv, ht, ha⟩ : _ ∧ _ ∧ _)
  have HLT := Lib.hid h.lt
  clear h h1 h2 hn hv ht ha
  go_enter Try.func9, Try.ntmps9
  go_wp2
  have HC4 := Lib.hid c4
  clear c4 d1 d2
  go_loopw [5, 19] (fun dv iv wx => ∃ (k : Nat) (B : Option Addr) (d e : Nat), k ≤ n ∧ iv = .int .i64 k ∧ dv = .slice B d e ∧ d = dueN now (L.take k) ∧ Hid (SdAt wx S s (dueX now X (L.take k)) (dueK X.m now k L) ∧ wx.cell? ⟨s, 4, none⟩ = some (.slice A n c) ∧ Only S w wx ∧ ∃ T D, SdR wx T s (.slice B d e) D ∧ D.length = d ∧ (∀ j, T j → w.heap.size ≤ j ∧ j < wx.heap.size))) (fun _ iv _ => n - (intOf iv).toNat)
  case atStart => exact ⟨0, none, 0, 0, Nat.zero_le _, rfl, rfl, rfl, HH.out, HC4.out, Only.refl _ _, fun _ => False, [], ⟨Nat.zero_le _, .inl ⟨rfl, rfl⟩⟩, rfl, fun j hj => hj.elim⟩
  case round =>
    obtain ⟨k, B, d, e, hk, rfl, rfl, hd, HB⟩ := hrel
    have HD := Lib.hid hd
    clear hd
    by_cases hlt : k < n
    · obtain ⟨f, hf⟩ : ∃ f, L[k]? = some f := ⟨L[k]'(by rw [← HN.out]; exact hlt), List.getElem?_eq_getElem _⟩
      obtain ⟨-, g, o, rfl, hS, hgs, hfz, hr⟩ := HB.out.1.get HB.out.2.1 (dueK_get hf)
      have HF := Lib.hid hf
      clear hf hfz
      go_upto_region 7 with (first
        | (refine wpList_load_mid rfl _ _ rfl g (o + k * 6) rfl (flC f) _ hr Try.underlying48 rfl Try.infoFg ?_)
        | (refine wpList_store_row rfl _ _ _ rfl wr.heap.size _ rfl rfl _ _ (heap_alloc_new _ _) Try.infoFg rfl (by simp [Value.oneCell', flC]) ?_)
        | fail)
      obtain ⟨V, hV, hbx, hbV, hlV⟩ := boxF wr _ f
      rw [← hV, act_none]
      obtain ⟨p, hp⟩ : ∃ p, p = wr.heap.size := ⟨_, rfl⟩
      rw [← hp] at hbx ⊢
      have b5 : V.cell? ⟨p, 5, none⟩ = some (.bool f.c) := cell_of_row _ _ 5 _ _ _ hbx
      have b2 : V.cell? ⟨p, 2, none⟩ = some (.int .u64 f.d) := cell_of_row _ _ 2 _ _ _ hbx
      have hsV := HB.out.1.below hbV
      have c4V : V.cell? ⟨s, 4, none⟩ = some (.slice (some ⟨g, o, none⟩) n c) := (hbV.cell (p := ⟨s, 4, none⟩) (HB.out.1.lt s HB.out.1.sS)).trans HB.out.2.1
      have hOV : Only S w V := HB.out.2.2.1.trans (Only.of_below hbV S) (fun _ h => .inl h)
      obtain ⟨-, -, -, T, D, hT, hDl, hTl⟩ := HB.out
      have hTV : SdR V T s (.slice B d e) D := hT.only (T := fun _ => False) (fun j hj => (hTl j hj).2) (Only.of_below hbV _) (fun _ _ h => h)
      have hTlV : ∀ j, T j → w.heap.size ≤ j ∧ j < V.heap.size := fun j hj => ⟨(hTl j hj).1, Nat.lt_of_lt_of_le (hTl j hj).2 hbV.size⟩
      have HZ := Lib.hid (⟨hsV, c4V, hOV, hTV, hDl, hTlV⟩ : _ ∧ _ ∧ _ ∧ _ ∧ _ ∧ _)
      have HBX := Lib.hid hbx
      clear hV hbV hlV hsV c4V hOV hT hTl hr hp hbx HB
      have stay : dueB now f = false → dueN now (L.take (k + 1)) = d ∧ Hid (SdAt V S s (dueX now X (L.take (k + 1))) (dueK X.m now (k + 1) L) ∧ V.cell? ⟨s, 4, none⟩ = some (.slice (some ⟨g, o, none⟩) n c) ∧ Only S w V ∧ ∃ T D, SdR V T s (.slice B d e) D ∧ D.length = d ∧ (∀ j, T j → w.heap.size ≤ j ∧ j < V.heap.size)) := fun hb => by
        have e1 : dueF X.m now f = f := by unfold dueF; rw [hb]; rfl
        have e2 : dueK X.m now (k + 1) L = dueK X.m now k L := by
          rw [dueK_step HF.out, e1]
          obtain ⟨h6, h7⟩ := List.getElem?_eq_some_iff.1 (dueK_get (m := X.m) (now := now) HF.out)
          rw [← h7]
          exact List.set_getElem_self h6
        rw [dueN_step HF.out, dueX_step HF.out, hb, e2]
        exact ⟨by rw [HD.out]; rfl, HZ.out.1, HZ.out.2.1, HZ.out.2.2.1, T, D, HZ.out.2.2.2⟩
      cases hfc : f.c with
      | true =>
        rw [hfc] at b5
        obtain ⟨hE, HE⟩ := stay (by unfold dueB; rw [hfc]; rfl)
        have HE1 := Lib.hid hE
        clear stay hfc hE
        go_wp2
        go_roundw
        case rel => exact ⟨k + 1, B, d, e, by omega, by go_num, rfl, HE1.out.symm, HE.out⟩
        case measure => simp [intOf]; omega
      | false =>
        rw [hfc] at b5
        by_cases hfd : f.d ≤ now
        · have x1 : decide ((now : Int) < (f.d : Int)) = false := decide_eq_false (by omega)
          have x2 : decide (now < f.d) = false := decide_eq_false (by omega)
          have hdb : dueB now f = true := by unfold dueB; rw [hfc, decide_eq_true hfd]; rfl
          have HDB := Lib.hid hdb
          clear stay hfc hdb
          obtain ⟨hsV, c4V, hOV, hTV, hDl, hTlV⟩ := HZ.out
          subst hDl
          have hbA : Below V.heap.size V (V.alloc (.cells (flC f).toArray 48)) := (Below.refl _ _).alloc (Nat.le_refl _) _
          have hxA := heap_alloc_new V (.cells (flC f).toArray 48)
          have hDf : D.length < 100000 := by
            have h1 := HD.out
            have h2 := dueN_le now k L
            omega
          obtain ⟨A', c', W3, hrun, hT3, hO3, hown3⟩ := (hTV.only (T := fun _ => False) (fun j hj => (hTlV j hj).2) (Only.of_below hbA _) (fun _ _ h => h)).app (fun j hj => Nat.lt_of_lt_of_le (hTlV j hj).2 hbA.size) (Nat.lt_of_lt_of_le (hsV.lt s hsV.sS) hbA.size) f hDf 31 (b := V.heap.size) (c0 := 1) (fun j u hj => (cell_of_row _ _ j _ _ _ hxA).trans (by rw [List.getElem?_toArray]; exact hj))
          have hno : ∀ j, S j → ¬ (Value.slice B D.length e).ownBlock = some j := fun j hj hk => by
            have h1 := (hTlV j (hTV.ownS hk)).1
            have h2 := HLT.out j hj
            omega
          have hs3 : SdAt W3 S s (dueX now X (L.take k)) (dueK X.m now k L) := (hsV.below hbA).keep hO3 hno
          have c43 : W3.cell? ⟨s, 4, none⟩ = some (.slice (some ⟨g, o, none⟩) n c) := (hO3.cell (p := ⟨s, 4, none⟩) ((hsV.below hbA).lt s hsV.sS) (hno s hsV.sS)).trans ((hbA.cell (p := ⟨s, 4, none⟩) (hsV.lt s hsV.sS)).trans c4V)
          have hO4 : Only S w W3 := (hOV.trans (Only.of_below hbA S) (fun _ h => .inl h)).trans hO3 (fun j hj => .inr (hTlV j (hTV.ownS hj)).1)
          have hT3l : ∀ j, (T j ∨ (Value.slice A' (D.length + 1) c').ownBlock = some j) → w.heap.size ≤ j ∧ j < W3.heap.size := fun j hj => by
            have hsz := hO3.size
            have hsz2 := hbA.size
            have hsz3 := hOV.size
            rcases hj with hj | hj
            · exact ⟨(hTlV j hj).1, by have := (hTlV j hj).2; omega⟩
            · obtain ⟨h5, h6⟩ := hown3 j hj
              refine ⟨?_, h6⟩
              rcases h5 with h5 | h5
              · exact (hTlV j (hTV.ownS h5)).1
              · omega
          obtain ⟨xm, -, -, -, xt, xa⟩ := dueX_le now (L.take k) X
          have hkl : (L.take k).length ≤ k := by rw [List.length_take]; omega
          have hfv := HV.out.1 f (List.mem_of_getElem? HF.out)
          have hXt := HV.out.2.1
          have hXa := HV.out.2.2
          have HSN := Lib.hid (sdsend_any (now := now) W3 hs3 c43 (by rw [dueK_len]; exact HN.out) (dueK_get HF.out) (by omega) (by omega) (by omega) (by omega))
          rw [xm] at HSN
          have HZ3 := Lib.hid (⟨hT3, hO4, hT3l⟩ : _ ∧ _ ∧ _)
          have HC43 := Lib.hid c43
          clear hsV c4V hOV hTV hTlV hbA hxA hDf hT3 hO3 hown3 hno hs3 hO4 hT3l xm xt xa hkl hfv hXt hXa c43 HZ
          have hfl := flC_length f
          go_upto_region 9 with (first
            | (refine wpList_load_row rfl _ _ rfl p rfl _ _ _ _ HBX.out Try.underlying48 rfl Try.infoFg ?_)
            | (at_builtin; refine Lib.wpList_append_run _ rfl _ _ _ _ rfl _ _ rfl rfl _ _ hrun ?_)
            | fail)
          clear hfl
          have c43 := HC43.out
          go_wp2_with fail
          refine HSN.out.mono ?_
          rintro _ w4 ⟨rfl, hs4, hc4, ho4⟩
          have hE : dueN now (L.take (k + 1)) = D.length + 1 := by rw [dueN_step HF.out, HDB.out, ← HD.out]; rfl
          have HE : Hid (SdAt w4 S s (dueX now X (L.take (k + 1))) (dueK X.m now (k + 1) L) ∧ w4.cell? ⟨s, 4, none⟩ = some (.slice (some ⟨g, o, none⟩) n c) ∧ Only S w w4 ∧ ∃ T D', SdR w4 T s (.slice A' (D.length + 1) c') D' ∧ D'.length = D.length + 1 ∧ (∀ j, T j → w.heap.size ≤ j ∧ j < w4.heap.size)) := by
            obtain ⟨hT3, hO3, hl3⟩ := HZ3.out
            have e1 : dueF X.m now f = sndF X.m now f := by unfold dueF; rw [HDB.out]; rfl
            rw [dueX_step HF.out, HDB.out, dueK_step HF.out, e1]
            refine ⟨hs4, hc4, hO3.trans ho4 (fun _ h => .inl h), _, D ++ [f], hT3.only (fun j hj => (hl3 j hj).2) ho4 (fun j hj hS => ?_), by simp, fun j hj => ⟨(hl3 j hj).1, Nat.lt_of_lt_of_le (hl3 j hj).2 ho4.size⟩⟩
            have h1 := (hl3 j hj).1
            have h2 := HLT.out j hS
            omega
          have HE1 := Lib.hid hE
          clear hs4 hc4 ho4 hE HZ3 HSN HC43 hrun HBX c43
          go_wp2
          go_roundw
          case rel => exact ⟨k + 1, A', D.length + 1, c', by omega, by go_num, rfl, HE1.out.symm, HE.out⟩
          case measure => simp [intOf]; omega
        · have x1 : decide ((now : Int) < (f.d : Int)) = true := decide_eq_true (by omega)
          have x2 : decide (now < f.d) = true := decide_eq_true (by omega)
          obtain ⟨hE, HE⟩ := stay (by unfold dueB; rw [decide_eq_false hfd]; simp)
          have HE1 := Lib.hid hE
          clear stay hfc hE
          go_wp2
          go_roundw
          case rel => exact ⟨k + 1, B, d, e, by omega, by go_num, rfl, HE1.out.symm, HE.out⟩
          case measure => simp [intOf]; omega
    · obtain rfl : k = n := by omega
      have hall : L.take k = L := by rw [HN.out, List.take_length]
      have HE : Hid (SdAt wr S s (dueX now X L) (dueL X.m now L) ∧ Step w S wr S) := by
        have h5 := HB.out.1
        have e : dueK X.m now k L = dueL X.m now L := by rw [HN.out]; exact dueK_all X.m now L
        rw [e, hall] at h5
        exact ⟨h5, HB.out.2.2.1, fun _ h => .inl h⟩
      have hdn : d = dueN now L := by have h := HD.out; rwa [hall] at h
      have HDN := Lib.hid hdn
      clear hall hdn HD
      go_wp2
      go_ret
      refine ⟨⟨B, e, ?_⟩, HE.out⟩
      rw [← HDN.out]
      rfl
end
end Go.Proofs.Ytholdcgkhicdmaa
