/- Several texts in one: SpRem. -/
import Derived.Test.YtgcfofnlgdfmoaaMf24
/- Layer 8: remove: entries are taken out of the row. -/
namespace Go.Proofs.Ytgcfofnlgdfmoaa
open Go.RowKit

theorem sumE_cut {L : List Ett} {i j : Nat} (h : i ≤ j) : sumE (cutE L i j) + sumE ((L.drop i).take (j - i)) = sumE L := by
  have e1 : L = L.take i ++ L.drop i := (List.take_append_drop _ _).symm
  have e2 : L.drop i = (L.drop i).take (j - i) ++ L.drop j := by
    conv => lhs; rw [← List.take_append_drop (j - i) (L.drop i)]
    rw [List.drop_drop, show i + (j - i) = j by omega]
  have h1 : sumE L = sumE (L.take i) + sumE (L.drop i) := by conv => lhs; rw [e1, sumE_append]
  have h2 : sumE (L.drop i) = sumE ((L.drop i).take (j - i)) + sumE (L.drop j) := by conv => lhs; rw [e2, sumE_append]
  unfold cutE
  rw [sumE_append]
  omega
theorem cutE_mem {L : List Ett} {i j : Nat} {e : Ett} (h : e ∈ cutE L i j) : e ∈ L := by
  unfold cutE at h
  rcases List.mem_append.1 h with h | h
  · exact List.mem_of_mem_take h
  · exact List.mem_of_mem_drop h
theorem EntOk.free {w : World} {S : Nat → Prop} {e : Ett} (h : EntOk w S e) : EntOk w (fun _ => False) e := ⟨h.ok, h.sh, h.ln, h.lb, h.ix, h.nil, h.rd, fun _ _ _ h => h⟩

set_option maxRecDepth 100000 in
set_option maxHeartbeats 2000000 in
theorem remove_any {S : Nat → Prop} {s i j : Nat} {X : Sp} {L : List Ett} (w : World) (h : SpAt w S s X L) (hij : i < j) (hj : j ≤ L.length) :
    Calls Try.prog 56 #[.pointer (some ⟨s, 0, none⟩), .int .i64 i, .int .i64 j] w fun e w' => e = .returned (.tuple #[]) ∧ SpAt w' S s X (cutE L i j) ∧ Step w S w' S := by
  obtain ⟨v, h1, h2⟩ := h.sp
  obtain ⟨b, c, rfl, hb, hbs, hbS, _⟩ := h2.at_ (List.getElem?_eq_getElem (show 0 < L.length by omega))
  obtain ⟨n, hn⟩ : ∃ n, n = L.length := ⟨_, rfl⟩
  have hfew := h.few
  have hsum := sumE_le h
  have hcut := sumE_cut (L := L) (i := i) (j := j) (by omega)
  have hclen := cutE_length (L := L) (i := i) (j := j) (by omega) hj
  have hsl := h1.slt
  have hown := h2.own
  rw [← hn] at hfew h1 hj hclen hown
  obtain ⟨u, hu⟩ : ∃ u, u = sumE L := ⟨_, rfl⟩
  obtain ⟨u2, hu2⟩ : ∃ u, u = sumE (cutE L i j) := ⟨_, rfl⟩
  obtain ⟨z, hz⟩ : ∃ z, z = sumE ((L.drop i).take (j - i)) := ⟨_, rfl⟩
  rw [← hu] at h1 hsum hcut
  rw [← hu2, ← hz] at hcut
  obtain ⟨hcap, -⟩ := own_capE hown
  have e1 := slE_lh b n c i j (by omega) (by omega)
  have hse : subE b c i = ⟨b, i * 14, none⟩ := by unfold subE; rw [if_neg (by omega)]
  rw [hse] at e1
  have HSL := Lib.hid e1
  have HRD : Hid (RdE w (some ⟨b, i * 14, none⟩) ((L.drop i).take (j - i))) := fun _ => ⟨b, i * 14, rfl, hb, fun k e hk => by
    rw [List.getElem?_take] at hk
    split at hk
    · rw [List.getElem?_drop] at hk
      obtain ⟨b', c', hv', _, _, _, q1, q2⟩ := h2.at_ hk
      injection hv' with hv'
      injection hv' with hv'
      have e : b = b' := congrArg Addr.block hv'
      subst e
      rw [show i * 14 + k * 14 = (i + k) * 14 by omega]
      exact ⟨q1, q2⟩
    · cases hk⟩
  have HOE : Hid (OkE w ((L.drop i).take (j - i))) := fun e he => (h.ent e (List.mem_of_mem_drop (List.mem_of_mem_take he))).free
  have HLL : Hid (j - i = ((L.drop i).take (j - i)).length) := by show _ = _; rw [List.length_take, List.length_drop, ← hn]; omega
  have HC1 : Hid (∀ W, Below w.heap.size w W → W.cell? ⟨s, 1, none⟩ = some (.int .i64 (u : Int))) := fun W hW => (hW.cell (p := ⟨s, 1, none⟩) hsl).trans h1.c1
  have HC37 : Hid (∀ W, Below w.heap.size w W → W.cell? ⟨s, 37, none⟩ = some (.slice (some ⟨b, 0, none⟩) n c)) := fun W hW => (hW.cell (p := ⟨s, 37, none⟩) hsl).trans h1.c37
  have HFZ : Hid (∀ W, Below w.heap.size w W → W.frozen? ⟨s, 1, none⟩ = false) := fun W hW => (hW.frozen (p := ⟨s, 1, none⟩) hsl).trans (h1.fz 1)
  have HH := Lib.hid h
  have HN := Lib.hid hn
  have HU2 := Lib.hid hu2
  have HZ := Lib.hid hz
  have H1 := Lib.hid h1
  have H2 := Lib.hid h2
  have HOWN := Lib.hid hown
  have HCL := Lib.hid hclen
  have hw1 : IntKind.i64.wrap ((u : Int) - (z : Int)) = (u2 : Int) := by rw [IntKind.wrap_i64]; omega
  clear h1 h2 h hn hu hu2 hz e1 hse hown hclen
  go_enter Try.func56, Try.ntmps56
  go_upto_region 0 with fail
  refine wp_region_noPanic ?_
  refine keepBegin (S := fun W => Below w.heap.size w W) 16 (by kernel_rfl) ?_ (fun hHeld => ?_)
  · exact (RowKit.Below.refl _ _).drew
  refine keepTake (i := 0) (v := ?_) [0] rfl (by kernel_rfl) (by kernel_rfl) (by kernel_rfl) (by kernel_rfl) (by kernel_rfl) (by kernel_rfl) (fun _ _ _ h => h) (Or.inl ⟨by rfl, ?_⟩) (by assumption) ?_
  rotate_left
  · (intro W hSw; (try dsimp only at hSw); have f1 := HC1.out W hSw; have f2 := HC37.out W hSw; go_simp; try with_reducible rfl)
  try simp only [keepPut, List.set]
  refine keepTake (i := 1) (v := ?_) [1] rfl (by kernel_rfl) (by kernel_rfl) (by kernel_rfl) (by kernel_rfl) (by kernel_rfl) (by kernel_rfl) (fun _ _ _ h => h) (Or.inl ⟨by rfl, ?_⟩) (by assumption) ?_
  rotate_left
  · (intro W hSw; (try dsimp only at hSw); have f1 := HC1.out W hSw; have f2 := HC37.out W hSw; go_simp; try with_reducible rfl)
  try simp only [keepPut, List.set]
  refine keepTake (i := 2) (v := ?_) [2] rfl (by kernel_rfl) (by kernel_rfl) (by kernel_rfl) (by kernel_rfl) (by kernel_rfl) (by kernel_rfl) (fun _ _ _ h => h) (Or.inl ⟨by rfl, ?_⟩) (by assumption) ?_
  rotate_left
  · (intro W hSw; (try dsimp only at hSw); have f1 := HC1.out W hSw; have f2 := HC37.out W hSw; go_simp; try with_reducible rfl)
  try simp only [keepPut, List.set]
  refine keepTake (i := 3) (v := ?_) [3] rfl (by kernel_rfl) (by kernel_rfl) (by kernel_rfl) (by kernel_rfl) (by kernel_rfl) (by kernel_rfl) (fun _ _ _ h => h) (Or.inl ⟨by rfl, ?_⟩) (by assumption) ?_
  rotate_left
  · (intro W hSw; (try dsimp only at hSw); have f1 := HC1.out W hSw; have f2 := HC37.out W hSw; go_simp; try with_reducible rfl)
  try simp only [keepPut, List.set]
  refine keepTake (i := 4) (v := ?_) [4] rfl (by kernel_rfl) (by kernel_rfl) (by kernel_rfl) (by kernel_rfl) (by kernel_rfl) (by kernel_rfl) (fun _ _ _ h => h) (Or.inl ⟨by rfl, ?_⟩) (by assumption) ?_
  rotate_left
  · (intro W hSw; (try dsimp only at hSw); have f1 := HC1.out W hSw; have f2 := HC37.out W hSw; go_simp; try with_reducible rfl)
  try simp only [keepPut, List.set]
  refine keepTake (i := 5) (v := ?_) [5] rfl (by kernel_rfl) (by kernel_rfl) (by kernel_rfl) (by kernel_rfl) (by kernel_rfl) (by kernel_rfl) (fun _ _ _ h => h) (Or.inl ⟨by rfl, ?_⟩) (by assumption) ?_
  rotate_left
  · (intro W hSw; (try dsimp only at hSw); have f1 := HC1.out W hSw; have f2 := HC37.out W hSw; go_simp; try with_reducible rfl)
  try simp only [keepPut, List.set]
  refine keepTake (i := 6) (v := ?_) [6] rfl (by kernel_rfl) (by kernel_rfl) (by kernel_rfl) (by kernel_rfl) (by kernel_rfl) (by kernel_rfl) (fun _ _ _ h => h) (Or.inl ⟨by rfl, ?_⟩) (by assumption) ?_
  rotate_left
  · (intro W hSw; (try dsimp only at hSw); have f1 := HC1.out W hSw; have f2 := HC37.out W hSw; go_simp; try with_reducible rfl)
  try simp only [keepPut, List.set]
  refine keepTake (i := 7) (v := ?_) [7] rfl (by kernel_rfl) (by kernel_rfl) (by kernel_rfl) (by kernel_rfl) (by kernel_rfl) (by kernel_rfl) (fun _ _ _ h => h) (Or.inl ⟨by rfl, ?_⟩) (by assumption) ?_
  rotate_left
  · (intro W hSw; (try dsimp only at hSw); have f1 := HC1.out W hSw; have f2 := HC37.out W hSw; go_simp; try with_reducible rfl)
  try simp only [keepPut, List.set]
  refine keepTake (i := 8) (v := ?_) [8] rfl (by kernel_rfl) (by kernel_rfl) (by kernel_rfl) (by kernel_rfl) (by kernel_rfl) (by kernel_rfl) (fun _ _ _ h => h) (Or.inl ⟨by rfl, ?_⟩) (by assumption) ?_
  rotate_left
  · (intro W hSw; (try dsimp only at hSw); have f1 := HC1.out W hSw; have f2 := HC37.out W hSw; go_simp; try with_reducible rfl)
  try simp only [keepPut, List.set]
  refine keepTake (i := 9) (v := ?_) [9] rfl (by kernel_rfl) (by kernel_rfl) (by kernel_rfl) (by kernel_rfl) (by kernel_rfl) (by kernel_rfl) (fun _ _ _ h => h) (Or.inl ⟨by rfl, ?_⟩) (by assumption) ?_
  rotate_left
  · (intro W hSw; (try dsimp only at hSw); have f1 := HC1.out W hSw; have f2 := HC37.out W hSw; go_simp; try with_reducible rfl)
  try simp only [keepPut, List.set]
  refine keepTake (i := 10) (v := ?_) [10] rfl (by kernel_rfl) (by kernel_rfl) (by kernel_rfl) (by kernel_rfl) (by kernel_rfl) (by kernel_rfl) (fun _ _ _ h => h) (Or.inl ⟨by rfl, ?_⟩) (by assumption) ?_
  rotate_left
  · (intro W hSw; (try dsimp only at hSw); have f1 := HC1.out W hSw; have f2 := HC37.out W hSw; go_simp; try with_reducible rfl)
  try simp only [keepPut, List.set]
  refine keepTake (i := 11) (v := ?_) [11] rfl (by kernel_rfl) (by kernel_rfl) (by kernel_rfl) (by kernel_rfl) (by kernel_rfl) (by kernel_rfl) (fun _ _ _ h => h) (Or.inl ⟨by rfl, ?_⟩) (by assumption) ?_
  rotate_left
  · (intro W hSw; (try dsimp only at hSw); have f3 := HSL.out W; go_simp; try with_reducible rfl)
  try simp only [keepPut, List.set]
  refine keepAll (rs := [12]) (by kernel_rfl) (by simp) (AllReadyK.cons rfl (fun K hK => ?_) AllReadyK.nil)
  go_simp
  refine (sizes_any (some ⟨b, i * 14, none⟩) (j - i) (c - i) ((L.drop i).take (j - i)) _ HLL.out (by omega) (HRD.out.below hHeld) (HOE.out.below hHeld)).mono ?_
  rintro e' w5 ⟨rfl, hb5⟩
  have HB5 : Hid (Below w.heap.size w w5) := hHeld.trans (hb5.mono hHeld.size)
  clear hb5
  go_wp2_with fail
  refine hK.out _ _ HB5.out (fun hHeld2 => ?_)
  clear hK K
  rw [← HZ.out]
  try simp only [keepPut, List.set, Nat.zero_add]
  refine keepTake (i := 13) (v := ?_) [13] rfl (by kernel_rfl) (by kernel_rfl) (by kernel_rfl) (by kernel_rfl) (by kernel_rfl) (by kernel_rfl) (fun _ _ _ h => h) (Or.inl ⟨by rfl, ?_⟩) (by assumption) ?_
  rotate_left
  · (intro W hSw; (try dsimp only at hSw);  go_simp; try with_reducible rfl)
  try simp only [keepPut, List.set]
  refine keepTake (i := 14) (v := ?_) [15, 14] rfl (by kernel_rfl) (by kernel_rfl) (by kernel_rfl) (by kernel_rfl) (by kernel_rfl) (by kernel_rfl) (fun _ _ _ h => h) (Or.inl ⟨by rfl, ?_⟩) (by assumption) ?_
  rotate_left
  · (intro W hSw; (try dsimp only at hSw);  go_simp; try with_reducible rfl)
  try simp only [keepPut, List.set]
  refine keepTake (i := 15) (v := ?_) [15] rfl (by kernel_rfl) (by kernel_rfl) (by kernel_rfl) (by kernel_rfl) (by kernel_rfl) (by kernel_rfl) (fun _ _ _ h => h) (Or.inl ⟨by rfl, ?_⟩) (by assumption) ?_
  rotate_left
  · (intro W hSw; (try dsimp only at hSw);  go_simp; try with_reducible rfl)
  try simp only [keepPut, List.set]
  refine keepLast rfl (by kernel_rfl) (fun K hK => ?_)
  have f1 := HC1.out w5 HB5.out
  have f4 := HFZ.out w5 HB5.out
  go_simp
  refine hK.out _ _ ?_
  clear hK K
  try simp only [keepPut, List.set, Nat.zero_add]
  refine keepDone (by kernel_rfl) ?_ _
  refine NoPanic.normal ?_
  have f5 := (H1.out.below HB5.out).setU u2
  obtain ⟨w7, hw7⟩ : ∃ w7, w7 = w5.setCell ⟨s, 1, none⟩ (.int .i64 (u2 : Int)) := ⟨_, rfl⟩
  have ho7 : Only (fun k => k = s) w5 w7 := by rw [hw7]; exact Only.setCell _ _ _ rfl
  rw [← hw7] at f5 ⊢
  have ho67 : Only (fun k => k = s) w w7 := (Only.of_below HB5.out _).trans ho7 (fun i hi => .inl hi)
  have hown7 : w7.ownsRow 0 68 14 (.slice (some ⟨b, 0, none⟩) n c) n (cellsE L) := ho67.own HOWN.out (fun k hk e => by injection hk with hk; have hk : b = k := hk; have e : k = s := e; omega)
  have x37 := f5.c37
  have hD := delete_any b n c i j L w7 HN.out hfew hij hj hown7
  have HD := Lib.hid hD
  have H5 := Lib.hid f5
  have HO7 := Lib.hid ho67
  clear f1 f4 f5 hw7 ho7 ho67 hown7 hD HC1 HC37 HFZ HB5 hHeld hHeld2
  go_wp2_with fail
  refine HD.out.mono ?_
  rintro e' w8 ⟨rfl, ho8, hn8⟩
  have f8 := H5.out.only hn8 H5.out.slt (fun e => hbs e.symm)
  have x37 := f8.c37
  have fz37 := f8.fz 37
  have H8 := Lib.hid f8
  have HO8 := Lib.hid ho8
  have HN8 := Lib.hid hn8
  clear ho8 hn8 f8
  go_wp2
  have ho9 : Only (fun k => k = s) w8 (w8.setCell ⟨s, 37, none⟩ (.slice (some ⟨b, 0, none⟩) (n - (j - i)) c)) := Only.setCell _ _ _ rfl
  have ho : Only S w (w8.setCell ⟨s, 37, none⟩ (.slice (some ⟨b, 0, none⟩) (n - (j - i)) c)) := (((Only.refl S w).trans HO7.out (fun i hi => .inl (by have hi : i = s := hi; rw [hi]; exact HH.out.sS))).trans HN8.out (fun i hi => .inl (by have hi : i = b := hi; rw [hi]; exact hbS))).trans ho9 (fun i hi => .inl (by have hi : i = s := hi; rw [hi]; exact HH.out.sS))
  have hst : Step w S (w8.setCell ⟨s, 37, none⟩ (.slice (some ⟨b, 0, none⟩) (n - (j - i)) c)) S := ⟨ho, fun _ hk => .inl hk⟩
  have hown9 := ho9.own HO8.out (fun k hk e => by injection hk with hk; have hk : b = k := hk; have e : k = s := e; omega)
  have hc9 := H8.out.setL (.slice (some ⟨b, 0, none⟩) (n - (j - i)) c)
  go_end0
  refine ⟨rfl, ⟨⟨.slice (some ⟨b, 0, none⟩) (n - (j - i)) c, by rw [← HU2.out]; exact hc9, by rw [HCL.out]; exact hown9, H2.out.vs, H2.out.vS⟩, HH.out.sS, fun k hk => Nat.lt_of_lt_of_le (HH.out.lt k hk) ho.size, by rw [HCL.out]; omega, fun e he => (HH.out.ent e (cutE_mem he)).step hst, HH.out.q⟩, hst⟩
end Go.Proofs.Ytgcfofnlgdfmoaa
