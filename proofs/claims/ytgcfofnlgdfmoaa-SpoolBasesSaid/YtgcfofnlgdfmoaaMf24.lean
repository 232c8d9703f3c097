/- Several texts in one: SpDel. -/
import Derived.OwnWalk
import Derived.Laws.OwnMore
import Derived.Deep.RegionLaw
import Derived.RegionTactic
import Derived.BigRegion
import Derived.Test.YtgcfofnlgdfmoaaMf23
/- Layer 8: slices.Delete of entries (the library's text, walked). -/
namespace Go.Proofs.Ytgcfofnlgdfmoaa
open Go.RowKit

theorem step_append_fits {P : Program} {w : World} {ops : Array Oper} {o : Oper} {a : Act} {K : Act → World → Prop} {Q : Exit → Act → World → Prop} {E : Prop} (s x : Operand) (t : TypeId) (hop : o.op = Op.call { callee := Callee.builtin Builtin.append, args := #[s, x], argTypes := #[t, t] })
    (base : Nat) (e : TypeId) (i : TypeInfo) (size : Nat) (h1 : P.underlying t = some (.slice e)) (h2 : P.info? e = some i) (h4 : i.size = size)
    (g k cap : Nat) (xs : List Value) (hs : a.eval s = .slice (some ⟨g, 0, none⟩) k cap) (hown : w.ownsRow base e size (.slice (some ⟨g, 0, none⟩) k cap) k xs) (ad : Addr) (m c : Nat) (news : List Value) (hx : a.eval x = .slice (some ad) m c) (hn : news.length = m * size)
    (hc : ∀ j u, news[j]? = some u → w.cell? (ad.add j) = some u) (h1c : ∀ u ∈ news, u.oneCell' = true) (b1 : k + m ≤ cap) (hw : Region.wanted o (yielded ops a.tmps) = true)
    (hK : ∀ w', w'.ownsRow base e size (.slice (some ⟨g, 0, none⟩) (k + m) cap) (k + m) (xs ++ news) → w.grownBy w' (some g) → K (a.put o.dst (.slice (some ⟨g, 0, none⟩) (k + m) cap)) w') :
    if Region.wanted o (yielded ops a.tmps) = true then Oper.wp P o a w K Q else E := by
  rw [if_pos hw]
  obtain ⟨w', hrun, r1, r2⟩ := run_append_fits (P := P) w base t o.type e i size h1 h2 h4 g k cap xs hown ad m c news hn hc h1c b1
  unfold Oper.wp
  simp [execOp, hop, resolve, invoke, builtin, hs, hx, hrun, Result.andThen]
  exact hK w' r1 r2
theorem sizeOfE (w : World) : (sizeOf (Try.prog.elem 63)).run Try.prog w = .ok 14 w := by kernel_rfl
def subE (b c lo : Nat) : Addr := if c = lo then ⟨b, 0, none⟩ else ⟨b, lo * 14, none⟩
theorem huE : Try.prog.underlying 63 = some (.slice (Try.prog.elem 63)) := by kernel_rfl
theorem slE_lhm (b n c lo hi mx : Nat) (h1 : lo ≤ hi) (h2 : hi ≤ mx) (h3 : mx ≤ c) (w : World) :
    (Instr.sliceAt 63 (.slice (some ⟨b, 0, none⟩) n c) (some (.int .i64 lo)) (some (.int .i64 hi)) (some (.int .i64 mx))).run Try.prog w = .ok (.slice (some (subE b mx lo)) (hi - lo) (mx - lo)) w := by
  rw [run_sliceAt_slice _ _ _ _ _ _ huE, run_slice_lhm _ _ _ _ _ huE .i64 .i64 .i64 (lo : Int) (hi : Int) (mx : Int) (by omega) (by omega) (by omega) (by omega), sizeOfE]
  simp [Result.andThen, sliced, subE, Addr.add]
  split
  · rfl
  · split <;> simp_all
theorem slE_lh (b n c lo hi : Nat) (h1 : lo ≤ hi) (h2 : hi ≤ c) (w : World) :
    (Instr.sliceAt 63 (.slice (some ⟨b, 0, none⟩) n c) (some (.int .i64 lo)) (some (.int .i64 hi)) none).run Try.prog w = .ok (.slice (some (subE b c lo)) (hi - lo) (c - lo)) w := by
  rw [run_sliceAt_slice _ _ _ _ _ _ huE, run_slice_lh _ _ _ _ _ huE .i64 .i64 (lo : Int) (hi : Int) (by omega) (by omega) (by omega), sizeOfE]
  simp [Result.andThen, sliced, subE, Addr.add]
  split
  · rfl
  · split <;> simp_all
theorem slE_l (b n c lo : Nat) (h1 : lo ≤ n) (w : World) :
    (Instr.sliceAt 63 (.slice (some ⟨b, 0, none⟩) n c) (some (.int .i64 lo)) none none).run Try.prog w = .ok (.slice (some (subE b c lo)) (n - lo) (c - lo)) w := by
  rw [run_sliceAt_slice _ _ _ _ _ _ huE, run_slice_l _ _ _ _ _ huE .i64 (lo : Int) (by omega) (by omega), sizeOfE]
  simp [Result.andThen, sliced, subE, Addr.add]
  split
  · rfl
  · split <;> simp_all
theorem slE_h (A : Option Addr) (n c hi : Nat) (h2 : hi ≤ c) (w : World) :
    (Instr.sliceAt 63 (.slice A n c) none (some (.int .i64 hi)) none).run Try.prog w = .ok (.slice A hi c) w := by
  rw [run_sliceAt_slice _ _ _ _ _ _ huE, run_slice_h _ _ _ _ _ huE .i64 (hi : Int) (by omega) (by omega), sizeOfE]
  cases A <;> simp [Result.andThen, sliced, Addr.add]
theorem Try.infoEnt : (Try.prog.info? 68).map (fun i => (i.zero, i.size, i.bytes)) = some (some (.agg #[.int .u64 0, .bool false, .int .u8 0, .int .u64 0, .int .u64 0, .string ⟨#[]⟩, .slice none 0 0, .int .u8 0, .int .u8 0, .int .i64 0, .int .u8 0, .int .u8 0, .int .u64 0, .int .u64 0]), 14, 128) := by kernel_rfl
theorem own_takeE {w : World} {base : Nat} {e : TypeId} {g n c k : Nat} {xs : List Value} (h : w.ownsRow base e 14 (.slice (some ⟨g, 0, none⟩) n c) n xs) (hk : k ≤ n) : w.ownsRow base e 14 (.slice (some ⟨g, 0, none⟩) k c) k (xs.take (k * 14)) := by
  refine ⟨by rw [List.length_take, h.1]; omega, ?_⟩
  rcases h.2 with ⟨e1, _⟩ | ⟨g', cap, cur, e1, h1, h2, h3, h4, h5, h6⟩
  · injection e1 with e1; cases e1
  · injection e1 with e1 e2 e3
    subst e3
    refine .inr ⟨g', c, cur, by rw [e1], h1, h2, by omega, h4, h5, ?_⟩
    rw [← h6, List.take_take, Nat.min_eq_left (by omega)]
theorem own_thereCap {w : World} {base : Nat} {e : TypeId} {g n c : Nat} {xs : List Value} (h : w.ownsRow base e 14 (.slice (some ⟨g, 0, none⟩) n c) n xs) {i k : Nat} (hi : i + k ≤ c * 14) : w.there g i k := fun j hj => by
  rcases h.2 with ⟨e1, _⟩ | ⟨g', cap, cur, e1, h1, h2, h3, h4, h5, h6⟩
  · injection e1 with e1; cases e1
  · injection e1 with e1 e2 e3
    injection e1 with e1
    have e1 : g = g' := congrArg Addr.block e1
    subst e1
    subst e3
    refine ⟨?_, by simp [World.frozen?, h2]⟩
    rw [cell_of_row w g (i + j) cur e (0, 0) h2]
    rw [Array.getElem?_eq_getElem (by omega)]
    rfl
theorem own_capE {w : World} {base : Nat} {e : TypeId} {A : Option Addr} {n c : Nat} {xs : List Value} (h : w.ownsRow base e 14 (.slice A n c) n xs) : n ≤ c ∧ c ≤ maxLen := by
  rcases h.2 with ⟨e1, _⟩ | ⟨g', cap, cur, e1, h1, h2, h3, h4, h5, h6⟩
  · injection e1 with e1 e2 e3
    subst e2; subst e3
    exact ⟨Nat.le_refl _, Nat.zero_le _⟩
  · injection e1 with e1 e2 e3
    subst e3
    exact ⟨h3, h4⟩
theorem putL_out : ∀ (vs xs : List Value) (i : Nat), xs.length ≤ i → putL xs i vs = xs
  | [], _, _, _ => rfl
  | v :: vs, xs, i, h => by
    rw [putL, List.set_eq_of_length_le h]
    exact putL_out vs xs (i + 1) (by omega)
def zeroE : Value := .agg #[.int .u64 0, .bool false, .int .u8 0, .int .u64 0, .int .u64 0, .string ⟨#[]⟩, .slice none 0 0, .int .u8 0, .int .u8 0, .int .i64 0, .int .u8 0, .int .u8 0, .int .u64 0, .int .u64 0]
theorem zeroE_run (w : World) : (zeroValue (Try.prog.elem 63)).run Try.prog w = .ok zeroE w := by kernel_rfl
theorem run_clear_E (b o k c : Nat) (hk : 0 < k) (ty : TypeId) (w : World) (ht : w.there b o (k * 14)) :
    ∃ Z : List Value, Z.length = k * 14 ∧ (Builtin.clear_ #[63] ty #[.slice (some ⟨b, o, none⟩) k c]).run Try.prog w = .ok (.tuple #[]) (w.setCells b o Z) := by
  have hzl : (Builtin.zeroCells zeroE.cells k).toList.length = k * 14 := by
    simp [Builtin.zeroCells, zeroE, Value.cells]
  have h1 : ∀ v ∈ (Builtin.zeroCells zeroE.cells k).toList, v.oneCell' = true := by
    intro v hv
    unfold Builtin.zeroCells at hv
    rw [Array.toList_map] at hv
    obtain ⟨i, _, rfl⟩ := List.mem_map.1 hv
    have hi : i % 14 < 14 := Nat.mod_lt _ (by decide)
    show (zeroE.cells[i % 14]!).oneCell' = true
    generalize i % 14 = m at hi
    match m, hi with
    | 0, _ => rfl | 1, _ => rfl | 2, _ => rfl | 3, _ => rfl | 4, _ => rfl | 5, _ => rfl | 6, _ => rfl | 7, _ => rfl | 8, _ => rfl | 9, _ => rfl | 10, _ => rfl | 11, _ => rfl | 12, _ => rfl | 13, _ => rfl
    | m + 14, h => exact absurd h (by omega)
  have hst := run_storeCells_cells (P := Try.prog) b o (Builtin.zeroCells zeroE.cells k).toList 0 w (fun j hj => by rw [hzl] at hj; simpa using (ht j hj).1) (fun j hj => by rw [hzl] at hj; simpa using (ht j hj).2) h1
  simp only [Nat.add_zero] at hst
  refine ⟨_, hzl, ?_⟩
  obtain ⟨m, rfl⟩ : ∃ m, k = m + 1 := ⟨k - 1, by omega⟩
  simp [Builtin.clear_, run_underlying huE, zeroE_run, hst]
def cutE (L : List Ett) (i j : Nat) : List Ett := L.take i ++ L.drop j
theorem cutE_length {L : List Ett} {i j : Nat} (h : i ≤ j) (hj : j ≤ L.length) : (cutE L i j).length = L.length - (j - i) := by
  unfold cutE
  rw [List.length_append, List.length_take, List.length_drop]
  omega

set_option maxRecDepth 100000 in
set_option maxHeartbeats 2000000 in
theorem delete_any (b n c i j : Nat) (L : List Ett) (w : World) (hn : n = L.length) (_ : n ≤ 100000) (hij : i < j) (hj : j ≤ n) (ho : w.ownsRow 0 68 14 (.slice (some ⟨b, 0, none⟩) n c) n (cellsE L)) :
    Calls Try.prog 83 #[.slice (some ⟨b, 0, none⟩) n c, .int .i64 i, .int .i64 j] w fun e w' => e = .returned (.slice (some ⟨b, 0, none⟩) (n - (j - i)) c) ∧ w'.ownsRow 0 68 14 (.slice (some ⟨b, 0, none⟩) (n - (j - i)) c) (n - (j - i)) (cellsE (cutE L i j)) ∧ Only (fun k => k = b) w w' := by
  obtain ⟨i0, hi0, hz0, hz1, hz2⟩ := info_parts Try.infoEnt
  obtain ⟨hcap, hcm⟩ := own_capE ho
  have hbl := (ho.lt b rfl).2
  have e1 := slE_lhm b n c i j n (by omega) (by omega) (by omega)
  have e2 := slE_h (some ⟨b, 0, none⟩) n c i (by omega)
  have e3 := slE_l b n c j (by omega)
  have e4 := slE_lh b (n - (j - i)) c (n - (j - i)) n (by omega) hcap
  have hsub : n - (n - (j - i)) = j - i := by omega
  have hse : subE b c (n - (j - i)) = ⟨b, (n - (j - i)) * 14, none⟩ := by unfold subE; rw [if_neg (by omega)]
  rw [hsub, hse] at e4
  have hij2 : i + (n - j) = n - (j - i) := by omega
  have d0 : ((i : Int) == (j : Int)) = false := by simp; omega
  have HO := Lib.hid ho
  have HN := Lib.hid hn
  have HE2 := Lib.hid e2
  have HE3 := Lib.hid e3
  have HE4 := Lib.hid e4
  have HIJ := Lib.hid hij2
  clear hn ho e2 e3 e4 hsub hse hij2
  go_enter Try.func83, Try.ntmps83
  go_upto_region 5 with fail
  refine wp_region_noPanic ?_
  refine wp_region_held_drew (S := fun W => Only (fun k => k = b) w W) (by kernel_rfl) ?_ (fun hHeld => ?_)
  · exact Only.of_below (RowKit.Below.refl _ _).drew _
  refine heldTake (i := 0) (v := ?_) rfl (by kernel_rfl) (by kernel_rfl) (by kernel_rfl) (fun _ _ _ h => h) (Or.inl ⟨by rfl, ?_⟩) (by assumption) ?_
  rotate_left
  · (intro W hSw; (try dsimp only at hSw);  go_simp; try with_reducible rfl)
  try simp only [heldPut, List.set]
  refine heldTake (i := 1) (v := ?_) rfl (by kernel_rfl) (by kernel_rfl) (by kernel_rfl) (fun _ _ _ h => h) (Or.inl ⟨by rfl, ?_⟩) (by assumption) ?_
  rotate_left
  · (intro W hSw; (try dsimp only at hSw);  go_simp; try with_reducible rfl)
  try simp only [heldPut, List.set]
  refine heldTake (i := 2) (v := ?_) rfl (by kernel_rfl) (by kernel_rfl) (by kernel_rfl) (fun _ _ _ h => h) (Or.inl ⟨by rfl, ?_⟩) (by assumption) ?_
  rotate_left
  · (intro W hSw; (try dsimp only at hSw); have f2 := HE2.out W; go_simp; try with_reducible rfl)
  try simp only [heldPut, List.set]
  refine heldTake (i := 3) (v := ?_) rfl (by kernel_rfl) (by kernel_rfl) (by kernel_rfl) (fun _ _ _ h => h) (Or.inl ⟨by rfl, ?_⟩) (by assumption) ?_
  rotate_left
  · (intro W hSw; (try dsimp only at hSw);  go_simp; try with_reducible rfl)
  try simp only [heldPut, List.set]
  refine heldTake (i := 4) (v := ?_) rfl (by kernel_rfl) (by kernel_rfl) (by kernel_rfl) (fun _ _ _ h => h) (Or.inl ⟨by rfl, ?_⟩) (by assumption) ?_
  rotate_left
  · (intro W hSw; (try dsimp only at hSw);  go_simp; try with_reducible rfl)
  try simp only [heldPut, List.set]
  refine heldTake (i := 5) (v := ?_) rfl (by kernel_rfl) (by kernel_rfl) (by kernel_rfl) (fun _ _ _ h => h) (Or.inl ⟨by rfl, ?_⟩) (by assumption) ?_
  rotate_left
  · (intro W hSw; (try dsimp only at hSw); have f3 := HE3.out W; go_simp; try with_reducible rfl)
  try simp only [heldPut, List.set]
  refine heldOne (i := 6) rfl (by kernel_rfl) (fun K hK => ?_)
  have hnews : (cellsE (L.drop j)).length = (n - j) * 14 := by rw [cellsE_length, List.length_drop, HN.out]
  refine step_append_fits (.tmp 22) (.tmp 25) 63 rfl 0 68 i0 14 Try.underlying63 hi0 hz1 b i c ((cellsE L).take (i * 14)) rfl (own_takeE (ownB_below HO.out (RowKit.Below.refl _ _).drew) (by omega)) (subE b c j) (n - j) (c - j) (cellsE (L.drop j)) rfl hnews (fun t u ht => ?_) (cellsE_one _) (by omega) (by rfl) ?_
  · have htl := (List.getElem?_eq_some_iff.1 ht).1
    rw [hnews] at htl
    have hs : subE b c j = ⟨b, j * 14, none⟩ := by unfold subE; rw [if_neg (by omega)]
    rw [hs, Addr.add_mid]
    rw [cellsE_drop, List.getElem?_drop] at ht
    have := HO.out.cells (g := b) rfl _ _ ht
    rw [Addr.add_lit, Nat.zero_add] at this
    exact this
  intro w5 ho5 hg5
  rw [HIJ.out]
  rw [HIJ.out, ← cellsE_take, ← cellsE_append] at ho5
  have hon5 : Only (fun k => k = b) w w5 := ⟨hg5.os, hg5.tape, hg5.output, hg5.size, fun k hk hne => hg5.block k hk (fun e => hne (by injection e))⟩
  have HO5 : Hid (w5.ownsRow 0 68 14 (.slice (some ⟨b, 0, none⟩) (n - (j - i)) c) (n - (j - i)) (cellsE (cutE L i j))) := ho5
  have HON5 := Lib.hid hon5
  clear ho5 hg5 hnews
  refine hK.out _ _ hon5 (fun hHeld2 => ?_)
  clear hK K hon5
  try simp only [heldPut, List.set]
  refine heldTake (i := 7) (v := ?_) rfl (by kernel_rfl) (by kernel_rfl) (by kernel_rfl) (fun _ _ _ h => h) (Or.inl ⟨by rfl, ?_⟩) (by assumption) ?_
  rotate_left
  · (intro W hSw; (try dsimp only at hSw);  go_simp; try with_reducible rfl)
  try simp only [heldPut, List.set]
  refine wpAnyH_done (by kernel_rfl) ?_ _
  refine NoPanic.normal ?_
  have hb5 := HON5.out.size
  have ht5 : w5.there b ((n - (j - i)) * 14) ((j - i) * 14) := own_thereCap HO5.out (by omega)
  obtain ⟨Z, hZ, hcl⟩ := run_clear_E b ((n - (j - i)) * 14) (j - i) (c - (n - (j - i))) (by omega) 0 w5 ht5
  have f4 := HE4.out w5
  have hsub : n - (n - (j - i)) = j - i := by omega
  go_wp2
  go_ret
  refine ⟨rfl, ?_, HON5.out.trans (onlyCells (T := fun k => k = b) rfl Z _ w5) (fun _ hi => .inl hi)⟩
  have := own_setCells Z ((n - (j - i)) * 14) HO5.out
  rw [putL_out _ _ _ (by rw [HO5.out.1]; exact Nat.le_refl _)] at this
  exact this
end Go.Proofs.Ytgcfofnlgdfmoaa
