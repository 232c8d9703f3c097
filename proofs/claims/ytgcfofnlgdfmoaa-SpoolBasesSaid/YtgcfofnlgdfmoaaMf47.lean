/- Several texts in one: SpBasT. -/
import Derived.Test.YtgcfofnlgdfmoaaMf46
/- Layer 8: SpoolBases: an entry is left out of the row. -/
namespace Go.Proofs.Ytgcfofnlgdfmoaa
open Go.RowKit

theorem slO_hm (A : Option Addr) (n c k : Nat) (h : k ≤ c) (w : World) :
    (Instr.sliceAt 63 (.slice A n c) none (some (.int .i64 k)) (some (.int .i64 k))).run Try.prog w = .ok (.slice A k k) w := by
  rw [run_sliceAt_slice _ _ _ _ _ _ huE]
  have h0 : (0 : Int) ≤ (k : Int) := by omega
  have h1 : (k : Int) ≤ (c : Int) := by omega
  simp [Instr.slice, run_underlying huE, Instr.sliceBounds, run_sliceBound, h0, h1, h]
  rw [sizeOfE]
  cases A <;> simp [Result.andThen, Addr.add]
theorem run_app_none {t ty e : TypeId} {i : TypeInfo} {P : Program} (ht : P.underlying t = some (.slice e)) (hi : P.info? e = some i) (b : Addr) (k : Nat) (a : Addr) (c : Nat) (w : World) :
    (Builtin.append_ #[t, t] ty #[.slice (some b) k k, .slice (some a) 0 c]).run P w = .ok (.slice (some b) k k) w := by
  simp [Builtin.append_, run_underlying ht, sizeOf, typeInfo, hi, Builtin.lenOf, Builtin.firstCells, storeCells, loadCells, loadCellsFrom, Result.andThen]
set_option maxRecDepth 100000 in
theorem Bas.cut {w0 w : World} {g base n c b k : Nat} {X : Sp} {A : Option Addr} {M : List Ett} (h : Bas w0 w g base X A n c M) (hA : A = some ⟨b, 0, none⟩) (hk : k < n) (ty : TypeId) :
    ∃ A' c' w', (Builtin.append_ #[63, 63] ty #[.slice A k k, .slice (subO A c (k + 1)) (n - (k + 1)) (c - (k + 1))]).run Try.prog w = .ok (.slice A' (n - 1) c') w' ∧ RdM8 w' A' (cutE M k (k + 1)) ∧ Below w.heap.size w w' := by
  obtain ⟨i0, hi0, hz0, hz1, hz2⟩ := info_parts Try.infoEnt
  have hln := h.len
  have hfw := h.few
  have hown := h.own
  subst hA
  have hcap := (own_capE hown).1
  have hsub : subO (some ⟨b, 0, none⟩) c (k + 1) = some (subE b c (k + 1)) := by
    unfold subO subE
    split <;> simp [Addr.add]
  rw [hsub]
  rcases Nat.eq_zero_or_pos (n - (k + 1)) with h0 | h0
  · rw [h0, show n - 1 = k by omega]
    refine ⟨_, k, w, run_app_none Try.underlying63 hi0 _ _ _ _ _, ?_, RowKit.Below.refl _ _⟩
    have hM : cutE M k (k + 1) = M.take k := by unfold cutE; rw [List.drop_of_length_le (by omega), List.append_nil]
    rw [hM]
    have hrd := h.rdm
    refine ⟨fun hl => ?_, fun e he => hrd.ok e (List.mem_of_mem_take he)⟩
    obtain ⟨b', o, e1, hb', hc⟩ := hrd.rd (by omega)
    refine ⟨b', o, e1, hb', fun j x hx => hc j x ?_⟩
    rw [List.getElem?_take] at hx
    split at hx
    · exact hx
    · cases hx
  · have hsrc := srcE_cut (m := k + 1) (k := n - (k + 1)) hln (ownB_mono hown (Nat.zero_le _)) (by omega) (Nat.le_refl _)
    obtain ⟨ad, hae, hcs⟩ := hsrc.2 h0
    injection hae with hae
    have holds : ∀ j u, (cellsE (M.take k))[j]? = some u → w.cell? ((⟨b, 0, none⟩ : Addr).add j) = some u := fun j u hu => by
      rw [cellsE_take, List.getElem?_take] at hu
      split at hu
      · exact hown.cells (g := b) rfl j u hu
      · cases hu
    obtain ⟨v', w', hrun, hown', hg⟩ := run_append_arg_grows (P := Try.prog) (w := w) 63 ty 68 i0 _ 14 _ Try.underlying63 hi0 hz0 hz1 hz2 rfl (by decide) ⟨b, 0, none⟩ k k (cellsE (M.take k)) (by rw [cellsE_length, List.length_take]; congr 1; omega) holds
      (subE b c (k + 1)) (n - (k + 1)) (c - (k + 1)) (cellsE (listE M (k + 1) (n - (k + 1)))) hsrc.1 (fun j u hu => by rw [hae]; exact hcs j u hu) (by omega) (by unfold maxLen; omega) (by omega)
    obtain ⟨A', c', rfl⟩ := own_slice hown'
    have hM : cutE M k (k + 1) = M.take k ++ listE M (k + 1) (n - (k + 1)) := by
      have e : (M.drop (k + 1)).take (n - (k + 1)) = M.drop (k + 1) := List.take_of_length_le (by rw [List.length_drop]; omega)
      unfold cutE listE
      rw [e]
    have hbl : Below w.heap.size w w' := ⟨hg.os, hg.tape, hg.output, hg.size, fun j hj => hg.block j hj (by simp)⟩
    have hlen : (cutE M k (k + 1)).length = k + (n - (k + 1)) := by rw [cutE_length (by omega) (by omega)]; omega
    refine ⟨A', c', w', by rw [hrun, show k + (n - (k + 1)) = n - 1 by omega], ?_, hbl⟩
    rw [← cellsE_append, ← hM, ← hlen] at hown'
    exact own_rdE hown' (fun e he => (h.rdm.ok e (cutE_mem he)).below hbl)
theorem BsV.kind {cs : List Value} {X : Sp} {A : Option Addr} {n c : Nat} (h : BsV cs X (.slice A n c)) {j : Nat} {u : Value} (hu : cs[j]? = some u) : (∃ k : Int, u = .int .u64 k) ∨ ∃ A n c, u = .slice A n c := by
  have hj := (List.getElem?_eq_some_iff.1 hu).1
  have hl := h.len
  by_cases h3 : j < 3
  · match j, h3 with
    | 0, _ => rw [h.c0] at hu; injection hu with hu; exact .inl ⟨_, hu.symm⟩
    | 1, _ => rw [h.c1] at hu; injection hu with hu; exact .inl ⟨_, hu.symm⟩
    | 2, _ => rw [h.c2] at hu; injection hu with hu; exact .inl ⟨_, hu.symm⟩
  · by_cases h35 : j = 35
    · subst h35
      rw [h.c35] at hu; injection hu with hu; exact .inr ⟨_, _, _, hu.symm⟩
    · have := h.hi (j - 3) (by omega)
      rw [show 3 + (j - 3) = j by omega, hu] at this
      injection this with this
      exact .inl ⟨_, this⟩
theorem BsAt.kind {w : World} {g : Nat} {X : Sp} {A : Option Addr} {n c : Nat} (h : BsAt w g X (.slice A n c)) {j : Nat} {u : Value} (hu : w.cell? ⟨g, j, none⟩ = some u) : (∃ k : Int, u = .int .u64 k) ∨ ∃ A n c, u = .slice A n c := by
  obtain ⟨cs, h1, h2⟩ := h.at_
  rw [cell_of_row w g j _ _ _ h1, List.getElem?_toArray] at hu
  exact h2.kind hu
/-- no row of entries lies in a Base's block, nor labels -/
theorem BsAt.noRow {w : World} {g : Nat} {X : Sp} {A A' : Option Addr} {n c : Nat} {M : List Ett} (h : BsAt w g X (.slice A n c)) (hr : RdM8 w A' M) : (∀ a, A' = some a → 0 < M.length → ¬ a.block = g) ∧ ∀ e ∈ M, ∀ a, e.A = some a → 0 < e.x.l.length → ¬ a.block = g := by
  refine ⟨fun a ha h0 e' => ?_, fun e he a ha h0 e' => ?_⟩
  · obtain ⟨b, o, e1, _, hc⟩ := hr.rd h0
    rw [ha] at e1
    injection e1 with e1
    subst e1
    have e' : b = g := e'
    subst e'
    have h1 := (hc 0 _ (List.getElem?_eq_getElem h0)).1 1 _ rfl
    rcases h.kind h1 with ⟨k, hk⟩ | ⟨_, _, _, hk⟩ <;> cases hk
  · obtain ⟨b, o, e1, _, hc⟩ := (hr.ok e he).rd h0
    rw [ha] at e1
    injection e1 with e1
    subst e1
    have e' : b = g := e'
    subst e'
    have h1 := (hc 0 _ (List.getElem?_eq_getElem h0)).1
    rcases h.kind h1 with ⟨k, hk⟩ | ⟨_, _, _, hk⟩ <;> cases hk
theorem Bas.cutDone {w0 w w' : World} {g base n c k c' q : Nat} {X : Sp} {A A' : Option Addr} {M : List Ett} {six : Prop} (h : Bas w0 w g base X A n c M) (hk : k < n) (hr : RdM8 w' A' (cutE M k (k + 1))) (hb : Below w.heap.size w w') (h0 : 64 ≤ q) (h1 : q ≤ 65536) (hs : ¬ six) :
    Turned w0 (w'.setCell ⟨g, 35, none⟩ (.slice A' (n - 1) c')) g six q X A' (n - 1) c' (cutE M k (k + 1)) := by
  have hbs := h.bs.below hb
  have ho : Only (fun i => i = g) w' (w'.setCell ⟨g, 35, none⟩ (.slice A' (n - 1) c')) := Only.setCell _ _ _ rfl
  have hl := h.len
  have hf := h.few
  obtain ⟨n1, n2⟩ := hbs.noRow hr
  exact ⟨h0, h1, hbs.set (fun cs h => h.set35), by rw [cutE_length (by omega) (by omega)]; omega, by omega, hr.only ho n1 n2, fun e he => h.ok e (cutE_mem he), fun h => absurd h hs,
    below_only (h.bl.trans (hb.mono h.bl.size)) ho (fun i hi => by have hi : i = g := hi; rw [hi]; exact h.gw)⟩
theorem Bas.below {w0 w w' : World} {g base n c : Nat} {X : Sp} {A : Option Addr} {M : List Ett} (h : Bas w0 w g base X A n c M) (hb : Below w.heap.size w w') : Bas w0 w' g base X A n c M :=
  ⟨h.bs.below hb, ⟨ownB_below h.row.own hb, fun e he => (h.row.ok e he).below hb⟩, h.len, h.few, h.gr, h.lg, h.gw, h.bw, h.ok, h.bl.trans (hb.mono h.bl.size)⟩
theorem wp_append_run {P : Program} {w w' : World} {o : Oper} {a : Act} {K : Act → World → Prop} {Q : Exit → Act → World → Prop} {t : TypeId} {v x y : Value} (s r : Operand)
    (ho : o.op = .call { callee := .builtin .append, args := #[s, r], argTypes := #[t, t] }) (hs : a.eval s = x) (hr : a.eval r = y) (hrun : (Builtin.append_ #[t, t] o.type #[x, y]).run P w = .ok v w') (h : K (a.put o.dst v) w') : o.wp P a w K Q := by
  unfold Oper.wp execOp
  simp only [ho, resolve, invoke, builtin, Sem.run_bind, Sem.run_pure, Result.andThen_ok, List.map_toArray, List.map_cons, List.map_nil, hs, hr, hrun]
  exact h
end Go.Proofs.Ytgcfofnlgdfmoaa
