/- Layer 6: the statements' list of calls, as it comes in, where what is read is of bounded bulk. -/
import Derived.Test.YtheojokfgndheaaDkActs
import Derived.Test.YtheojokfgndheaaDiskPlays
namespace Go.Proofs.Ytheojokfgndheaa
open Go.RowKit Go.ChangeShapes Go.WideShapes

section
variable {H : Type} {enc : TypeId × Value → H} {W : World} {base : Nat} {hd : Bool}
theorem bulk_pos (d : DataW H) : 1 ≤ Rows.uptoBulk d := by
  cases d with
  | lit l => cases l <;> simp [Rows.uptoBulk]
  | _ => simp [Rows.uptoBulk]
theorem bulkAll_len : ∀ l : List (DataW H), l.length ≤ Rows.uptoBulkAll l
  | [] => Nat.zero_le _
  | d :: r => by
    have := bulkAll_len r
    have := bulk_pos d
    simp only [Rows.uptoBulkAll, List.length_cons]
    omega
theorem bulkAll_mem : ∀ {l : List (DataW H)} {d : DataW H}, d ∈ l → Rows.uptoBulk d ≤ Rows.uptoBulkAll l
  | c :: r, d, h => by
    simp only [Rows.uptoBulkAll]
    rcases List.mem_cons.1 h with rfl | h
    · omega
    · have := bulkAll_mem h
      omega
/-- a slice holds no more than its bulk -/
theorem slice_bulk {t e : TypeId} {fuel : Nat} {x : DataW H × List MemPlace} {sp : Nat → Bool} {a : Option Addr} {n cp : Nat} (ht : Try.prog.underlying t = some (.slice e)) (hf : DataW.trod enc Try.prog W base sp hd fuel t [.slice a n cp] = some x) : n ≤ Rows.uptoBulk x.1 := by
  rcases Go.Deep.open_slice ht hf with ⟨hcs, _⟩ | ⟨ad, len, cap, m, k, D, Pl, hcs, _, _, _, _, rfl, _⟩
  · injection (List.cons.inj hcs).1 with _ h2
    omega
  · injection (List.cons.inj hcs).1 with _ h2
    have h := bulkAll_len ((List.range len).map D)
    rw [List.length_map, List.length_range] at h
    simp only [Rows.uptoBulk]
    omega
set_option maxRecDepth 100000 in
theorem act_bulk {fuel : Nat} {y : Act} {x : DataW H × List MemPlace} (hf : DataW.trod enc Try.prog W base (fun _ => true) hd fuel 33 (actC y) = some x) : y.tn ≤ Rows.uptoBulk x.1 := by
  have k31 : Try.prog.cellsOf 31 = 1 := by kernel_rfl
  obtain ⟨xs, n, _, hx, hl, hlen, hg⟩ := DataW.trod_struct Try.underlying33 hf
  have t7 : DataW.trod enc Try.prog W base (fun _ => true) hd n 31 ((actC y).drop 7 |>.take (Try.prog.cellsOf 31)) = xs[7]? := hg 7 _ rfl
  rw [k31] at t7
  cases h7 : xs[7]? with
  | none =>
    have := List.getElem?_eq_none_iff.1 h7
    have h8 : xs.length = 8 := hlen
    omega
  | some y7 =>
    rw [h7] at t7
    have h1 := slice_bulk Try.underlying31 (a := y.tA) (n := y.tn) (cp := y.tc) t7
    have h2 : y7.1 ∈ xs.map (·.1) := List.mem_map.2 ⟨y7, List.mem_iff_getElem?.2 ⟨7, h7⟩, rfl⟩
    have h3 := bulkAll_mem h2
    rw [hx]
    simp only [Rows.uptoBulk]
    omega

set_option maxRecDepth 100000 in
theorem open_acts_up {r : Reach} {b0 : Nat} {v : Value} {d : DataW H} {ps : List MemPlace}
    (hval : Value.okWide Try.prog W r b0 22 v) (h0 : DataW.Trod enc Try.prog W base (fun _ => true) hd 22 v d ps) (hbk : Rows.uptoBulk d ≤ 1048576) :
    ∃ (A : Option Addr) (n c : Nat), v = .slice A n c ∧ n ≤ maxLen ∧ RdAK W A n := by
  obtain ⟨a, n, c, rfl⟩ := okWide_slice Try.underlying22 hval
  have hsp : ∀ ad, a = some ad → ad.spot = none := by
    rintro ad rfl
    simp only [Value.okWide, Try.underlying22, Cell.okWide, Cell.ok] at hval
    exact hval.2.2.2.1
  have hc3 : Try.prog.cellsOf 33 = 8 := by kernel_rfl
  obtain ⟨fuel, hf⟩ := h0
  rcases Go.Deep.open_slice Try.underlying22 hf with ⟨hcs, _⟩ | ⟨ad, len, cap, m, k, D, Pl, hcs, hb, hl, hm, hmm, hxx, hx⟩
  · have e : a = none ∧ n = 0 ∧ c = 0 := by simpa [Value.cells] using hcs
    obtain ⟨rfl, rfl, rfl⟩ := e
    exact ⟨none, 0, 0, rfl, Nat.zero_le _, fun h => absurd h (by simp)⟩
  · have e : a = some ad ∧ n = len ∧ c = cap := by simpa [Value.cells] using hcs
    obtain ⟨rfl, rfl, rfl⟩ := e
    have hspot := hsp ad rfl
    obtain ⟨b, o, s⟩ := ad
    obtain rfl : s = none := hspot
    have hlm : n ≤ m := by rw [hmm]; split <;> omega
    have hd : d = .slice ((List.range n).map D) ((List.range (m - n)).map fun j => D (n + j)) := congrArg Prod.fst hxx
    rw [hd] at hbk
    simp only [Rows.uptoBulk] at hbk
    have each : ∀ i, i < n → ∃ x : Act, (∀ j v, (actC x)[j]? = some v → W.cell? ⟨b, o + i * 8 + j, none⟩ = some v) ∧ OkAct W x ∧ x.tn ≤ 1048576 := fun i hi => by
      obtain ⟨cs', h1, h2⟩ := hx i (by omega)
      rw [hc3] at h1
      obtain ⟨_, hlen, hcell⟩ := World.cells?_some h1
      obtain ⟨y, rfl, hok⟩ := act_cells h2
      have hb1 := act_bulk h2
      have hb2 : Rows.uptoBulk (D i) ≤ Rows.uptoBulkAll ((List.range n).map D) := bulkAll_mem (List.mem_map.2 ⟨i, List.mem_range.2 hi, rfl⟩)
      replace hb1 : y.tn ≤ Rows.uptoBulk (D i) := hb1
      refine ⟨y, fun j v hv => ?_, hok, by omega⟩
      have hj : j < 8 := by rw [← hlen]; exact (List.getElem?_eq_some_iff.1 hv).1
      have g0 := hcell j hj
      rw [Addr.add_lit, Addr.add_mid] at g0
      exact g0.trans hv
    refine ⟨some ⟨b, o, none⟩, n, c, rfl, Nat.le_trans hl hm, fun h0 => ⟨b, o, rfl, ?_, each⟩⟩
    obtain ⟨x, h1, _, _⟩ := each 0 h0
    exact World.block_lt_of_cell? _ _ (h1 0 _ rfl)
end
end Go.Proofs.Ytheojokfgndheaa
