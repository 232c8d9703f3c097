/- Layer 6: Copy of a disk. -/
import Derived.Test.YtheojokfgndheaaDkNil
namespace Go.Proofs.Ytheojokfgndheaa
open Go.RowKit Go.Maps

/-- the files that are no longer to come -/
def remL {α : Type} (L : List (ByteArray × α)) (left : Lit → Bool) : List (ByteArray × α) := L.filter fun p => !left (.string p.1.data.toList)
theorem mem_remL {α : Type} {L : List (ByteArray × α)} {left : Lit → Bool} {p : ByteArray × α} : p ∈ remL L left ↔ p ∈ L ∧ left (.string p.1.data.toList) = false := by
  unfold remL
  rw [List.mem_filter]
  cases left (.string p.1.data.toList) <;> simp
theorem rising_rem {α : Type} {L : List (ByteArray × α)} (h : Rising L) (left : Lit → Bool) : Rising (remL L left) := List.Pairwise.filter _ h
theorem remL_step {α : Type} {L : List (ByteArray × α)} (h : Rising L) {left : Lit → Bool} {s : ByteArray} {f : α} (hf : findP L s = some f) :
    putP (remL L left) s f = remL L (fun z => left z && !z.sameKey (.string s.data.toList)) := by
  refine rising_ext (rising_put (rising_rem h left) s f) (rising_rem h _) (fun p => ?_)
  rw [mem_putP, mem_remL, mem_remL]
  constructor
  · rintro (rfl | ⟨⟨h1, h2⟩, h3⟩)
    · exact ⟨findP_some hf, by simp [same_str, eqS_refl]⟩
    · exact ⟨h1, by rw [h2]; rfl⟩
  · rintro ⟨h1, h2⟩
    by_cases e : p.1 = s
    · refine .inl ?_
      obtain ⟨a, b⟩ := p
      have e : a = s := e
      subst e
      rw [rising_one h h1 (findP_some hf)]
    · refine .inr ⟨⟨h1, ?_⟩, e⟩
      rw [same_str, eqS_no e, Bool.not_false, Bool.and_true] at h2
      exact h2
theorem remL_start (E : Ents) : remL (mapS Ent.fl E) (Maps.has (datum E)) = [] := by
  unfold remL
  rw [List.filter_eq_nil_iff]
  intro p hp
  obtain ⟨q, hq, rfl⟩ := List.mem_map.1 hp
  have : (findP E q.1).isSome = true := by
    cases e : findP E q.1 with
    | none => exact absurd rfl (findP_none e q hq)
    | some x => rfl
  simp only [datum_has, this]
  simp
theorem remL_end {α : Type} {L : List (ByteArray × α)} {left : Lit → Bool} (h : ∀ kl, left kl = false) : remL L left = L := by
  unfold remL
  exact List.filter_eq_self.2 fun p _ => by rw [h]; rfl
theorem found_of_at {E : Ents} {s : ByteArray} {v : Value} (h : ∀ zd, (datum E).atKey (.string s.data.toList) zd = .held v) : ∃ x, findP E s = some x ∧ x.val = v := by
  cases e : findP E s with
  | none =>
    have h1 := h .nil
    rw [datum_none e] at h1
    cases h1
  | some x =>
    have h1 := h .nil
    rw [datum_some e] at h1
    exact ⟨x, rfl, held_inj h1⟩

theorem ranges_only {H : Type} {P : Program} {k : TypeId} {R : Value → Option (DataW H × List MemPlace)} {w w' : World} {b r n : Nat} {D : DataW H} {left : Lit → Bool} {cnt : Nat} {T : Nat → Prop}
    (h : w.ranges P k R b r n D left cnt) (ho : Only T w w') (hb' : ¬ T b) (hr' : ¬ T r) : w'.ranges P k R b r n D left cnt := by
  have h1 := h.owns.lt
  have h2 := h.lt
  obtain ⟨es, clock, since, seen, c0, hb, F, hs, hD, hr, rest⟩ := h
  exact ⟨es, clock, since, seen, c0, (ho.block b h1 hb').trans hb, F, hs, hD, (ho.block r h2 hr').trans hr, rest⟩

end Go.Proofs.Ytheojokfgndheaa
