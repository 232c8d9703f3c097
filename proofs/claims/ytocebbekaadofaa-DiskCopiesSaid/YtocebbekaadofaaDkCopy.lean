/- Layer 6: Copy of a disk. -/
import Derived.Test.YtocebbekaadofaaDkNil
namespace Go.Proofs.Ytocebbekaadofaa
open Go.RowKit Go.Maps

/-- the files that are no longer to come -/
def remL {α : Type} (L : List (ByteArray × α)) (left : Lit → Bool) : List (ByteArray × α) := L.filter fun p => !left (.string p.1.data.toList)
theorem mem_remL {α : Type} {L : List (ByteArray × α)} {left : Lit → Bool} {p : ByteArray × α} : p ∈ remL L left ↔ p ∈ L ∧ left (.string p.1.data.toList) = false := by
  unfold remL
  rw [List.mem_filter]
  cases left (.string p.1.data.toList) <;> simp
theorem rising_rem {α : Type} {L : List (ByteArray × α)} (h : Rising L) (left : Lit → Bool) : Rising (remL L left) := List.Pairwise.filter _ h
theorem remL_step {α : Type} {L : List (ByteArray × α)} (h : Rising L) {left : Lit → Bool} {s : ByteArray} {f : α} (hf : findP L s = some f) :
    putP (remL L left) s f = remL L (fun z => left z && !z.sameKey (.string s.data.toList)) := by
  refine rising_ext (rising_put (rising_rem h left) s f) (rising_rem h _) (fun p => ?_)
  rw [mem_putP, mem_remL, mem_remL]
  constructor
  · rintro (rfl | ⟨⟨h1, h2⟩, h3⟩)
    · exact ⟨findP_some hf, by simp [same_str, eqS_refl]⟩
    · exact ⟨h1, by rw [h2]; rfl⟩
  · rintro ⟨h1, h2⟩
    by_cases e : p.1 = s
    · refine .inl ?_
      obtain ⟨a, b⟩ := p
      have e : a = s := e
      subst e
      rw [rising_one h h1 (findP_some hf)]
    · refine .inr ⟨⟨h1, ?_⟩, e⟩
      rw [same_str, eqS_no e, Bool.not_false, Bool.and_true] at h2
      exact h2
theorem remL_start (E : Ents) : remL (mapS Ent.fl E) (Maps.has (datum E)) = [] := by
  unfold remL
  rw [List.filter_eq_nil_iff]
  intro p hp
  obtain ⟨q, hq, rfl⟩ := List.mem_map.1 hp
  have : (findP E q.1).isSome = true := by
    cases e : findP E q.1 with
    | none => exact absurd rfl (findP_none e q hq)
    | some x => rfl
  simp only [datum_has, this]
  simp
theorem remL_end {α : Type} {L : List (ByteArray × α)} {left : Lit → Bool} (h : ∀ kl, left kl = false) : remL L left = L := by
  unfold remL
  exact List.filter_eq_self.2 fun p _ => by rw [h]; rfl
theorem found_of_at {E : Ents} {s : ByteArray} {v : Value} (h : ∀ zd, (datum E).atKey (.string s.data.toList) zd = .held v) : ∃ x, findP E s = some x ∧ x.val = v := by
  cases e : findP E s with
  | none =>
    have h1 := h .nil
    rw [datum_none e] at h1
    cases h1
  | some x =>
    have h1 := h .nil
    rw [datum_some e] at h1
    exact ⟨x, rfl, held_inj h1⟩

theorem ranges_only {H : Type} {P : Program} {k : TypeId} {R : Value → Option (DataW H × List MemPlace)} {w w' : World} {b r n : Nat} {D : DataW H} {left : Lit → Bool} {cnt : Nat} {T : Nat → Prop}
    (h : w.ranges P k R b r n D left cnt) (ho : Only T w w') (hb' : ¬ T b) (hr' : ¬ T r) : w'.ranges P k R b r n D left cnt := by
  have h1 := h.owns.lt
  have h2 := h.lt
  obtain ⟨es, clock, since, seen, c0, hb, F, hs, hD, hr, rest⟩ := h
  exact ⟨es, clock, since, seen, c0, (ho.block b h1 hb').trans hb, F, hs, hD, (ho.block r h2 hr').trans hr, rest⟩

set_option maxRecDepth 100000 in
set_option maxHeartbeats 1000000 in
theorem copy_map {S : Nat → Prop} {g b : Nat} {E : Ents} {wr0 sy : Nat} (w : World) (h : DkM w S g (some b) E wr0 sy) (h2 : Files w S g (some b) E) :
    Calls Try.prog 26 #[.pointer (some ⟨g, 0, none⟩)] w fun e w' => ∃ g' S', e = .returned (.pointer (some ⟨g', 0, none⟩)) ∧ Disk w' S' g' (mapS Ent.fl E) 0 0 ∧ Below w.heap.size w w' ∧ (∀ k, S' k → w.heap.size ≤ k) := by
  have hmp := h.mp
  rcases hmp with ⟨hmp, _⟩ | ⟨b', hmp, hb, hbg, hown⟩
  · cases hmp
  injection hmp with hmp
  subst hmp
  have HC0 := h.c0
  have hgl := h.lt g h.gS
  have hbl := hown.lt
  have hfew := h.few
  have HR := Lib.hid h.rise
  have HNm := Lib.hid h.name_le
  have H2 := Lib.hid h2
  clear h hb hbg h2
  go_enter Try.func26, Try.ntmps26
  go_wp2_with fail
  refine (new_any _).mono ?_
  rintro e w1 ⟨rfl, h5⟩
  have D1 := Lib.hid (h5 ▸ Disk.new w : Disk w1 (fun k => k = w.heap.size) w.heap.size [] 0 0)
  have hb1 : Below w.heap.size w w1 := h5 ▸ (Below.refl _ _).alloc (Nat.le_refl _) _
  have hz1 : w1.heap.size = w.heap.size + 1 := by rw [h5]; simp
  have B1 := Lib.hid hb1
  have c0 := (hb1.cell (p := ⟨g, 0, none⟩) hgl).trans HC0
  have hown1 : w1.ownsMap Try.prog 9 rawR b E.length (datum E) := hown.kept (row := none) ⟨hb1.os, hb1.tape, hb1.output, hb1.size, fun k hk _ => hb1.block k hk⟩ (by simp)
  have Z1 := Lib.hid hz1
  clear h5 hb1 hz1 HC0
  go_wp2_with (at_range; refine wpList_range_own _ rfl _ 63 rfl 9 67 keyS Try.underlying63 _ b E.length _ rfl hown1 ?_; intro w0 hrg0 hg0 hs0)
  go_frame
  have Hs0 := Lib.hid hs0
  clear hs0
  go_loopw [15] (fun _ wr => ∃ (left : Lit → Bool) (cnt : Nat) (S' : Nat → Prop), Hid (wr.ranges Try.prog 9 rawR b w1.heap.size E.length (datum E) left cnt) ∧ Hid (Disk wr S' w.heap.size (remL (mapS Ent.fl E) left) 0 0) ∧
      Hid (∀ k, S' k → w.heap.size ≤ k ∧ k ≠ w1.heap.size) ∧ Hid (Below w.heap.size w wr) ∧ w1.heap.size < wr.heap.size)
    (fun _ wr => wr.rangeLeft b w1.heap.size)
  case atStart =>
    refine ⟨_, _, (fun k => k = w.heap.size), hrg0, ?_, (fun k hk => ⟨by omega, by have := Z1.out; omega⟩), (B1.out.grown hg0 B1.out.size (fun j hj => by cases hj)), hrg0.lt⟩
    rw [remL_start]
    exact D1.out.keep (T := fun _ => False) (Only.of_grown hg0 (fun k hk => by cases hk)) (fun _ _ h => h)
  case round =>
    obtain ⟨left, cnt, S', hrg, Hd, HS', hnx, hsz⟩ := hrel
    go_wp2_with (first
      | (at_next; refine wpList_next_ranges _ rfl _ rfl 9 keyS rawR encStr shapeF (fun key kl hk => by obtain ⟨x, hx, _⟩ := Maps.keyOf_str Try.underlying9 hk; exact ⟨x, hx⟩) shapeF_inv b w1.heap.size E.length _ _ _ rfl hrg.out ?_ ?_))
    · intro hc0 hl0
      have hD := Hd.out
      rw [remL_end hl0] at hD
      have HD := Lib.hid hD
      clear hD hl0
      go_wp2
      go_ret
      exact ⟨_, S', rfl, HD.out, hnx.out, fun k hk => (HS'.out k hk).1⟩
    · intro x cc kl yd yp w2 cnt2 hkey hlk hv hat hrg2 hlt hg2 hs2 hen
      obtain ⟨x', ex, rfl, hxl⟩ := Maps.keyOf_str Try.underlying9 hkey
      obtain rfl : x = x' := encStr_inj ex
      have hyd : yd = .held (shapeF cc) := congrArg Prod.fst (rawR_inv hv).2
      subst hyd
      obtain ⟨s, hs⟩ : ∃ s : ByteArray, s.data.toList = x := ⟨⟨x.toArray⟩, by simp⟩
      subst hs
      obtain ⟨ent, hfe, hval⟩ := found_of_at hat
      have hix := H2.out.each _ (findP_some hfe)
      have hsn := HNm.out _ (findP_some hfe)
      obtain ⟨fa, fn, fc, fk⟩ := cc
      have hvv : ent.v = .slice fa fn fc ∧ (ent.syn : Int) = fk := by
        unfold Ent.val shapeF fileV at hval
        simp at hval
        exact hval
      obtain ⟨hv1, rfl⟩ := hvv
      have hown2 := hix.own
      rw [hv1] at hown2
      have hfn : fn = ent.by_.length := by
        obtain ⟨A9, c9, h9⟩ := ownB_slice hix.own
        rw [hv1] at h9
        injection h9
      subst hfn
      have hst : encStr s.data.toList = .string s := by simp [encStr]
      rw [hst] at hen ⊢
      unfold shapeF fileV at hen
      have Hs2 := Lib.hid hs2
      have Hg2 := Lib.hid hg2
      have Hrg2 := Lib.hid hrg2
      have Hfe := Lib.hid hfe
      have Hix := Lib.hid hix
      have Hsn := Lib.hid hsn
      have Hown2 := Lib.hid hown2
      clear hs2 hg2 hrg2 hat hlk hv hkey ex hval hfe hix hsn hown2 hst hv1 hxl
      go_wp2
      have hB2 : Below w.heap.size w w2 := hnx.out.grown Hg2.out hnx.out.size (fun j hj => by cases hj; have := Z1.out; omega)
      have hD2 : Disk w2 S' w.heap.size (remL (mapS Ent.fl E) left) 0 0 := Hd.out.keep (T := fun k => k = w1.heap.size) (Only.of_grown Hg2.out (fun k hk => by cases hk; rfl)) (fun k hk e => (HS'.out k hk).2 e)
      have hba : Below w2.heap.size w2 (w2.alloc (.cells #[.slice fa ent.by_.length fc, .int .i64 ent.syn] 67)).drew := ((Below.refl _ _).alloc (Nat.le_refl _) _).drew
      have hB3 := hB2.trans (hba.mono hB2.size)
      have hD3 := hD2.below hba
      have d0 : (w2.alloc (.cells #[.slice fa ent.by_.length fc, .int .i64 ent.syn] 67)).cell? ⟨w2.heap.size, 0, none⟩ = some (.slice fa ent.by_.length fc) := by rw [World.cell?_alloc_at _ _ _ _ rfl]; rfl
      have d1 : (w2.alloc (.cells #[.slice fa ent.by_.length fc, .int .i64 ent.syn] 67)).cell? ⟨w2.heap.size, 1, none⟩ = some (.int .i64 ent.syn) := by rw [World.cell?_alloc_at _ _ _ _ rfl]; rfl
      have hz3 : w2.heap.size < (w2.alloc (.cells #[.slice fa ent.by_.length fc, .int .i64 ent.syn] 67)).drew.heap.size := by
        show w2.heap.size < (w2.alloc _).heap.size
        simp
      have hrg3 : (w2.alloc (.cells #[.slice fa ent.by_.length fc, .int .i64 ent.syn] 67)).drew.ranges Try.prog 9 rawR b w1.heap.size E.length (datum E) (fun z => left z && !z.sameKey (.string s.data.toList)) cnt2 :=
        Hrg2.out.kept (row := none) ⟨hba.os, hba.tape, hba.output, hba.size, fun k hk _ => hba.block k hk⟩ (by simp) (by simp)
      obtain ⟨r1, _, r3⟩ := rdB_of_own Hown2.out
      have hcl := sclone_any fa ent.by_.length fc ent.by_ _ _ rfl r3 (by have := Hix.out.max; omega) ((r1.below hB3).more hB3.size) (Nat.le_refl _)
      have hfind : findP (mapS Ent.fl E) s = some ent.fl := by rw [mapS_find, Hfe.out]; rfl
      have hrm := remL_step (left := left) (rising_mapS Ent.fl HR.out) hfind
      have hlen : (remL (mapS Ent.fl E) left).length ≤ 64 := hD2.few
      have hput : ∀ (A2 : Option Addr) (c2 : Nat) (w4 : World), w4.ownsRow (w2.alloc (.cells #[.slice fa ent.by_.length fc, .int .i64 ent.syn] 67)).drew.heap.size 5 1 (.slice A2 ent.by_.length c2) ent.by_.length (cellsB ent.by_) →
          Below (w2.alloc (.cells #[.slice fa ent.by_.length fc, .int .i64 ent.syn] 67)).drew.heap.size (w2.alloc (.cells #[.slice fa ent.by_.length fc, .int .i64 ent.syn] 67)).drew w4 →
          Calls Try.prog 30 #[.pointer (some ⟨w.heap.size, 0, none⟩), .string s, .agg #[.slice A2 ent.by_.length c2, .int .i64 ent.syn]] w4 fun e w' => e = .returned (.tuple #[]) ∧ ∃ S'' S4, Disk w' S'' w.heap.size (remL (mapS Ent.fl E) (fun z => left z && !z.sameKey (.string s.data.toList))) 0 0 ∧ Step w4 S4 w' S'' ∧ (∀ k, S4 k → S' k ∨ w2.heap.size < k) := fun A2 c2 w4 ho4 hb4 => by
        obtain ⟨E', mo', hE', k1, k2⟩ := hD3.below hb4
        have hlo := ho4.lt
        have hown4 : ∀ k, (Value.slice A2 ent.by_.length c2).ownBlock = some k → w2.heap.size < k ∧ k < w4.heap.size := fun k hk => ⟨Nat.lt_of_lt_of_le hz3 (hlo k hk).1, (hlo k hk).2⟩
        have hltS : ∀ k, S' k → k < w2.heap.size := fun k hk => by obtain ⟨_, _, _, q1, _⟩ := hD2; exact q1.lt k hk
        have hmoS : ∀ k, some k = mo' → S' k := fun k hk => by
          rcases k1.mp with ⟨e, _⟩ | ⟨b', e, hb', _⟩
          · rw [e] at hk; cases hk
          · rw [e] at hk; injection hk with hk; rw [hk]; exact hb'
        have k1' := k1.more (S' := fun k => S' k ∨ (w2.heap.size < k ∧ k < w4.heap.size)) (fun _ h => .inl h) (fun k hk => by
          rcases hk with hk | hk
          · exact k1.lt k hk
          · exact hk.2)
        have k2' := k2.more (S' := fun k => S' k ∨ (w2.heap.size < k ∧ k < w4.heap.size)) (fun _ h => .inl h)
        refine (put_any (x := ⟨.slice A2 ent.by_.length c2, ent.by_, ent.syn⟩) w4 k1' (k2'.del s) ⟨ownB_mono ho4 (Nat.zero_le _), Hix.out.syn, Hix.out.ok, Hix.out.max, fun k hk => ?_⟩ (fun p hp => ?_) ?_ Hsn.out).mono ?_
        · have := hown4 k hk
          refine ⟨.inr this, fun e => ?_, fun e => ?_⟩
          · have := hltS _ k1.gS; omega
          · have := hltS _ (hmoS k e); omega
        · cases he : (Value.slice A2 ent.by_.length c2).ownBlock with
          | none => exact .inl he
          | some k =>
            refine .inr (fun e => ?_)
            have h4 := hown4 k he
            have h5 := hltS _ ((k2.each p (mem_delP.1 hp).1).S k (e.symm.trans he)).1
            omega
        · have h6 := mapS_put Ent.fl s (⟨.slice A2 ent.by_.length c2, ent.by_, ent.syn⟩ : Ent) E'
          have h7 : (putP E' s (⟨.slice A2 ent.by_.length c2, ent.by_, ent.syn⟩ : Ent)).length = (remL (mapS Ent.fl E) (fun z => left z && !z.sameKey (.string s.data.toList))).length := by
            rw [← mapS_length Ent.fl, h6, hE', ← hrm]; rfl
          rw [h7]
          refine Nat.le_trans (List.length_filter_le _ _) ?_
          rw [mapS_length]; exact hfew
        · rintro e w' ⟨h8, S'', mo'', l1, l2, l3⟩
          refine ⟨h8, S'', _, ⟨_, mo'', ?_, l1, l2⟩, l3, fun k hk => hk.imp id (fun h => h.1)⟩
          rw [mapS_put, hE', ← hrm]
          rfl
      have HP := Lib.hid hput
      have HCl := Lib.hid hcl
      have HB3 := Lib.hid hB3
      have Hrg3 := Lib.hid hrg3
      have Hz3 := Lib.hid hz3
      clear hput hcl hB2 hD2 hba hB3 hD3 hz3 hrg3 r1 r3 hfind hrm hlen hen
      generalize (w2.alloc (.cells #[.slice fa ent.by_.length fc, .int .i64 ent.syn] 67)) = W1 at *
      go_region_with ((first
        | (go_at_call 35; (with_reducible refine HCl.out.mono ?_); rintro e w4 ⟨v, rfl, o4, b4, _⟩; obtain ⟨A2, c2, rfl⟩ := ownB_slice o4; have f0 := (b4.cell (p := ⟨w2.heap.size, 0, none⟩) Hz3.out).trans d0; have f1 := (b4.cell (p := ⟨w2.heap.size, 1, none⟩) Hz3.out).trans d1; replace o4 := Lib.hid o4; replace b4 := Lib.hid b4)
        | (go_at_call 30; (with_reducible refine (HP.out A2 c2 _ o4.out b4.out).mono ?_); rintro e w5 ⟨rfl, S'', S4, l1, l3, l4⟩; replace l1 := Lib.hid l1; replace l3 := Lib.hid l3)))
      all_goals
        have hS4b : ¬ S4 b := fun hs => by
          rcases l4 b hs with h | h
          · have := (HS'.out b h).1; omega
          · have := hnx.out.size; have := Hs2.out; omega
        have hS4r : ¬ S4 w1.heap.size := fun hs => by
          rcases l4 _ hs with h | h
          · exact (HS'.out _ h).2 rfl
          · have := Hs2.out; omega
        have hrg5 := ranges_only (ranges_only Hrg3.out (Only.of_below b4.out (fun _ => False)) (fun h => h) (fun h => h)) l3.out.only hS4b hS4r
        have hS5 : ∀ k, S'' k → w.heap.size ≤ k ∧ k ≠ w1.heap.size := fun k hk => by
          have hz4 := b4.out.size
          have hz2 := Hz3.out
          have hz1 := Z1.out
          have hs2 := Hs2.out
          have hnz := hnx.out.size
          rcases l3.out.new k hk with h | h
          · rcases l4 k h with h | h
            · exact HS'.out k h
            · omega
          · omega
        have hB5 : Below w.heap.size w w5 := (HB3.out.trans (b4.out.mono HB3.out.size)).trans (l3.out.only.below (Nat.le_trans HB3.out.size b4.out.size) (fun k hk => by
          rcases l4 k hk with h | h
          · exact (HS'.out k h).1
          · have := hnx.out.size; have := Hs2.out; omega))
        have hsz5 : w1.heap.size < w5.heap.size := by
          have := b4.out.size; have := l3.out.only.size; have := Hz3.out; have := Hs2.out; omega
        have K1 := Lib.hid hrg5
        have K2 := Lib.hid hS5
        have K3 := Lib.hid hB5
        have K4 := Lib.hid l4
        clear hrg5 hS5 hB5 l4 hS4b hS4r
        go_wp2
        go_roundw
        case rel => exact ⟨_, cnt2, S'', K1.out, l1.out, K2.out, K3.out, hsz5⟩
        case measure => rw [K1.out.left_eq, hrg.out.left_eq]; exact hlt
set_option maxRecDepth 100000 in
set_option maxHeartbeats 1000000 in
theorem copy_nilmap {S : Nat → Prop} {g : Nat} {E : Ents} {wr0 sy : Nat} (w : World) (h : DkM w S g none E wr0 sy) :
    Calls Try.prog 26 #[.pointer (some ⟨g, 0, none⟩)] w fun e w' => ∃ g' S', e = .returned (.pointer (some ⟨g', 0, none⟩)) ∧ Disk w' S' g' (mapS Ent.fl E) 0 0 ∧ Below w.heap.size w w' ∧ (∀ k, S' k → w.heap.size ≤ k) := by
  have hmp := h.mp
  rcases hmp with ⟨_, rfl⟩ | ⟨b', hmp, _⟩
  · have HC0 := h.c0
    have hgl := h.lt g h.gS
    clear h
    go_enter Try.func26, Try.ntmps26
    go_wp2_with fail
    refine (new_any _).mono ?_
    rintro e w1 ⟨rfl, h5⟩
    have D1 := Lib.hid (h5 ▸ Disk.new w : Disk w1 (fun k => k = w.heap.size) w.heap.size [] 0 0)
    have hb1 : Below w.heap.size w w1 := h5 ▸ (Below.refl _ _).alloc (Nat.le_refl _) _
    have B1 := Lib.hid hb1
    have c0 := (hb1.cell (p := ⟨g, 0, none⟩) hgl).trans HC0
    clear h5 hb1 HC0
    have hrg := run_range_nilMap (P := Try.prog) w1 63 9 67 Try.underlying63
    have hnx : ∀ ty, (Instr.next (.pointer (some ⟨w1.heap.size, 0, none⟩)) false ty).run Try.prog (w1.alloc (.mapIter none 0 #[] 0)) = _ := fun ty => run_next_nilMap _ ty 0 0 #[]
    go_wp2
    refine wp_loop_rounds 1 ?_
    rw [rounds_succ]
    go_wp2
    go_ret
    exact ⟨_, (fun k => k = w.heap.size), rfl, D1.out.below ((Below.refl _ _).alloc (Nat.le_refl _) _), B1.out.alloc B1.out.size _, fun k hk => Nat.le_of_eq hk.symm⟩
  · cases hmp
theorem copy_any {S : Nat → Prop} {g : Nat} {L : List (ByteArray × Fl)} {wr0 sy : Nat} (w : World) (h : Disk w S g L wr0 sy) :
    Calls Try.prog 26 #[.pointer (some ⟨g, 0, none⟩)] w fun e w' => ∃ g' S', e = .returned (.pointer (some ⟨g', 0, none⟩)) ∧ Disk w' S' g' L 0 0 ∧ Below w.heap.size w w' ∧ (∀ k, S' k → w.heap.size ≤ k) := by
  obtain ⟨E, mo, rfl, h1, h2⟩ := h
  cases mo with
  | none => exact copy_nilmap w h1
  | some b => exact copy_map w h1 h2
end Go.Proofs.Ytocebbekaadofaa
