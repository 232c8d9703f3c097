/- Several texts in one: DkAwake, DkNil, DkCopy, StOpn. -/
import Derived.Test.YtholdcgkhicdmaaGreatDoorZq43
import Derived.Test.YtholdcgkhicdmaaGreatDoorZq44
namespace Go.Proofs.YtholdcgkhicdmaaGreatDoor
open Go.RowKit Go.Maps
def remL {α : Type} (L : List (ByteArray × α)) (left : Lit → Bool) : List (ByteArray × α) := L.filter fun p => !left (.string p.1.data.toList)
theorem mem_remL {α : Type} {L : List (ByteArray × α)} {left : Lit → Bool} {p : ByteArray × α} : p ∈ remL L left ↔ p ∈ L ∧ left (.string p.1.data.toList) = false := by
 unfold remL
 rw [List.mem_filter]
 cases left (.string p.1.data.toList) <;> simp
theorem rising_rem {α : Type} {L : List (ByteArray × α)} (h : Rising L) (left : Lit → Bool) : Rising (remL L left) := List.Pairwise.filter _ h
theorem remL_step {α : Type} {L : List (ByteArray × α)} (h : Rising L) {left : Lit → Bool} {s : ByteArray} {f : α} (hf : findP L s = some f) :
  putP (remL L left) s f = remL L (fun z => left z && !z.sameKey (.string s.data.toList)) := by
 refine rising_ext (rising_put (rising_rem h left) s f) (rising_rem h _) (fun p => ?_)
 rw [mem_putP, mem_remL, mem_remL]
 constructor
 ·rintro (rfl | ⟨⟨h1, h2⟩, h3⟩)
  ·exact ⟨findP_some hf, by simp [same_str, eqS_refl]⟩
  ·exact ⟨h1, by rw [h2]; rfl⟩
 ·rintro ⟨h1, h2⟩
  by_cases e : p.1 = s
  ·refine .inl ?_
   obtain ⟨a, b⟩ := p
   have e : a = s := e
   subst e
   rw [rising_one h h1 (findP_some hf)]
  ·refine .inr ⟨⟨h1, ?_⟩, e⟩
   rw [same_str, eqS_no e, Bool.not_false, Bool.and_true] at h2
   exact h2
theorem remL_start (E : Ents) : remL (mapS Ent.fl E) (Maps.has (datum E)) = [] := by
 unfold remL
 rw [List.filter_eq_nil_iff]
 intro p hp
 obtain ⟨q, hq, rfl⟩ := List.mem_map.1 hp
 have : (findP E q.1).isSome = true := by
  cases e : findP E q.1 with
  | none => exact absurd rfl (findP_none e q hq)
  | some x => rfl
 simp only [datum_has, this]
 simp
theorem remL_end {α : Type} {L : List (ByteArray × α)} {left : Lit → Bool} (h : ∀ kl, left kl = false) : remL L left = L := by
 unfold remL
 exact List.filter_eq_self.2 fun p _ => by rw [h]; rfl
theorem found_of_at {E : Ents} {s : ByteArray} {v : Value} (h : ∀ zd, (datum E).atKey (.string s.data.toList) zd = .held v) : ∃ x, findP E s = some x ∧ x.val = v := by
 cases e : findP E s with
 | none =>
   have h1 := h .nil
   rw [datum_none e] at h1
   cases h1
 | some x =>
   have h1 := h .nil
   rw [datum_some e] at h1
   exact ⟨x, rfl, held_inj h1⟩
theorem ranges_only {H : Type} {P : Program} {k : TypeId} {R : Value → Option (DataW H × List MemPlace)} {w w' : World} {b r n : Nat} {D : DataW H} {left : Lit → Bool} {cnt : Nat} {T : Nat → Prop}
  (h : w.ranges P k R b r n D left cnt) (ho : Only T w w') (hb' : ¬ T b) (hr' : ¬ T r) : w'.ranges P k R b r n D left cnt := by
 have h1 := h.owns.lt
 have h2 := h.lt
 obtain ⟨es, clock, since, seen, c0, hb, F, hs, hD, hr, rest⟩ := h
 exact ⟨es, clock, since, seen, c0, (ho.block b h1 hb').trans hb, F, hs, hD, (ho.block r h2 hr').trans hr, rest⟩
set_option maxRecDepth 100000 in
set_option maxHeartbeats 1000000 in
theorem copy_map {S : Nat → Prop} {g b : Nat} {E : Ents} {wr0 sy : Nat} (w : World) (h : DkM w S g (some b) E wr0 sy) (h2 : Files w S g (some b) E) :
  Calls Tryz.prog 33 #[.pointer (some ⟨g, 0, none⟩)] w fun e w' => ∃ g' S', e = .returned (.pointer (some ⟨g', 0, none⟩)) ∧ Disk w' S' g' (mapS Ent.fl E) 0 0 ∧ Below w.heap.size w w' ∧ (∀ k, S' k → w.heap.size ≤ k) := by
 have hmp := h.mp
 rcases hmp with ⟨hmp, _⟩ | ⟨b', hmp, hb, hbg, hown⟩
 ·cases hmp
 injection hmp with hmp
 subst hmp
 have HC0 := h.c0
 have hgl := h.lt g h.gS
 have hbl := hown.lt
 have hfew := h.few
 have HR := Lib.hid h.rise
 have HNm := Lib.hid h.name_le
 have H2 := Lib.hid h2
 clear h hb hbg h2
 go_enter Tryz.func33, Tryz.ntmps33
 go_wp2_with fail
 refine (new_any _).mono ?_
 rintro e w1 ⟨rfl, h5⟩
 have D1 := Lib.hid (h5 ▸ Disk.new w : Disk w1 (fun k => k = w.heap.size) w.heap.size [] 0 0)
 have hb1 : Below w.heap.size w w1 := h5 ▸ (Below.refl _ _).alloc (Nat.le_refl _) _
 have hz1 : w1.heap.size = w.heap.size + 1 := by rw [h5]; simp
 have B1 := Lib.hid hb1
 have c0 := (hb1.cell (p := ⟨g, 0, none⟩) hgl).trans HC0
 have hown1 : w1.ownsMap Tryz.prog 9 rawR b E.length (datum E) := hown.kept (row := none) ⟨hb1.os, hb1.tape, hb1.output, hb1.size, fun k hk _ => hb1.block k hk⟩ (by simp)
 have Z1 := Lib.hid hz1
 clear h5 hb1 hz1 HC0
 go_wp2_with (at_range; refine wpList_range_own _ rfl _ 86 rfl 9 126 keyS Tryz.underlying86 _ b E.length _ rfl hown1 ?_; intro w0 hrg0 hg0 hs0)
 go_frame
 have Hs0 := Lib.hid hs0
 clear hs0
 go_loopw [15] (fun _ wr => ∃ (left : Lit → Bool) (cnt : Nat) (S' : Nat → Prop), Hid (wr.ranges Tryz.prog 9 rawR b w1.heap.size E.length (datum E) left cnt) ∧ Hid (Disk wr S' w.heap.size (remL (mapS Ent.fl E) left) 0 0) ∧
   Hid (∀ k, S' k → w.heap.size ≤ k ∧ k ≠ w1.heap.size) ∧ Hid (Below w.heap.size w wr) ∧ w1.heap.size < wr.heap.size)
  (fun _ wr => wr.rangeLeft b w1.heap.size)
 case atStart =>
  refine ⟨_, _, (fun k => k = w.heap.size), hrg0, ?_, (fun k hk => ⟨by omega, by have := Z1.out; omega⟩), (B1.out.grown hg0 B1.out.size (fun j hj => by cases hj)), hrg0.lt⟩
  rw [remL_start]
  exact D1.out.keep (T := fun _ => False) (Only.of_grown hg0 (fun k hk => by cases hk)) (fun _ _ h => h)
 case round =>
  obtain ⟨left, cnt, S', hrg, Hd, HS', hnx, hsz⟩ := hrel
  go_wp2_with (first
   | (at_next; refine wpList_next_ranges _ rfl _ rfl 9 keyS rawR encStr shapeF (fun key kl hk => by obtain ⟨x, hx, _⟩ := Maps.keyOf_str Tryz.underlying9 hk; exact ⟨x, hx⟩) shapeF_inv b w1.heap.size E.length _ _ _ rfl hrg.out ?_ ?_))
  ·intro hc0 hl0
   have hD := Hd.out
   rw [remL_end hl0] at hD
   have HD := Lib.hid hD
   clear hD hl0
   go_wp2
   go_ret
   exact ⟨_, S', rfl, HD.out, hnx.out, fun k hk => (HS'.out k hk).1⟩
  ·intro x cc kl yd yp w2 cnt2 hkey hlk hv hat hrg2 hlt hg2 hs2 hen
   obtain ⟨x', ex, rfl, hxl⟩ := Maps.keyOf_str Tryz.underlying9 hkey
   obtain rfl : x = x' := encStr_inj ex
   have hyd : yd = .held (shapeF cc) := congrArg Prod.fst (rawR_inv hv).2
   subst hyd
   obtain ⟨s, hs⟩ : ∃ s : ByteArray, s.data.toList = x := ⟨⟨x.toArray⟩, by simp⟩
   subst hs
   obtain ⟨ent, hfe, hval⟩ := found_of_at hat
   have hix := H2.out.each _ (findP_some hfe)
   have hsn := HNm.out _ (findP_some hfe)
   obtain ⟨fa, fn, fc, fk⟩ := cc
   have hvv : ent.v = .slice fa fn fc ∧ (ent.syn : Int) = fk := by
    unfold Ent.val shapeF fileV at hval
    simp at hval
    exact hval
   obtain ⟨hv1, rfl⟩ := hvv
   have hown2 := hix.own
   rw [hv1] at hown2
   have hfn : fn = ent.by_.length := by
    obtain ⟨A9, c9, h9⟩ := ownB_slice hix.own
    rw [hv1] at h9
    injection h9
   subst hfn
   have hst : encStr s.data.toList = .string s := by simp [encStr]
   rw [hst] at hen ⊢
   unfold shapeF fileV at hen
   have Hs2 := Lib.hid hs2
   have Hg2 := Lib.hid hg2
   have Hrg2 := Lib.hid hrg2
   have Hfe := Lib.hid hfe
   have Hix := Lib.hid hix
   have Hsn := Lib.hid hsn
   have Hown2 := Lib.hid hown2
   clear hs2 hg2 hrg2 hat hlk hv hkey ex hval hfe hix hsn hown2 hst hv1 hxl
   go_wp2
   have hB2 : Below w.heap.size w w2 := hnx.out.grown Hg2.out hnx.out.size (fun j hj => by cases hj; have := Z1.out; omega)
   have hD2 : Disk w2 S' w.heap.size (remL (mapS Ent.fl E) left) 0 0 := Hd.out.keep (T := fun k => k = w1.heap.size) (Only.of_grown Hg2.out (fun k hk => by cases hk; rfl)) (fun k hk e => (HS'.out k hk).2 e)
   have hba : Below w2.heap.size w2 (w2.alloc (.cells #[.slice fa ent.by_.length fc, .int .i64 ent.syn] 126)).drew := ((Below.refl _ _).alloc (Nat.le_refl _) _).drew
   have hB3 := hB2.trans (hba.mono hB2.size)
   have hD3 := hD2.below hba
   have d0 : (w2.alloc (.cells #[.slice fa ent.by_.length fc, .int .i64 ent.syn] 126)).cell? ⟨w2.heap.size, 0, none⟩ = some (.slice fa ent.by_.length fc) := by rw [World.cell?_alloc_at _ _ _ _ rfl]; rfl
   have d1 : (w2.alloc (.cells #[.slice fa ent.by_.length fc, .int .i64 ent.syn] 126)).cell? ⟨w2.heap.size, 1, none⟩ = some (.int .i64 ent.syn) := by rw [World.cell?_alloc_at _ _ _ _ rfl]; rfl
   have hz3 : w2.heap.size < (w2.alloc (.cells #[.slice fa ent.by_.length fc, .int .i64 ent.syn] 126)).drew.heap.size := by
    show w2.heap.size < (w2.alloc _).heap.size
    simp
   have hrg3 : (w2.alloc (.cells #[.slice fa ent.by_.length fc, .int .i64 ent.syn] 126)).drew.ranges Tryz.prog 9 rawR b w1.heap.size E.length (datum E) (fun z => left z && !z.sameKey (.string s.data.toList)) cnt2 :=
    Hrg2.out.kept (row := none) ⟨hba.os, hba.tape, hba.output, hba.size, fun k hk _ => hba.block k hk⟩ (by simp) (by simp)
   obtain ⟨r1, _, r3⟩ := rdB_of_own Hown2.out
   have hcl := sclone_any fa ent.by_.length fc ent.by_ _ _ rfl r3 (by have := Hix.out.max; omega) ((r1.below hB3).more hB3.size) (Nat.le_refl _)
   have hfind : findP (mapS Ent.fl E) s = some ent.fl := by rw [mapS_find, Hfe.out]; rfl
   have hrm := remL_step (left := left) (rising_mapS Ent.fl HR.out) hfind
   have hlen : (remL (mapS Ent.fl E) left).length ≤ 64 := hD2.few
   have hput : ∀ (A2 : Option Addr) (c2 : Nat) (w4 : World), w4.ownsRow (w2.alloc (.cells #[.slice fa ent.by_.length fc, .int .i64 ent.syn] 126)).drew.heap.size 5 1 (.slice A2 ent.by_.length c2) ent.by_.length (cellsB ent.by_) →
     Below (w2.alloc (.cells #[.slice fa ent.by_.length fc, .int .i64 ent.syn] 126)).drew.heap.size (w2.alloc (.cells #[.slice fa ent.by_.length fc, .int .i64 ent.syn] 126)).drew w4 →
     Calls Tryz.prog 50 #[.pointer (some ⟨w.heap.size, 0, none⟩), .string s, .agg #[.slice A2 ent.by_.length c2, .int .i64 ent.syn]] w4 fun e w' => e = .returned (.tuple #[]) ∧ ∃ S'' S4, Disk w' S'' w.heap.size (remL (mapS Ent.fl E) (fun z => left z && !z.sameKey (.string s.data.toList))) 0 0 ∧ Step w4 S4 w' S'' ∧ (∀ k, S4 k → S' k ∨ w2.heap.size < k) := fun A2 c2 w4 ho4 hb4 => by
    obtain ⟨E', mo', hE', k1, k2⟩ := hD3.below hb4
    have hlo := ho4.lt
    have hown4 : ∀ k, (Value.slice A2 ent.by_.length c2).ownBlock = some k → w2.heap.size < k ∧ k < w4.heap.size := fun k hk => ⟨Nat.lt_of_lt_of_le hz3 (hlo k hk).1, (hlo k hk).2⟩
    have hltS : ∀ k, S' k → k < w2.heap.size := fun k hk => by obtain ⟨_, _, _, q1, _⟩ := hD2; exact q1.lt k hk
    have hmoS : ∀ k, some k = mo' → S' k := fun k hk => by
     rcases k1.mp with ⟨e, _⟩ | ⟨b', e, hb', _⟩
     ·rw [e] at hk; cases hk
     ·rw [e] at hk; injection hk with hk; rw [hk]; exact hb'
    have k1' := k1.more (S' := fun k => S' k ∨ (w2.heap.size < k ∧ k < w4.heap.size)) (fun _ h => .inl h) (fun k hk => by
     rcases hk with hk | hk
     ·exact k1.lt k hk
     ·exact hk.2)
    have k2' := k2.more (S' := fun k => S' k ∨ (w2.heap.size < k ∧ k < w4.heap.size)) (fun _ h => .inl h)
    refine (dput_any (x := ⟨.slice A2 ent.by_.length c2, ent.by_, ent.syn⟩) w4 k1' (k2'.del s) ⟨ownB_mono ho4 (Nat.zero_le _), Hix.out.syn, Hix.out.ok, Hix.out.max, fun k hk => ?_⟩ (fun p hp => ?_) ?_ Hsn.out).mono ?_
    ·have := hown4 k hk
     refine ⟨.inr this, fun e => ?_, fun e => ?_⟩
     ·have := hltS _ k1.gS; omega
     ·have := hltS _ (hmoS k e); omega
    ·cases he : (Value.slice A2 ent.by_.length c2).ownBlock with
     | none => exact .inl he
     | some k =>
       refine .inr (fun e => ?_)
       have h4 := hown4 k he
       have h5 := hltS _ ((k2.each p (mem_delP.1 hp).1).S k (e.symm.trans he)).1
       omega
    ·have h6 := mapS_put Ent.fl s (⟨.slice A2 ent.by_.length c2, ent.by_, ent.syn⟩ : Ent) E'
     have h7 : (putP E' s (⟨.slice A2 ent.by_.length c2, ent.by_, ent.syn⟩ : Ent)).length = (remL (mapS Ent.fl E) (fun z => left z && !z.sameKey (.string s.data.toList))).length := by
      rw [← mapS_length Ent.fl, h6, hE', ← hrm]; rfl
     rw [h7]
     refine Nat.le_trans (List.length_filter_le _ _) ?_
     rw [mapS_length]; exact hfew
    ·rintro e w' ⟨h8, S'', mo'', l1, l2, l3⟩
     refine ⟨h8, S'', _, ⟨_, mo'', ?_, l1, l2⟩, l3, fun k hk => hk.imp id (fun h => h.1)⟩
     rw [mapS_put, hE', ← hrm]
     rfl
   have HP := Lib.hid hput
   have HCl := Lib.hid hcl
   have HB3 := Lib.hid hB3
   have Hrg3 := Lib.hid hrg3
   have Hz3 := Lib.hid hz3
   clear hput hcl hB2 hD2 hba hB3 hD3 hz3 hrg3 r1 r3 hfind hrm hlen hen
   generalize (w2.alloc (.cells #[.slice fa ent.by_.length fc, .int .i64 ent.syn] 126)) = W1 at *
   go_region_with ((first
    | (go_at_call 65; (with_reducible refine HCl.out.mono ?_); rintro e w4 ⟨v, rfl, o4, b4, _⟩; obtain ⟨A2, c2, rfl⟩ := ownB_slice o4; have f0 := (b4.cell (p := ⟨w2.heap.size, 0, none⟩) Hz3.out).trans d0; have f1 := (b4.cell (p := ⟨w2.heap.size, 1, none⟩) Hz3.out).trans d1; replace o4 := Lib.hid o4; replace b4 := Lib.hid b4)
    | (go_at_call 50; (with_reducible refine (HP.out A2 c2 _ o4.out b4.out).mono ?_); rintro e w5 ⟨rfl, S'', S4, l1, l3, l4⟩; replace l1 := Lib.hid l1; replace l3 := Lib.hid l3)))
   all_goals
    have hS4b : ¬ S4 b := fun hs => by
     rcases l4 b hs with h | h
     ·have := (HS'.out b h).1; omega
     ·have := hnx.out.size; have := Hs2.out; omega
    have hS4r : ¬ S4 w1.heap.size := fun hs => by
     rcases l4 _ hs with h | h
     ·exact (HS'.out _ h).2 rfl
     ·have := Hs2.out; omega
    have hrg5 := ranges_only (ranges_only Hrg3.out (Only.of_below b4.out (fun _ => False)) (fun h => h) (fun h => h)) l3.out.only hS4b hS4r
    have hS5 : ∀ k, S'' k → w.heap.size ≤ k ∧ k ≠ w1.heap.size := fun k hk => by
     have hz4 := b4.out.size
     have hz2 := Hz3.out
     have hz1 := Z1.out
     have hs2 := Hs2.out
     have hnz := hnx.out.size
     rcases l3.out.new k hk with h | h
     ·rcases l4 k h with h | h
      ·exact HS'.out k h
      ·omega
     ·omega
    have hB5 : Below w.heap.size w w5 := (HB3.out.trans (b4.out.mono HB3.out.size)).trans (l3.out.only.below (Nat.le_trans HB3.out.size b4.out.size) (fun k hk => by
     rcases l4 k hk with h | h
     ·exact (HS'.out k h).1
     ·have := hnx.out.size; have := Hs2.out; omega))
    have hsz5 : w1.heap.size < w5.heap.size := by
     have := b4.out.size; have := l3.out.only.size; have := Hz3.out; have := Hs2.out; omega
    have K1 := Lib.hid hrg5
    have K2 := Lib.hid hS5
    have K3 := Lib.hid hB5
    have K4 := Lib.hid l4
    clear hrg5 hS5 hB5 l4 hS4b hS4r
    go_wp2
    go_roundw
    case rel => exact ⟨_, cnt2, S'', K1.out, l1.out, K2.out, K3.out, hsz5⟩
    case measure => rw [K1.out.left_eq, hrg.out.left_eq]; exact hlt
set_option maxRecDepth 100000 in
set_option maxHeartbeats 1000000 in
theorem copy_nilmap {S : Nat → Prop} {g : Nat} {E : Ents} {wr0 sy : Nat} (w : World) (h : DkM w S g none E wr0 sy) :
  Calls Tryz.prog 33 #[.pointer (some ⟨g, 0, none⟩)] w fun e w' => ∃ g' S', e = .returned (.pointer (some ⟨g', 0, none⟩)) ∧ Disk w' S' g' (mapS Ent.fl E) 0 0 ∧ Below w.heap.size w w' ∧ (∀ k, S' k → w.heap.size ≤ k) := by
 have hmp := h.mp
 rcases hmp with ⟨_, rfl⟩ | ⟨b', hmp, _⟩
 ·have HC0 := h.c0
  have hgl := h.lt g h.gS
  clear h
  go_enter Tryz.func33, Tryz.ntmps33
  go_wp2_with fail
  refine (new_any _).mono ?_
  rintro e w1 ⟨rfl, h5⟩
  have D1 := Lib.hid (h5 ▸ Disk.new w : Disk w1 (fun k => k = w.heap.size) w.heap.size [] 0 0)
  have hb1 : Below w.heap.size w w1 := h5 ▸ (Below.refl _ _).alloc (Nat.le_refl _) _
  have B1 := Lib.hid hb1
  have c0 := (hb1.cell (p := ⟨g, 0, none⟩) hgl).trans HC0
  clear h5 hb1 HC0
  have hrg := run_range_nilMap (P := Tryz.prog) w1 86 9 126 Tryz.underlying86
  have hnx : ∀ ty, (Instr.next (.pointer (some ⟨w1.heap.size, 0, none⟩)) false ty).run Tryz.prog (w1.alloc (.mapIter none 0 #[] 0)) = _ := fun ty => run_next_nilMap _ ty 0 0 #[]
  go_wp2
  refine wp_loop_rounds 1 ?_
  rw [rounds_succ]
  go_wp2
  go_ret
  exact ⟨_, (fun k => k = w.heap.size), rfl, D1.out.below ((Below.refl _ _).alloc (Nat.le_refl _) _), B1.out.alloc B1.out.size _, fun k hk => Nat.le_of_eq hk.symm⟩
 ·cases hmp
theorem copy_any {S : Nat → Prop} {g : Nat} {L : List (ByteArray × Fl)} {wr0 sy : Nat} (w : World) (h : Disk w S g L wr0 sy) :
  Calls Tryz.prog 33 #[.pointer (some ⟨g, 0, none⟩)] w fun e w' => ∃ g' S', e = .returned (.pointer (some ⟨g', 0, none⟩)) ∧ Disk w' S' g' L 0 0 ∧ Below w.heap.size w w' ∧ (∀ k, S' k → w.heap.size ≤ k) := by
 obtain ⟨E, mo, rfl, h1, h2⟩ := h
 cases mo with
 | none => exact copy_nilmap w h1
 | some b => exact copy_map w h1 h2
end Go.Proofs.YtholdcgkhicdmaaGreatDoor
namespace Go.Proofs.YtholdcgkhicdmaaGreatDoor
open Go.RowKit
def OpenBad (w : World) (g n self gen : Nat) (a0 : Ab) (cs : List (List Nat)) (e : Ending) (w' : World) : Prop :=
 ∃ z : Nat, e = .returned (.tuple #[.pointer none, .int .i64 z]) ∧ repAll self gen a0 cs = none ∧ (∃ (j : Nat) (c : List Nat) (b : Ab), cs[j]? = some c ∧ repAll self gen a0 (cs.take j) = some b ∧ ErrOf c z) ∧ Only (fun k => k = g) w w' ∧ ∃ d t b, d ≤ 1 ∧ t ≤ 30000 * (n + 1) ∧ b ≤ 60000 * (n + 1) ∧ Tab w' g d t b
structure OpenPre (me gen : Nat) (X : Sp) (LL : List (ByteArray × Fl)) (os : List (Option Nat)) : Prop where
 G : GNs LL os
 ge : topG os = gen
 few : LL.length < 64
 T : ∃ os2, GNs (open9 LL (nmG gen)) os2 ∧ ∀ (i : Nat) p k, (open9 LL (nmG gen))[i]? = some p → os2[i]? = some (some k) → p.1 = nmG gen
 lo : (open9 LL (nmG gen)).length < 64
 hd : (had (open9 LL (nmG gen)) (nmG gen)).by_.length ≤ 20000
 no : ∀ p ∈ open9 LL (nmG gen), p.1 ≠ nmN
 se : me < 32
 l : ∀ f, findP LL (nmG gen) = some f → f.by_.length ≤ 20000
 cl : ∀ c ∈ recs9 LL (nmG gen), c.length ≤ 20000
 cn : (recs9 LL (nmG gen)).length ≤ 20000
 re : ∀ (j k : Nat) r a, (recs9 LL (nmG gen))[j]? = some (k :: r) → repAll me gen ⟨X, [], [], 0, 0⟩ ((recs9 LL (nmG gen)).take j) = some a → ReOkA a r
 sy : ∀ (a : Ab) (R1 : Rc), repAll me gen ⟨X, [], [], 0, 0⟩ (recs9 LL (nmG gen)) = some a → R1.self = me → R1.gen = gen → R1.nm = nmG gen → R1.ab = { a with m := (a.m + 1) % 18446744073709551616 } →
   R1.LL = putP (open9 LL (nmG gen)) (nmG gen) ⟨(had (open9 LL (nmG gen)) (nmG gen)).by_ ++ laidR (3 :: leb ((a.m + 1) % 18446744073709551616)), (had (open9 LL (nmG gen)) (nmG gen)).syn⟩ → SyncPre R1
theorem begin_of {ev : Value} {S SQ : Nat → Prop} {gd g sq n self gen : Nat} {X : Sp} {LL : List (ByteArray × Fl)} {os : List (Option Nat)} (w : World) (hp : OpenPre self gen X LL os) (hd : DkT w S gd g LL n) (hn : n ≤ 1900) (hgl : g < w.heap.size) (hSg : ¬ S g) (hsp : SpAt w SQ sq X []) (hSQ : ∀ k, S k → ¬ SQ k) (hgQ : ¬ SQ g) (hv : w.cell? ⟨1, 0, none⟩ = some ev) (hvl : 1 < w.heap.size) (hv0 : ∀ i, ¬ P0of S g SQ i 1) (hev : ev = .nilIface ∨ ∃ te pe, ev = .iface te pe) :
  Calls Tryz.prog 32 #[.pointer (some ⟨gd, 0, none⟩), .pointer (some ⟨g, 0, none⟩), .int .u8 self, .pointer (some ⟨sq, 0, none⟩)] w fun e w' => BegBad w S gd g SQ n self gen ⟨X, [], [], 0, 0⟩ (recs9 LL (nmG gen)) e w' ∨ BegGood w S gd g SQ n self gen ⟨X, [], [], 0, 0⟩ LL (recs9 LL (nmG gen)) e w' :=
 begin_any w hd hn hgl hSg hsp hSQ hgQ hp.G hp.ge hp.few hv hvl hv0 hev hp.T hp.lo hp.hd hp.no (by have := hp.se; omega) hp.l hp.cl hp.cn hp.re hp.sy
theorem p0_lt {S SQ : Nat → Prop} {g B : Nat} (hS : ∀ k, S k → B ≤ k) (hQ : ∀ k, SQ k → B ≤ k) {k : Nat} (h : AnyP (P0of S g SQ) k) : k = g ∨ B ≤ k := by
 obtain ⟨i, hi⟩ := h
 match i, hi with
 | 0, hi => exact .inr (hS k hi)
 | 1, hi => exact .inl hi
 | 4, hi => exact .inr (hQ k hi)
theorem SyncPost.same {R R' : Rc} (h : SyncPost R R') : R'.gd = R.gd ∧ R'.g = R.g ∧ R'.st = R.st ∧ R'.self = R.self ∧ R'.ab.X = R.ab.X ∧ R'.ab.K = R.ab.K ∧ R'.ab.F = R.ab.F ∧ R'.life = R.life := by
 obtain ⟨f, -, h | h⟩ := h
 ·obtain ⟨-, LL', e, -⟩ := h
  rw [e]; exact ⟨rfl, rfl, rfl, rfl, rfl, rfl, rfl, rfl⟩
 ·obtain ⟨-, jb', e⟩ := h
  rw [e]; exact ⟨rfl, rfl, rfl, rfl, rfl, rfl, rfl, rfl⟩
set_option maxRecDepth 100000 in
set_option maxHeartbeats 4000000 in
theorem open_any {ev : Value} {S : Nat → Prop} {gd g n self gen q : Nat} {LL : List (ByteArray × Fl)} {os : List (Option Nat)} (w : World) (hp : OpenPre self gen ⟨q, 1, 0, 0, fun _ => 0⟩ LL os) (hd : DkT w S gd g LL n) (hn : n ≤ 1800) (hgl : g < w.heap.size) (hSg : ¬ S g) (hq1 : 64 ≤ q) (hq2 : q ≤ 65536) (hv : w.cell? ⟨1, 0, none⟩ = some ev) (hvl : 1 < w.heap.size) (hS1 : ¬ S 1) (hg1 : g ≠ 1) (hev : ev = .nilIface ∨ ∃ te pe, ev = .iface te pe) :
  Calls Tryz.prog 9 #[.pointer (some ⟨gd, 0, none⟩), .pointer (some ⟨g, 0, none⟩), .int .u8 self, .int .i64 q] w fun e w' => OpenBad w g n self gen ⟨⟨q, 1, 0, 0, fun _ => 0⟩, [], [], 0, 0⟩ (recs9 LL (nmG gen)) e w' ∨ BegGood w S gd g (fun _ => False) (n + 9) self gen ⟨⟨q, 1, 0, 0, fun _ => 0⟩, [], [], 0, 0⟩ LL (recs9 LL (nmG gen)) e w' := by
 obtain ⟨X, hX⟩ : ∃ z : Sp, z = ⟨q, 1, 0, 0, fun _ => 0⟩ := ⟨_, rfl⟩
 have HNS := Lib.hid (snew_any q hq1 hq2 w)
 rw [← hX] at hp HNS ⊢
 obtain ⟨a0, ha0⟩ : ∃ z : Ab, z = ⟨X, [], [], 0, 0⟩ := ⟨_, rfl⟩
 rw [← ha0]
 have HA0 := Lib.hid ha0
 have hself : ¬ 32 ≤ self := by have := hp.se; omega
 have hself2 : decide (32 ≤ self) = false := decide_eq_false hself
 have HP := Lib.hid hp
 have HD := Lib.hid hd
 have HV := Lib.hid (⟨hv, hS1, hg1, hev, hSg⟩ : _ ∧ _ ∧ _ ∧ _ ∧ _)
 obtain ⟨cs, hcs⟩ : ∃ z, z = recs9 LL (nmG gen) := ⟨_, rfl⟩
 rw [← hcs]
 have HCS := Lib.hid hcs
 clear hX ha0 hp hd hv hS1 hg1 hev hSg hcs hq1 hq2
 go_enter Tryz.func9, Tryz.ntmps9
 go_wp2_with fail
 refine HNS.out.mono ?_
 rintro _ w1 ⟨rfl, hsp1, hb1⟩
 obtain ⟨sq, hsq⟩ : ∃ z, z = w.heap.size := ⟨_, rfl⟩
 have hl1 : w.heap.size < w1.heap.size := hsp1.lt _ rfl
 have hd1 := HD.out.below hb1
 obtain ⟨wr, sy, a1, a2, a3⟩ := hd1.dk
 have HCP := Lib.hid (copy_any w1 a3)
 have HSP1 := Lib.hid hsp1
 have HB1 := Lib.hid hb1
 have HD1 := Lib.hid hd1
 rw [← hsq]
 have HSQ := Lib.hid hsq
 clear hsp1 hb1 hd1 a1 a2 a3 HNS hsq
 go_wp2_with fail
 refine HCP.out.mono ?_
 rintro _ w2 ⟨gd', S', rfl, hdk2, hb2, hS'⟩
 have hsp2 : SpAt w2 (fun k => k = sq) sq X [] := by rw [HSQ.out]; exact HSP1.out.below hb2
 have HSC := Lib.hid (scopy_any w2 hsp2)
 have HD2 := Lib.hid hdk2
 have HB2 := Lib.hid hb2
 have HS' := Lib.hid hS'
 have HSP2 := Lib.hid hsp2
 clear hdk2 hb2 hS' hsp2 HCP HSP1
 go_wp2_with fail
 refine HSC.out.mono ?_
 rintro _ w3 ⟨rfl, hb3, hsp3⟩
 have hl2 := HB2.out.size
 have hl3 := hb3.size
 have hlS' : ∀ k, S' k → k < w2.heap.size := HD2.out.ltA
 obtain ⟨d, t, b, b1, b2, b3, b4⟩ := HD1.out.tab
 have hd3 : DkT w3 S' gd' g LL n := ⟨⟨0, 0, Nat.zero_le _, Nat.zero_le _, HD2.out.below hb3⟩, ⟨d, t, b, b1, b2, b3, (b4.below HB2.out).below hb3⟩⟩
 have hb13 : Below w.heap.size w w3 := HB1.out.trans ((HB2.out.trans (hb3.mono hl2)).mono (by omega))
 have hv3 : w3.cell? ⟨1, 0, none⟩ = some ev := (hb13.cell (p := ⟨1, 0, none⟩) hvl).trans HV.out.1
 have HBG := Lib.hid (begin_of w3 HP.out hd3 (by omega) (by omega) (fun h => by have := HS'.out g h; omega) hsp3 (fun k h1 h2 => by have := hlS' k h1; have h2 := h2.1; omega) (fun h => by have := h.1; omega) hv3 (by omega) (fun i hi => by
  match i, hi with
  | 0, hi => have := HS'.out 1 hi; omega
  | 1, hi => exact HV.out.2.2.1 hi.symm
  | 4, hi => have hi : w2.heap.size ≤ 1 ∧ 1 < w3.heap.size := hi; omega) HV.out.2.2.2.1)
 rw [← HA0.out, ← HCS.out] at HBG
 have HB13 := Lib.hid hb13
 have HSQ3 := Lib.hid (fun k (h : AnyP (P0of S' g (fun k => w2.heap.size ≤ k ∧ k < w3.heap.size)) k) => p0_lt (B := w1.heap.size) (fun k h => HS'.out k h) (fun k h => by have := h.1; omega) h)
 have HSP3 : Hid (SpAt w3 (fun k => k = sq) sq X []) := HSP2.out.below hb3
 clear hb3 hsp3 hd3 hb13 hv3 b1 b2 b3 b4 HSC HSP2
 go_wp2_with fail
 refine HBG.out.mono ?_
 rintro _ w4 (hbad | hgood)
 ·obtain ⟨z, rfl, h1, h2, h3, h4⟩ := hbad
  have hz : z ≠ 0 := by obtain ⟨_, _, _, _, _, h⟩ := h2; exact h.1
  have d1 : ((z : Int) != 0) = true := by rw [bne_iff_ne]; omega
  have HR : Hid (OpenBad w g n self gen a0 cs (.returned (.tuple #[.pointer none, .int .i64 z])) w4) :=
   ⟨z, rfl, h1, h2, (Only.of_below HB13.out _).trans h3 (fun i hi => (HSQ3.out i hi).imp id (fun h => by omega)), h4⟩
  clear h1 h2 h3 h4 hz HBG
  go_wp2
  go_ret2
  exact .inl HR.out
 ·obtain ⟨a, R1, P', R', h1, rfl, hs, hm, hpost, e1, e2, e3, e4, e5, e6, e7⟩ := hgood
  have hgR : R'.g = g := hpost.same.2.1.trans e2
  obtain ⟨d4, t4, b4, c1, c2, c3, c4⟩ := hs.dt.tab
  rw [hgR] at c4
  have hon4 : Only (fun k => k = g) w w4 := (Only.of_below HB13.out _).trans hm.only (fun i hi => (HSQ3.out i hi).imp id (fun h => by omega))
  obtain ⟨wr0, sy0, z1, z2, z3⟩ := HD.out.dk
  have hd4 : DkT w4 S gd g LL (n + 9) := ⟨⟨wr0, sy0, by omega, by omega, z3.keep hon4 (fun k hk e => HV.out.2.2.2.2 (by have e : k = g := e; rw [← e]; exact hk))⟩, ⟨d4, t4, b4, c1, c2, c3, c4⟩⟩
  have hsp4 : SpAt w4 (fun k => k = sq) sq X [] := HSP3.out.keep hm.only (fun k hk h => by
   have hk : k = sq := hk
   have := HSQ.out
   rcases HSQ3.out k h with h | h <;> omega) (fun e he => by cases he)
  have hv4 : w4.cell? ⟨1, 0, none⟩ = some ev := (hon4.cell (p := ⟨1, 0, none⟩) hvl (fun e => HV.out.2.2.1 e.symm)).trans HV.out.1
  have hl4 := hon4.size
  have HBG4 := Lib.hid (begin_of w4 HP.out hd4 (by omega) (by omega) HV.out.2.2.2.2 hsp4 (fun k h1 h2 => by have := HD.out.lt k h1; have := HSQ.out; have h2 : k = sq := h2; omega) (fun h => by have h : g = sq := h; have := HSQ.out; omega) hv4 (by omega) (fun i hi => by
   match i, hi with
   | 0, hi => exact HV.out.2.1 hi
   | 1, hi => exact HV.out.2.2.1 hi.symm
   | 4, hi => have hi : 1 = sq := hi; have := HSQ.out; omega) HV.out.2.2.2.1)
  rw [← HA0.out, ← HCS.out] at HBG4
  have HREP := Lib.hid h1
  have HON := Lib.hid hon4
  clear h1 hs hm hpost e1 e2 e3 e4 e5 e6 e7 hgR c1 c2 c3 c4 hon4 z1 z2 z3 hd4 hsp4 hv4 HBG
  go_wp2_with fail
  refine HBG4.out.mono ?_
  rintro _ w5 (hbad | hgood)
  ·obtain ⟨z, -, h1, -⟩ := hbad
   rw [HREP.out] at h1
   cases h1
  ·obtain ⟨a5, R5, P5, R5', h1, rfl, hs, hm, hpost, e1, e2, e3, e4, e5, e6, e7⟩ := hgood
   have HR : Hid (BegGood w S gd g (fun _ => False) (n + 9) self gen a0 LL cs (.returned (.tuple #[.pointer (some ⟨R5'.st, 0, none⟩), .int .i64 0])) w5) := by
    have hany : ∀ k, AnyP (P0of S g (fun k => k = sq)) k → AnyP (P0of S g (fun _ => False)) k ∨ w.heap.size ≤ k := fun k ⟨i, hi⟩ => by
     match i, hi with
     | 0, hi => exact .inl ⟨0, hi⟩
     | 1, hi => exact .inl ⟨1, hi⟩
     | 4, hi => have hi : k = sq := hi; have := HSQ.out; exact .inr (by omega)
    refine ⟨a5, R5, P5, R5', h1, rfl, hs, ⟨(HON.out.mono (fun k hk => ⟨1, hk⟩) : Only (AnyP (P0of S g (fun _ => False))) w w4).trans hm.only hany, fun i k hk => ?_⟩, hpost, e1, e2, e3, e4, e5, e6, e7⟩
    rcases hm.new i k hk with h | h
    ·exact hany k h
    ·have := HON.out.size; exact .inr (by omega)
   clear h1 hs hm hpost e1 e2 e3 e4 e5 e6 e7 HBG4
   go_wp2
   go_ret2
   exact .inr HR.out
end Go.Proofs.YtholdcgkhicdmaaGreatDoor