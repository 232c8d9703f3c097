/- Layer 6: Crash of a disk. -/
import Derived.Test.YtgcfofnlgdfmoaaDkCrash
import Derived.Deep.RegionWith
namespace Go.Proofs.Ytgcfofnlgdfmoaa
open Go.RowKit Go.Maps

/-- The slice at A reads as these tears; it lies below block B. -/
def RdT (w : World) (B : Nat) (A : Option Addr) (ts : List (Nat × Nat)) : Prop :=
  0 < ts.length → ∃ b o, A = some ⟨b, o, none⟩ ∧ b < B ∧ ∀ (i : Nat) (t : Nat × Nat), ts[i]? = some t → w.cell? ⟨b, o + i * 2, none⟩ = some (.int .u16 t.1) ∧ w.cell? ⟨b, o + i * 2 + 1, none⟩ = some (.int .u16 t.2)
def OkT (ts : List (Nat × Nat)) : Prop := ∀ t ∈ ts, t.1 < 65536 ∧ t.2 < 65536
theorem RdT.only {T : Nat → Prop} {w w' : World} {B : Nat} {A : Option Addr} {ts : List (Nat × Nat)} (h : RdT w B A ts) (ho : Only T w w') (hB : B ≤ w.heap.size) (hT : ∀ a, A = some a → 0 < ts.length → ¬ T a.block) : RdT w' B A ts := fun h0 => by
  obtain ⟨b, o, e, hb, hc⟩ := h h0
  exact ⟨b, o, e, hb, fun i t ht => ⟨(ho.cell (p := ⟨b, o + i * 2, none⟩) (by show b < _; omega) (hT ⟨b, o, none⟩ e h0)).trans (hc i t ht).1, (ho.cell (p := ⟨b, o + i * 2 + 1, none⟩) (by show b < _; omega) (hT ⟨b, o, none⟩ e h0)).trans (hc i t ht).2⟩⟩
theorem tearAt_ok {ts : List (Nat × Nat)} (h : OkT ts) (k : Nat) : (tearAt ts k).1 < 65536 ∧ (tearAt ts k).2 < 65536 := by
  unfold tearAt
  rw [List.getD_eq_getElem?_getD]
  cases e : ts[k]? with
  | none => simp
  | some t => exact h t (List.mem_iff_getElem?.2 ⟨k, e⟩)
theorem DkM.name_le {S : Nat → Prop} {g : Nat} {mo : Option Nat} {E : Ents} {wr sy : Nat} {w : World} (h : DkM w S g mo E wr sy) : ∀ p ∈ E, p.1.size ≤ maxLen := by
  intro p hp
  rcases h.mp with ⟨_, rfl⟩ | ⟨b, _, _, _, ho⟩
  · cases hp
  · have := strKeys_le ho Try.underlying9
    rw [strKeys_datum] at this
    have h2 := this p.1.data.toList (List.mem_map.2 ⟨p, hp, rfl⟩)
    rw [Array.length_toList] at h2
    exact h2
theorem Disk.name_le {S : Nat → Prop} {g : Nat} {L : List (ByteArray × Fl)} {wr sy : Nat} {w : World} (h : Disk w S g L wr sy) : ∀ p ∈ L, p.1.size ≤ maxLen := by
  obtain ⟨E, mo, rfl, h1, _⟩ := h
  intro p hp
  obtain ⟨q, hq, rfl⟩ := List.mem_map.1 hp
  exact h1.name_le q hq
theorem rising_mapS {α β : Type} (g : α → β) {l : List (ByteArray × α)} (h : Rising l) : Rising (mapS g l) := List.pairwise_map.2 h
theorem Disk.rise {S : Nat → Prop} {g : Nat} {L : List (ByteArray × Fl)} {wr sy : Nat} {w : World} (h : Disk w S g L wr sy) : Rising L := by
  obtain ⟨E, mo, rfl, h1, _⟩ := h
  exact rising_mapS _ h1.rise
theorem Disk.few {S : Nat → Prop} {g : Nat} {L : List (ByteArray × Fl)} {wr sy : Nat} {w : World} (h : Disk w S g L wr sy) : L.length ≤ 64 := by
  obtain ⟨E, mo, rfl, h1, _⟩ := h
  rw [mapS_length]; exact h1.few

theorem crash_step {L : List (ByteArray × Fl)} {ts : List (Nat × Nat)} {k : Nat} {s : ByteArray} {f : Fl} {E : Ents} {x x' : Ent} {ke bi : Nat} (hr : Rising E) (hLk : L[k]? = some (s, f)) (hE : mapS Ent.fl E = crashK L ts k) (hxf : x.fl = f)
    (hta : tearAt ts k = (ke, bi)) (hfl : x'.fl = tornF x.fl ke bi) : mapS Ent.fl (putP E s x') = crashK L ts (k + 1) := by
  have hkk : (crashK L ts k)[k]? = some (s, f) := by rw [crashK_at, if_neg (Nat.lt_irrefl _), hLk]
  have hrr : Rising (crashK L ts k) := hE ▸ rising_mapS Ent.fl hr
  rw [mapS_put, hE, put_set hrr hkk, hfl, hxf]
  conv => rhs; unfold crashK
  rw [hLk, hta]

set_option maxRecDepth 100000 in
set_option maxHeartbeats 1000000 in
theorem crash_any {S : Nat → Prop} {g : Nat} {L : List (ByteArray × Fl)} {wr0 sy : Nat} {A : Option Addr} {n c : Nat} {ts : List (Nat × Nat)} (w : World) (h : Disk w S g L wr0 sy) (hn : n = ts.length) (hnm : n ≤ 140737488351232) (hr : RdT w w.heap.size A ts)
    (hT : ∀ a, A = some a → 0 < ts.length → ¬ S a.block) (hok : OkT ts) :
    Calls Try.prog 15 #[.pointer (some ⟨g, 0, none⟩), .slice A n c] w fun e w' => e = .returned (.tuple #[]) ∧ Leaves w w' S g (crashL L ts) wr0 sy := by
  have HD := Lib.hid h
  have HR := Lib.hid hr
  have HTn := Lib.hid hT
  have HN := Lib.hid hn
  have HOk := Lib.hid hok
  have hfew := h.few
  clear h hr hT hn hok
  go_enter Try.func15, Try.ntmps15
  go_wp2_with fail
  refine (names_any w HD.out).mono ?_
  rintro e w1 ⟨v, rfl, ho, hb⟩
  obtain ⟨V, vc, rfl⟩ := ownB_slice ho
  have HO := Lib.hid ho
  have HB := Lib.hid hb
  have hsz1 := hb.size
  have H1 := Lib.hid (HD.out.below hb)
  clear ho hb
  go_wp2
  go_loopw [10] (fun iv w2 => ∃ (k : Nat) (S' : Nat → Prop), k ≤ L.length ∧ iv = .int .i64 k ∧ Hid (Disk w2 S' g (crashK L ts k) wr0 sy) ∧ Hid (Step w1 S w2 S')) (fun iv _ => L.length - (intOf iv).toNat)
  case atStart => exact ⟨0, S, Nat.zero_le _, rfl, H1.out, Step.refl _ _⟩
  case round =>
    obtain ⟨k, S', hk, rfl, Hd, Hst⟩ := hrel
    by_cases hlt : k < L.length
    · obtain ⟨s, f, hLk⟩ : ∃ s f, L[k]? = some (s, f) := ⟨L[k].1, L[k].2, List.getElem?_eq_getElem hlt⟩
      have hkk : (crashK L ts k)[k]? = some (s, f) := by rw [crashK_at, if_neg (Nat.lt_irrefl _), hLk]
      have hfd := find_at Hd.out.rise hkk
      have hsn := Hd.out.name_le _ (findP_some hfd)
      -- the name
      obtain ⟨r, cap, hV, hrb, hrl⟩ := HO.out.form (by omega)
      injection hV with hV1 hV2 hV3
      subst hV1
      subst hV3
      clear hV2
      have hnr : ¬ S' r := fun hs => by
        rcases Hst.out.new r hs with h' | h'
        · have := (HD.out); obtain ⟨E, mo, _, h1, _⟩ := this; have := h1.lt r h'; omega
        · omega
      have hnS : ¬ S r := fun hs => by obtain ⟨E, mo, _, h1, _⟩ := HD.out; have := h1.lt r hs; omega
      have hnm1 : w1.cell? ⟨r, k, none⟩ = some (.string s) := by
        have := HO.out.cells (g := r) rfl k (.string s) (by unfold nmCells; rw [List.getElem?_map, hLk]; rfl)
        rw [Addr.add_lit] at this
        rw [← this]
        congr 2
        omega
      have hnm2 := (Hst.out.only.cell (p := ⟨r, k, none⟩) hrl hnS).trans hnm1
      have HLk := Lib.hid hLk
      have HKk := Lib.hid hkk
      have HFd := Lib.hid hfd
      have HSn := Lib.hid hsn
      clear hLk hkk hfd hsn hnm1
      obtain ⟨E, mo, hE, h1, h2⟩ := Hd.out
      obtain ⟨x, hx, hxf⟩ := fl_some hE HFd.out
      have hix := h2.each _ (findP_some hx)
      have HE : Hid (DkM wr S' g mo E wr0 sy ∧ Files wr S' g mo E ∧ findP E s = some x ∧ FileIs wr S' g mo x) := ⟨h1, h2, hx, hix⟩
      have HEq : Hid (mapS Ent.fl E = crashK L ts k ∧ x.fl = f) := ⟨hE, hxf⟩
      clear hE h1 h2 hx hxf hix
      by_cases ht : k < ts.length
      · have hkn : k < n := by rw [HN.out]; exact ht
        have hkn2 : (k : Int) < (n : Int) := by omega
        obtain ⟨tb, to, rfl, htb, htc⟩ := HR.out (by omega)
        have hnSt := HTn.out _ rfl (by omega)
        obtain ⟨ke, bi, htk⟩ : ∃ ke bi, ts[k]? = some (ke, bi) := ⟨ts[k].1, ts[k].2, List.getElem?_eq_getElem ht⟩
        have hke : ke < 65536 ∧ bi < 65536 := HOk.out _ (List.mem_iff_getElem?.2 ⟨k, htk⟩)
        have t0 := (Hst.out.only.cell (p := ⟨tb, to + k * 2, none⟩) (by show tb < _; omega) hnSt).trans ((HB.out.cell (p := ⟨tb, to + k * 2, none⟩) htb).trans (htc k _ htk).1)
        have t1 := (Hst.out.only.cell (p := ⟨tb, to + k * 2 + 1, none⟩) (by show tb < _; omega) hnSt).trans ((HB.out.cell (p := ⟨tb, to + k * 2 + 1, none⟩) htb).trans (htc k _ htk).2)
        have Hta : Hid (tearAt ts k = (ke, bi)) := by
          show _ = _
          unfold tearAt
          rw [List.getD_eq_getElem?_getD, htk]
          rfl
        have htbr : tb < wr.heap.size := by have := Hst.out.only.size; omega
        clear htc htk
        go_wp2
        have hput : ∀ (x' : Ent) (w2 : World), FileIs w2 S' g mo x' → x'.v.ownBlock = x.v.ownBlock → Only (fun k => some k = x.v.ownBlock) (wr.alloc (.cells #[.int .u16 ke, .int .u16 bi] 25)).drew w2 →
            Calls Try.prog 44 #[.pointer (some ⟨g, 0, none⟩), .string s, x'.val] w2 fun e w' => e = .returned (.tuple #[]) ∧ ∃ S'' mo', DkM w' S'' g mo' (putP E s x') wr0 sy ∧ Files w' S'' g mo' (putP E s x') ∧ Step w2 S' w' S'' := fun x' w2 hx' how hon => by
          obtain ⟨h1, h2, hx, hix⟩ := HE.out
          have hb2 : Below wr.heap.size wr (wr.alloc (.cells #[.int .u16 ke, .int .u16 bi] 25)).drew := ((Below.refl _ _).alloc (Nat.le_refl _) _).drew
          have hix2 := hix
          refine put_any (x := x') w2 ((h1.below hb2).keep2 hon (fun e => (hix2.S g e.symm).2.1 rfl) (fun b hb e => (hix2.S b e.symm).2.2 hb.symm)) (((h2.del s).below hb2).keep2 hon (fun p hp k hk e => ?_)) hx' (fun p hp => ?_) ?_ HSn.out
          · rcases h2.apart_del hx p hp with h' | h'
            · rw [h'] at e; cases e
            · exact h' (e.symm.trans hk.symm)
          · have := h2.apart_del hx p hp
            unfold Far at this ⊢
            rw [how]
            exact this
          · exact Nat.le_trans (putP_length_some hx _) h1.few
        have HP := Lib.hid hput
        have htorn := torn_any ke bi (wr.alloc (.cells #[.int .u16 ke, .int .u16 bi] 25)).drew (HE.out.2.2.2.below (((Below.refl _ _).alloc (Nat.le_refl _) _).drew)) hke.1
        have HT := Lib.hid htorn
        have hlk : (Instr.lookup 92 (.map mo) (.string s) false).run Try.prog (wr.alloc (.cells #[.int .u16 ke, .int .u16 bi] 25)).drew = .ok x.val (wr.alloc (.cells #[.int .u16 ke, .int .u16 bi] 25)).drew := by
          have := ((HE.out.1.below (((Below.refl _ wr).alloc (Nat.le_refl _) (.cells #[.int .u16 ke, .int .u16 bi] 25)).drew)).mp).at_ HSn.out
          rw [lookE_some HE.out.2.2.1] at this
          exact this
        have c0 : (wr.alloc (.cells #[.int .u16 ke, .int .u16 bi] 25)).cell? ⟨g, 0, none⟩ = some (.map mo) := (World.cell?_alloc_past _ _ _ (HE.out.1.lt g HE.out.1.gS)).trans HE.out.1.c0
        have d0 : (wr.alloc (.cells #[.int .u16 ke, .int .u16 bi] 25)).cell? ⟨wr.heap.size, 0, none⟩ = some (.int .u16 ke) := by rw [World.cell?_alloc_at _ _ _ _ rfl]; rfl
        have d1 : (wr.alloc (.cells #[.int .u16 ke, .int .u16 bi] 25)).cell? ⟨wr.heap.size, 1, none⟩ = some (.int .u16 bi) := by rw [World.cell?_alloc_at _ _ _ _ rfl]; rfl
        have HBw := Lib.hid ((Below.refl wr.heap.size wr).alloc (Nat.le_refl _) (.cells #[.int .u16 ke, .int .u16 bi] 25)).drew
        clear hput htorn hnm2 t0 t1 htbr
        generalize (wr.alloc (.cells #[.int .u16 ke, .int .u16 bi] 25)) = W1 at *
        go_region_with ((first
          | (go_at_call 45; (with_reducible refine HT.out.mono ?_); rintro e w2 ⟨x', rfl, _, hfl, hfi, how, hon⟩; replace hfl := Lib.hid hfl; replace hfi := Lib.hid hfi; replace how := Lib.hid how; replace hon := Lib.hid hon)
          | (go_at_call 44; (with_reducible refine (HP.out x' _ hfi.out how.out hon.out).mono ?_); rintro e w3 ⟨rfl, S'', mo', l1, l2, l3⟩; replace l1 := Lib.hid l1; replace l2 := Lib.hid l2; replace l3 := Lib.hid l3)))
        all_goals
          have Hd' : Hid (Disk w3 S'' g (crashK L ts (k + 1)) wr0 sy) := ⟨_, mo', crash_step HE.out.1.rise HLk.out HEq.out.1 HEq.out.2 Hta.out hfl.out, l1.out, l2.out⟩
          have hown : Only S' W1.drew w2 := hon.out.mono (fun i hi => (HE.out.2.2.2.S i hi.symm).1)
          have Hst' : Hid (Step w1 S w3 S'') := (Hst.out.trans (Step.of_below S' HBw.out)).trans ((⟨hown, fun _ h => .inl h⟩ : Step W1.drew S' w2 S').trans l3.out)
          clear hown
          go_wp2
          go_roundw
          case rel => exact ⟨k + 1, S'', by omega, by go_num, Hd', Hst'⟩
          case measure => simp [intOf]; omega
      · have htn : decide (k < n) = false := decide_eq_false (by rw [HN.out]; exact ht)
        have Hta : Hid (tearAt ts k = (0, 0)) := by
          show _ = _
          unfold tearAt
          rw [List.getD_eq_getElem?_getD, List.getElem?_eq_none (by omega)]
          rfl
        go_wp2
        have hput : ∀ (x' : Ent) (w2 : World), FileIs w2 S' g mo x' → x'.v.ownBlock = x.v.ownBlock → Only (fun k => some k = x.v.ownBlock) (wr.alloc (.cells #[.int .u16 0, .int .u16 0] 25)).drew w2 →
            Calls Try.prog 44 #[.pointer (some ⟨g, 0, none⟩), .string s, x'.val] w2 fun e w' => e = .returned (.tuple #[]) ∧ ∃ S'' mo', DkM w' S'' g mo' (putP E s x') wr0 sy ∧ Files w' S'' g mo' (putP E s x') ∧ Step w2 S' w' S'' := fun x' w2 hx' how hon => by
          obtain ⟨h1, h2, hx, hix⟩ := HE.out
          have hb2 : Below wr.heap.size wr (wr.alloc (.cells #[.int .u16 0, .int .u16 0] 25)).drew := ((Below.refl _ _).alloc (Nat.le_refl _) _).drew
          have hix2 := hix
          refine put_any (x := x') w2 ((h1.below hb2).keep2 hon (fun e => (hix2.S g e.symm).2.1 rfl) (fun b hb e => (hix2.S b e.symm).2.2 hb.symm)) (((h2.del s).below hb2).keep2 hon (fun p hp k hk e => ?_)) hx' (fun p hp => ?_) ?_ HSn.out
          · rcases h2.apart_del hx p hp with h' | h'
            · rw [h'] at e; cases e
            · exact h' (e.symm.trans hk.symm)
          · have := h2.apart_del hx p hp
            unfold Far at this ⊢
            rw [how]
            exact this
          · exact Nat.le_trans (putP_length_some hx _) h1.few
        have HP := Lib.hid hput
        have htorn := torn_any 0 0 (wr.alloc (.cells #[.int .u16 0, .int .u16 0] 25)).drew (HE.out.2.2.2.below (((Below.refl _ _).alloc (Nat.le_refl _) _).drew)) (by omega)
        rw [show ((0 : Nat) : Int) = 0 from rfl] at htorn
        have HT := Lib.hid htorn
        have hlk : (Instr.lookup 92 (.map mo) (.string s) false).run Try.prog (wr.alloc (.cells #[.int .u16 0, .int .u16 0] 25)).drew = .ok x.val (wr.alloc (.cells #[.int .u16 0, .int .u16 0] 25)).drew := by
          have := ((HE.out.1.below (((Below.refl _ wr).alloc (Nat.le_refl _) (.cells #[.int .u16 0, .int .u16 0] 25)).drew)).mp).at_ HSn.out
          rw [lookE_some HE.out.2.2.1] at this
          exact this
        have c0 : (wr.alloc (.cells #[.int .u16 0, .int .u16 0] 25)).cell? ⟨g, 0, none⟩ = some (.map mo) := (World.cell?_alloc_past _ _ _ (HE.out.1.lt g HE.out.1.gS)).trans HE.out.1.c0
        have d0 : (wr.alloc (.cells #[.int .u16 0, .int .u16 0] 25)).cell? ⟨wr.heap.size, 0, none⟩ = some (.int .u16 0) := by rw [World.cell?_alloc_at _ _ _ _ rfl]; rfl
        have d1 : (wr.alloc (.cells #[.int .u16 0, .int .u16 0] 25)).cell? ⟨wr.heap.size, 1, none⟩ = some (.int .u16 0) := by rw [World.cell?_alloc_at _ _ _ _ rfl]; rfl
        have HBw := Lib.hid ((Below.refl wr.heap.size wr).alloc (Nat.le_refl _) (.cells #[.int .u16 0, .int .u16 0] 25)).drew
        clear hput htorn hnm2
        generalize (wr.alloc (.cells #[.int .u16 0, .int .u16 0] 25)) = W1 at *
        go_region_with ((first
          | (go_at_call 45; (with_reducible refine HT.out.mono ?_); rintro e w2 ⟨x', rfl, _, hfl, hfi, how, hon⟩; replace hfl := Lib.hid hfl; replace hfi := Lib.hid hfi; replace how := Lib.hid how; replace hon := Lib.hid hon)
          | (go_at_call 44; (with_reducible refine (HP.out x' _ hfi.out how.out hon.out).mono ?_); rintro e w3 ⟨rfl, S'', mo', l1, l2, l3⟩; replace l1 := Lib.hid l1; replace l2 := Lib.hid l2; replace l3 := Lib.hid l3)))
        all_goals
          have Hd' : Hid (Disk w3 S'' g (crashK L ts (k + 1)) wr0 sy) := ⟨_, mo', crash_step HE.out.1.rise HLk.out HEq.out.1 HEq.out.2 Hta.out hfl.out, l1.out, l2.out⟩
          have hown : Only S' W1.drew w2 := hon.out.mono (fun i hi => (HE.out.2.2.2.S i hi.symm).1)
          have Hst' : Hid (Step w1 S w3 S'') := (Hst.out.trans (Step.of_below S' HBw.out)).trans ((⟨hown, fun _ h => .inl h⟩ : Step W1.drew S' w2 S').trans l3.out)
          clear hown
          go_wp2
          go_roundw
          case rel => exact ⟨k + 1, S'', by omega, by go_num, Hd', Hst'⟩
          case measure => simp [intOf]; omega
    · obtain rfl : k = L.length := by omega
      have hd : decide (L.length < L.length) = false := decide_eq_false (Nat.lt_irrefl _)
      go_wp2
      go_end0
      exact ⟨rfl, S', Hd.out, (Step.of_below S HB.out).trans Hst.out⟩
end Go.Proofs.Ytgcfofnlgdfmoaa
