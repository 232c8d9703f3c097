/- Layer 6: Remove, Rename, Loose, Counts, Read of a disk. -/
import Derived.Test.YtgcfofnlgdfmoaaDkAppErr
namespace Go.Proofs.Ytgcfofnlgdfmoaa
open Go.RowKit Go.Maps

theorem del_end {S : Nat → Prop} {g b n : Nat} {E : Ents} {wr sy : Nat} {s : ByteArray} {w1 w2 : World} (h : DkM w1 S g (some b) E wr sy) (h2 : Files w1 S g (some b) E)
    (ho : w2.ownsMap Try.prog 9 rawR b n ((datum E).del (.string s.data.toList))) (hg : w1.grownBy w2 (some b)) :
    DkM w2 S g (some b) (delP E s) wr sy ∧ Files w2 S g (some b) (delP E s) ∧ Step w1 S w2 S := by
  have hmp := h.mp
  rcases hmp with ⟨hmp, _⟩ | ⟨b', hmp, hb, hbg, hown⟩
  · cases hmp
  · injection hmp with hmp
    subst hmp
    have hon : Only (fun k => k = b) w1 w2 := Only.of_grown hg (fun k hk => by injection hk with hk; exact hk.symm)
    have hgb : ¬ g = b := fun e => hbg e.symm
    refine ⟨⟨h.gS, fun k hk => Nat.lt_of_lt_of_le (h.lt k hk) hon.size, (hon.cell (p := ⟨g, 0, none⟩) (h.lt g h.gS) hgb).trans h.c0, (hon.cell (p := ⟨g, 1, none⟩) (h.lt g h.gS) hgb).trans h.c1,
      (hon.cell (p := ⟨g, 2, none⟩) (h.lt g h.gS) hgb).trans h.c2, fun o => (hon.frozen (p := ⟨g, o, none⟩) (h.lt g h.gS) hgb).trans (h.fz o), .inr ⟨b, rfl, hb, hbg, ?_⟩, rising_del h.rise s, Nat.le_trans (delP_length_le _ _) h.few⟩,
      ((h2.del s).keep2 hon (fun p hp k hk e => ((h2.each p (mem_delP.1 hp).1).S k hk).2.2 (by rw [e]))), hon.mono (fun i hi => by rw [hi]; exact hb), fun _ hk => .inl hk⟩
    have := ownsMap_tight ho
    rw [datum_del, datum_size] at this
    exact this
theorem DkM.has_map {S : Nat → Prop} {g : Nat} {mo : Option Nat} {E : Ents} {wr sy : Nat} {s : ByteArray} {x : Ent} {w : World} (h : DkM w S g mo E wr sy) (hx : findP E s = some x) :
    ∃ b, mo = some b ∧ w.ownsMap Try.prog 9 rawR b E.length (datum E) := by
  rcases h.mp with ⟨_, rfl⟩ | ⟨b, hb, _, _, ho⟩
  · cases hx
  · exact ⟨b, hb, ho⟩

theorem ownsRow_take {w : World} {base : Nat} {e : TypeId} {n k c : Nat} {A : Option Addr} {xs : List Value} (h : w.ownsRow base e 1 (.slice A n c) n xs) (hk : k ≤ n) : w.ownsRow base e 1 (.slice A k c) k (xs.take k) := by
  have hl := h.1
  refine ⟨by rw [List.length_take]; omega, ?_⟩
  rcases h.2 with ⟨e1, e2⟩ | ⟨g, cap, cur, e1, h1, h2, h3, h4, h5, h6⟩
  · injection e1 with e1 e2 e3
    subst e1 e2 e3
    obtain rfl : k = 0 := by omega
    exact .inl ⟨rfl, rfl⟩
  · injection e1 with e1 e2 e3
    subst e1 e3
    refine .inr ⟨g, _, cur, rfl, h1, h2, by omega, h4, h5, ?_⟩
    rw [← h6, List.take_take]
    congr 1
    omega

/-- of a file what a cut leaves -/
def cutF (f : Fl) (k : Nat) : Fl := ⟨f.by_.take k, min f.syn k⟩
set_option maxRecDepth 100000 in
set_option maxHeartbeats 400000 in
theorem cut_range {S : Nat → Prop} {g : Nat} {L : List (ByteArray × Fl)} {wr sy : Nat} {s : ByteArray} {f : Fl} (z : Int) (w : World) (h : Disk w S g L wr sy) (hs : s.size ≤ maxLen) (hf : findP L s = some f) (hz : z < 0 ∨ (f.by_.length : Int) < z) :
    Calls Try.prog 39 #[.pointer (some ⟨g, 0, none⟩), .string s, .int .i64 z] w fun e w' => e = .returned (.int .i64 6) ∧ Below w.heap.size w w' := by
  obtain ⟨E, mo, rfl, h1, h2⟩ := h
  obtain ⟨x, hx, rfl⟩ := fl_some rfl hf
  obtain ⟨A, c, hv⟩ := ownB_slice (h2.each _ (findP_some hx)).own
  have HC := Lib.hid (find_some w h1 h2 hs hx)
  have HV : Hid (x.v = .slice A x.by_.length c) := hv
  clear hs h1 h2 hx hf hv
  go_enter Try.func39, Try.ntmps39
  go_wp2_with fail
  refine HC.out.mono ?_
  rintro e w1 ⟨rfl, hb⟩
  rw [HV.out]
  unfold fileV
  have HB2 := Lib.hid (hb.trans (((Below.refl w.heap.size w1).alloc hb.size (.cells #[.slice A x.by_.length c, .int .i64 x.syn] 126))))
  clear hb
  rcases Int.lt_or_le z 0 with hz0 | hz0
  · have hd : decide (z < 0) = true := decide_eq_true hz0
    clear hz
    go_wp2
    go_ret
    exact ⟨rfl, HB2.out⟩
  · have hd : decide (z < 0) = false := decide_eq_false (by omega)
    have hd2 : (x.by_.length : Int) < z := by rcases hz with hz | hz; omega; exact hz
    clear hz
    go_wp2
    go_ret
    exact ⟨rfl, HB2.out⟩

set_option maxRecDepth 100000 in
set_option maxHeartbeats 400000 in
theorem cut_some {S : Nat → Prop} {g : Nat} {L : List (ByteArray × Fl)} {wr sy : Nat} {s : ByteArray} {f : Fl} (k : Nat) (w : World) (h : Disk w S g L wr sy) (hs : s.size ≤ maxLen) (hf : findP L s = some f) (hk : k ≤ f.by_.length) :
    Calls Try.prog 39 #[.pointer (some ⟨g, 0, none⟩), .string s, .int .i64 k] w fun e w' => e = .returned (.int .i64 0) ∧ Leaves w w' S g (putP L s (cutF f k)) wr sy := by
  obtain ⟨E, mo, rfl, h1, h2⟩ := h
  obtain ⟨x, hx, rfl⟩ := fl_some rfl hf
  have hix := h2.each _ (findP_some hx)
  obtain ⟨A, c, hv⟩ := ownB_slice hix.own
  have HC := Lib.hid (find_some w h1 h2 hs hx)
  have HV : Hid (x.v = .slice A x.by_.length c) := hv
  have HA := Lib.hid (⟨h1, h2, hs, hx, hix⟩ : DkM w S g mo E wr sy ∧ Files w S g mo E ∧ s.size ≤ maxLen ∧ findP E s = some x ∧ FileIs w S g mo x)
  have hkx : k ≤ x.by_.length := hk
  have hxm := hix.max
  have hxs := hix.syn
  clear hs h1 h2 hx hf hv hix hk
  go_enter Try.func39, Try.ntmps39
  go_wp2_with fail
  refine HC.out.mono ?_
  rintro e w1 ⟨rfl, hb⟩
  rw [HV.out]
  unfold fileV
  have hb2 := (hb.trans (((Below.refl w.heap.size w1).alloc hb.size (.cells #[.slice A x.by_.length c, .int .i64 x.syn] 126))))
  have HB2 := Lib.hid hb2
  have hkc : (k : Int) ≤ c := by
    have ho := HA.out.2.2.2.2.own
    rw [HV.out] at ho
    rcases ho.2 with ⟨e1, e2⟩ | ⟨g', cap, cur, e1, _, _, h3, _⟩
    · omega
    · injection e1 with _ _ e3; omega
  have hd1 : decide ((k : Int) < 0) = false := decide_eq_false (by omega)
  have hd2 : decide (x.by_.length < k) = false := decide_eq_false (by omega)
  clear hb hb2
  obtain ⟨y, hy⟩ : ∃ y : Nat, y = min x.syn k := ⟨_, rfl⟩
  have hmin : ∀ (ts : Array TypeId) (t : TypeId) (w : World), (Builtin.min_ ts t #[.int .i64 x.syn, .int .i64 k]).run Try.prog w = .ok (.int .i64 y) w := fun ts t w => by
    rw [run_min_int2, hy]
    split <;> rename_i h' <;> congr 2 <;> omega
  have HY := Lib.hid hy
  have HK := Lib.hid hkx
  clear hy hkx
  go_wp2
  have hb2 := HB2.out
  have d0 : (w1.alloc (.cells #[.slice A x.by_.length c, .int .i64 x.syn] 126)).cell? ⟨w1.heap.size, 0, none⟩ = some (.slice A x.by_.length c) := by rw [World.cell?_alloc_at _ _ _ _ rfl]; rfl
  have d1 : (w1.alloc (.cells #[.slice A x.by_.length c, .int .i64 x.syn] 126)).cell? ⟨w1.heap.size, 1, none⟩ = some (.int .i64 x.syn) := by rw [World.cell?_alloc_at _ _ _ _ rfl]; rfl
  have HB3 := Lib.hid hb2
  clear hb2 HB2
  generalize (w1.alloc (.cells #[.slice A x.by_.length c, .int .i64 x.syn] 126)) = W1 at *
  have hput : ∀ w2, Below w.heap.size w w2 → Calls Try.prog 44 #[.pointer (some ⟨g, 0, none⟩), .string s, .agg #[.slice A k c, .int .i64 y]] w2 fun e w' => e = .returned (.tuple #[]) ∧ ∃ S' mo', DkM w' S' g mo' (putP E s ⟨.slice A k c, x.by_.take k, y⟩) wr sy ∧ Files w' S' g mo' (putP E s ⟨.slice A k c, x.by_.take k, y⟩) ∧ Step w2 S w' S' := fun w2 hw2 => by
    obtain ⟨h1, h2, hs, hx, hix⟩ := HA.out
    have hlen : (x.by_.take k).length = k := by rw [List.length_take]; have := HK.out; omega
    refine put_any (x := ⟨.slice A k c, x.by_.take k, y⟩) w2 (h1.below hw2) ((h2.del s).below hw2) ⟨?_, ?_, ?_, ?_, ?_⟩ ?_ ?_ hs
    · have := ownsRow_take (HV.out ▸ (hix.below hw2).own) HK.out
      show World.ownsRow _ _ _ _ _ (x.by_.take k).length _
      rw [hlen]
      unfold cellsB at this ⊢
      rw [List.map_take]
      exact this
    · show y ≤ (x.by_.take k).length
      rw [hlen, HY.out]; omega
    · exact hix.ok.take k
    · show (x.by_.take k).length ≤ _
      rw [hlen]; have := HK.out; omega
    · have := hix.S
      rw [HV.out] at this
      cases A <;> exact this
    · intro p hp
      have := h2.apart_del hx p hp
      unfold Far at this ⊢
      rw [HV.out] at this
      cases A <;> exact this
    · exact Nat.le_trans (putP_length_some hx _) h1.few
  have HP := Lib.hid hput
  have hsl : ∀ w : World, (Instr.sliceAt 37 (.slice A x.by_.length c) none (some (.int .i64 k)) none).run Try.prog w = .ok (.slice A k c) w := fun w => by
    have hu : Try.prog.underlying 37 = some (.slice (Try.prog.elem 37)) := by kernel_rfl
    have hz : (sizeOf (Try.prog.elem 37)).run Try.prog w = .ok 1 w := by kernel_rfl
    rw [run_sliceAt_slice _ _ _ _ _ _ hu, run_slice_h _ _ _ _ _ hu .i64 (k : Int) (by omega) hkc, hz]
    cases A <;> simp [Result.andThen, sliced, Addr.add]
  clear hput HK hkc
  go_region_with ((go_at_call 44; (with_reducible refine (HP.out _ HB3.out.drew).mono ?_); rintro e w2 ⟨rfl, S', mo', l1, l2, l3⟩))
  all_goals
    have L1 := Lib.hid l1
    have L2 := Lib.hid l2
    have L3 := Lib.hid l3
    clear l1 l2 l3
    go_wp2
    go_ret
    refine ⟨rfl, S', ⟨_, mo', ?_, L1.out, L2.out⟩, (Step.of_below S HB3.out.drew).trans L3.out⟩
    rw [mapS_put, HY.out]
    rfl
end Go.Proofs.Ytgcfofnlgdfmoaa
