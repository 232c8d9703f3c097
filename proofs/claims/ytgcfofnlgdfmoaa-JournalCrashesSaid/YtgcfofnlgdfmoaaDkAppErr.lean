/- Layer 6: Append of a disk: as a disk's files; its errors. -/
import Derived.Test.YtgcfofnlgdfmoaaDkAppend
namespace Go.Proofs.Ytgcfofnlgdfmoaa
open Go.RowKit Go.Maps

def had (L : List (ByteArray × Fl)) (s : ByteArray) : Fl := (findP L s).getD ⟨[], 0⟩
/-- an append that answers OK -/
theorem append_ok {S : Nat → Prop} {g : Nat} {L : List (ByteArray × Fl)} {wr sy : Nat} {s : ByteArray} {B : Option Addr} {m d : Nat} {l : List Nat} (w : World) (h : Disk w S g L wr sy)
    (hv : valueB s = true) (hs : s.size ≤ maxLen) (hfew : findP L s = none → L.length < 64) (hm : m = l.length) (hok : OkB l) (hmax : (had L s).by_.length + m ≤ 1048576) (hr : RdB w w.heap.size B l) (hwr : wr ≤ 1000000) :
    Calls Try.prog 42 #[.pointer (some ⟨g, 0, none⟩), .string s, .slice B m d] w fun e w' => e = .returned (.int .i64 0) ∧ Leaves w w' S g (putP L s ⟨(had L s).by_ ++ l, (had L s).syn⟩) (wr + 1) sy := by
  obtain ⟨E, mo, rfl, h1, h2⟩ := h
  rw [mapS_length] at hfew
  cases e : findP E s with
  | none =>
    have e' : findP (mapS Ent.fl E) s = none := by rw [mapS_find, e]; rfl
    have hh : had (mapS Ent.fl E) s = ⟨[], 0⟩ := by unfold had; rw [e']; rfl
    rw [hh] at hmax ⊢
    refine (append_core (x := ⟨.slice none 0 0, [], 0⟩) w h1 h2 hv hs ent0_is (fun p _ => .inl rfl) (lookE_none e) false (by rw [e]; rfl) (fun _ => hfew e') hm hok hmax hr hwr (fun y => ?_)).mono ?_
    · rw [putP_length_none e]; exact hfew e'
    · rintro e1 w' ⟨h3, S', mo', v', k1, k2, k3⟩
      exact ⟨h3, S', ⟨_, mo', by rw [mapS_put]; rfl, k1, k2⟩, k3⟩
  | some x =>
    have e' : findP (mapS Ent.fl E) s = some x.fl := by rw [mapS_find, e]; rfl
    have hh : had (mapS Ent.fl E) s = x.fl := by unfold had; rw [e']; rfl
    rw [hh] at hmax ⊢
    refine (append_core (x := x) w h1 h2 hv hs (h2.each _ (findP_some e)) (h2.apart_del e) (lookE_some e) true (by rw [e]; rfl) (fun h => nomatch h) hm hok hmax hr hwr (fun y => ?_)).mono ?_
    · exact Nat.le_trans (putP_length_some e _) h1.few
    · rintro e1 w' ⟨h3, S', mo', v', k1, k2, k3⟩
      exact ⟨h3, S', ⟨_, mo', by rw [mapS_put]; rfl, k1, k2⟩, k3⟩

set_option maxHeartbeats 400000 in
theorem append_nil (s : ByteArray) (b : Value) (w : World) :
    Calls Try.prog 42 #[.pointer none, .string s, b] w fun e w' => e = .returned (.int .i64 1) ∧ Below w.heap.size w w' := by
  go_enter Try.func42, Try.ntmps42
  go_wp2
  go_ret
  exact ⟨rfl, Below.refl _ _⟩
set_option maxHeartbeats 400000 in
theorem append_name (a : Addr) (s : ByteArray) (b : Value) (w : World) (hv : valueB s = false) :
    Calls Try.prog 42 #[.pointer (some a), .string s, b] w fun e w' => e = .returned (.int .i64 8) ∧ Below w.heap.size w w' := by
  have HV := Lib.hid hv
  clear hv
  go_enter Try.func42, Try.ntmps42
  go_wp2_with fail
  refine (value_any s w).mono ?_
  rintro e w1 ⟨rfl, hb⟩
  rw [HV.out]
  go_wp2
  go_ret
  exact ⟨rfl, hb⟩

set_option maxRecDepth 100000 in
set_option maxHeartbeats 400000 in
theorem append_many {S : Nat → Prop} {g : Nat} {L : List (ByteArray × Fl)} {wr sy : Nat} {s : ByteArray} {B : Option Addr} {m d : Nat} (w : World) (h : Disk w S g L wr sy)
    (hv : valueB s = true) (hs : s.size ≤ maxLen) (hn : findP L s = none) (hfew : L.length = 64) :
    Calls Try.prog 42 #[.pointer (some ⟨g, 0, none⟩), .string s, .slice B m d] w fun e w' => e = .returned (.int .i64 5) ∧ Below w.heap.size w w' := by
  obtain ⟨E, mo, rfl, h1, h2⟩ := h
  rw [mapS_length] at hfew
  have e := fl_none rfl hn
  have HA := Lib.hid (⟨h1, hv, hs, e, hfew⟩ : DkM w S g mo E wr sy ∧ valueB s = true ∧ s.size ≤ maxLen ∧ findP E s = none ∧ E.length = 64)
  clear h1 h2 hv hs hn e hfew
  go_enter Try.func42, Try.ntmps42
  go_wp2_with fail
  refine (value_any s w).mono ?_
  rintro e w1 ⟨rfl, hbv⟩
  obtain ⟨h, hv, hs, he, hfew⟩ := HA.out
  rw [hv]
  replace h := h.below hbv
  have c0 := h.c0
  have hgl := h.lt g h.gS
  have hb1 := (Below.refl w1.heap.size w1).alloc (Nat.le_refl _) (.cells #[.slice none 0 0, .int .i64 0] 126)
  have HM := Lib.hid h.mp
  have HLen := fun ty => (h.below hb1).mp.len ty
  have hE : ((E.length : Int) == 64) = true := by rw [beq_iff_eq]; omega
  have HS := Lib.hid hs
  have HE := Lib.hid he
  have HBv := Lib.hid hbv
  have HB1 := Lib.hid hb1
  clear h hv hs he hfew HA hbv hb1
  go_wp2_with (at_lookup; refine wpList_look_ok rfl _ _ rfl rfl rfl HM.out HS.out (v := fileV (.slice none 0 0) 0) (b := false) (lookE_none HE.out) (by rw [HE.out]; rfl) ?_; unfold fileV)
  go_ret
  exact ⟨rfl, HBv.out.trans (HB1.out.mono HBv.out.size)⟩

set_option maxRecDepth 100000 in
set_option maxHeartbeats 400000 in
theorem append_full_core {S : Nat → Prop} {g : Nat} {mo : Option Nat} {E : Ents} {wr sy : Nat} {s : ByteArray} {x : Ent} {B : Option Addr} {m d : Nat} (w : World) (h : DkM w S g mo E wr sy)
    (hv : valueB s = true) (hs : s.size ≤ maxLen) (hix : FileIs w S g mo x) (hl : lookE E s = x.val) (b : Bool) (hb : (findP E s).isSome = b) (hfew : b = false → E.length < 64)
    (hmax : 1048576 < x.by_.length + m) (hm : m ≤ 140737488355328) :
    Calls Try.prog 42 #[.pointer (some ⟨g, 0, none⟩), .string s, .slice B m d] w fun e w' => e = .returned (.int .i64 13) ∧ Below w.heap.size w w' := by

  obtain ⟨A, c, hxv⟩ := ownB_slice hix.own
  have hxl := hix.max
  have HA := Lib.hid (⟨h, hv, hs, hl, hb⟩ : DkM w S g mo E wr sy ∧ valueB s = true ∧ s.size ≤ maxLen ∧ lookE E s = x.val ∧ (findP E s).isSome = b)
  have HXv : Hid (x.v = .slice A x.by_.length c) := hxv
  clear h hix hv hs hl hb hxv
  go_enter Try.func42, Try.ntmps42
  go_wp2_with fail
  refine (value_any s w).mono ?_
  rintro e w1 ⟨rfl, hbv⟩
  obtain ⟨h, hv, hs, hl, hb⟩ := HA.out
  rw [hv]
  replace h := h.below hbv
  have c0 := h.c0
  have hgl := h.lt g h.gS
  have hb1 := (Below.refl w1.heap.size w1).alloc (Nat.le_refl _) (.cells #[.slice A x.by_.length c, .int .i64 x.syn] 126)
  have HM := Lib.hid h.mp
  have HLen := fun ty => (h.below hb1).mp.len ty
  have HS := Lib.hid hs
  have HLk := Lib.hid hl
  have HBv := Lib.hid hbv
  have HB1 := Lib.hid hb1
  clear h hv hs HA hl hbv hb1
  cases b with
  | true =>
    have HBb := Lib.hid hb
    clear hb hfew HLen
    go_wp2_with (at_lookup; refine wpList_look_ok rfl _ _ rfl rfl rfl HM.out HS.out (v := fileV (.slice A x.by_.length c) x.syn) (b := true) (by rw [HLk.out, Ent.val, HXv.out]) HBb.out ?_; unfold fileV)
    go_ret
    exact ⟨rfl, HBv.out.trans (HB1.out.mono HBv.out.size)⟩
  | false =>
    have HBb := Lib.hid hb
    have hE : ((E.length : Int) == 64) = false := by have := hfew rfl; rw [beq_eq_false_iff_ne]; omega
    clear hb hfew
    go_wp2_with (at_lookup; refine wpList_look_ok rfl _ _ rfl rfl rfl HM.out HS.out (v := fileV (.slice A x.by_.length c) x.syn) (b := false) (by rw [HLk.out, Ent.val, HXv.out]) HBb.out ?_; unfold fileV)
    go_ret
    exact ⟨rfl, HBv.out.trans (HB1.out.mono HBv.out.size)⟩
theorem append_full {S : Nat → Prop} {g : Nat} {L : List (ByteArray × Fl)} {wr sy : Nat} {s : ByteArray} {B : Option Addr} {m d : Nat} (w : World) (h : Disk w S g L wr sy)
    (hv : valueB s = true) (hs : s.size ≤ maxLen) (hfew : findP L s = none → L.length < 64) (hmax : 1048576 < (had L s).by_.length + m) (hm : m ≤ 140737488355328) :
    Calls Try.prog 42 #[.pointer (some ⟨g, 0, none⟩), .string s, .slice B m d] w fun e w' => e = .returned (.int .i64 13) ∧ Below w.heap.size w w' := by
  obtain ⟨E, mo, rfl, h1, h2⟩ := h
  rw [mapS_length] at hfew
  cases e : findP E s with
  | none =>
    have e' : findP (mapS Ent.fl E) s = none := by rw [mapS_find, e]; rfl
    have hh : had (mapS Ent.fl E) s = ⟨[], 0⟩ := by unfold had; rw [e']; rfl
    rw [hh] at hmax
    exact append_full_core (x := ⟨.slice none 0 0, [], 0⟩) w h1 hv hs ent0_is (lookE_none e) false (by rw [e]; rfl) (fun _ => hfew e') hmax hm
  | some x =>
    have e' : findP (mapS Ent.fl E) s = some x.fl := by rw [mapS_find, e]; rfl
    have hh : had (mapS Ent.fl E) s = x.fl := by unfold had; rw [e']; rfl
    rw [hh] at hmax
    exact append_full_core (x := x) w h1 hv hs (h2.each _ (findP_some e)) (lookE_some e) true (by rw [e]; rfl) (fun h => nomatch h) hmax hm
end Go.Proofs.Ytgcfofnlgdfmoaa
