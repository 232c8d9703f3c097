/- Several texts in one: StOpl, SpAwake, StAwk, DkOpen, Laid9, StNo2, JlRef. -/
import Derived.Test.YtholdcgkhicdmaaGreatDoorCards
import Derived.Test.YtholdcgkhicdmaaGreatDoorTie
import Derived.Deep.DeepHandedRow
import Derived.Lib.LaidTab
import Derived.LaidLaws
import Derived.Test.YtholdcgkhicdmaaGreatDoorZn46
namespace Go.Proofs.YtholdcgkhicdmaaGreatDoor
open Go.RowKit
def OplPost (w : World) (S : Nat → Prop) (gd g n me q k b : Nat) (a : Ab) (e : Ending) (w' : World) : Prop :=
  ∃ P' R' cs', e = .returned (.tuple #[.pointer (some ⟨R'.st, 0, none⟩), .int .i64 0]) ∧ Live w' P' R' (n + 18) me q k (b + 19) cs' (joinR cs').length ∧ (∀ i k, P' i k → S k ∨ k = g ∨ w.heap.size ≤ k) ∧ Only (fun k => S k ∨ k = g) w w' ∧
    (joinR cs').length ≤ R'.first + 4 * q + 1024 ∧ R'.ab.X = a.X ∧ R'.ab.K = a.K ∧ R'.ab.F = a.F ∧ R'.life = a.m + 1 ∧ R'.gd = gd ∧ R'.g = g
theorem beg_live {w w' : World} {S : Nat → Prop} {gd g n me q k b gen s : Nat} {LL : List (ByteArray × Fl)} {cs : List (List Nat)} {a : Ab} {e : Ending} (h : BegGood w S gd g (fun _ => False) (n + 9) me gen ⟨⟨q, 1, 0, 0, fun _ => 0⟩, [], [], 0, 0⟩ LL (recs9 LL (nmG gen)) e w')
    (hl : Lv me q k b gen cs a) (hcs : recs9 LL (nmG gen) = cs) (hL : ∀ x : List Nat, putP (open9 LL (nmG gen)) (nmG gen) ⟨(had (open9 LL (nmG gen)) (nmG gen)).by_ ++ x, (had (open9 LL (nmG gen)) (nmG gen)).syn⟩ = [(nmG gen, ⟨joinR cs ++ x, s⟩)]) (hm : a.m + 1 < 18446744073709551616) (hb : b + 19 ≤ 13000) :
    OplPost w S gd g n me q k b a e w' := by
  obtain ⟨a', R1, P', R', h1, h2, h3, h4, h5, c1, c2, c3, c4, c5, c6, c7⟩ := h
  rw [hcs] at h1
  have e3 : a = a' := by
    have h9 : repAll me gen (a0of q) cs = some a' := h1
    rw [hl.lg.rep] at h9
    exact Option.some.inj h9
  subst e3
  rw [Nat.mod_eq_of_lt hm] at c6 c7
  have h6 := hl.life hm hb
  rw [hL, ← joinR_app1] at c7
  rw [← c6] at h6
  obtain ⟨cs', g1, g2, g3, g4, g5, g6, g7, g8, g9⟩ := sync_live h5 h3 (by rw [c4]; exact h6) (by rw [c4]; exact c5) (by rw [c4]; exact c7) c3
  refine ⟨P', R', cs', h2, g1, fun i k hk => ?_, h4.only.mono fun k hk => ?_, g2, by rw [g3, c6], by rw [g4, c6], by rw [g5, c6], ?_, by rw [g7, c1], by rw [g8, c2]⟩
  · rcases h4.new i k hk with ⟨j, hj⟩ | h7
    · match j, hj with
      | 0, hj => exact .inl hj
      | 1, hj => exact .inr (.inl hj)
      | 4, hj => exact hj.elim
    · exact .inr (.inr h7)
  · obtain ⟨j, hj⟩ := hk
    match j, hj with
    | 0, hj => exact .inl hj
    | 1, hj => exact .inr hj
    | 4, hj => exact hj.elim
  · rw [g6]
    have : R1.ab.m = a.m + 1 := by rw [c6]
    exact this
theorem no_bad {w w' : World} {g n me gen q : Nat} {cs : List (List Nat)} {a : Ab} {e : Ending} (hr : repAll me gen (a0of q) cs = some a) (h : OpenBad w g n me gen ⟨⟨q, 1, 0, 0, fun _ => 0⟩, [], [], 0, 0⟩ cs e w') : False := by
  obtain ⟨z, -, h1, -⟩ := h
  have h1 : repAll me gen (a0of q) cs = none := h1
  rw [hr] at h1
  cases h1
theorem live_open {ev : Value} {S : Nat → Prop} {gd g n me q k b gen s : Nat} {cs : List (List Nat)} {a : Ab} (w : World) (hd : DkT w S gd g [(nmG gen, ⟨joinR cs, s⟩)] n) (hl : Lv me q k b gen cs a) (hlen : (joinR cs).length ≤ 20000) (hm : a.m + 1 < 18446744073709551616) (hb : b + 19 ≤ 13000) (hn : n ≤ 1800) (hSg : ¬ S g)
    (hv : w.cell? ⟨1, 0, none⟩ = some ev) (hvl : 1 < w.heap.size) (hS1 : ¬ S 1) (hg1 : g ≠ 1) (hev : ev = .nilIface ∨ ∃ te pe, ev = .iface te pe) :
    Calls Tryz.prog 9 #[.pointer (some ⟨gd, 0, none⟩), .pointer (some ⟨g, 0, none⟩), .int .u8 me, .int .i64 q] w (OplPost w S gd g n me q k b a) := by
  have hsc := scan_join hl.lg.ok
  have e1 : open9 [(nmG gen, (⟨joinR cs, s⟩ : Fl))] (nmG gen) = [(nmG gen, ⟨joinR cs, (joinR cs).length⟩)] := by
    rw [open_gen]
    show [(nmG gen, (⟨(joinR cs).take (scanJ (joinR cs)).2, (scanJ (joinR cs)).2⟩ : Fl))] = _
    rw [hsc]
    show [(nmG gen, (⟨(joinR cs).take (joinR cs).length, (joinR cs).length⟩ : Fl))] = _
    rw [List.take_length]
  have e2 : recs9 [(nmG gen, (⟨joinR cs, s⟩ : Fl))] (nmG gen) = cs := by
    unfold recs9
    rw [findP_one]
    show (scanJ (joinR cs)).1 = cs
    rw [hsc]
  refine (open_any w (hl.openPre hlen hm hb) hd hn hd.glt hSg hl.q1 (by have := hl.q2; omega) hv hvl hS1 hg1 hev).mono ?_
  rintro e w' (h | h)
  · rw [e2] at h
    exact (no_bad hl.lg.rep h).elim
  · exact beg_live (s := (joinR cs).length) h hl e2 (fun x => by rw [e1, had_one, put_one9]) hm hb
theorem Lv.new {me q : Nat} (hme : me < 32) (h1 : 64 ≤ q) (h2 : q ≤ 320) : Lv me q 0 0 0 [] (a0of q) :=
  ⟨Lg.new me 0 q, hme, h1, h2, by decide, by decide, Nat.le_refl _, Nat.le_refl _, Nat.zero_le _, by show 0 * 1280 + 0 ≤ 0 + 0; decide⟩
theorem openPre_none {me q : Nat} (hse : me < 32) (hq1 : 64 ≤ q) (hq2 : q ≤ 65536) : OpenPre me 0 ⟨q, 1, 0, 0, fun _ => 0⟩ [] [] := by
  have hT : ∀ (i : Nat) (p : ByteArray × Fl) (k : Nat), ([] : List (ByteArray × Fl))[i]? = some p → ([] : List (Option Nat))[i]? = some (some k) → p.1 = nmG 0 := fun i p k h => by simp at h
  have hno : ∀ p ∈ ([] : List (ByteArray × Fl)), p.1 ≠ nmN := fun p hp => (by cases hp)
  have hre : ∀ (j k : Nat) r a, ([] : List (List Nat))[j]? = some (k :: r) → repAll me 0 ⟨⟨q, 1, 0, 0, fun _ => 0⟩, [], [], 0, 0⟩ (([] : List (List Nat)).take j) = some a → ReOkA a r := fun j k r a hj => by simp at hj
  have hz : ([] : List (ByteArray × Fl)).length < 64 := by decide
  have hz2 : ([] : List Nat).length ≤ 20000 := by decide
  have hz3 : ([] : List (List Nat)).length ≤ 20000 := by decide
  refine ⟨gns_nil, rfl, hz, ⟨[], gns_nil, hT⟩, hz, hz2, hno, hse, (fun f hf => (by cases hf)), (fun c hc => (by cases hc)), hz3, hre, fun a R1 hra e1 e2 e3 e4 e5 => ?_⟩
  have ea : (⟨⟨q, 1, 0, 0, fun _ => 0⟩, [], [], 0, 0⟩ : Ab) = a := Option.some.inj hra
  subst ea
  have hf0 : R1.first = 0 := congrArg Ab.f e4
  have hq : R1.X.q = q := congrArg (fun z : Ab => z.X.q) e4
  refine ⟨by omega, by omega, by rw [e3]; exact nmG_max (by decide), _, by rw [e5, e3]; exact findP_set _ _ _, fun hlong => ?_⟩
  exfalso
  have h5 : (leb ((0 + 1) % 18446744073709551616)).length ≤ 10 := leb_le10 (Nat.mod_lt _ (by decide))
  have h6 : (([] : List Nat) ++ laidR (3 :: leb ((0 + 1) % 18446744073709551616))).length ≤ 19 := by
    rw [List.length_append, laidR_length, List.length_cons, List.length_nil]
    omega
  have h7 : R1.first + 4 * R1.X.q + 1024 < (([] : List Nat) ++ laidR (3 :: leb ((0 + 1) % 18446744073709551616))).length := hlong
  omega
theorem live_first {ev : Value} {S : Nat → Prop} {gd g n me q : Nat} (w : World) (hd : DkT w S gd g [] n) (hme : me < 32) (hq1 : 64 ≤ q) (hq2 : q ≤ 320) (hn : n ≤ 1800) (hSg : ¬ S g)
    (hv : w.cell? ⟨1, 0, none⟩ = some ev) (hvl : 1 < w.heap.size) (hS1 : ¬ S 1) (hg1 : g ≠ 1) (hev : ev = .nilIface ∨ ∃ te pe, ev = .iface te pe) :
    Calls Tryz.prog 9 #[.pointer (some ⟨gd, 0, none⟩), .pointer (some ⟨g, 0, none⟩), .int .u8 me, .int .i64 q] w (OplPost w S gd g n me q 0 0 (a0of q)) := by
  have hl := Lv.new hme hq1 hq2
  refine (open_any w (openPre_none hme hq1 (by omega)) hd hn hd.glt hSg hq1 (by omega) hv hvl hS1 hg1 hev).mono ?_
  rintro e w' (h | h)
  · exact (no_bad (cs := []) hl.lg.rep h).elim
  · exact beg_live (s := 0) h hl rfl (fun x => rfl) (by show 0 + 1 < 18446744073709551616; decide) (by decide)
def longN : ByteArray := ⟨#[108, 111, 110, 103, 101, 114, 46, 110, 97, 109, 101]⟩
def evx (o p : Nat) : It := ⟨false, o, 1, 0, longN, [], 0, p, 0, 0, 0, 0, 0⟩
def pr8 : Nat → Nat
  | 0 => 1
  | _ => 0
def X8 : Nat → Sp
  | 0 => ⟨70, 1, 0, 0, fun _ => 0⟩
  | k + 1 => addX (X8 k) (evx k (pr8 k))
theorem put_plain {X : Sp} {L : List Ett} {x : It} {A : Option Addr} {c : Nat} (hE : partE x X.h = 0) (hI : partI x X.h = x) (hf : sumE L + (itemB x).length ≤ X.q) (hn : X.n < 1099511627776) (hg : x.g = false) : putR X L x A c = (0, X.n, 0, addX X x, L ++ [⟨X.n, x, A, c⟩]) := by
  unfold putR
  rw [if_neg (by rw [hE]; decide), hI, roomK_fit hf]
  simp only [Bool.true_eq_false, if_false]
  rw [if_neg (by omega)]
  have hj : addJ L (addE X x A c) = (L ++ [⟨X.n, x, A, c⟩], false) := by
    unfold addJ
    rw [if_neg (by show ¬ x.g = true; rw [hg]; decide)]
    rfl
  have hF : addF L (addE X x A c) = 0 := by unfold addF; rw [hj]; rfl
  show (0, X.n, lowE 0 (addF L (addE X x A c)), addX X x, (addJ L (addE X x A c)).1) = _
  rw [hF, hj]
  rfl
structure Gl (w : World) (ev : Value) : Prop where
  v : w.cell? ⟨1, 0, none⟩ = some ev
  l : 1 < w.heap.size
  e : ev = .nilIface ∨ ∃ te pe, ev = .iface te pe
theorem Gl.below {w w' : World} {ev : Value} (h : Gl w ev) (hb : Below w.heap.size w w') : Gl w' ev := ⟨(hb.cell (p := ⟨1, 0, none⟩) h.l).trans h.v, Nat.lt_of_lt_of_le h.l hb.size, h.e⟩
def xS : It := ⟨false, 1, 1, 0, ⟨#[120]⟩, [], 0, 0, 0, 0, 0, 0, 0⟩
theorem xS_ok : OkI xS := ⟨(by decide), (by decide), (by decide), (show (⟨#[120]⟩ : ByteArray).size ≤ maxLen by decide +kernel), fun i q hq => by simp [xS] at hq, (by decide), (by decide), (show (-9223372036854775808 : Int) ≤ 0 by decide), (show (0 : Int) < 9223372036854775808 by decide), (by decide), (by decide), (by decide), (by decide)⟩
theorem xS_short : ShortI xS := ⟨(show (⟨#[120]⟩ : ByteArray).size ≤ 1048576 by decide +kernel), fun i q hq => by simp [xS] at hq⟩
theorem xS_len : (itemB xS).length = 11 := by decide +kernel
theorem xS_mod : Mod xS := ⟨xS_ok, xS_short, by decide, by rw [xS_len]; decide⟩
theorem xS_nm : Nm xS := ⟨xS_ok, rfl, xS_short, by decide⟩
theorem xS_okB : OkB (1 :: itemB xS) := by
  intro z hz
  rcases List.mem_cons.1 hz with rfl | hz
  · decide
  · exact itemB_ok9 xS_ok xS_short (by decide) z hz
theorem xS_put : (putV ⟨100, 1, 0, 0, fun _ => 0⟩ [] xS).1 = 0 ∧ (putV ⟨100, 1, 0, 0, fun _ => 0⟩ [] xS).2.2.2.1.h 1 = 1 ∧ (putV ⟨100, 1, 0, 0, fun _ => 0⟩ [] xS).2.2.2.2.length = 1 := by
  have h : putV ⟨100, 1, 0, 0, fun _ => 0⟩ [] xS = _ := put_plain (X := ⟨100, 1, 0, 0, fun _ => 0⟩) (L := []) (x := xS) (A := none) (c := 0) (by decide +kernel) (by rfl) (by rw [xS_len]; show 0 + 11 ≤ 100; decide) (by decide) rfl
  rw [h]
  exact ⟨rfl, by decide +kernel, rfl⟩
theorem lab_nil {w : World} {P : Nat → Nat → Prop} {A : Option Addr} : Lb w P A [] := ⟨fun h => absurd h (by simp), fun a _ h => absurd h (by simp)⟩
theorem Only.after {w0 w w' : World} {T : Nat → Prop} (hb : Below w0.heap.size w0 w) (h : Only T w w') (hT : ∀ k, T k → w0.heap.size ≤ k) : Below w0.heap.size w0 w' :=
  hb.trans ⟨h.os, h.tape, h.output, h.size, fun k hk => h.block k (Nat.lt_of_lt_of_le hk hb.size) (fun ht => by have := hT k ht; omega)⟩
set_option maxRecDepth 100000 in
set_option maxHeartbeats 4000000 in
theorem awake9_any {ev : Value} (w : World) (hg : Gl w ev) : Calls Tryz.prog 6 #[] w fun e w' => e = .returned (.bool true) ∧ Below w.heap.size w w' := by
  have HG := Lib.hid hg
  clear hg
  go_enter Tryz.func6, Tryz.ntmps6
  go_wp2_with fail
  refine (new_any w).mono ?_
  rintro _ w1 ⟨rfl, hw1⟩
  have hd1 : Disk w1 (fun k => k = w.heap.size) w.heap.size [] 0 0 := by rw [hw1]; exact Disk.new w
  have hb1 : Below w.heap.size w w1 := by rw [hw1]; exact (Below.refl _ _).alloc (Nat.le_refl _) _
  have hl1 : w1.heap.size = w.heap.size + 1 := by rw [hw1]; simp
  obtain ⟨gd, hgd⟩ : ∃ gd, gd = w.heap.size := ⟨_, rfl⟩
  rw [← hgd] at hd1 ⊢
  have HD1 := Lib.hid hd1
  have HB1 := Lib.hid hb1
  have HZ1 := Lib.hid (⟨hl1, hgd⟩ : _ ∧ _)
  clear hw1 hd1 hb1 hl1 hgd
  go_wp2_with fail
  refine (cnew_any w1).mono ?_
  rintro _ w2 ⟨rfl, hb2, hz2, hT2⟩
  obtain ⟨g, hgg⟩ : ∃ g, g = w1.heap.size := ⟨_, rfl⟩
  rw [← hgg] at hT2 ⊢
  have hdt : DkT w2 (fun k => k = gd) gd g [] 0 := ⟨⟨0, 0, Nat.le_refl _, Nat.le_refl _, HD1.out.below hb2⟩, ⟨0, 0, 0, Nat.zero_le _, Nat.le_refl _, Nat.le_refl _, hT2⟩⟩
  have hb02 : Below w.heap.size w w2 := HB1.out.trans (hb2.mono HB1.out.size)
  have hgl := HG.out.l
  have hG2 := HG.out.below hb02
  have hne : g ≠ gd := by have := HZ1.out.1; have := HZ1.out.2; omega
  have HF := Lib.hid (live_first (me := 1) (q := 100) w2 hdt (by decide) (by decide) (by decide) (by decide) hne hG2.v hG2.l (by have := HZ1.out.2; omega) (by have := HZ1.out.1; omega) hG2.e)
  have HB2 := Lib.hid hb02
  have HGG := Lib.hid hgg
  clear hb2 hz2 hT2 hgg hdt hb02 hG2 hne HD1
  go_wp2_with fail
  refine HF.out.mono ?_
  rintro _ w3 ⟨P3, R3, cs3, rfl, h3, hP3, ho3, -, hX3, hK3, hF3, hm3, hgd3, hg3⟩
  have hlw3 : Lw w w3 P3 := by
    have hgdw := HZ1.out
    have hggw := HGG.out
    refine ⟨fun i k hk => ?_, Only.after HB2.out ho3 (fun k hk => by omega)⟩
    have := HB2.out.size
    rcases hP3 i k hk with h | h | h <;> omega
  have HLW3 := Lib.hid hlw3
  have HQ3 := Lib.hid (⟨hX3, hK3, hm3, hgd3, hg3⟩ : _ ∧ _ ∧ _ ∧ _ ∧ _)
  have H3 := Lib.hid h3
  clear h3 hP3 ho3 hX3 hK3 hF3 hm3 hgd3 hg3 hlw3 HF
  obtain ⟨st3, hst3⟩ : ∃ z, z = R3.st := ⟨_, rfl⟩
  rw [← hst3]
  have HST3 := Lib.hid hst3
  clear hst3
  go_wp2_with fail
  refine (of_any 1 1 0 ⟨#[120]⟩ none 0 0 [] 0 0 0 0 w3 rfl (fun _ => rfl) (by decide) (fun h => absurd h (by decide))).mono ?_
  rintro _ w4 ⟨L, rfl, ho4, hb4⟩
  obtain ⟨A4, c4, rfl⟩ := own_slice ho4
  have HLW4 := Lib.hid (HLW3.out.below hb4)
  have HP := Lib.hid (live_put xS A4 c4 (H3.out.below hb4) (by decide) xS_mod xS_nm (fun _ => rfl) lab_nil (by rw [xS_len]; decide) xS_okB (by decide) (by rw [xS_len]; decide))
  rw [← HST3.out] at HP
  clear ho4 hb4 H3 HLW3
  go_wp2_with fail
  refine HP.out.mono ?_
  have hput : (putV R3.ab.X R3.ab.K xS).1 = 0 := by rw [HQ3.out.1, HQ3.out.2.1]; exact xS_put.1
  rintro _ w5 (⟨h, -⟩ | ⟨-, rfl, P5, R5, h5, hm5, hab5, hgd5, hg5, hst5, -⟩)
  · exact absurd hput h
  have HLW5 := Lib.hid (HLW4.out.mv hm5)
  have HQ5 := Lib.hid (⟨hab5, hgd5, hg5, hst5⟩ : _ ∧ _ ∧ _ ∧ _)
  have HS5 := Lib.hid (live_sync h5 (by decide))
  rw [hst5] at HS5
  clear h5 hm5 hab5 hgd5 hg5 hst5 HP HLW4 hput
  obtain ⟨ix, hix⟩ : ∃ z, z = (putV R3.ab.X R3.ab.K xS).2.1 := ⟨_, rfl⟩
  obtain ⟨fx, hfx⟩ : ∃ z, z = (putV R3.ab.X R3.ab.K xS).2.2.1 := ⟨_, rfl⟩
  rw [← hix, ← hfx]
  clear hix hfx
  go_wp2_with fail
  refine HS5.out.mono ?_
  rintro _ w6 ⟨rfl, P6, R6, cs6, h6, hm6, hlen6, hX6, hK6, -, hlf6, hgd6, hg6, -⟩
  have HLW6 := Lib.hid (HLW5.out.mv hm6)
  have hgd6' : R6.gd = gd := by rw [hgd6, HQ5.out.2.1, HQ3.out.2.2.2.1]
  have hg6' : R6.g = g := by rw [hg6, HQ5.out.2.2.1, HQ3.out.2.2.2.2]
  have hdt6 := h6.st.dt
  have hP60 : ∀ k, P6 0 k → k ≠ 1 := fun k hk => by have := HLW6.out.lo 0 k hk; have := HG.out.l; omega
  have hng6 : ¬ P6 0 R6.g := fun hk => by have := h6.st.own.sep 0 1 _ hk h6.st.p1; cases this
  rw [h6.LL] at hdt6
  have hcr := crash_full (m := 0) (c := 0) (A := none) (ts := []) hdt6 hng6 rfl (by decide) (fun h => absurd h (by decide)) (fun a ha => by cases ha) (fun t ht => by cases ht)
  have hlv6 := h6.lv
  have h36 : (joinR cs6).length ≤ 20000 := by have h7 : R6.first ≤ 16920 := h6.lv.fz; omega
  have hm6a : R6.ab.m = 1 := by
    have h7 : R6.life = R5.life := hlf6
    have h8 : R5.life = R3.life := by have h9 := congrArg Ab.m HQ5.out.1; exact h9
    show R6.life = 1
    rw [h7, h8]
    exact HQ3.out.2.2.1
  rw [hgd6'] at hcr
  have HCR := Lib.hid hcr
  have hgl6 : R6.g < w6.heap.size := h6.st.own.lt 1 _ h6.st.p1
  have HL6 := Lib.hid (⟨hlv6, h36, hm6a, hX6, hK6, hg6', hng6, hgl6⟩ : _ ∧ _ ∧ _ ∧ _ ∧ _ ∧ _ ∧ _ ∧ _)
  clear h6 hm6 hlen6 hX6 hK6 hlf6 hgd6 hg6 hgd6' hg6' hdt6 hng6 hcr hlv6 h36 hm6a hgl6 HS5 HLW5
  go_wp2_with fail
  refine HCR.out.mono ?_
  rintro _ w7 ⟨rfl, S7, hd7, hst7⟩
  have hb7 : Below w.heap.size w w7 := Only.after HLW6.out.bl hst7.only (fun k hk => HLW6.out.lo 0 k hk)
  have hS7 : ∀ k, S7 k → w.heap.size ≤ k := fun k hk => (hst7.new k hk).elim (fun h => HLW6.out.lo 0 k h) (fun h => Nat.le_trans HLW6.out.bl.size h)
  have hG7 := HG.out.below hb7
  obtain ⟨hlv6, h36, hm6a, hX6, hK6, hg6, hng6, hgl6⟩ := HL6.out
  have hgw : w.heap.size ≤ g := by have := HGG.out; have := HZ1.out.1; omega
  have hg7 : ¬ S7 g := fun h => by
    rcases hst7.new g h with h | h
    · rw [← hg6] at h; exact hng6 h
    · omega
  rw [hg6] at hd7
  have HO := Lib.hid (live_open (me := 1) (q := 100) w7 hd7 hlv6 h36 (by rw [hm6a]; decide) (by rw [xS_len]; decide) (by decide) hg7 hG7.v hG7.l (fun h => by have := hS7 1 h; have := HG.out.l; omega) (by have := HG.out.l; omega) hG7.e)
  have HB7 := Lib.hid (⟨hb7, hS7, hgw⟩ : _ ∧ _ ∧ _)
  clear hd7 hst7 hb7 hS7 hG7 hlv6 h36 hm6a hX6 hK6 hg6 hng6 hgl6 hgw hg7 HCR
  go_wp2_with fail
  refine HO.out.mono ?_
  rintro _ w8 ⟨P8, R8, cs8, rfl, h8, hP8, ho8, -, hX8, hK8, -, hm8, -, -⟩
  have hb8 : Below w.heap.size w w8 := Only.after HB7.out.1 ho8 (fun k hk => hk.elim (HB7.out.2.1 k) (fun e => by rw [e]; exact HB7.out.2.2))
  have hlife : R8.life = 2 := by rw [hm8, HL6.out.2.2.1]
  have hXX : R8.X.h 1 = 1 := by
    have e : R8.ab.X = (putA 1 R3.ab xS).X := by rw [hX8, HL6.out.2.2.2.1, HQ5.out.1]
    have e2 : R8.ab.X.h 1 = 1 := by
      rw [e]
      show (putV R3.ab.X R3.ab.K xS).2.2.2.1.h 1 = 1
      rw [HQ3.out.1, HQ3.out.2.1]
      exact xS_put.2.1
    exact e2
  have hLL : R8.L.length = 1 := by
    have e : R8.ab.K = (putA 1 R3.ab xS).K := by rw [hK8, HL6.out.2.2.2.2.1, HQ5.out.1]
    have e2 : R8.ab.K.length = 1 := by
      rw [e]
      show (putV R3.ab.X R3.ab.K xS).2.2.2.2.length = 1
      rw [HQ3.out.1, HQ3.out.2.1]
      exact xS_put.2.2
    have e3 : R8.ab.K.length = R8.L.length := ers_len _
    rw [← e3]; exact e2
  have HSP := Lib.hid (sto_spool w8 h8.st)
  have HLF := Lib.hid (fun W (hW : Below w8.heap.size w8 W) => sto_life W (h8.st.below hW))
  have HNX := Lib.hid (fun W (hW : Below w8.heap.size w8 W) => sto_next W (h8.st.below hW) (by rw [h8.sf]; decide) (by rw [h8.sf, hXX]; decide))
  rw [hlife] at HLF
  rw [h8.sf, hXX] at HNX
  obtain ⟨st8, hst8⟩ : ∃ z, z = R8.st := ⟨_, rfl⟩
  rw [← hst8] at HSP HLF HNX ⊢
  have HB8 := Lib.hid hb8
  have HN8 := Lib.hid hLL
  clear h8 hP8 ho8 hX8 hK8 hm8 hb8 hlife hXX hLL hst8 HO
  go_wp2_with fail
  refine HSP.out.mono ?_
  rintro _ w9 ⟨sq, S9, rfl, hs9, -, hb9⟩
  have HC9 := Lib.hid (scounts_any w9 hs9)
  rw [HN8.out] at HC9
  have HB9 := Lib.hid hb9
  clear hs9 hb9 HSP
  go_wp2_with fail
  refine HC9.out.mono ?_
  rintro _ w10 ⟨rfl, hb10⟩
  have HB10 := Lib.hid (HB9.out.trans (hb10.mono HB9.out.size))
  clear hb10 HC9 HB9
  go_wp2_with fail
  refine (HLF.out w10 HB10.out).mono ?_
  rintro _ w11 ⟨rfl, rfl⟩
  go_wp2_with fail
  refine (HNX.out w10 HB10.out).mono ?_
  rintro _ w11 ⟨rfl, hb11⟩
  have HB11 := Lib.hid (HB8.out.trans ((HB10.out.trans (hb11.mono HB10.out.size)).mono HB8.out.size))
  clear hb11
  go_wp2
  go_ret
  exact ⟨rfl, HB11.out⟩
end Go.Proofs.YtholdcgkhicdmaaGreatDoor
namespace Go.Proofs.YtholdcgkhicdmaaGreatDoor
theorem dbounds_i64 {z : Int} (h : (Lit.int .i64 z).wf = true) : -9223372036854775808 ≤ z ∧ z < 9223372036854775808 := by
  have hmin : IntKind.i64.min = -9223372036854775808 := rfl
  have hmax : IntKind.i64.max = 9223372036854775807 := rfl
  simp only [Lit.wf, Bool.and_eq_true, decide_eq_true_eq, hmin, hmax] at h
  exact ⟨by omega, by omega⟩
end Go.Proofs.YtholdcgkhicdmaaGreatDoor
namespace Go.Proofs.YtholdcgkhicdmaaGreatDoor
open Go.RowKit
def numV : DataW Unit → Value | .lit (.int k n) => .int k n | _ => undef
def rowV : DataW Unit → List Value | .agg l => l.map numV | _ => []
def tab32V : Array Value := (rowV Rows.laid_math_bits_deBruijn32tab).toArray
def tab64V : Array Value := (rowV Rows.laid_math_bits_deBruijn64tab).toArray
def pow10V : Array Value := (rowV Rows.laid_internal_strconv_uint64pow10).toArray
def rangeS : ByteArray := ⟨#[118, 97, 108, 117, 101, 32, 111, 117, 116, 32, 111, 102, 32, 114, 97, 110, 103, 101]⟩
def syntaxS : ByteArray := ⟨#[105, 110, 118, 97, 108, 105, 100, 32, 115, 121, 110, 116, 97, 120]⟩
def relay (cs : Array Value) : Obj → Obj
  | .cells _ t frozen => .cells cs t frozen
  | o => o
noncomputable def low9 : Nat := (World.holding Tryz.prog default ⟨#[], #[], []⟩).heap.size
noncomputable def laidWorld (os : Os) : World :=
  let w0 := World.holding Tryz.prog os ⟨#[.cells #[.string rangeS] 286, .cells #[.string syntaxS] 286], #[], []⟩
  { w0 with heap := ((((w0.heap.modify 3 (relay tab32V)).modify 4 (relay tab64V)).modify 0 (relay pow10V)).modify 2 (relay #[.iface 284 (.pointer (some ⟨low9, 0, none⟩))])).modify 1 (relay #[.iface 284 (.pointer (some ⟨low9 + 1, 0, none⟩))]) }
theorem synName : Tryz.prog.globalNamed "strconv.ErrSyntax" = some 1 := by kernel_rfl
theorem synType : (Tryz.prog.globals[1]?).map (·.type) = some 219 := by kernel_rfl
theorem gl_of_laid {W : World} (h : laidMetH Tryz.prog Rows.storeNoneRow.laid W) : ∃ ev, Gl W ev := by
  have h : laidMet Tryz.prog Rows.storeNoneRow.laid W := h
  obtain ⟨ps, hL, -⟩ := h
  obtain ⟨g0, t0, cs0, f0, p0, q0, hg0, ht0, hv0, hd0, ⟨g1, t1, cs1, f1, p1, q1, hg1, ht1, hv1, hd1, ⟨g2, t2, cs2, f2, p2, q2, hg2, ht2, hv2, hd2, ⟨g3, t3, cs3, f3, p3, q3, hg3, ht3, hv3, hd3, ⟨g4, t4, cs4, f4, p4, q4, hg4, ht4, hv4, hd4, -⟩, -⟩, -⟩, -⟩, -⟩ := hL
  obtain rfl := Option.some.inj (synName.symm.trans hg4)
  obtain rfl := Option.some.inj (synType.symm.trans ht4)
  obtain ⟨f', u, v, hcs, -, -⟩ := iface_of_trod Tryz.underlying219 hd4
  obtain ⟨l4⟩ := cs4
  have hcs : l4 = [.iface u v] := hcs
  subst hcs
  have hc : W.cell? ⟨1, 0, none⟩ = some (.iface u v) := by simpa using World.var?_cell hg4 hv4 0
  refine ⟨.iface u v, hc, ?_, .inr ⟨u, v, rfl⟩⟩
  refine Nat.lt_of_not_le fun hle => ?_
  have : W.heap[1]? = none := Array.getElem?_eq_none hle
  simp [World.cell?, this] at hc
def TabN (w : World) (g n : Nat) : Prop := ∃ d t b, d ≤ 1 ∧ t ≤ 30000 * n ∧ b ≤ 60000 * n ∧ Tab w g d t b
theorem TabN.below {w w' : World} {g n : Nat} (h : TabN w g n) (hb : Below w.heap.size w w') : TabN w' g n := by
  obtain ⟨d, t, b, b1, b2, b3, b4⟩ := h
  exact ⟨d, t, b, b1, b2, b3, b4.below hb⟩
theorem TabN.more {w : World} {g n m : Nat} (h : TabN w g n) (hm : n ≤ m) : TabN w g m := by
  obtain ⟨d, t, b, b1, b2, b3, b4⟩ := h
  exact ⟨d, t, b, b1, by omega, by omega, b4⟩
theorem TabN.only {w w' : World} {g n : Nat} {T : Nat → Prop} (h : TabN w g n) (ho : Only T w w') (hT : ¬ T g) : TabN w' g n := by
  obtain ⟨d, t, b, b1, b2, b3, b4⟩ := h
  exact ⟨d, t, b, b1, b2, b3, b4.only ho hT⟩
theorem TabN.lt {w : World} {g n : Nat} (h : TabN w g n) : g < w.heap.size := by
  obtain ⟨d, t, b, b1, b2, b3, b4⟩ := h
  exact b4.lt
theorem dkt_of {w : World} {S : Nat → Prop} {gd g n wr sy : Nat} {LL : List (ByteArray × Fl)} (hd : Disk w S gd LL wr sy) (h1 : wr ≤ n) (h2 : sy ≤ n) (ht : TabN w g n) : DkT w S gd g LL n := ⟨⟨wr, sy, h1, h2, hd⟩, ht⟩
def FirstPost (w : World) (S : Nat → Prop) (g self : Nat) (q : Int) (e : Ending) (w' : World) : Prop :=
  ∃ (p : Value) (z : Nat), e = .returned (.tuple #[p, .int .i64 z]) ∧ ((31 < self ∧ z = 20 ∧ p = .pointer none) ∨ (self ≤ 31 ∧ (q < 64 ∨ 65536 < q) ∧ z = 26 ∧ p = .pointer none) ∨ (self ≤ 31 ∧ 64 ≤ q ∧ q ≤ 65536 ∧ z = 0 ∧ ∃ st, p = .pointer (some ⟨st, 0, none⟩))) ∧ Only (fun k => S k ∨ k = g) w w' ∧ TabN w' g 18
theorem first_any {ev : Value} {S : Nat → Prop} {gd g self : Nat} {q : Int} (w : World) (hG : Gl w ev) (hd : DkT w S gd g [] 0) (hSg : ¬ S g) (hS1 : ¬ S 1) (hg1 : g ≠ 1) :
    Calls Tryz.prog 9 #[.pointer (some ⟨gd, 0, none⟩), .pointer (some ⟨g, 0, none⟩), .int .u8 self, .int .i64 q] w (FirstPost w S g self q) := by
  have ht : TabN w g 18 := TabN.more (n := 0) hd.tab (by decide)
  by_cases hs : 31 < self
  · refine (sto_open_node ⟨gd, 0, none⟩ ⟨g, 0, none⟩ self (by omega) q w).mono ?_
    rintro _ w' ⟨rfl, rfl⟩
    exact ⟨_, 20, rfl, .inl ⟨hs, rfl, rfl⟩, Only.refl _ _, ht⟩
  · by_cases hq : 64 ≤ q ∧ q ≤ 65536
    · obtain ⟨k, rfl⟩ : ∃ k : Nat, q = k := ⟨q.toNat, by omega⟩
      refine (open_any w (openPre_none (me := self) (q := k) (by omega) (by omega) (by omega)) hd (by decide) hd.glt hSg (by omega) (by omega) hG.v hG.l hS1 hg1 hG.e).mono ?_
      rintro e w' (h | h)
      · obtain ⟨z, -, h1, -⟩ := h
        cases h1
      · obtain ⟨a', R1, P', R', h1, rfl, h3, h4, h5, c1, c2, c3, c4, c5, c6, c7⟩ := h
        refine ⟨_, 0, rfl, .inr (.inr ⟨by omega, by omega, by omega, rfl, _, rfl⟩), h4.only.mono fun k hk => ?_, ?_⟩
        · obtain ⟨j, hj⟩ := hk
          match j, hj with
          | 0, hj => exact .inl hj
          | 1, hj => exact .inr hj
          | 4, hj => exact hj.elim
        · have := h3.dt.tab
          rw [h5.same.2.1, c2] at this
          exact TabN.more (n := 18) this (by decide)
    · refine (sto_open_quota ⟨gd, 0, none⟩ ⟨g, 0, none⟩ self (by omega) q hq w).mono ?_
      rintro _ w' ⟨rfl, rfl⟩
      exact ⟨_, 26, rfl, .inr (.inl ⟨by omega, by omega, rfl, rfl⟩), Only.refl _ _, ht⟩
theorem laid_join (k : Nat) : joinR [[k]] = laidR [k] := by simp [joinR]
theorem kind_open {ev : Value} {S : Nat → Prop} {gd g k n : Nat} (w : World) (hG : Gl w ev) (hd : DkT w S gd g [(nmG 0, ⟨laidR [k], 0⟩)] n) (hn : n ≤ 100) (hSg : ¬ S g) (hS1 : ¬ S 1) (hg1 : g ≠ 1) (hk : 5 ≤ k) (hk2 : k < 256) :
    Calls Tryz.prog 9 #[.pointer (some ⟨gd, 0, none⟩), .pointer (some ⟨g, 0, none⟩), .int .u8 (1 : Nat), .int .i64 (100 : Nat)] w fun e w' => e = .returned (.tuple #[.pointer none, .int .i64 12]) ∧ Only (fun k => k = g) w w' ∧ TabN w' g (n + 1) := by
  have hokc : OkB [k] := fun x hx => by
    obtain rfl : x = k := by simpa using hx
    exact hk2
  have hok : OkB (laidR [k]) := laidR_ok hokc
  have hl : (laidR [k]).length = 9 := by rw [laidR_length]; rfl
  have hrec : recs9 [(nmG 0, (⟨laidR [k], 0⟩ : Fl))] (nmG 0) = [[k]] := by
    unfold recs9
    rw [findP_one]
    show (scanJ (laidR [k])).1 = _
    rw [← laid_join, scan_join (fun c hc => by rw [List.mem_singleton] at hc; rw [hc]; exact ⟨hokc, by show 1 ≤ 524288; decide⟩)]
  refine (open_any w (openPre_one (me := 1) (q := 100) (f := ⟨laidR [k], 0⟩) (by decide) (by decide) (by decide) hok (by rw [hl]; decide)) hd (by omega) hd.glt hSg (by decide) (by decide) hG.v hG.l hS1 hg1 hG.e).mono ?_
  rw [hrec]
  rintro e w' (h | h)
  · obtain ⟨z, rfl, h1, ⟨j, c, b, hj, _, hz⟩, ho, ht⟩ := h
    have hj0 : j = 0 := by
      have := (List.getElem?_eq_some_iff.1 hj).1
      simp at this
      exact this
    subst hj0
    have hc : [k] = c := by simpa using hj
    have hz12 := hz.2 k [] hc.symm hk
    subst hz12
    exact ⟨rfl, ho, ht⟩
  · obtain ⟨a', R1, P', R', h1, _⟩ := h
    rw [repAll_kind hk] at h1
    cases h1
def RawPost (w : World) (S : Nat → Prop) (gd g : Nat) (l : List Nat) (e : Ending) (w' : World) : Prop :=
  ∃ (p : Option Addr) (z : Nat), e = .returned (.tuple #[.pointer p, .int .i64 z]) ∧ Only (fun k => S k ∨ k = g) w w' ∧ ((scanJ l).1 = [] → z = 0 ∧ ∃ S' LL wr sy, Disk w' S' gd LL wr sy ∧ LL.length = 2)
theorem raw_open {ev : Value} {S : Nat → Prop} {gd g n : Nat} {l : List Nat} (w : World) (hG : Gl w ev) (hd : DkT w S gd g [(nmO, ⟨l, 0⟩), (nmG 0, ⟨l, 0⟩)] n) (hn : n ≤ 100) (hSg : ¬ S g) (hS1 : ¬ S 1) (hg1 : g ≠ 1) (hok : OkB l) (hl : l.length ≤ 100) :
    Calls Tryz.prog 9 #[.pointer (some ⟨gd, 0, none⟩), .pointer (some ⟨g, 0, none⟩), .int .u8 (1 : Nat), .int .i64 (100 : Nat)] w (RawPost w S gd g l) := by
  have hrec : recs9 [(nmO, (⟨l, 0⟩ : Fl)), (nmG 0, ⟨l, 0⟩)] (nmG 0) = (scanJ l).1 := by
    unfold recs9
    rw [find_other]
  refine (open_any w (openPre_two (me := 1) (q := 100) (f1 := ⟨l, 0⟩) (f2 := ⟨l, 0⟩) (by decide) (by decide) (by decide) hok hl) hd (by omega) hd.glt hSg (by decide) (by decide) hG.v hG.l hS1 hg1 hG.e).mono ?_
  rw [hrec]
  rintro e w' (h | h)
  · obtain ⟨z, rfl, h1, _, ho, ht⟩ := h
    refine ⟨none, z, rfl, ho.mono fun k hk => .inr hk, fun h0 => ?_⟩
    rw [h0] at h1
    cases h1
  · obtain ⟨a', R1, P', R', h1, rfl, h3, h4, h5, c1, c2, c3, c4, c5, c6, c7⟩ := h
    refine ⟨_, 0, rfl, h4.only.mono fun k hk => ?_, fun h0 => ⟨rfl, ?_⟩⟩
    · obtain ⟨j, hj⟩ := hk
      match j, hj with
      | 0, hj => exact .inl hj
      | 1, hj => exact .inr hj
      | 4, hj => exact hj.elim
    · rw [h0] at h1
      have ea : a0of 100 = a' := Option.some.inj h1
      subst ea
      obtain ⟨wr, sy, a1, a2, a3⟩ := h3.dt.dk
      rw [h5.same.1, c1] at a3
      refine ⟨_, _, wr, sy, a3, ?_⟩
      have hf0 : R1.first = 0 := congrArg Ab.f c6
      have hq : R1.X.q = 100 := congrArg (fun z : Ab => z.X.q) c6
      have ho2 := open_two (⟨l, 0⟩ : Fl) ⟨l, 0⟩
      obtain ⟨x, hx⟩ : ∃ x, x = (⟨(had (open9 [(nmO, (⟨l, 0⟩ : Fl)), (nmG 0, ⟨l, 0⟩)] (nmG 0)) (nmG 0)).by_ ++ laidR (3 :: leb ((0 + 1) % 18446744073709551616)), (had (open9 [(nmO, (⟨l, 0⟩ : Fl)), (nmG 0, ⟨l, 0⟩)] (nmG 0)) (nmG 0)).syn⟩ : Fl) := ⟨_, rfl⟩
      have c7' : R1.LL = [(nmO, ⟨l, 0⟩), (nmG 0, x)] := by
        have c8 : R1.LL = putP (open9 [(nmO, (⟨l, 0⟩ : Fl)), (nmG 0, ⟨l, 0⟩)] (nmG 0)) (nmG 0) x := by rw [hx]; exact c7
        rw [c8, ho2, put_other]
      have hxl : x.by_.length ≤ 119 := by
        rw [hx]
        have e5 : (leb ((0 + 1) % 18446744073709551616)).length ≤ 10 := leb_le10 (Nat.mod_lt _ (by decide))
        have e6 : (had (open9 [(nmO, (⟨l, 0⟩ : Fl)), (nmG 0, ⟨l, 0⟩)] (nmG 0)) (nmG 0)).by_.length ≤ 100 := had_open fun f hf => by
          rw [find_other] at hf
          rw [← Option.some.inj hf]
          exact hl
        show ((_ : List Nat) ++ (_ : List Nat)).length ≤ 119
        rw [List.length_append, laidR_length, List.length_cons]
        omega
      obtain ⟨f, hf, h6 | h6⟩ := h5
      · obtain ⟨-, LL', rfl, h7 | h7⟩ := h6
        · show LL'.length = 2
          rw [h7, c7', c5, put_other]
          rfl
        · show LL'.length = 2
          rw [h7.1, c7']
          rfl
      · exfalso
        rw [c7', c5, find_other] at hf
        have hfx := Option.some.inj hf
        rw [← hfx, hf0, hq] at h6
        have := h6.1
        omega
set_option maxRecDepth 100000 in
set_option maxHeartbeats 1000000 in
theorem rlay_any (A : Option Addr) (n c : Nat) (l : List Nat) (B : Nat) (w : World) (hn : n = l.length) (hm : n ≤ 1000000) (hr : RdB w B A l) (hB : B ≤ w.heap.size) (hok : OkB l) :
    Calls Tryz.prog 29 #[.slice A n c] w fun e w' => ∃ v, e = .returned v ∧ w'.ownsRow w.heap.size 5 1 v (n + 8) (cellsB (laidR l)) ∧ Below w.heap.size w w' := by
  obtain ⟨i0, hi0, hz0, hz1, hz2⟩ := info_parts Tryz.infoB
  have Hn := Lib.hid hn
  have Hok := Lib.hid hok
  have HSl : Hid (∀ W, Below w.heap.size w W → Src W A n 1 (cellsB l)) := fun W hW => src_of_rdB (hr.below (hW.mono hB)) hn
  have hw1 : IntKind.u32.wrap (n : Int) = n := by rw [IntKind.wrap_u32]; omega
  have hw2 : (n : Int) % 4294967296 = n := by omega
  have Hx : Hid (sumN (four n ++ l) < 4294967296) := sumN_lt ((okB_four _).append hok)
  have hlaid : Hid (laidR l = (four n ++ four (sumN (four n ++ l))) ++ l) := by show _ = _; rw [hn, List.append_assoc]; rfl
  obtain ⟨Q, hQ⟩ : ∃ Q, Q = four n := ⟨_, rfl⟩
  have hF := fun W => rfour_any n W (by omega)
  rw [← hQ] at Hx hlaid hF
  have HF := Lib.hid hF
  have HQ4 : Hid (Q.length = 4) := by show _ = _; rw [hQ]; rfl
  have HQok : Hid (OkB Q) := by rw [hQ]; exact okB_four _
  clear hn hr hok hF hQ
  go_enter Tryz.func29, Tryz.ntmps29
  go_wp2_with fail
  refine (HF.out _).mono ?_
  rintro e w1 ⟨v1, rfl, ho1, hb1⟩
  obtain ⟨A1, c1, rfl⟩ := ownB_slice ho1
  have HO1 := Lib.hid ho1
  have HB1 := Lib.hid hb1
  obtain ⟨r1, r2, r3⟩ := rdB_of_own ho1
  have hb1m : Below w1.heap.size w1 (w1.alloc (.cells #[] 5)) := (Below.refl _ _).alloc (Nat.le_refl _) _
  have HS1 := Lib.hid (src_of_rdB (r1.below hb1m) r2 : Src (w1.alloc (.cells #[] 5)) A1 4 1 (cellsB Q))
  have HB1m := Lib.hid (hb1.trans (hb1m.mono hb1.size))
  have Hsz1 := Lib.hid hb1.size
  clear ho1 hb1 r1 r2 r3 hb1m
  go_wp2_with (at_builtin; first
    | (refine wpList_append_src (base := w1.heap.size) rfl (.tmp 9) (.tmp 10) rfl Tryz.underlying77 hi0 hz0 hz1 hz2 rfl (by decide) rfl (World.ownsRow_made _ #[] 0 (Nat.le_refl _) (Nat.zero_le _) rfl) rfl HS1.out (cellsB_one _) (by decide) (by decide) (by simp) ?_; intro v2 w2 ho2 hg2 _; obtain ⟨A2, c2, rfl⟩ := ownB_slice ho2; have HC2 := Lib.hid ((((Below.refl _ w1).alloc (Nat.le_refl _) (.cells #[] 5)).grown hg2 (by simp) (fun k hk => by have e : some w1.heap.size = some k := hk; injection e with e; omega)) : Below w1.heap.size w1 w2); have HB2 := Lib.hid (HB1m.out.grown hg2 HB1m.out.size (fun k hk => by have e : some w1.heap.size = some k := hk; injection e with e; have := Hsz1.out; omega)); replace ho2 := Lib.hid ho2; have hsz2 := Lib.hid hg2.size; clear hg2)
    | (refine wpList_append_src (base := w1.heap.size) rfl (.tmp 11) (.tmp 12) rfl Tryz.underlying77 hi0 hz0 hz1 hz2 rfl (by decide) rfl ho2.out rfl (HSl.out _ HB2.out) (cellsB_one _) (by unfold maxLen; omega) (by omega) (by have := hsz2.out; simp at this; omega) ?_; intro v3 w3 ho3 hg3 _; obtain ⟨A3, c3, rfl⟩ := ownB_slice ho3; have HC3 := Lib.hid (HC2.out.grown hg3 HC2.out.size (fun k hk => (ho2.out.lt k hk).1)); have HB3 := Lib.hid (HB2.out.grown hg3 HB2.out.size (fun k hk => Nat.le_trans Hsz1.out (ho2.out.lt k hk).1)); replace ho3 := Lib.hid ho3; clear hg3))
  have ho3' : w3.ownsRow w1.heap.size 5 1 (.slice A3 (4 + n) c3) (4 + n) (cellsB (Q ++ l)) := by
    have := ho3.out
    rw [Nat.zero_add, List.nil_append, ← cellsB_append] at this
    exact this
  obtain ⟨r1, r2, _⟩ := rdB_of_own ho3'
  refine (rsum_any A3 (4 + n) c3 (Q ++ l) w3 w3.heap.size r2 (by unfold maxLen; omega) r1 (HQok.out.append Hok.out)).mono ?_
  rintro e w4 ⟨rfl, rfl⟩
  clear ho3' r1 r2
  obtain ⟨M, hM⟩ : ∃ M, M = sumN (Q ++ l) := ⟨_, rfl⟩
  rw [← hM] at Hx hlaid
  rw [← hM]
  clear hM
  go_wp2_with fail
  refine (rfour_any M _ Hx.out).mono ?_
  rintro e w4 ⟨v4, rfl, ho4, hb4⟩
  obtain ⟨A4, c4, rfl⟩ := ownB_slice ho4
  obtain ⟨r1, r2, _⟩ := rdB_of_own ho4
  have HS4 := Lib.hid (src_of_rdB r1 r2 : Src w4 A4 4 1 (cellsB (four M)))
  have HO4 := Lib.hid (ownB_below (ownB_below HO1.out HC3.out) (hb4.mono (Nat.le_refl _)))
  have HB4 := Lib.hid (HB3.out.trans (hb4.mono HB3.out.size))
  clear ho4 hb4 r1 r2
  go_wp2_with (at_builtin; first
    | (refine wpList_append_src (base := w.heap.size) rfl (.tmp 16) (.tmp 17) rfl Tryz.underlying77 hi0 hz0 hz1 hz2 rfl (by decide) rfl HO4.out rfl HS4.out (cellsB_one _) (by decide) (by decide) HB4.out.size ?_; intro v5 w5 ho5 hg5 _; obtain ⟨A5, c5, rfl⟩ := ownB_slice ho5; have HB5 := Lib.hid (HB4.out.grown hg5 HB4.out.size (fun k hk => (HO4.out.lt k hk).1)); replace ho5 := Lib.hid ho5; clear hg5)
    | (refine wpList_append_src (base := w.heap.size) rfl (.tmp 18) (.tmp 19) rfl Tryz.underlying77 hi0 hz0 hz1 hz2 rfl (by decide) rfl ho5.out rfl (HSl.out _ HB5.out) (cellsB_one _) (by unfold maxLen; omega) (by omega) HB5.out.size ?_; intro v6 w6 ho6 hg6 _; obtain ⟨A6, c6, rfl⟩ := ownB_slice ho6; have HB6 := Lib.hid (HB5.out.grown hg6 HB5.out.size (fun k hk => (ho5.out.lt k hk).1)); replace ho6 := Lib.hid ho6; clear hg6))
  go_ret
  refine ⟨_, rfl, ?_, HB6.out⟩
  have := ho6.out
  rw [← cellsB_append, ← cellsB_append, ← hlaid.out] at this
  rw [show n + 8 = 4 + 4 + n by omega]
  exact this
end Go.Proofs.YtholdcgkhicdmaaGreatDoor
