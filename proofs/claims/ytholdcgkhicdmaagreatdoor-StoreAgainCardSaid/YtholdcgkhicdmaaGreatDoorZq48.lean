/- Several texts in one: StOpl, SpAwake, StAwk, DkOpen, Laid9, DkArgs, StTrn, SpNextN. -/
import Derived.Test.YtholdcgkhicdmaaGreatDoorCards
import Derived.Test.YtholdcgkhicdmaaGreatDoorTie
import Derived.Deep.DeepHandedRow
import Derived.Lib.LaidTab
import Derived.LaidLaws
import Derived.Deep.Matrix
import Derived.Test.YtholdcgkhicdmaaGreatDoorZq47
namespace Go.Proofs.YtholdcgkhicdmaaGreatDoor
open Go.RowKit
def OplPost (w : World) (S : Nat → Prop) (gd g n me q k b : Nat) (a : Ab) (e : Ending) (w' : World) : Prop :=
 ∃ P' R' cs', e = .returned (.tuple #[.pointer (some ⟨R'.st, 0, none⟩), .int .i64 0]) ∧ Live w' P' R' (n + 18) me q k (b + 19) cs' (joinR cs').length ∧ (∀ i k, P' i k → S k ∨ k = g ∨ w.heap.size ≤ k) ∧ Only (fun k => S k ∨ k = g) w w' ∧
  (joinR cs').length ≤ R'.first + 4 * q + 1024 ∧ R'.ab.X = a.X ∧ R'.ab.K = a.K ∧ R'.ab.F = a.F ∧ R'.life = a.m + 1 ∧ R'.gd = gd ∧ R'.g = g
theorem beg_live {w w' : World} {S : Nat → Prop} {gd g n me q k b gen s : Nat} {LL : List (ByteArray × Fl)} {cs : List (List Nat)} {a : Ab} {e : Ending} (h : BegGood w S gd g (fun _ => False) (n + 9) me gen ⟨⟨q, 1, 0, 0, fun _ => 0⟩, [], [], 0, 0⟩ LL (recs9 LL (nmG gen)) e w')
  (hl : Lv me q k b gen cs a) (hcs : recs9 LL (nmG gen) = cs) (hL : ∀ x : List Nat, putP (open9 LL (nmG gen)) (nmG gen) ⟨(had (open9 LL (nmG gen)) (nmG gen)).by_ ++ x, (had (open9 LL (nmG gen)) (nmG gen)).syn⟩ = [(nmG gen, ⟨joinR cs ++ x, s⟩)]) (hm : a.m + 1 < 18446744073709551616) (hb : b + 19 ≤ 13000) :
  OplPost w S gd g n me q k b a e w' := by
 obtain ⟨a', R1, P', R', h1, h2, h3, h4, h5, c1, c2, c3, c4, c5, c6, c7⟩ := h
 rw [hcs] at h1
 have e3 : a = a' := by
  have h9 : repAll me gen (a0of q) cs = some a' := h1
  rw [hl.lg.rep] at h9
  exact Option.some.inj h9
 subst e3
 rw [Nat.mod_eq_of_lt hm] at c6 c7
 have h6 := hl.life hm hb
 rw [hL, ← joinR_app1] at c7
 rw [← c6] at h6
 obtain ⟨cs', g1, g2, g3, g4, g5, g6, g7, g8, g9⟩ := sync_live h5 h3 (by rw [c4]; exact h6) (by rw [c4]; exact c5) (by rw [c4]; exact c7) c3
 refine ⟨P', R', cs', h2, g1, fun i k hk => ?_, h4.only.mono fun k hk => ?_, g2, by rw [g3, c6], by rw [g4, c6], by rw [g5, c6], ?_, by rw [g7, c1], by rw [g8, c2]⟩
 ·rcases h4.new i k hk with ⟨j, hj⟩ | h7
  ·match j, hj with
   | 0, hj => exact .inl hj
   | 1, hj => exact .inr (.inl hj)
   | 4, hj => exact hj.elim
  ·exact .inr (.inr h7)
 ·obtain ⟨j, hj⟩ := hk
  match j, hj with
  | 0, hj => exact .inl hj
  | 1, hj => exact .inr hj
  | 4, hj => exact hj.elim
 ·rw [g6]
  have : R1.ab.m = a.m + 1 := by rw [c6]
  exact this
theorem no_bad {w w' : World} {g n me gen q : Nat} {cs : List (List Nat)} {a : Ab} {e : Ending} (hr : repAll me gen (a0of q) cs = some a) (h : OpenBad w g n me gen ⟨⟨q, 1, 0, 0, fun _ => 0⟩, [], [], 0, 0⟩ cs e w') : False := by
 obtain ⟨z, -, h1, -⟩ := h
 have h1 : repAll me gen (a0of q) cs = none := h1
 rw [hr] at h1
 cases h1
theorem live_open {ev : Value} {S : Nat → Prop} {gd g n me q k b gen s : Nat} {cs : List (List Nat)} {a : Ab} (w : World) (hd : DkT w S gd g [(nmG gen, ⟨joinR cs, s⟩)] n) (hl : Lv me q k b gen cs a) (hlen : (joinR cs).length ≤ 20000) (hm : a.m + 1 < 18446744073709551616) (hb : b + 19 ≤ 13000) (hn : n ≤ 1800) (hSg : ¬ S g)
  (hv : w.cell? ⟨1, 0, none⟩ = some ev) (hvl : 1 < w.heap.size) (hS1 : ¬ S 1) (hg1 : g ≠ 1) (hev : ev = .nilIface ∨ ∃ te pe, ev = .iface te pe) :
  Calls Tryz.prog 9 #[.pointer (some ⟨gd, 0, none⟩), .pointer (some ⟨g, 0, none⟩), .int .u8 me, .int .i64 q] w (OplPost w S gd g n me q k b a) := by
 have hsc := scan_join hl.lg.ok
 have e1 : open9 [(nmG gen, (⟨joinR cs, s⟩ : Fl))] (nmG gen) = [(nmG gen, ⟨joinR cs, (joinR cs).length⟩)] := by
  rw [open_gen]
  show [(nmG gen, (⟨(joinR cs).take (scanJ (joinR cs)).2, (scanJ (joinR cs)).2⟩ : Fl))] = _
  rw [hsc]
  show [(nmG gen, (⟨(joinR cs).take (joinR cs).length, (joinR cs).length⟩ : Fl))] = _
  rw [List.take_length]
 have e2 : recs9 [(nmG gen, (⟨joinR cs, s⟩ : Fl))] (nmG gen) = cs := by
  unfold recs9
  rw [findP_one]
  show (scanJ (joinR cs)).1 = cs
  rw [hsc]
 refine (open_any w (hl.openPre hlen hm hb) hd hn hd.glt hSg hl.q1 (by have := hl.q2; omega) hv hvl hS1 hg1 hev).mono ?_
 rintro e w' (h | h)
 ·rw [e2] at h
  exact (no_bad hl.lg.rep h).elim
 ·exact beg_live (s := (joinR cs).length) h hl e2 (fun x => by rw [e1, had_one, put_one9]) hm hb
theorem Lv.new {me q : Nat} (hme : me < 32) (h1 : 64 ≤ q) (h2 : q ≤ 320) : Lv me q 0 0 0 [] (a0of q) :=
 ⟨Lg.new me 0 q, hme, h1, h2, by decide, by decide, Nat.le_refl _, Nat.le_refl _, Nat.zero_le _, by show 0 * 1280 + 0 ≤ 0 + 0; decide⟩
theorem openPre_none {me q : Nat} (hse : me < 32) (hq1 : 64 ≤ q) (hq2 : q ≤ 65536) : OpenPre me 0 ⟨q, 1, 0, 0, fun _ => 0⟩ [] [] := by
 have hT : ∀ (i : Nat) (p : ByteArray × Fl) (k : Nat), ([] : List (ByteArray × Fl))[i]? = some p → ([] : List (Option Nat))[i]? = some (some k) → p.1 = nmG 0 := fun i p k h => by simp at h
 have hno : ∀ p ∈ ([] : List (ByteArray × Fl)), p.1 ≠ nmN := fun p hp => (by cases hp)
 have hre : ∀ (j k : Nat) r a, ([] : List (List Nat))[j]? = some (k :: r) → repAll me 0 ⟨⟨q, 1, 0, 0, fun _ => 0⟩, [], [], 0, 0⟩ (([] : List (List Nat)).take j) = some a → ReOkA a r := fun j k r a hj => by simp at hj
 have hz : ([] : List (ByteArray × Fl)).length < 64 := by decide
 have hz2 : ([] : List Nat).length ≤ 20000 := by decide
 have hz3 : ([] : List (List Nat)).length ≤ 20000 := by decide
 refine ⟨gns_nil, rfl, hz, ⟨[], gns_nil, hT⟩, hz, hz2, hno, hse, (fun f hf => (by cases hf)), (fun c hc => (by cases hc)), hz3, hre, fun a R1 hra e1 e2 e3 e4 e5 => ?_⟩
 have ea : (⟨⟨q, 1, 0, 0, fun _ => 0⟩, [], [], 0, 0⟩ : Ab) = a := Option.some.inj hra
 subst ea
 have hf0 : R1.first = 0 := congrArg Ab.f e4
 have hq : R1.X.q = q := congrArg (fun z : Ab => z.X.q) e4
 refine ⟨by omega, by omega, by rw [e3]; exact nmG_max (by decide), _, by rw [e5, e3]; exact findP_set _ _ _, fun hlong => ?_⟩
 exfalso
 have h5 : (leb ((0 + 1) % 18446744073709551616)).length ≤ 10 := leb_le10 (Nat.mod_lt _ (by decide))
 have h6 : (([] : List Nat) ++ laidR (3 :: leb ((0 + 1) % 18446744073709551616))).length ≤ 19 := by
  rw [List.length_append, laidR_length, List.length_cons, List.length_nil]
  omega
 have h7 : R1.first + 4 * R1.X.q + 1024 < (([] : List Nat) ++ laidR (3 :: leb ((0 + 1) % 18446744073709551616))).length := hlong
 omega
theorem live_first {ev : Value} {S : Nat → Prop} {gd g n me q : Nat} (w : World) (hd : DkT w S gd g [] n) (hme : me < 32) (hq1 : 64 ≤ q) (hq2 : q ≤ 320) (hn : n ≤ 1800) (hSg : ¬ S g)
  (hv : w.cell? ⟨1, 0, none⟩ = some ev) (hvl : 1 < w.heap.size) (hS1 : ¬ S 1) (hg1 : g ≠ 1) (hev : ev = .nilIface ∨ ∃ te pe, ev = .iface te pe) :
  Calls Tryz.prog 9 #[.pointer (some ⟨gd, 0, none⟩), .pointer (some ⟨g, 0, none⟩), .int .u8 me, .int .i64 q] w (OplPost w S gd g n me q 0 0 (a0of q)) := by
 have hl := Lv.new hme hq1 hq2
 refine (open_any w (openPre_none hme hq1 (by omega)) hd hn hd.glt hSg hq1 (by omega) hv hvl hS1 hg1 hev).mono ?_
 rintro e w' (h | h)
 ·exact (no_bad (cs := []) hl.lg.rep h).elim
 ·exact beg_live (s := 0) h hl rfl (fun x => rfl) (by show 0 + 1 < 18446744073709551616; decide) (by decide)
def longN : ByteArray := ⟨#[108, 111, 110, 103, 101, 114, 46, 110, 97, 109, 101]⟩
def evx (o p : Nat) : It := ⟨false, o, 1, 0, longN, [], 0, p, 0, 0, 0, 0, 0⟩
def pr8 : Nat → Nat
 | 0 => 1
 | _ => 0
def X8 : Nat → Sp
 | 0 => ⟨70, 1, 0, 0, fun _ => 0⟩
 | k + 1 => addX (X8 k) (evx k (pr8 k))
theorem put_plain {X : Sp} {L : List Ett} {x : It} {A : Option Addr} {c : Nat} (hE : partE x X.h = 0) (hI : partI x X.h = x) (hf : sumE L + (itemB x).length ≤ X.q) (hn : X.n < 1099511627776) (hg : x.g = false) : putR X L x A c = (0, X.n, 0, addX X x, L ++ [⟨X.n, x, A, c⟩]) := by
 unfold putR
 rw [if_neg (by rw [hE]; decide), hI, roomK_fit hf]
 simp only [Bool.true_eq_false, if_false]
 rw [if_neg (by omega)]
 have hj : addJ L (addE X x A c) = (L ++ [⟨X.n, x, A, c⟩], false) := by
  unfold addJ
  rw [if_neg (by show ¬ x.g = true; rw [hg]; decide)]
  rfl
 have hF : addF L (addE X x A c) = 0 := by unfold addF; rw [hj]; rfl
 show (0, X.n, lowE 0 (addF L (addE X x A c)), addX X x, (addJ L (addE X x A c)).1) = _
 rw [hF, hj]
 rfl
structure Gl (w : World) (ev : Value) : Prop where
 v : w.cell? ⟨1, 0, none⟩ = some ev
 l : 1 < w.heap.size
 e : ev = .nilIface ∨ ∃ te pe, ev = .iface te pe
theorem Gl.below {w w' : World} {ev : Value} (h : Gl w ev) (hb : Below w.heap.size w w') : Gl w' ev := ⟨(hb.cell (p := ⟨1, 0, none⟩) h.l).trans h.v, Nat.lt_of_lt_of_le h.l hb.size, h.e⟩
def xS : It := ⟨false, 1, 1, 0, ⟨#[120]⟩, [], 0, 0, 0, 0, 0, 0, 0⟩
theorem xS_ok : OkI xS := ⟨(by decide), (by decide), (by decide), (show (⟨#[120]⟩ : ByteArray).size ≤ maxLen by decide +kernel), fun i q hq => by simp [xS] at hq, (by decide), (by decide), (show (-9223372036854775808 : Int) ≤ 0 by decide), (show (0 : Int) < 9223372036854775808 by decide), (by decide), (by decide), (by decide), (by decide)⟩
theorem xS_short : ShortI xS := ⟨(show (⟨#[120]⟩ : ByteArray).size ≤ 1048576 by decide +kernel), fun i q hq => by simp [xS] at hq⟩
theorem xS_len : (itemB xS).length = 11 := by decide +kernel
theorem xS_mod : Mod xS := ⟨xS_ok, xS_short, by decide, by rw [xS_len]; decide⟩
theorem xS_nm : Nm xS := ⟨xS_ok, rfl, xS_short, by decide⟩
theorem xS_okB : OkB (1 :: itemB xS) := by
 intro z hz
 rcases List.mem_cons.1 hz with rfl | hz
 ·decide
 ·exact itemB_ok9 xS_ok xS_short (by decide) z hz
theorem xS_put : (putV ⟨100, 1, 0, 0, fun _ => 0⟩ [] xS).1 = 0 ∧ (putV ⟨100, 1, 0, 0, fun _ => 0⟩ [] xS).2.2.2.1.h 1 = 1 ∧ (putV ⟨100, 1, 0, 0, fun _ => 0⟩ [] xS).2.2.2.2.length = 1 := by
 have h : putV ⟨100, 1, 0, 0, fun _ => 0⟩ [] xS = _ := put_plain (X := ⟨100, 1, 0, 0, fun _ => 0⟩) (L := []) (x := xS) (A := none) (c := 0) (by decide +kernel) (by rfl) (by rw [xS_len]; show 0 + 11 ≤ 100; decide) (by decide) rfl
 rw [h]
 exact ⟨rfl, by decide +kernel, rfl⟩
theorem lab_nil {w : World} {P : Nat → Nat → Prop} {A : Option Addr} : Lb w P A [] := ⟨fun h => absurd h (by simp), fun a _ h => absurd h (by simp)⟩
theorem Only.after {w0 w w' : World} {T : Nat → Prop} (hb : Below w0.heap.size w0 w) (h : Only T w w') (hT : ∀ k, T k → w0.heap.size ≤ k) : Below w0.heap.size w0 w' :=
 hb.trans ⟨h.os, h.tape, h.output, h.size, fun k hk => h.block k (Nat.lt_of_lt_of_le hk hb.size) (fun ht => by have := hT k ht; omega)⟩
set_option maxRecDepth 100000 in
set_option maxHeartbeats 4000000 in
theorem awake9_any {ev : Value} (w : World) (hg : Gl w ev) : Calls Tryz.prog 6 #[] w fun e w' => e = .returned (.bool true) ∧ Below w.heap.size w w' := by
 have HG := Lib.hid hg
 clear hg
 go_enter Tryz.func6, Tryz.ntmps6
 go_wp2_with fail
 refine (new_any w).mono ?_
 rintro _ w1 ⟨rfl, hw1⟩
 have hd1 : Disk w1 (fun k => k = w.heap.size) w.heap.size [] 0 0 := by rw [hw1]; exact Disk.new w
 have hb1 : Below w.heap.size w w1 := by rw [hw1]; exact (Below.refl _ _).alloc (Nat.le_refl _) _
 have hl1 : w1.heap.size = w.heap.size + 1 := by rw [hw1]; simp
 obtain ⟨gd, hgd⟩ : ∃ gd, gd = w.heap.size := ⟨_, rfl⟩
 rw [← hgd] at hd1 ⊢
 have HD1 := Lib.hid hd1
 have HB1 := Lib.hid hb1
 have HZ1 := Lib.hid (⟨hl1, hgd⟩ : _ ∧ _)
 clear hw1 hd1 hb1 hl1 hgd
 go_wp2_with fail
 refine (cnew_any w1).mono ?_
 rintro _ w2 ⟨rfl, hb2, hz2, hT2⟩
 obtain ⟨g, hgg⟩ : ∃ g, g = w1.heap.size := ⟨_, rfl⟩
 rw [← hgg] at hT2 ⊢
 have hdt : DkT w2 (fun k => k = gd) gd g [] 0 := ⟨⟨0, 0, Nat.le_refl _, Nat.le_refl _, HD1.out.below hb2⟩, ⟨0, 0, 0, Nat.zero_le _, Nat.le_refl _, Nat.le_refl _, hT2⟩⟩
 have hb02 : Below w.heap.size w w2 := HB1.out.trans (hb2.mono HB1.out.size)
 have hgl := HG.out.l
 have hG2 := HG.out.below hb02
 have hne : g ≠ gd := by have := HZ1.out.1; have := HZ1.out.2; omega
 have HF := Lib.hid (live_first (me := 1) (q := 100) w2 hdt (by decide) (by decide) (by decide) (by decide) hne hG2.v hG2.l (by have := HZ1.out.2; omega) (by have := HZ1.out.1; omega) hG2.e)
 have HB2 := Lib.hid hb02
 have HGG := Lib.hid hgg
 clear hb2 hz2 hT2 hgg hdt hb02 hG2 hne HD1
 go_wp2_with fail
 refine HF.out.mono ?_
 rintro _ w3 ⟨P3, R3, cs3, rfl, h3, hP3, ho3, -, hX3, hK3, hF3, hm3, hgd3, hg3⟩
 have hlw3 : Lw w w3 P3 := by
  have hgdw := HZ1.out
  have hggw := HGG.out
  refine ⟨fun i k hk => ?_, Only.after HB2.out ho3 (fun k hk => by omega)⟩
  have := HB2.out.size
  rcases hP3 i k hk with h | h | h <;> omega
 have HLW3 := Lib.hid hlw3
 have HQ3 := Lib.hid (⟨hX3, hK3, hm3, hgd3, hg3⟩ : _ ∧ _ ∧ _ ∧ _ ∧ _)
 have H3 := Lib.hid h3
 clear h3 hP3 ho3 hX3 hK3 hF3 hm3 hgd3 hg3 hlw3 HF
 obtain ⟨st3, hst3⟩ : ∃ z, z = R3.st := ⟨_, rfl⟩
 rw [← hst3]
 have HST3 := Lib.hid hst3
 clear hst3
 go_wp2_with fail
 refine (of_any 1 1 0 ⟨#[120]⟩ none 0 0 [] 0 0 0 0 w3 rfl (fun _ => rfl) (by decide) (fun h => absurd h (by decide))).mono ?_
 rintro _ w4 ⟨L, rfl, ho4, hb4⟩
 obtain ⟨A4, c4, rfl⟩ := own_slice ho4
 have HLW4 := Lib.hid (HLW3.out.below hb4)
 have HP := Lib.hid (live_put xS A4 c4 (H3.out.below hb4) (by decide) xS_mod xS_nm (fun _ => rfl) lab_nil (by rw [xS_len]; decide) xS_okB (by decide) (by rw [xS_len]; decide))
 rw [← HST3.out] at HP
 clear ho4 hb4 H3 HLW3
 go_wp2_with fail
 refine HP.out.mono ?_
 have hput : (putV R3.ab.X R3.ab.K xS).1 = 0 := by rw [HQ3.out.1, HQ3.out.2.1]; exact xS_put.1
 rintro _ w5 (⟨h, -⟩ | ⟨-, rfl, P5, R5, h5, hm5, hab5, hgd5, hg5, hst5, -⟩)
 ·exact absurd hput h
 have HLW5 := Lib.hid (HLW4.out.mv hm5)
 have HQ5 := Lib.hid (⟨hab5, hgd5, hg5, hst5⟩ : _ ∧ _ ∧ _ ∧ _)
 have HS5 := Lib.hid (live_sync h5 (by decide))
 rw [hst5] at HS5
 clear h5 hm5 hab5 hgd5 hg5 hst5 HP HLW4 hput
 obtain ⟨ix, hix⟩ : ∃ z, z = (putV R3.ab.X R3.ab.K xS).2.1 := ⟨_, rfl⟩
 obtain ⟨fx, hfx⟩ : ∃ z, z = (putV R3.ab.X R3.ab.K xS).2.2.1 := ⟨_, rfl⟩
 rw [← hix, ← hfx]
 clear hix hfx
 go_wp2_with fail
 refine HS5.out.mono ?_
 rintro _ w6 ⟨rfl, P6, R6, cs6, h6, hm6, hlen6, hX6, hK6, -, hlf6, hgd6, hg6, -⟩
 have HLW6 := Lib.hid (HLW5.out.mv hm6)
 have hgd6' : R6.gd = gd := by rw [hgd6, HQ5.out.2.1, HQ3.out.2.2.2.1]
 have hg6' : R6.g = g := by rw [hg6, HQ5.out.2.2.1, HQ3.out.2.2.2.2]
 have hdt6 := h6.st.dt
 have hP60 : ∀ k, P6 0 k → k ≠ 1 := fun k hk => by have := HLW6.out.lo 0 k hk; have := HG.out.l; omega
 have hng6 : ¬ P6 0 R6.g := fun hk => by have := h6.st.own.sep 0 1 _ hk h6.st.p1; cases this
 rw [h6.LL] at hdt6
 have hcr := crash_full (m := 0) (c := 0) (A := none) (ts := []) hdt6 hng6 rfl (by decide) (fun h => absurd h (by decide)) (fun a ha => by cases ha) (fun t ht => by cases ht)
 have hlv6 := h6.lv
 have h36 : (joinR cs6).length ≤ 20000 := by have h7 : R6.first ≤ 16920 := h6.lv.fz; omega
 have hm6a : R6.ab.m = 1 := by
  have h7 : R6.life = R5.life := hlf6
  have h8 : R5.life = R3.life := by have h9 := congrArg Ab.m HQ5.out.1; exact h9
  show R6.life = 1
  rw [h7, h8]
  exact HQ3.out.2.2.1
 rw [hgd6'] at hcr
 have HCR := Lib.hid hcr
 have hgl6 : R6.g < w6.heap.size := h6.st.own.lt 1 _ h6.st.p1
 have HL6 := Lib.hid (⟨hlv6, h36, hm6a, hX6, hK6, hg6', hng6, hgl6⟩ : _ ∧ _ ∧ _ ∧ _ ∧ _ ∧ _ ∧ _ ∧ _)
 clear h6 hm6 hlen6 hX6 hK6 hlf6 hgd6 hg6 hgd6' hg6' hdt6 hng6 hcr hlv6 h36 hm6a hgl6 HS5 HLW5
 go_wp2_with fail
 refine HCR.out.mono ?_
 rintro _ w7 ⟨rfl, S7, hd7, hst7⟩
 have hb7 : Below w.heap.size w w7 := Only.after HLW6.out.bl hst7.only (fun k hk => HLW6.out.lo 0 k hk)
 have hS7 : ∀ k, S7 k → w.heap.size ≤ k := fun k hk => (hst7.new k hk).elim (fun h => HLW6.out.lo 0 k h) (fun h => Nat.le_trans HLW6.out.bl.size h)
 have hG7 := HG.out.below hb7
 obtain ⟨hlv6, h36, hm6a, hX6, hK6, hg6, hng6, hgl6⟩ := HL6.out
 have hgw : w.heap.size ≤ g := by have := HGG.out; have := HZ1.out.1; omega
 have hg7 : ¬ S7 g := fun h => by
  rcases hst7.new g h with h | h
  ·rw [← hg6] at h; exact hng6 h
  ·omega
 rw [hg6] at hd7
 have HO := Lib.hid (live_open (me := 1) (q := 100) w7 hd7 hlv6 h36 (by rw [hm6a]; decide) (by rw [xS_len]; decide) (by decide) hg7 hG7.v hG7.l (fun h => by have := hS7 1 h; have := HG.out.l; omega) (by have := HG.out.l; omega) hG7.e)
 have HB7 := Lib.hid (⟨hb7, hS7, hgw⟩ : _ ∧ _ ∧ _)
 clear hd7 hst7 hb7 hS7 hG7 hlv6 h36 hm6a hX6 hK6 hg6 hng6 hgl6 hgw hg7 HCR
 go_wp2_with fail
 refine HO.out.mono ?_
 rintro _ w8 ⟨P8, R8, cs8, rfl, h8, hP8, ho8, -, hX8, hK8, -, hm8, -, -⟩
 have hb8 : Below w.heap.size w w8 := Only.after HB7.out.1 ho8 (fun k hk => hk.elim (HB7.out.2.1 k) (fun e => by rw [e]; exact HB7.out.2.2))
 have hlife : R8.life = 2 := by rw [hm8, HL6.out.2.2.1]
 have hXX : R8.X.h 1 = 1 := by
  have e : R8.ab.X = (putA 1 R3.ab xS).X := by rw [hX8, HL6.out.2.2.2.1, HQ5.out.1]
  have e2 : R8.ab.X.h 1 = 1 := by
   rw [e]
   show (putV R3.ab.X R3.ab.K xS).2.2.2.1.h 1 = 1
   rw [HQ3.out.1, HQ3.out.2.1]
   exact xS_put.2.1
  exact e2
 have hLL : R8.L.length = 1 := by
  have e : R8.ab.K = (putA 1 R3.ab xS).K := by rw [hK8, HL6.out.2.2.2.2.1, HQ5.out.1]
  have e2 : R8.ab.K.length = 1 := by
   rw [e]
   show (putV R3.ab.X R3.ab.K xS).2.2.2.2.length = 1
   rw [HQ3.out.1, HQ3.out.2.1]
   exact xS_put.2.2
  have e3 : R8.ab.K.length = R8.L.length := ers_len _
  rw [← e3]; exact e2
 have HSP := Lib.hid (sto_spool w8 h8.st)
 have HLF := Lib.hid (fun W (hW : Below w8.heap.size w8 W) => sto_life W (h8.st.below hW))
 have HNX := Lib.hid (fun W (hW : Below w8.heap.size w8 W) => sto_next W (h8.st.below hW) (by rw [h8.sf]; decide) (by rw [h8.sf, hXX]; decide))
 rw [hlife] at HLF
 rw [h8.sf, hXX] at HNX
 obtain ⟨st8, hst8⟩ : ∃ z, z = R8.st := ⟨_, rfl⟩
 rw [← hst8] at HSP HLF HNX ⊢
 have HB8 := Lib.hid hb8
 have HN8 := Lib.hid hLL
 clear h8 hP8 ho8 hX8 hK8 hm8 hb8 hlife hXX hLL hst8 HO
 go_wp2_with fail
 refine HSP.out.mono ?_
 rintro _ w9 ⟨sq, S9, rfl, hs9, -, hb9⟩
 have HC9 := Lib.hid (scounts_any w9 hs9)
 rw [HN8.out] at HC9
 have HB9 := Lib.hid hb9
 clear hs9 hb9 HSP
 go_wp2_with fail
 refine HC9.out.mono ?_
 rintro _ w10 ⟨rfl, hb10⟩
 have HB10 := Lib.hid (HB9.out.trans (hb10.mono HB9.out.size))
 clear hb10 HC9 HB9
 go_wp2_with fail
 refine (HLF.out w10 HB10.out).mono ?_
 rintro _ w11 ⟨rfl, rfl⟩
 go_wp2_with fail
 refine (HNX.out w10 HB10.out).mono ?_
 rintro _ w11 ⟨rfl, hb11⟩
 have HB11 := Lib.hid (HB8.out.trans ((HB10.out.trans (hb11.mono HB10.out.size)).mono HB8.out.size))
 clear hb11
 go_wp2
 go_ret
 exact ⟨rfl, HB11.out⟩
end Go.Proofs.YtholdcgkhicdmaaGreatDoor
namespace Go.Proofs.YtholdcgkhicdmaaGreatDoor
end Go.Proofs.YtholdcgkhicdmaaGreatDoor
namespace Go.Proofs.YtholdcgkhicdmaaGreatDoor
open Go.RowKit
def numV : DataW Unit → Value | .lit (.int k n) => .int k n | _ => undef
def rowV : DataW Unit → List Value | .agg l => l.map numV | _ => []
def tab32V : Array Value := (rowV Rows.laid_math_bits_deBruijn32tab).toArray
def tab64V : Array Value := (rowV Rows.laid_math_bits_deBruijn64tab).toArray
def pow10V : Array Value := (rowV Rows.laid_internal_strconv_uint64pow10).toArray
def rangeS : ByteArray := ⟨#[118, 97, 108, 117, 101, 32, 111, 117, 116, 32, 111, 102, 32, 114, 97, 110, 103, 101]⟩
def syntaxS : ByteArray := ⟨#[105, 110, 118, 97, 108, 105, 100, 32, 115, 121, 110, 116, 97, 120]⟩
def relay (cs : Array Value) : Obj → Obj
 | .cells _ t frozen => .cells cs t frozen
 | o => o
noncomputable def low9 : Nat := (World.holding Tryz.prog default ⟨#[], #[], []⟩).heap.size
noncomputable def laidWorld (os : Os) : World :=
 let w0 := World.holding Tryz.prog os ⟨#[.cells #[.string rangeS] 286, .cells #[.string syntaxS] 286], #[], []⟩
 { w0 with heap := ((((w0.heap.modify 3 (relay tab32V)).modify 4 (relay tab64V)).modify 0 (relay pow10V)).modify 2 (relay #[.iface 284 (.pointer (some ⟨low9, 0, none⟩))])).modify 1 (relay #[.iface 284 (.pointer (some ⟨low9 + 1, 0, none⟩))]) }
theorem synName : Tryz.prog.globalNamed "strconv.ErrSyntax" = some 1 := by kernel_rfl
theorem synType : (Tryz.prog.globals[1]?).map (·.type) = some 219 := by kernel_rfl
theorem gl_of_laid {W : World} (h : laidMetH Tryz.prog Rows.storeNoneRow.laid W) : ∃ ev, Gl W ev := by
 have h : laidMet Tryz.prog Rows.storeNoneRow.laid W := h
 obtain ⟨ps, hL, -⟩ := h
 obtain ⟨g0, t0, cs0, f0, p0, q0, hg0, ht0, hv0, hd0, ⟨g1, t1, cs1, f1, p1, q1, hg1, ht1, hv1, hd1, ⟨g2, t2, cs2, f2, p2, q2, hg2, ht2, hv2, hd2, ⟨g3, t3, cs3, f3, p3, q3, hg3, ht3, hv3, hd3, ⟨g4, t4, cs4, f4, p4, q4, hg4, ht4, hv4, hd4, -⟩, -⟩, -⟩, -⟩, -⟩ := hL
 obtain rfl := Option.some.inj (synName.symm.trans hg4)
 obtain rfl := Option.some.inj (synType.symm.trans ht4)
 obtain ⟨f', u, v, hcs, -, -⟩ := iface_of_trod Tryz.underlying219 hd4
 obtain ⟨l4⟩ := cs4
 have hcs : l4 = [.iface u v] := hcs
 subst hcs
 have hc : W.cell? ⟨1, 0, none⟩ = some (.iface u v) := by simpa using World.var?_cell hg4 hv4 0
 refine ⟨.iface u v, hc, ?_, .inr ⟨u, v, rfl⟩⟩
 refine Nat.lt_of_not_le fun hle => ?_
 have : W.heap[1]? = none := Array.getElem?_eq_none hle
 simp [World.cell?, this] at hc
end Go.Proofs.YtholdcgkhicdmaaGreatDoor
namespace Go.Proofs.YtholdcgkhicdmaaGreatDoor
open Go.RowKit Go.ChangeShapes Go.WideShapes
section
variable {H : Type} {enc : TypeId × Value → H} {W : World} {base : Nat} {hd : Bool}
set_option maxRecDepth 100000 in
theorem tears_cells {fuel : Nat} {a : Option Addr} {n c : Nat} {x : DataW H × List MemPlace} {sp : Nat → Bool} (hsp : ∀ ad, a = some ad → ad.spot = none)
  (hf : DataW.trod enc Tryz.prog W base sp hd fuel 68 [.slice a n c] = some x) :
  ∃ (l : List (Nat × Nat)), n = l.length ∧ n ≤ maxLen ∧ n * 4 ≤ 4 * maxLen ∧ RdTe W W.heap.size a l ∧ OkT l := by
 rcases Go.Deep.open_slice_pairs Tryz.underlying68 Tryz.underlying24 (by kernel_rfl) rfl rfl (by kernel_rfl) (by kernel_rfl) hf with ⟨hcs, hx⟩ | ⟨ad, len, cap, m, k, V0, V1, D0, D1, P0, P1, hcs, hb, hl, hm, hmm, hx, hi⟩
 ·have e : a = none ∧ n = 0 ∧ c = 0 := by simpa [Value.cells] using hcs
  obtain ⟨rfl, rfl, rfl⟩ := e
  exact ⟨[], rfl, Nat.zero_le _, by omega, fun h => absurd h (by simp), fun t h => (by cases h)⟩
 ·have e : a = some ad ∧ n = len ∧ c = cap := by simpa [Value.cells] using hcs
  obtain ⟨rfl, rfl, rfl⟩ := e
  have hspot := hsp ad rfl
  obtain ⟨b, o, s⟩ := ad
  obtain rfl : s = none := hspot
  have hlm : n ≤ m := by rw [hmm]; split <;> omega
  have each : ∀ i, i < n → ∃ p : Nat × Nat, V0 i = .int .u16 p.1 ∧ V1 i = .int .u16 p.2 ∧ p.1 < 65536 ∧ p.2 < 65536 := fun i h => by
   obtain ⟨_, _, t0, t1⟩ := hi i (by omega)
   obtain ⟨s0, e0, x0, z0⟩ := DataW.trod_int Tryz.underlying22 t0
   obtain ⟨s1, e1, x1, z1⟩ := DataW.trod_int Tryz.underlying22 t1
   obtain ⟨y0, rfl, h0⟩ := nat_of_u16 z0
   obtain ⟨y1, rfl, h1⟩ := nat_of_u16 z1
   exact ⟨(y0, y1), (List.cons.inj e0).1, (List.cons.inj e1).1, h0, h1⟩
  have pick : ∃ f : Nat → Nat × Nat, ∀ i, i < n → V0 i = .int .u16 (f i).1 ∧ V1 i = .int .u16 (f i).2 ∧ (f i).1 < 65536 ∧ (f i).2 < 65536 :=
   ⟨fun i => if h : i < n then (each i h).choose else (0, 0), fun i h => by simp only [dif_pos h]; exact (each i h).choose_spec⟩
  obtain ⟨f, hf'⟩ := pick
  have hget : ∀ (i : Nat) (p : Nat × Nat), ((List.range n).map f)[i]? = some p → i < n ∧ p = f i := fun i p hp => by
   rw [List.getElem?_map] at hp
   obtain ⟨j, hj, rfl⟩ := Option.map_eq_some_iff.1 hp
   obtain ⟨h1, h2⟩ := List.getElem?_eq_some_iff.1 hj
   rw [List.length_range] at h1
   rw [List.getElem_range] at h2
   exact ⟨h1, by rw [h2]⟩
  refine ⟨(List.range n).map f, by simp, Nat.le_trans hl hm, by omega, fun h0 => ⟨b, o, rfl, ?_, fun i p hp => ?_⟩, fun t ht => ?_⟩
  ·have h0' : 0 < n := by simpa using h0
   exact World.block_lt_of_cell? _ _ ((hi 0 (by omega)).1)
  ·obtain ⟨hin, rfl⟩ := hget i p hp
   obtain ⟨c0, c1, _, _⟩ := hi i (by omega)
   obtain ⟨v0, v1, _, _⟩ := hf' i hin
   rw [Addr.add_lit] at c0 c1
   rw [v0] at c0; rw [v1] at c1
   exact ⟨c0, by rw [Nat.add_assoc]; exact c1⟩
  ·obtain ⟨i, hi'⟩ := List.mem_iff_getElem?.1 ht
   obtain ⟨hin, rfl⟩ := hget i t hi'
   exact (hf' i hin).2.2
set_option maxRecDepth 100000 in
theorem open_tears {r : Reach} {b0 : Nat} {v : Value} {d : DataW H} {ps : List MemPlace} {sp : Nat → Bool}
  (hval : Value.okWide Tryz.prog W r b0 68 v) (h0 : DataW.Trod enc Tryz.prog W base sp hd 68 v d ps) :
  ∃ (A : Option Addr) (n c : Nat) (l : List (Nat × Nat)), v = .slice A n c ∧ n = l.length ∧ n ≤ maxLen ∧ RdTe W W.heap.size A l ∧ OkT l := by
 obtain ⟨a, n, c, rfl⟩ := okWide_slice Tryz.underlying68 hval
 have hsp : ∀ ad, a = some ad → ad.spot = none := by
  rintro ad rfl
  simp only [Value.okWide, Tryz.underlying68, Cell.okWide, Cell.ok] at hval
  exact hval.2.2.2.1
 obtain ⟨fuel, hf⟩ := h0
 obtain ⟨l, h1, h2, _, h3, h4⟩ := tears_cells hsp hf
 exact ⟨a, n, c, l, rfl, h1, h2, h3, h4⟩
end
end Go.Proofs.YtholdcgkhicdmaaGreatDoor
namespace Go.Proofs.YtholdcgkhicdmaaGreatDoor
open Go.RowKit
section
variable {w w' : World} {P P' : Nat → Nat → Prop} {R R' : Rc} {n me q k b syn : Nat} {cs : List (List Nat)}
end
set_option maxRecDepth 100000 in
set_option maxHeartbeats 2000000 in
theorem next_new {S : Nat → Prop} {b : Nat} {X : Sp} {L : List Ett} (s : Sm) (hs : OkS s) (w : World) (h : SpAt w S b X L) (hh : X.h (s.o % 4) ≤ 1099511627776) :
  Calls Tryz.prog 23 #[.agg #[.bool s.g, .int .u8 s.o, .int .u8 s.p, .int .u8 s.w, .int .u16 s.q, .int .u16 s.m, .int .u16 s.t, .int .u8 s.r, .int .u8 s.l, .int .u8 s.v, .bool s.s], .func (.func 24) #[.pointer (some ⟨b, 0, none⟩)] #[]] w fun e w' => ∃ A c, e = .returned (.agg (itC (nextI s (X.h (s.o % 4))) A c).toArray) ∧ (A = none → (smallI (nextS s)).l.length = 0) ∧ RdP w' w'.heap.size A (smallI (nextS s)).l ∧ Below w.heap.size w w' ∧ (∀ a, A = some a → w.heap.size ≤ a.block) := by
 obtain ⟨h1, h2, h3, h4, h5, h6, h7, h8, h9⟩ := id hs
 have hwo : (s.o : Int).tmod 4 = ((s.o % 4 : Nat) : Int) := by rw [Int.tmod_eq_emod_of_nonneg (by omega)]; rfl
 have hwm : (s.m : Int).tmod 3 = ((s.m % 3 : Nat) : Int) := by rw [Int.tmod_eq_emod_of_nonneg (by omega)]; rfl
 obtain ⟨W, hW⟩ : ∃ W, W = (w.alloc (.cells #[.bool s.g, .int .u8 ((s.o : Int) % 4), .int .u8 s.p, .int .u8 s.w, .int .u16 s.q, .int .u16 ((s.m : Int) % 3), .int .u16 s.t, .int .u8 s.r, .int .u8 s.l, .int .u8 s.v, .bool s.s] 70)).alloc (.cells #[.bool false, .int .u8 0, .int .u64 0, .int .u64 0, .string ⟨#[]⟩, .slice none 0 0, .int .u8 0, .int .u8 0, .int .i64 0, .int .u8 0, .int .u8 0, .int .u64 0, .int .u64 0] 47) := ⟨_, rfl⟩
 have hb : Below w.heap.size w W := by rw [hW]; exact ((Below.refl _ _).alloc (Nat.le_refl _) _).alloc (by simp) _
 have hz : W.heap.size = w.heap.size + 2 := by rw [hW]; simp
 have hg0 : W.heap[w.heap.size]? = some (.cells (smL (nextS s)).toArray 70 (0, 0)) := by rw [hW]; exact heap_alloc2_old _ _ _
 have hg1 : W.heap[w.heap.size + 1]? = some (.cells #[.bool false, .int .u8 0, .int .u64 0, .int .u64 0, .string ⟨#[]⟩, .slice none 0 0, .int .u8 0, .int .u8 0, .int .i64 0, .int .u8 0, .int .u8 0, .int .u64 0, .int .u64 0] 47 (0, 0)) := by rw [hW]; exact heap_alloc2_new _ _ _
 have HW := Lib.hid hW
 have HB := Lib.hid hb
 have HZ := Lib.hid hz
 have HG0 := Lib.hid hg0
 have HG1 := Lib.hid hg1
 have HS := Lib.hid (h.below hb)
 have HOS := Lib.hid (nextS_ok hs)
 have HHH := Lib.hid hh
 clear hW hb hz hg0 hg1 h hs hh
 go_enter Tryz.func23, Tryz.ntmps23
 go_upto_region 3 with fail
 rw [← HW.out]
 have G0 := HG0.out
 go_wp2_with (first | (refine wpList_load_row rfl _ _ rfl w.heap.size rfl _ _ _ _ G0 Tryz.underlying70 rfl Tryz.infoSm ?_) | fail)
 clear G0
 refine (smallItem_any (nextS s) HOS.out W).mono ?_
 rintro _ w1 ⟨A, n, c, rfl, hn, ho1, hb1⟩
 subst hn
 obtain ⟨x, hx⟩ : ∃ x, x = smallI (nextS s) := ⟨_, rfl⟩
 rw [← hx] at ho1 ⊢
 have HX := Lib.hid hx
 have HO1 := Lib.hid ho1
 have hz := HZ.out
 have hz1 := hb1.size
 have HB1 := Lib.hid (HB.out.trans (hb1.mono HB.out.size))
 have HG01 := Lib.hid ((hb1.block w.heap.size (by omega)).trans HG0.out)
 have HG11 := Lib.hid ((hb1.block (w.heap.size + 1) (by omega)).trans HG1.out)
 have HS1 := Lib.hid (HS.out.below hb1)
 clear hx ho1 hb1 HW HG0 HG1
 go_upto_region 4 with (first | (refine wpList_store_row rfl _ _ _ rfl w1.heap.size (itC x A c).toArray rfl rfl _ _ (heap_alloc_new _ _) Tryz.infoIt rfl (by simp [Value.oneCell', itC]) ?_) | fail)
 obtain ⟨w2, hw2, hc2, hb2, hl2⟩ := boxI w1 _ (itC x A c).toArray
 rw [← hw2]
 have HB2 := Lib.hid (HB1.out.trans (hb2.mono HB1.out.size))
 have HS2 := Lib.hid (HS1.out.below hb2)
 have HC2 := Lib.hid hc2
 have HG02 := Lib.hid ((hb2.block w.heap.size (by omega)).trans HG01.out)
 have HG12 := Lib.hid ((hb2.block (w.heap.size + 1) (by omega)).trans HG11.out)
 have hz2 := hb2.size
 have x1 : w2.cell? ⟨w.heap.size, 1, none⟩ = some (.int .u8 ((s.o % 4 : Nat) : Int)) := cell_of_row _ _ 1 _ _ _ HG02.out
 have HO2 := Lib.hid (ownB_below HO1.out hb2)
 clear hw2 hc2 hb2 HS1 HG01 HG11
 go_wp2_with fail
 refine (high_any (s.o % 4) (by omega) w2 HS2.out).mono ?_
 rintro _ w3 ⟨rfl, rfl⟩
 obtain ⟨H, hH⟩ : ∃ H, H = X.h (s.o % 4) := ⟨_, rfl⟩
 have hHm : H ≤ 1099511627776 := by rw [hH]; exact HHH.out
 rw [← hH] at ⊢
 have HHE := Lib.hid hH
 have y0 : w2.cell? ⟨w1.heap.size, 0, none⟩ = some (.bool x.g) := cell_of_row _ _ 0 _ _ _ HC2.out
 have hxg : x.g = s.g := by
  rw [HX.out]
  cases hg : s.g with
  | true => rw [smallI_gap _ (by show (nextS s).g = true; exact hg)]
  | false => rw [smallI_ev _ (by show (nextS s).g = false; exact hg)]
 rw [hxg] at y0
 have hw1 : IntKind.u64.wrap ((H : Int) + 1) = ((H + 1 : Nat) : Int) := by rw [IntKind.wrap_u64]; omega
 have HXG := Lib.hid hxg
 clear hH hxg x1
 cases hg : s.g with
 | true =>
   rw [hg] at y0
   have f11 : w2.frozen? ⟨w1.heap.size, 11, none⟩ = false := by simp [World.frozen?, HC2.out]
   have f12 : w2.frozen? ⟨w1.heap.size, 12, none⟩ = false := by simp [World.frozen?, HC2.out]
   have y11 : w2.cell? ⟨w1.heap.size, 11, none⟩ = some (.int .u64 x.gf) := cell_of_row _ _ 11 _ _ _ HC2.out
   have y12 : w2.cell? ⟨w1.heap.size, 12, none⟩ = some (.int .u64 x.gt) := cell_of_row _ _ 12 _ _ _ HC2.out
   have y5 : w2.cell? ⟨w.heap.size, 5, none⟩ = some (.int .u16 ((s.m % 3 : Nat) : Int)) := cell_of_row _ _ 5 _ _ _ HG02.out
   have hm3 : s.m % 3 < 3 := Nat.mod_lt _ (by decide)
   obtain ⟨m3, hm3e⟩ : ∃ m3, m3 = s.m % 3 := ⟨_, rfl⟩
   rw [← hm3e] at y5 hm3
   have hw2' : IntKind.u64.wrap ((m3 : Nat) : Int) = (m3 : Int) := by rw [IntKind.wrap_u64]; omega
   have hw3 : IntKind.u64.wrap (((H + 1 : Nat) : Int) + (m3 : Int)) = ((H + 1 + m3 : Nat) : Int) := by rw [IntKind.wrap_u64]; omega
   have hw4 : IntKind.u64.wrap ((H : Int) + 1 + (m3 : Int)) = ((H + 1 + m3 : Nat) : Int) := by rw [IntKind.wrap_u64]; omega
   have HM3 := Lib.hid hm3e
   have hne : w.heap.size ≠ w1.heap.size := by omega
   clear hm3e
   go_upto_region 6 with fail
   go_region
   have h3 : Only (fun k => k = w1.heap.size) w2 ((w2.setCell ⟨w1.heap.size, 11, none⟩ (.int .u64 ((H : Int) + 1))).setCell ⟨w1.heap.size, 12, none⟩ (.int .u64 ((H : Int) + 1 + (m3 : Int)))).drew := ((Only.setCell (T := fun k => k = w1.heap.size) _ _ _ rfl).trans (Only.setCell (T := fun k => k = w1.heap.size) _ _ _ rfl) (fun _ h => .inl h)).trans (Only.of_below (RowKit.Below.refl _ _).drew _) (fun _ h => .inl h)
   have hcF : ((w2.setCell ⟨w1.heap.size, 11, none⟩ (.int .u64 ((H : Int) + 1))).setCell ⟨w1.heap.size, 12, none⟩ (.int .u64 ((H : Int) + 1 + (m3 : Int)))).drew.heap[w1.heap.size]? = some (.cells (itC { x with gf := H + 1, gt := H + 1 + m3 } A c).toArray 47 (0, 0)) := heap_setAt (heap_setAt HC2.out 11 _) 12 _
   have hg1F := (h3.block (w.heap.size + 1) (by omega) (by omega)).trans HG12.out
   have hI : nextI s H = { x with gf := H + 1, gt := H + 1 + m3 } := by unfold nextI; rw [if_pos hg, HX.out, HM3.out]
   have hE := next_end (x' := { x with gf := H + 1, gt := H + 1 + m3 }) HB2.out HO2.out (show w.heap.size ≤ w.heap.size + 1 by omega) (by omega) (fun k hk => (HO1.out.lt k hk).2) (show w.heap.size ≤ w1.heap.size by omega) h3 rfl (itC { x with gf := H + 1, gt := H + 1 + m3 } A c).toArray
   have HCF := Lib.hid hcF
   have HGF := Lib.hid hg1F
   have HI := Lib.hid hI
   have HE := Lib.hid hE
   clear h3 hcF hg1F hI hE
   go_wp2_with (first
    | (refine wpList_load_row rfl _ _ rfl w1.heap.size rfl _ _ _ _ HCF.out Tryz.underlying47 rfl Tryz.infoIt ?_)
    | (refine wpList_store_row rfl _ _ _ rfl (w.heap.size + 1) (itC { x with gf := H + 1, gt := H + 1 + m3 } A c).toArray rfl rfl _ _ HGF.out Tryz.infoIt rfl (by simp [Value.oneCell', itC]) ?_)
    | fail)
   refine bodyPost_ret (v := .agg (itC { x with gf := H + 1, gt := H + 1 + m3 } A c).toArray) (results_cell_row rfl _ _ (w.heap.size + 1) _ _ _ _ rfl (setRow_heap _ _ _ _ _ _ HGF.out) Tryz.underlying47 rfl Tryz.infoIt) rfl ?_
   rw [← HHE.out, HI.out, ← HX.out]
   exact ⟨A, ⟨c, rfl⟩, fun h => List.eq_nil_of_length_eq_zero (HE.out.1 h), HE.out.2.1, HE.out.2.2, fun a ha => Nat.le_trans HB.out.size ((HO1.out.lt a.block (by rw [ha]; rfl)).1)⟩
 | false =>
   rw [hg] at y0
   have f2 : w2.frozen? ⟨w1.heap.size, 2, none⟩ = false := by simp [World.frozen?, HC2.out]
   have y2 : w2.cell? ⟨w1.heap.size, 2, none⟩ = some (.int .u64 x.q) := cell_of_row _ _ 2 _ _ _ HC2.out
   go_upto_region 8 with fail
   have h3 : Only (fun k => k = w1.heap.size) w2 (w2.setCell ⟨w1.heap.size, 2, none⟩ (.int .u64 ((H : Int) + 1))) := Only.setCell _ _ _ rfl
   have hcF : (w2.setCell ⟨w1.heap.size, 2, none⟩ (.int .u64 ((H : Int) + 1))).heap[w1.heap.size]? = some (.cells (itC { x with q := H + 1 } A c).toArray 47 (0, 0)) := heap_setAt HC2.out 2 _
   have hg1F := (h3.block (w.heap.size + 1) (by omega) (by omega)).trans HG12.out
   have hI : nextI s H = { x with q := H + 1 } := by unfold nextI; rw [if_neg (by rw [hg]; decide), HX.out]
   have hE := next_end (x' := { x with q := H + 1 }) HB2.out HO2.out (show w.heap.size ≤ w.heap.size + 1 by omega) (by omega) (fun k hk => (HO1.out.lt k hk).2) (show w.heap.size ≤ w1.heap.size by omega) h3 rfl (itC { x with q := H + 1 } A c).toArray
   have HCF := Lib.hid hcF
   have HGF := Lib.hid hg1F
   have HI := Lib.hid hI
   have HE := Lib.hid hE
   clear h3 hcF hg1F hI hE
   go_wp2_with (first
    | (refine wpList_load_row rfl _ _ rfl w1.heap.size rfl _ _ _ _ HCF.out Tryz.underlying47 rfl Tryz.infoIt ?_)
    | (refine wpList_store_row rfl _ _ _ rfl (w.heap.size + 1) (itC { x with q := H + 1 } A c).toArray rfl rfl _ _ HGF.out Tryz.infoIt rfl (by simp [Value.oneCell', itC]) ?_)
    | fail)
   refine bodyPost_ret (v := .agg (itC { x with q := H + 1 } A c).toArray) (results_cell_row rfl _ _ (w.heap.size + 1) _ _ _ _ rfl (setRow_heap _ _ _ _ _ _ HGF.out) Tryz.underlying47 rfl Tryz.infoIt) rfl ?_
   rw [← HHE.out, HI.out, ← HX.out]
   exact ⟨A, ⟨c, rfl⟩, fun h => List.eq_nil_of_length_eq_zero (HE.out.1 h), HE.out.2.1, HE.out.2.2, fun a ha => Nat.le_trans HB.out.size ((HO1.out.lt a.block (by rw [ha]; rfl)).1)⟩
end Go.Proofs.YtholdcgkhicdmaaGreatDoor