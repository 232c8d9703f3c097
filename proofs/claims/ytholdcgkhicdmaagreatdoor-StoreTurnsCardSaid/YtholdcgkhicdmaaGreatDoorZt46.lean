/- Several texts in one: StAwk, DkOpen, Laid9, DkArgs, DkArgsCap, StTrn, StTz. -/
import Derived.Test.YtholdcgkhicdmaaGreatDoorCards
import Derived.Test.YtholdcgkhicdmaaGreatDoorTie
import Derived.Deep.DeepHandedRow
import Derived.Lib.LaidTab
import Derived.LaidLaws
import Derived.Deep.Matrix
import Derived.Test.YtholdcgkhicdmaaGreatDoorZt45
namespace Go.Proofs.YtholdcgkhicdmaaGreatDoor
open Go.RowKit
structure Gl (w : World) (ev : Value) : Prop where
  v : w.cell? ⟨1, 0, none⟩ = some ev
  l : 1 < w.heap.size
  e : ev = .nilIface ∨ ∃ te pe, ev = .iface te pe
theorem Gl.below {w w' : World} {ev : Value} (h : Gl w ev) (hb : Below w.heap.size w w') : Gl w' ev := ⟨(hb.cell (p := ⟨1, 0, none⟩) h.l).trans h.v, Nat.lt_of_lt_of_le h.l hb.size, h.e⟩
def xS : It := ⟨false, 1, 1, 0, ⟨#[120]⟩, [], 0, 0, 0, 0, 0, 0, 0⟩
theorem xS_ok : OkI xS := ⟨(by decide), (by decide), (by decide), (show (⟨#[120]⟩ : ByteArray).size ≤ maxLen by decide +kernel), fun i q hq => by simp [xS] at hq, (by decide), (by decide), (show (-9223372036854775808 : Int) ≤ 0 by decide), (show (0 : Int) < 9223372036854775808 by decide), (by decide), (by decide), (by decide), (by decide)⟩
theorem xS_short : ShortI xS := ⟨(show (⟨#[120]⟩ : ByteArray).size ≤ 1048576 by decide +kernel), fun i q hq => by simp [xS] at hq⟩
theorem xS_len : (itemB xS).length = 11 := by decide +kernel
theorem xS_mod : Mod xS := ⟨xS_ok, xS_short, by decide, by rw [xS_len]; decide⟩
theorem xS_nm : Nm xS := ⟨xS_ok, rfl, xS_short, by decide⟩
theorem xS_okB : OkB (1 :: itemB xS) := by
  intro z hz
  rcases List.mem_cons.1 hz with rfl | hz
  · decide
  · exact itemB_ok9 xS_ok xS_short (by decide) z hz
theorem xS_put : (putV ⟨100, 1, 0, 0, fun _ => 0⟩ [] xS).1 = 0 ∧ (putV ⟨100, 1, 0, 0, fun _ => 0⟩ [] xS).2.2.2.1.h 1 = 1 ∧ (putV ⟨100, 1, 0, 0, fun _ => 0⟩ [] xS).2.2.2.2.length = 1 := by
  have h : putV ⟨100, 1, 0, 0, fun _ => 0⟩ [] xS = _ := put_plain (X := ⟨100, 1, 0, 0, fun _ => 0⟩) (L := []) (x := xS) (A := none) (c := 0) (by decide +kernel) (by rfl) (by rw [xS_len]; show 0 + 11 ≤ 100; decide) (by decide) rfl
  rw [h]
  exact ⟨rfl, by decide +kernel, rfl⟩
theorem lab_nil {w : World} {P : Nat → Nat → Prop} {A : Option Addr} : Lb w P A [] := ⟨fun h => absurd h (by simp), fun a _ h => absurd h (by simp)⟩
theorem Only.after {w0 w w' : World} {T : Nat → Prop} (hb : Below w0.heap.size w0 w) (h : Only T w w') (hT : ∀ k, T k → w0.heap.size ≤ k) : Below w0.heap.size w0 w' :=
  hb.trans ⟨h.os, h.tape, h.output, h.size, fun k hk => h.block k (Nat.lt_of_lt_of_le hk hb.size) (fun ht => by have := hT k ht; omega)⟩
set_option maxRecDepth 100000 in
set_option maxHeartbeats 4000000 in
theorem awake9_any {ev : Value} (w : World) (hg : Gl w ev) : Calls Tryz.prog 6 #[] w fun e w' => e = .returned (.bool true) ∧ Below w.heap.size w w' := by
  have HG := Lib.hid hg
  clear hg
  go_enter Tryz.func6, Tryz.ntmps6
  go_wp2_with fail
  refine (new_any w).mono ?_
  rintro _ w1 ⟨rfl, hw1⟩
  have hd1 : Disk w1 (fun k => k = w.heap.size) w.heap.size [] 0 0 := by rw [hw1]; exact Disk.new w
  have hb1 : Below w.heap.size w w1 := by rw [hw1]; exact (Below.refl _ _).alloc (Nat.le_refl _) _
  have hl1 : w1.heap.size = w.heap.size + 1 := by rw [hw1]; simp
  obtain ⟨gd, hgd⟩ : ∃ gd, gd = w.heap.size := ⟨_, rfl⟩
  rw [← hgd] at hd1 ⊢
  have HD1 := Lib.hid hd1
  have HB1 := Lib.hid hb1
  have HZ1 := Lib.hid (⟨hl1, hgd⟩ : _ ∧ _)
  clear hw1 hd1 hb1 hl1 hgd
  go_wp2_with fail
  refine (cnew_any w1).mono ?_
  rintro _ w2 ⟨rfl, hb2, hz2, hT2⟩
  obtain ⟨g, hgg⟩ : ∃ g, g = w1.heap.size := ⟨_, rfl⟩
  rw [← hgg] at hT2 ⊢
  have hdt : DkT w2 (fun k => k = gd) gd g [] 0 := ⟨⟨0, 0, Nat.le_refl _, Nat.le_refl _, HD1.out.below hb2⟩, ⟨0, 0, 0, Nat.zero_le _, Nat.le_refl _, Nat.le_refl _, hT2⟩⟩
  have hb02 : Below w.heap.size w w2 := HB1.out.trans (hb2.mono HB1.out.size)
  have hgl := HG.out.l
  have hG2 := HG.out.below hb02
  have hne : g ≠ gd := by have := HZ1.out.1; have := HZ1.out.2; omega
  have HF := Lib.hid (live_first (me := 1) (q := 100) w2 hdt (by decide) (by decide) (by decide) (by decide) hne hG2.v hG2.l (by have := HZ1.out.2; omega) (by have := HZ1.out.1; omega) hG2.e)
  have HB2 := Lib.hid hb02
  have HGG := Lib.hid hgg
  clear hb2 hz2 hT2 hgg hdt hb02 hG2 hne HD1
  go_wp2_with fail
  refine HF.out.mono ?_
  rintro _ w3 ⟨P3, R3, cs3, rfl, h3, hP3, ho3, -, hX3, hK3, hF3, hm3, hgd3, hg3⟩
  have hlw3 : Lw w w3 P3 := by
    have hgdw := HZ1.out
    have hggw := HGG.out
    refine ⟨fun i k hk => ?_, Only.after HB2.out ho3 (fun k hk => by omega)⟩
    have := HB2.out.size
    rcases hP3 i k hk with h | h | h <;> omega
  have HLW3 := Lib.hid hlw3
  have HQ3 := Lib.hid (⟨hX3, hK3, hm3, hgd3, hg3⟩ : _ ∧ _ ∧ _ ∧ _ ∧ _)
  have H3 := Lib.hid h3
  clear h3 hP3 ho3 hX3 hK3 hF3 hm3 hgd3 hg3 hlw3 HF
  obtain ⟨st3, hst3⟩ : ∃ z, z = R3.st := ⟨_, rfl⟩
  rw [← hst3]
  have HST3 := Lib.hid hst3
  clear hst3
  go_wp2_with fail
  refine (of_any 1 1 0 ⟨#[120]⟩ none 0 0 [] 0 0 0 0 w3 rfl (fun _ => rfl) (by decide) (fun h => absurd h (by decide))).mono ?_
  rintro _ w4 ⟨L, rfl, ho4, hb4⟩
  obtain ⟨A4, c4, rfl⟩ := own_slice ho4
  have HLW4 := Lib.hid (HLW3.out.below hb4)
  have HP := Lib.hid (live_put xS A4 c4 (H3.out.below hb4) (by decide) xS_mod xS_nm (fun _ => rfl) lab_nil (by rw [xS_len]; decide) xS_okB (by decide) (by rw [xS_len]; decide))
  rw [← HST3.out] at HP
  clear ho4 hb4 H3 HLW3
  go_wp2_with fail
  refine HP.out.mono ?_
  have hput : (putV R3.ab.X R3.ab.K xS).1 = 0 := by rw [HQ3.out.1, HQ3.out.2.1]; exact xS_put.1
  rintro _ w5 (⟨h, -⟩ | ⟨-, rfl, P5, R5, h5, hm5, hab5, hgd5, hg5, hst5, -⟩)
  · exact absurd hput h
  have HLW5 := Lib.hid (HLW4.out.mv hm5)
  have HQ5 := Lib.hid (⟨hab5, hgd5, hg5, hst5⟩ : _ ∧ _ ∧ _ ∧ _)
  have HS5 := Lib.hid (live_sync h5 (by decide))
  rw [hst5] at HS5
  clear h5 hm5 hab5 hgd5 hg5 hst5 HP HLW4 hput
  obtain ⟨ix, hix⟩ : ∃ z, z = (putV R3.ab.X R3.ab.K xS).2.1 := ⟨_, rfl⟩
  obtain ⟨fx, hfx⟩ : ∃ z, z = (putV R3.ab.X R3.ab.K xS).2.2.1 := ⟨_, rfl⟩
  rw [← hix, ← hfx]
  clear hix hfx
  go_wp2_with fail
  refine HS5.out.mono ?_
  rintro _ w6 ⟨rfl, P6, R6, cs6, h6, hm6, hlen6, hX6, hK6, -, hlf6, hgd6, hg6, -⟩
  have HLW6 := Lib.hid (HLW5.out.mv hm6)
  have hgd6' : R6.gd = gd := by rw [hgd6, HQ5.out.2.1, HQ3.out.2.2.2.1]
  have hg6' : R6.g = g := by rw [hg6, HQ5.out.2.2.1, HQ3.out.2.2.2.2]
  have hdt6 := h6.st.dt
  have hP60 : ∀ k, P6 0 k → k ≠ 1 := fun k hk => by have := HLW6.out.lo 0 k hk; have := HG.out.l; omega
  have hng6 : ¬ P6 0 R6.g := fun hk => by have := h6.st.own.sep 0 1 _ hk h6.st.p1; cases this
  rw [h6.LL] at hdt6
  have hcr := crash_full (m := 0) (c := 0) (A := none) (ts := []) hdt6 hng6 rfl (by decide) (fun h => absurd h (by decide)) (fun a ha => by cases ha) (fun t ht => by cases ht)
  have hlv6 := h6.lv
  have h36 : (joinR cs6).length ≤ 20000 := by have h7 : R6.first ≤ 16920 := h6.lv.fz; omega
  have hm6a : R6.ab.m = 1 := by
    have h7 : R6.life = R5.life := hlf6
    have h8 : R5.life = R3.life := by have h9 := congrArg Ab.m HQ5.out.1; exact h9
    show R6.life = 1
    rw [h7, h8]
    exact HQ3.out.2.2.1
  rw [hgd6'] at hcr
  have HCR := Lib.hid hcr
  have hgl6 : R6.g < w6.heap.size := h6.st.own.lt 1 _ h6.st.p1
  have HL6 := Lib.hid (⟨hlv6, h36, hm6a, hX6, hK6, hg6', hng6, hgl6⟩ : _ ∧ _ ∧ _ ∧ _ ∧ _ ∧ _ ∧ _ ∧ _)
  clear h6 hm6 hlen6 hX6 hK6 hlf6 hgd6 hg6 hgd6' hg6' hdt6 hng6 hcr hlv6 h36 hm6a hgl6 HS5 HLW5
  go_wp2_with fail
  refine HCR.out.mono ?_
  rintro _ w7 ⟨rfl, S7, hd7, hst7⟩
  have hb7 : Below w.heap.size w w7 := Only.after HLW6.out.bl hst7.only (fun k hk => HLW6.out.lo 0 k hk)
  have hS7 : ∀ k, S7 k → w.heap.size ≤ k := fun k hk => (hst7.new k hk).elim (fun h => HLW6.out.lo 0 k h) (fun h => Nat.le_trans HLW6.out.bl.size h)
  have hG7 := HG.out.below hb7
  obtain ⟨hlv6, h36, hm6a, hX6, hK6, hg6, hng6, hgl6⟩ := HL6.out
  have hgw : w.heap.size ≤ g := by have := HGG.out; have := HZ1.out.1; omega
  have hg7 : ¬ S7 g := fun h => by
    rcases hst7.new g h with h | h
    · rw [← hg6] at h; exact hng6 h
    · omega
  rw [hg6] at hd7
  have HO := Lib.hid (live_open (me := 1) (q := 100) w7 hd7 hlv6 h36 (by rw [hm6a]; decide) (by rw [xS_len]; decide) (by decide) hg7 hG7.v hG7.l (fun h => by have := hS7 1 h; have := HG.out.l; omega) (by have := HG.out.l; omega) hG7.e)
  have HB7 := Lib.hid (⟨hb7, hS7, hgw⟩ : _ ∧ _ ∧ _)
  clear hd7 hst7 hb7 hS7 hG7 hlv6 h36 hm6a hX6 hK6 hg6 hng6 hgl6 hgw hg7 HCR
  go_wp2_with fail
  refine HO.out.mono ?_
  rintro _ w8 ⟨P8, R8, cs8, rfl, h8, hP8, ho8, -, hX8, hK8, -, hm8, -, -⟩
  have hb8 : Below w.heap.size w w8 := Only.after HB7.out.1 ho8 (fun k hk => hk.elim (HB7.out.2.1 k) (fun e => by rw [e]; exact HB7.out.2.2))
  have hlife : R8.life = 2 := by rw [hm8, HL6.out.2.2.1]
  have hXX : R8.X.h 1 = 1 := by
    have e : R8.ab.X = (putA 1 R3.ab xS).X := by rw [hX8, HL6.out.2.2.2.1, HQ5.out.1]
    have e2 : R8.ab.X.h 1 = 1 := by
      rw [e]
      show (putV R3.ab.X R3.ab.K xS).2.2.2.1.h 1 = 1
      rw [HQ3.out.1, HQ3.out.2.1]
      exact xS_put.2.1
    exact e2
  have hLL : R8.L.length = 1 := by
    have e : R8.ab.K = (putA 1 R3.ab xS).K := by rw [hK8, HL6.out.2.2.2.2.1, HQ5.out.1]
    have e2 : R8.ab.K.length = 1 := by
      rw [e]
      show (putV R3.ab.X R3.ab.K xS).2.2.2.2.length = 1
      rw [HQ3.out.1, HQ3.out.2.1]
      exact xS_put.2.2
    have e3 : R8.ab.K.length = R8.L.length := ers_len _
    rw [← e3]; exact e2
  have HSP := Lib.hid (sto_spool w8 h8.st)
  have HLF := Lib.hid (fun W (hW : Below w8.heap.size w8 W) => sto_life W (h8.st.below hW))
  have HNX := Lib.hid (fun W (hW : Below w8.heap.size w8 W) => sto_next W (h8.st.below hW) (by rw [h8.sf]; decide) (by rw [h8.sf, hXX]; decide))
  rw [hlife] at HLF
  rw [h8.sf, hXX] at HNX
  obtain ⟨st8, hst8⟩ : ∃ z, z = R8.st := ⟨_, rfl⟩
  rw [← hst8] at HSP HLF HNX ⊢
  have HB8 := Lib.hid hb8
  have HN8 := Lib.hid hLL
  clear h8 hP8 ho8 hX8 hK8 hm8 hb8 hlife hXX hLL hst8 HO
  go_wp2_with fail
  refine HSP.out.mono ?_
  rintro _ w9 ⟨sq, S9, rfl, hs9, -, hb9⟩
  have HC9 := Lib.hid (scounts_any w9 hs9)
  rw [HN8.out] at HC9
  have HB9 := Lib.hid hb9
  clear hs9 hb9 HSP
  go_wp2_with fail
  refine HC9.out.mono ?_
  rintro _ w10 ⟨rfl, hb10⟩
  have HB10 := Lib.hid (HB9.out.trans (hb10.mono HB9.out.size))
  clear hb10 HC9 HB9
  go_wp2_with fail
  refine (HLF.out w10 HB10.out).mono ?_
  rintro _ w11 ⟨rfl, rfl⟩
  go_wp2_with fail
  refine (HNX.out w10 HB10.out).mono ?_
  rintro _ w11 ⟨rfl, hb11⟩
  have HB11 := Lib.hid (HB8.out.trans ((HB10.out.trans (hb11.mono HB10.out.size)).mono HB8.out.size))
  clear hb11
  go_wp2
  go_ret
  exact ⟨rfl, HB11.out⟩
end Go.Proofs.YtholdcgkhicdmaaGreatDoor
namespace Go.Proofs.YtholdcgkhicdmaaGreatDoor
end Go.Proofs.YtholdcgkhicdmaaGreatDoor
namespace Go.Proofs.YtholdcgkhicdmaaGreatDoor
open Go.RowKit
def numV : DataW Unit → Value | .lit (.int k n) => .int k n | _ => undef
def rowV : DataW Unit → List Value | .agg l => l.map numV | _ => []
def tab32V : Array Value := (rowV Rows.laid_math_bits_deBruijn32tab).toArray
def tab64V : Array Value := (rowV Rows.laid_math_bits_deBruijn64tab).toArray
def pow10V : Array Value := (rowV Rows.laid_internal_strconv_uint64pow10).toArray
def rangeS : ByteArray := ⟨#[118, 97, 108, 117, 101, 32, 111, 117, 116, 32, 111, 102, 32, 114, 97, 110, 103, 101]⟩
def syntaxS : ByteArray := ⟨#[105, 110, 118, 97, 108, 105, 100, 32, 115, 121, 110, 116, 97, 120]⟩
def relay (cs : Array Value) : Obj → Obj
  | .cells _ t frozen => .cells cs t frozen
  | o => o
noncomputable def low9 : Nat := (World.holding Tryz.prog default ⟨#[], #[], []⟩).heap.size
noncomputable def laidWorld (os : Os) : World :=
  let w0 := World.holding Tryz.prog os ⟨#[.cells #[.string rangeS] 286, .cells #[.string syntaxS] 286], #[], []⟩
  { w0 with heap := ((((w0.heap.modify 3 (relay tab32V)).modify 4 (relay tab64V)).modify 0 (relay pow10V)).modify 2 (relay #[.iface 284 (.pointer (some ⟨low9, 0, none⟩))])).modify 1 (relay #[.iface 284 (.pointer (some ⟨low9 + 1, 0, none⟩))]) }
theorem synName : Tryz.prog.globalNamed "strconv.ErrSyntax" = some 1 := by kernel_rfl
theorem synType : (Tryz.prog.globals[1]?).map (·.type) = some 219 := by kernel_rfl
theorem gl_of_laid {W : World} (h : laidMetH Tryz.prog Rows.storeNoneRow.laid W) : ∃ ev, Gl W ev := by
  have h : laidMet Tryz.prog Rows.storeNoneRow.laid W := h
  obtain ⟨ps, hL, -⟩ := h
  obtain ⟨g0, t0, cs0, f0, p0, q0, hg0, ht0, hv0, hd0, ⟨g1, t1, cs1, f1, p1, q1, hg1, ht1, hv1, hd1, ⟨g2, t2, cs2, f2, p2, q2, hg2, ht2, hv2, hd2, ⟨g3, t3, cs3, f3, p3, q3, hg3, ht3, hv3, hd3, ⟨g4, t4, cs4, f4, p4, q4, hg4, ht4, hv4, hd4, -⟩, -⟩, -⟩, -⟩, -⟩ := hL
  obtain rfl := Option.some.inj (synName.symm.trans hg4)
  obtain rfl := Option.some.inj (synType.symm.trans ht4)
  obtain ⟨f', u, v, hcs, -, -⟩ := iface_of_trod Tryz.underlying219 hd4
  obtain ⟨l4⟩ := cs4
  have hcs : l4 = [.iface u v] := hcs
  subst hcs
  have hc : W.cell? ⟨1, 0, none⟩ = some (.iface u v) := by simpa using World.var?_cell hg4 hv4 0
  refine ⟨.iface u v, hc, ?_, .inr ⟨u, v, rfl⟩⟩
  refine Nat.lt_of_not_le fun hle => ?_
  have : W.heap[1]? = none := Array.getElem?_eq_none hle
  simp [World.cell?, this] at hc
end Go.Proofs.YtholdcgkhicdmaaGreatDoor
namespace Go.Proofs.YtholdcgkhicdmaaGreatDoor
open Go.RowKit Go.ChangeShapes Go.WideShapes
section
variable {H : Type} {enc : TypeId × Value → H} {W : World} {base : Nat} {hd : Bool}
end
section
variable {H : Type} {enc : TypeId × Value → H} {W : World} {base : Nat} {hd : Bool}
end
set_option maxRecDepth 100000 in
theorem open_tear {H : Type} {enc : TypeId × Value → H} {W : World} {base : Nat} {sp : Nat → Bool} {hd : Bool} {r : Reach} {b0 : Nat} {v : Value} {d : DataW H} {ps : List MemPlace}
    (hval : Value.okWide Tryz.prog W r b0 24 v) (h0 : DataW.Trod enc Tryz.prog W base sp hd 24 v d ps) :
    ∃ x y : Nat, v = .agg #[.int .u16 x, .int .u16 y] ∧ x < 65536 ∧ y < 65536 := by
  obtain ⟨cs, rfl, hs⟩ := okWide_struct Tryz.underlying24 hval
  have hc : Tryz.prog.cellsOf 24 = 2 := by kernel_rfl
  have hs2 : cs.size = 2 := hs.trans hc
  obtain ⟨c0, c1, rfl⟩ : ∃ c0 c1, cs = #[c0, c1] := by
    obtain ⟨l⟩ := cs
    match l, hs2 with
    | [a, b], _ => exact ⟨a, b, rfl⟩
  obtain ⟨fuel, hf⟩ := h0
  obtain ⟨y0, y1, n, _, _, t0, t1⟩ := trod_struct2 Tryz.underlying24 hf
  obtain ⟨s0, e0, _, z0⟩ := DataW.trod_int Tryz.underlying22 t0
  obtain ⟨s1, e1, _, z1⟩ := DataW.trod_int Tryz.underlying22 t1
  obtain rfl := (List.cons.inj e0).1
  obtain rfl := (List.cons.inj e1).1
  obtain ⟨x0, rfl, h0⟩ := nat_of_u16 z0
  obtain ⟨x1, rfl, h1⟩ := nat_of_u16 z1
  exact ⟨x0, x1, rfl, h0, h1⟩
end Go.Proofs.YtholdcgkhicdmaaGreatDoor
namespace Go.Proofs.YtholdcgkhicdmaaGreatDoor
open Go.RowKit
section
variable {w w' : World} {P P' : Nat → Nat → Prop} {R R' : Rc} {n me q k b syn : Nat} {cs : List (List Nat)}
theorem live_sync2 (h : Live w P R n me q k b cs syn) (hn : n ≤ 2000) :
    Calls Tryz.prog 13 #[.pointer (some ⟨R.st, 0, none⟩)] w fun e w' => e = .returned (.int .i64 0) ∧ ∃ P' R' cs' n', Live w' P' R' n' me q k b cs' (joinR cs').length ∧ Mv6 w P w' P' ∧ n' + 7 * R.gen ≤ n + 1 + 7 * R'.gen ∧ (joinR cs').length ≤ R'.first + 4 * q + 1024 ∧ R'.ab.X = R.ab.X ∧ R'.ab.K = R.ab.K ∧ R'.ab.F = R.ab.F ∧ R'.life = R.life ∧ R'.gd = R.gd ∧ R'.g = R.g ∧ R'.st = R.st := by
  obtain ⟨h1, h2, h3, f, hf, hlong⟩ := h.lv.syncPre rfl h.nm h.LL
  by_cases hl : R.first + 4 * R.X.q + 1024 < f.by_.length
  · obtain ⟨a1, a2, a3, a4, a5⟩ := hlong hl
    refine (sto_sync_long h.st hn h1 h2 a1 a2 a3 a4 a5 hl).mono ?_
    rintro _ w1 ⟨rfl, P', jb, x1, x2⟩
    obtain ⟨cs', g1, g2⟩ := sync_live ⟨f, hf, .inr ⟨hl, jb, rfl⟩⟩ x1 h.lv h.nm h.LL h.sf
    refine ⟨rfl, P', _, cs', n + 7, g1, x2, ?_, g2⟩
    show n + 7 + 7 * R.gen ≤ n + 1 + 7 * (R.gen + 1)
    omega
  · refine (sto_sync_short h.st (by omega) h1 h2 h3 hf (by omega)).mono ?_
    rintro _ w1 ⟨rfl, P', LL', x1, x2, x3⟩
    obtain ⟨cs', g1, g2⟩ := sync_live ⟨f, hf, .inl ⟨by omega, LL', rfl, x3⟩⟩ x1 h.lv h.nm h.LL h.sf
    refine ⟨rfl, P', _, cs', n + 1, g1, x2, ?_, g2⟩
    show n + 1 + 7 * R.gen ≤ n + 1 + 7 * R.gen
    omega
theorem live_sizes (h : Live w P R n me q k b cs syn) :
    Calls Tryz.prog 14 #[.pointer (some ⟨R.st, 0, none⟩)] w fun e w' => e = .returned (.tuple #[.int .i64 (joinR cs).length, .int .u64 R.gen]) ∧ Below w.heap.size w w' :=
  sto_sizes w h.st (by rw [h.nm]; exact nmG_max h.gen_lt) h.find
theorem live_room (h : Live w P R n me q k b cs syn) :
    Calls Tryz.prog 15 #[.pointer (some ⟨R.st, 0, none⟩)] w fun e w' => e = .returned (.int .i64 ((R.first + 4 * q + 1024 : Nat) : Int)) ∧ Below w.heap.size w w' := by
  have h1 : R.first ≤ 16920 := h.lv.fz
  have h2 : R.X.q = q := h.lv.lg.qq
  have h3 := h.lv.q2
  have := sto_room h.st (by omega) (by omega)
  rw [h2] at this
  exact this
theorem live_names (h : Live w P R n me q k b cs syn) :
    Calls Tryz.prog 16 #[.pointer (some ⟨R.gd, 0, none⟩)] w fun e w' => ∃ A c, e = .returned (.slice A 1 c) ∧ Below w.heap.size w w' := by
  obtain ⟨wr, sy, a1, a2, a3⟩ := h.st.dt.dk
  rw [h.LL] at a3
  refine (names_any w a3).mono ?_
  rintro _ w1 ⟨v, rfl, ho, hb⟩
  have ho : w1.ownsRow w.heap.size 9 1 v 1 (nmCells [(nmG R.gen, (⟨joinR cs, syn⟩ : Fl))]) := ho
  obtain ⟨A, c, rfl⟩ := ownB_slice ho
  exact ⟨A, c, rfl, hb⟩
end
def lbT : List Pr := [(⟨#[107]⟩, ⟨#[115, 111, 109, 101, 46, 118, 97, 108, 117, 101]⟩)]
def xT (s st : Nat) : It := ⟨false, 0, s, 0, ⟨#[120]⟩, lbT, st, 0, 0, 0, 0, 0, 0⟩
theorem xT_ok {s st : Nat} (h : s < 18446744073709551616) (h2 : st < 256) : OkI (xT s st) :=
  ⟨(show 0 < 256 by decide), h, (show 0 < 18446744073709551616 by decide), (show (⟨#[120]⟩ : ByteArray).size ≤ maxLen by decide +kernel), fun i q hq => by
    have hq : lbT[i]? = some q := hq
    match i with
    | 0 =>
      have : (⟨#[107]⟩, ⟨#[115, 111, 109, 101, 46, 118, 97, 108, 117, 101]⟩) = q := by simpa [lbT] using hq
      subst this
      exact ⟨(show (⟨#[107]⟩ : ByteArray).size ≤ maxLen by decide +kernel), (show (⟨#[115, 111, 109, 101, 46, 118, 97, 108, 117, 101]⟩ : ByteArray).size ≤ maxLen by decide +kernel)⟩
    | i + 1 => simp [lbT] at hq, h2, (show 0 < 256 by decide), (show (-9223372036854775808 : Int) ≤ 0 by decide), (show (0 : Int) < 9223372036854775808 by decide), (show 0 < 256 by decide), (show 0 < 256 by decide), (show 0 < 18446744073709551616 by decide), (show 0 < 18446744073709551616 by decide)⟩
theorem xT_short (s st : Nat) : ShortI (xT s st) := ⟨(show (⟨#[120]⟩ : ByteArray).size ≤ 1048576 by decide +kernel), fun i q hq => by
  have hq : lbT[i]? = some q := hq
  match i with
  | 0 =>
    have : (⟨#[107]⟩, ⟨#[115, 111, 109, 101, 46, 118, 97, 108, 117, 101]⟩) = q := by simpa [lbT] using hq
    subst this
    exact ⟨(show (⟨#[107]⟩ : ByteArray).size ≤ 1048576 by decide +kernel), (show (⟨#[115, 111, 109, 101, 46, 118, 97, 108, 117, 101]⟩ : ByteArray).size ≤ 1048576 by decide +kernel)⟩
  | i + 1 => simp [lbT] at hq⟩
theorem xT_len {s st : Nat} (h : s < 16384) : (itemB (xT s st)).length ≤ 25 := by
  have h1 : (leb s).length ≤ 2 := leb_len 1 s (by omega)
  rw [itemB_right]
  show ([0] ++ evB (xT s st)).length ≤ 25
  rw [evB_right]
  have e1 : (textB (xT s st).r).length = 2 := by show (textB ⟨#[120]⟩).length = 2; decide +kernel
  have e2 : (leb (xT s st).l.length ++ labsB (xT s st).l).length = 14 := by show (leb lbT.length ++ labsB lbT).length = 14; decide +kernel
  have e3 : (leb (xT s st).t).length = 1 := by show (leb 0).length = 1; decide +kernel
  have e4 : (leb (zig (xT s st).v)).length = 1 := by show (leb (zig 0)).length = 1; decide +kernel
  have e5 : (leb (xT s st).q).length ≤ 2 := h1
  simp only [List.length_append, List.length_cons, List.length_nil] at e2 ⊢
  omega
theorem xT_nm {s st : Nat} (h : s < 18446744073709551616) (h2 : st < 256) : Nm (xT s st) := ⟨xT_ok h h2, rfl, xT_short s st, (show lbT.length ≤ 1000 by decide)⟩
theorem xT_okB {s st : Nat} (h : s < 18446744073709551616) (h2 : st < 256) : OkB (1 :: itemB (xT s st)) := by
  intro z hz
  rcases List.mem_cons.1 hz with rfl | hz
  · decide
  · exact itemB_ok9 (xT_ok h h2) (xT_short s st) (show lbT.length ≤ 1048576 by decide) z hz
theorem putV_high {X : Sp} {K : List Ett} {s st : Nat} (h : (putV X K (xT s st)).1 = 0) : (putV X K (xT s st)).2.2.2.1.h 0 = s := by
  unfold putV putR at h ⊢
  by_cases h0 : partE (xT s st) X.h = 0
  · rw [if_neg (fun hne => hne h0)] at h ⊢
    simp only at h ⊢
    split at h
    · exact absurd (show (13 : Nat) = 0 from h) (by decide)
    · rename_i hz
      rw [if_neg hz]
      split at h
      · exact absurd (show (6 : Nat) = 0 from h) (by decide)
      · rename_i hy
        rw [if_neg hy]
        show upH X.h (spO (partI (xT s st) X.h)) (spT (partI (xT s st) X.h)) 0 = s
        rw [(part_right h0).2.1]
        unfold upH
        have e1 : spO (xT s st) = 0 := rfl
        rw [e1, if_pos rfl, (part_right h0).2.2.2]
        rfl
  · rw [if_pos h0] at h
    exact absurd h h0
def TZ (w0 w : World) (gd g st q k nb bb hb : Nat) (full : Bool) : Prop :=
  ∃ P R n kk b cs syn, Live w P R n 0 q kk b cs syn ∧ Lw w0 w P ∧ R.gd = gd ∧ R.g = g ∧ R.st = st ∧ R.life = 1 ∧ kk ≤ k ∧ n ≤ nb + 7 * R.gen ∧ b ≤ bb ∧ R.X.h 0 ≤ hb ∧ (full = true → syn = (joinR cs).length ∧ (joinR cs).length ≤ R.first + 4 * q + 1024)
section
variable {w0 w w' : World} {gd g st q k nb bb hb : Nat} {full : Bool}
theorem TZ.below (h : TZ w0 w gd g st q k nb bb hb full) (hb' : Below w.heap.size w w') : TZ w0 w' gd g st q k nb bb hb full := by
  obtain ⟨P, R, n, kk, b, cs, syn, h1, h2, h3⟩ := h
  exact ⟨P, R, n, kk, b, cs, syn, h1.below hb', h2.below hb', h3⟩
theorem TZ.more {k' nb' bb' hb' : Nat} (h : TZ w0 w gd g st q k nb bb hb full) (e1 : k ≤ k') (e2 : nb ≤ nb') (e3 : bb ≤ bb') (e4 : hb ≤ hb') : TZ w0 w gd g st q k' nb' bb' hb' false := by
  obtain ⟨P, R, n, kk, b, cs, syn, h1, h2, h3, h4, h5, h6, h7, h8, h9, h10, -⟩ := h
  exact ⟨P, R, n, kk, b, cs, syn, h1, h2, h3, h4, h5, h6, by omega, by omega, by omega, by omega, fun e => by cases e⟩
theorem tz_first {S : Nat → Prop} {e : Ending} {w1 : World} (h : OplPost w S gd g 0 0 q 0 0 (a0of q) e w') (hb : Below w0.heap.size w0 w) (hS : ∀ k, S k → w0.heap.size ≤ k) (hg : w0.heap.size ≤ g) (_ : w1 = w) :
    ∃ st, e = .returned (.tuple #[.pointer (some ⟨st, 0, none⟩), .int .i64 0]) ∧ TZ w0 w' gd g st q 0 18 19 0 true := by
  obtain ⟨P', R', cs', rfl, h1, h2, h3, h4, h5, h6, h7, h8, h9, h10⟩ := h
  refine ⟨R'.st, rfl, P', R', _, 0, _, cs', _, h1, ⟨fun i k hk => ?_, Only.after hb h3 (fun k hk => hk.elim (hS k) (fun e => by omega))⟩, h9, h10, rfl, h8, Nat.le_refl _, by omega, by omega, ?_, fun _ => ⟨rfl, h4⟩⟩
  · have := hb.size
    rcases h2 i k hk with h | h | h
    · exact hS k h
    · omega
    · omega
  · have e : R'.X.h 0 = 0 := congrFun (congrArg Sp.h h5) 0
    omega
theorem tz_next (h : TZ w0 w gd g st q k nb bb hb full) (hh : hb < 1000000) :
    Calls Tryz.prog 10 #[.pointer (some ⟨st, 0, none⟩)] w fun e w' => ∃ s : Nat, e = .returned (.int .u64 s) ∧ s ≤ hb + 1 ∧ Below w.heap.size w w' := by
  obtain ⟨P, R, n, kk, b, cs, syn, h1, h2, h3, h4, h5, h6, h7, h8, h9, h10, -⟩ := h
  rw [← h5]
  refine (sto_next w h1.st (by rw [h1.sf]; decide) (by rw [h1.sf]; omega)).mono ?_
  rintro _ w' ⟨rfl, hb'⟩
  exact ⟨_, rfl, by rw [h1.sf]; omega, hb'⟩
theorem tz_put {w1 : World} {s sv : Nat} {A : Option Addr} {c : Nat} (h : TZ w0 w gd g st q k nb bb hb full) (hb1 : Below w.heap.size w w1) (hs : s ≤ hb + 1) (hh : hb + 1 < 16384) (hsv : sv < 256) (hk : k + 1 ≤ 1000) (hbb : bb + 34 ≤ 13000) (hn : nb ≤ 2000) (hA : A = none → lbT.length = 0) (hr : RdP w1 w1.heap.size A lbT) (hnew : ∀ a, A = some a → w.heap.size ≤ a.block) :
    Calls Tryz.prog 11 #[.pointer (some ⟨st, 0, none⟩), .agg (itC (xT s sv) A c).toArray] w1 fun e w' => ∃ (x y : Nat) (z : Nat), e = .returned (.tuple #[.int .u64 x, .int .u64 y, .int .i64 z]) ∧ TZ w0 w' gd g st q (k + 1) (nb + 1) (bb + 34) (hb + 1) false := by
  obtain ⟨P, R, n, kk, b, cs, syn, h1, h2, h3, h4, h5, h6, h7, h8, h9, h10, -⟩ := h
  have hlen := xT_len (s := s) (st := sv) (by omega)
  have hg := h1.lv.gen_lt
  have hge := h1.lv.ge
  have hb2 := h1.lv.b2
  have hfl := h1.lv.fl
  have hn2 : n ≤ 3000 := by omega
  have hap : ∀ a, A = some a → 0 < lbT.length → ∀ i, ¬ P i a.block := fun a ha _ i hi => by
    have := h1.st.own.lt i _ hi
    have := hnew a ha
    omega
  have h1 := h1.below hb1
  have h2 := h2.below hb1
  rw [← h5]
  refine (live_put (xT s sv) A c h1 hn2 ⟨xT_ok (by omega) hsv, xT_short _ _, (show lbT.length ≤ 1000 by decide), by omega⟩ (xT_nm (by omega) hsv) hA ⟨hr, hap⟩ (by omega) (xT_okB (by omega) hsv) (by omega) (by omega)).mono ?_
  rintro e w' (⟨e1, e2, e3⟩ | ⟨e1, e2, P', R', e3, e4, e5, e6, e7, e8, hgen⟩)
  · exact ⟨0, 0, _, e2, P, R, n, kk, b, cs, syn, h1.below e3, h2.below e3, h3, h4, rfl, h6, by omega, by omega, by omega, by omega, fun e => by cases e⟩
  · refine ⟨_, _, 0, e2, P', R', n + 1, kk + 1, _, _, syn, e3, h2.mv e4, by rw [e6, h3], by rw [e7, h4], by rw [e8], ?_, by omega, by rw [hgen]; omega, by omega, ?_, fun e => by cases e⟩
    · have : R'.ab.m = R.ab.m := by rw [e5]; rfl
      exact (show R'.life = R.life from this).trans h6
    · have e9 : R'.ab.X.h 0 = s := by
        rw [e5]
        exact putV_high e1
      have e10 : R'.X.h 0 = s := e9
      omega
theorem tz_sync (h : TZ w0 w gd g st q k nb bb hb full) (hn : nb ≤ 1300) :
    Calls Tryz.prog 13 #[.pointer (some ⟨st, 0, none⟩)] w fun e w' => e = .returned (.int .i64 0) ∧ TZ w0 w' gd g st q k (nb + 1) bb hb true := by
  obtain ⟨P, R, n, kk, b, cs, syn, h1, h2, h3, h4, h5, h6, h7, h8, h9, h10, -⟩ := h
  have hg := h1.lv.gen_lt
  rw [← h5]
  refine (live_sync2 h1 (by omega)).mono ?_
  rintro _ w' ⟨rfl, P', R', cs', n', e1, e2, e3, e4, e5, e6, e7, e8, e9, e10, e11⟩
  refine ⟨rfl, P', R', n', kk, b, cs', _, e1, h2.mv e2, by rw [e9, h3], by rw [e10, h4], by rw [e11], by rw [e8, h6], h7, by omega, h9, ?_, fun _ => ⟨rfl, e4⟩⟩
  have e12 : R'.X.h 0 = R.X.h 0 := congrFun (congrArg Sp.h e5) 0
  omega
theorem tz_sizes (h : TZ w0 w gd g st q k nb bb hb true) :
    ∃ z1 z2 ge : Nat, z1 ≤ z2 ∧ z2 ≤ 1000000 ∧ (∀ W, Below w.heap.size w W → Calls Tryz.prog 14 #[.pointer (some ⟨st, 0, none⟩)] W fun e w' => e = .returned (.tuple #[.int .i64 z1, .int .u64 ge]) ∧ Below W.heap.size W w') ∧
      (∀ W, Below w.heap.size w W → Calls Tryz.prog 15 #[.pointer (some ⟨st, 0, none⟩)] W fun e w' => e = .returned (.int .i64 z2) ∧ Below W.heap.size W w') := by
  obtain ⟨P, R, n, kk, b, cs, syn, h1, h2, h3, h4, h5, h6, h7, h8, h9, h10, h11⟩ := h
  have hz : R.first ≤ 16920 := h1.lv.fz
  have hq := h1.lv.q2
  refine ⟨_, R.first + 4 * q + 1024, R.gen, (h11 rfl).2, by omega, fun W hW => ?_, fun W hW => ?_⟩
  · rw [← h5]; exact live_sizes (h1.below hW)
  · rw [← h5]; exact live_room (h1.below hW)
theorem tz_names (h : TZ w0 w gd g st q k nb bb hb full) :
    Calls Tryz.prog 16 #[.pointer (some ⟨gd, 0, none⟩)] w fun e w' => ∃ A c, e = .returned (.slice A 1 c) ∧ Below w.heap.size w w' := by
  obtain ⟨P, R, n, kk, b, cs, syn, h1, h2, h3, h4, h5, h6, h7, h8, h9, h10, h11⟩ := h
  rw [← h3]
  exact live_names h1
theorem tz_spool (h : TZ w0 w gd g st q k nb bb hb full) :
    Calls Tryz.prog 17 #[.pointer (some ⟨st, 0, none⟩)] w fun e w' => ∃ sq S X L, e = .returned (.pointer (some ⟨sq, 0, none⟩)) ∧ SpAt w' S sq X L ∧ 1 ≤ X.n ∧ X.n ≤ 100000 ∧ Below w.heap.size w w' := by
  obtain ⟨P, R, n, kk, b, cs, syn, h1, h2, h3, h4, h5, h6, h7, h8, h9, h10, h11⟩ := h
  rw [← h5]
  refine (sto_spool w h1.st).mono ?_
  rintro _ w' ⟨sq, S, rfl, hs, -, hb'⟩
  have hok := h1.lv.lg.al.fc.ok
  have e1 : 1 ≤ R.X.n := hok.n1
  have e2 : R.X.n ≤ kk + 1 := hok.nk
  have e3 := h1.lv.k2
  exact ⟨sq, S, R.X, R.L, rfl, hs, e1, by omega, hb'⟩
theorem tz_ack {N : Nat} (h : TZ w0 w gd g st q k nb bb hb full) (hN : N < 18446744073709551616) (hbb : bb + 19 ≤ 13000) (hn : nb ≤ 2000) :
    Calls Tryz.prog 19 #[.pointer (some ⟨st, 0, none⟩), .int .u64 N] w fun e w' => ∃ z : Int, e = .returned (.int .i64 z) ∧ TZ w0 w' gd g st q k (nb + 1) (bb + 19) hb false := by
  obtain ⟨P, R, n, kk, b, cs, syn, h1, h2, h3, h4, h5, h6, h7, h8, h9, h10, h11⟩ := h
  have hg := h1.lv.gen_lt
  rw [← h5]
  refine (live_ack N hN h1 (by omega) (by omega)).mono ?_
  rintro e w' ⟨P', R', cs', z, rfl, e1, e2, e3, e4, e5, e6, e7, e8⟩
  refine ⟨z, rfl, P', R', n + 1, kk, b + 19, cs', syn, e1, h2.mv e2, by rw [e4, h3], by rw [e5, h4], by rw [e6], by rw [e3, h6], h7, by rw [e8]; omega, by omega, ?_, fun e => by cases e⟩
  have e12 : R'.X.h 0 = R.X.h 0 := congrFun e7 0
  omega
end
end Go.Proofs.YtholdcgkhicdmaaGreatDoor
