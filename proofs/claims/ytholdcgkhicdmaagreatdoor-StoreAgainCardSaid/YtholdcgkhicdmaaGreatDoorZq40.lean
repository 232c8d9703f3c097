/- Several texts in one: StName, StSn3, StFil. -/
import Derived.Lib.ParseIntB
import Derived.Test.YtholdcgkhicdmaaGreatDoorZq39
namespace Go.Proofs.YtholdcgkhicdmaaGreatDoor
open Go.RowKit
def decS (k : Nat) : ByteArray := ⟨(Lib.decDigits k).toArray⟩
def nmG (k : Nat) : ByteArray := (⟨#[115, 46]⟩ : ByteArray) ++ decS k
def nmO : ByteArray := ⟨#[111, 116, 104, 101, 114]⟩
theorem dec_parse : ∀ k, k < 100 → Lib.parseUintB 64 (Lib.decDigits k) = .ok k := by decide +kernel
theorem dec_trim : ∀ k, k < 100 → Lib.trimPrefix (nmG k).data.toList [115, 46] = Lib.decDigits k := by decide +kernel
theorem nmG_len : ∀ k, k < 100 → (nmG k).size ≤ 4 ∧ (decS k).size ≤ 2 := by decide +kernel
theorem nmO_syntax : Lib.parseUintB 64 (Lib.trimPrefix nmO.data.toList [115, 46]) = Lib.NumEnd.syntax := by decide +kernel
theorem nmG_inj : ∀ j, j < 100 → ∀ k, k < 100 → nmG j = nmG k → j = k := fun j hj k hk h => by
 have h1 := dec_parse j hj
 have h2 := dec_parse k hk
 rw [← dec_trim j hj, h, dec_trim k hk, h2] at h1
 injection h1 with h1
 exact h1.symm
set_option maxRecDepth 100000 in
set_option maxHeartbeats 400000 in
theorem format_any (k : Nat) (hk : k < 100) (w : World) :
  Calls Tryz.prog 101 #[.int .u64 k, .int .i64 10] w fun e w' => e = .returned (.string (decS k)) ∧ w = w' := by
 have h1 : Calls Tryz.prog 145 #[.int .u64 k, .int .i64 10] w fun e w' => e = .returned (.string (decS k)) ∧ w = w' := by
  have HS := Lib.hid (Tryz.internal_strconv_small k hk w)
  have d1 : decide ((k : Int) < 100) = true := decide_eq_true (by omega)
  go_enter Tryz.func145, Tryz.ntmps145
  go_wp2_with fail
  refine HS.out.mono ?_
  rintro _ w1 ⟨rfl, hw1⟩
  obtain rfl : w = w1 := hw1.symm
  go_wp2
  go_ret
  exact ⟨rfl, rfl⟩
 have H := Lib.hid h1
 clear h1
 go_enter Tryz.func101, Tryz.ntmps101
 go_wp2_with fail
 refine H.out.mono ?_
 rintro _ w1 ⟨rfl, rfl⟩
 go_wp2
 go_ret
 exact ⟨rfl, rfl⟩
set_option maxRecDepth 100000 in
set_option maxHeartbeats 400000 in
theorem fileName_any (k : Nat) (hk : k < 100) (w : World) :
  Calls Tryz.prog 60 #[.int .u64 k] w fun e w' => e = .returned (.string (nmG k)) ∧ w = w' := by
 have H := Lib.hid (format_any k hk w)
 go_enter Tryz.func60, Tryz.ntmps60
 go_wp2_with fail
 refine H.out.mono ?_
 rintro _ w1 ⟨rfl, rfl⟩
 have d1 : ¬ 9223372036854775807 < 2 + (decS k).size := by have := (nmG_len k hk).2; omega
 go_wp2
 go_ret
 exact ⟨rfl, rfl⟩
def GN (s : ByteArray) (o : Option Nat) : Prop := (∃ k, k < 100 ∧ s = nmG k ∧ o = some k) ∨ (s = nmO ∧ o = none)
def genV (o : Option Nat) : Value := match o with
 | none => .tuple #[.int .u64 0, .bool false]
 | some k => .tuple #[.int .u64 k, .bool true]
set_option maxRecDepth 100000 in
set_option maxHeartbeats 400000 in
theorem generation_any {ev : Value} {s : ByteArray} {o : Option Nat} (w : World) (h : GN s o) (hv : w.cell? ⟨1, 0, none⟩ = some ev) (hev : ev = .nilIface ∨ ∃ te pe, ev = .iface te pe) :
  Calls Tryz.prog 98 #[.string s] w fun e w' => e = .returned (genV o) ∧ Below w.heap.size w w' := by
 rcases h with ⟨k, hk, rfl, rfl⟩ | ⟨rfl, rfl⟩
 ·have HT := Lib.hid (Tryz.strings_TrimPrefix (nmG k) ⟨#[115, 46]⟩ w)
  have HP := Lib.hid (Tryz.strconv_ParseUint_10_at64_ok (decS k) (by have := (nmG_len k hk).2; omega) k (dec_parse k hk) w)
  have HE : Hid ((⟨(Lib.trimPrefix (nmG k).data.toList [115, 46]).toArray⟩ : ByteArray) = decS k) := by show _ = _; rw [dec_trim k hk]; rfl
  go_enter Tryz.func98, Tryz.ntmps98
  go_wp2_with fail
  refine HT.out.mono ?_
  rintro _ w1 ⟨rfl, hw1⟩
  obtain rfl : w = w1 := hw1.symm
  rw [show (⟨(Lib.trimPrefix (nmG k).data.toList (⟨#[115, 46]⟩ : ByteArray).data.toList).toArray⟩ : ByteArray) = decS k from HE.out]
  go_wp2_with fail
  refine HP.out.mono ?_
  rintro _ w1 ⟨rfl, hw⟩
  have hb : Below w.heap.size w w1 := by
   rcases hw with rfl | rfl
   ·exact Below.refl _ _
   ·exact Lib.bytesWorld_below _ _ _
  have HB := Lib.hid hb
  have HF := Lib.hid (fileName_any k hk w1)
  clear hw hb HT HP HE
  go_wp2_with fail
  refine HF.out.mono ?_
  rintro _ w2 ⟨rfl, rfl⟩
  go_wp2
  go_ret2
  exact ⟨rfl, HB.out⟩
 ·have HT := Lib.hid (Tryz.strings_TrimPrefix nmO ⟨#[115, 46]⟩ w)
  obtain ⟨t, ht⟩ : ∃ t : ByteArray, t = ⟨(Lib.trimPrefix nmO.data.toList [115, 46]).toArray⟩ := ⟨_, rfl⟩
  have hsz : t.size ≤ 281474976710656 := by rw [ht]; decide +kernel
  have hsy : Lib.parseUintB 64 t.data.toList = Lib.NumEnd.syntax := by rw [ht]; exact nmO_syntax
  have HP := Lib.hid (Tryz.strconv_ParseUint_10_at64_syntax t hsz hsy ev w hv hev)
  have HE := Lib.hid ht
  clear ht hsz hsy hv hev
  go_enter Tryz.func98, Tryz.ntmps98
  go_wp2_with fail
  refine HT.out.mono ?_
  rintro _ w1 ⟨rfl, hw1⟩
  obtain rfl : w = w1 := hw1.symm
  rw [show (⟨(Lib.trimPrefix nmO.data.toList (⟨#[115, 46]⟩ : ByteArray).data.toList).toArray⟩ : ByteArray) = t from HE.out.symm]
  go_wp2_with fail
  refine HP.out.mono ?_
  rintro _ w1 ⟨N, rfl, -, -, hb⟩
  have HB := Lib.hid hb
  clear hb HT HP
  go_wp2
  go_ret2
  exact ⟨rfl, HB.out⟩
theorem ent124 : ∀ args w, (callFunc 124 args).run Tryz.prog w = .ok (.enter 124 args) w := Go.Proofs.enters_of Tryz.func124 (by kernel_rfl) rfl
structure SnOk (R : Rc) : Prop where
 n : R.X.n < 18446744073709551616
 a : R.X.a < 18446744073709551616
 v : R.X.v < 18446744073709551616
 h : ∀ i, i < 32 → R.X.h i < 18446744073709551616
 m : R.life < 18446744073709551616
 L : R.L.length ≤ 100000
 F : R.F.length ≤ 100000
 len : (snapB R.life R.X R.L (R.F.map (·.x))).length ≤ 28000
set_option maxRecDepth 100000 in
set_option maxHeartbeats 1000000 in
theorem snapshot_any {P : Nat → Nat → Prop} {R : Rc} {n : Nat} (w : World) (h : Sto w P R n) (ho : SnOk R) :
  Calls Tryz.prog 85 #[.pointer (some ⟨R.st, 0, none⟩)] w fun e w' => ∃ A c k, e = .returned (.slice A k c) ∧ k = (snapB R.life R.X R.L (R.F.map (·.x))).length + 1 ∧ w'.ownsRow w.heap.size 5 1 (.slice A k c) k (cellsB (4 :: snapB R.life R.X R.L (R.F.map (·.x)))) ∧ Below w.heap.size w w' := by
 obtain ⟨w0, hw0⟩ : ∃ V, V = w.alloc (.cells #[.pointer (some ⟨R.st, 0, none⟩)] 30) := ⟨_, rfl⟩
 have hb0 : Below w.heap.size w w0 := by rw [hw0]; exact (Below.refl _ _).alloc (Nat.le_refl _) _
 have hc0 : w0.cell? ⟨w.heap.size, 0, none⟩ = some (.pointer (some ⟨R.st, 0, none⟩)) := by rw [hw0, World.cell?_alloc_at _ _ _ _ rfl]; rfl
 have hpl : w.heap.size < w0.heap.size := by rw [hw0]; simp
 have hs0 := h.below hb0
 have hrec := record_any 4 124 ent124 ⟨w.heap.size, 0, none⟩ (snapB R.life R.X R.L (R.F.map fun e : Ett => e.x)) w0 (by have := ho.len; omega) (fun g v w1 hb hg hw => fill_snap w.heap.size g v w0 w1 hs0 hb hg hc0 hpl hw ⟨ho.n, ho.a, ho.v, ho.h⟩ (by have := ho.len; omega) ho.m ho.L ho.F)
 have HR := Lib.hid hrec
 have HB0 := Lib.hid hb0
 have HW0 := Lib.hid hw0
 clear hrec hb0 hc0 hpl hs0 hw0 h ho
 go_enter Tryz.func85, Tryz.ntmps85
 go_wp2_with fail
 rw [← HW0.out]
 refine HR.out.mono ?_
 rintro _ w1 ⟨A, c, rfl, ho, hb⟩
 obtain ⟨k, hk⟩ : ∃ k, k = (snapB R.life R.X R.L (R.F.map (·.x))).length + 1 := ⟨_, rfl⟩
 rw [← hk] at ho ⊢
 have HK := Lib.hid hk
 have HO := Lib.hid (ownB_mono ho HB0.out.size)
 have HB := Lib.hid (HB0.out.trans (hb.mono HB0.out.size))
 clear ho hb hk
 go_wp2
 go_ret
 exact ⟨A, c, k, rfl, HK.out, HO.out, HB.out⟩
section
variable {w w' : World} {P : Nat → Nat → Prop} {R : Rc} {n : Nat} {LL' : List (ByteArray × Fl)}
theorem Sto.leaves (h : Sto w P R n) {wr sy : Nat} (hl : Leaves w w' (P 0) R.gd LL' wr sy) (h1 : wr ≤ n + 1) (h2 : sy ≤ n + 1) : ∃ P', Sto w' P' { R with LL := LL' } (n + 1) ∧ Mv6 w P w' P' ∧ ∀ i, i ≠ 0 → P' i = P i := by
 obtain ⟨S', hd, hs⟩ := hl
 obtain ⟨d, t, b, b1, b2, b3, b4⟩ := h.dt.tab
 have hgP : ¬ P 0 R.g := fun h' => by have := h.own.sep 0 1 _ h' h.p1; omega
 obtain ⟨x1, x2⟩ := h.disk hs (m := n + 1) ⟨⟨wr, sy, h1, h2, hd⟩, ⟨d, t, b, b1, by omega, by omega, b4.only hs.only hgP⟩⟩
 exact ⟨_, x1, x2, fun i hi => by unfold upd; rw [if_neg hi]⟩
theorem Sto.op {fn : FuncId} {args : Array Value} {v : Value} (h : Sto w P R n) (hc : ∀ wr sy, wr ≤ n → sy ≤ n → Disk w (P 0) R.gd R.LL wr sy → Calls Tryz.prog fn args w fun e w' => e = .returned v ∧ ∃ wr' sy', wr' ≤ n + 1 ∧ sy' ≤ n + 1 ∧ Leaves w w' (P 0) R.gd LL' wr' sy') :
  Calls Tryz.prog fn args w fun e w' => e = .returned v ∧ ∃ P', Sto w' P' { R with LL := LL' } (n + 1) ∧ Mv6 w P w' P' ∧ ∀ i, i ≠ 0 → P' i = P i := by
 obtain ⟨wr, sy, a1, a2, a3⟩ := h.dt.dk
 refine (hc wr sy a1 a2 a3).mono ?_
 rintro _ w' ⟨rfl, wr', sy', h1, h2, h3⟩
 exact ⟨rfl, h.leaves h3 h1 h2⟩
theorem sto_append {s : ByteArray} {B : Option Addr} {m d : Nat} {l : List Nat} (h : Sto w P R n) (hv : valueB s = true) (hs : s.size ≤ maxLen) (hfew : findP R.LL s = none → R.LL.length < 64) (hm : m = l.length) (hok : OkB l) (hmax : (had R.LL s).by_.length + m ≤ 1048576) (hr : RdB w w.heap.size B l) (hn : n ≤ 1000000) :
  Calls Tryz.prog 28 #[.pointer (some ⟨R.gd, 0, none⟩), .string s, .slice B m d] w fun e w' => e = .returned (.int .i64 0) ∧ ∃ P', Sto w' P' { R with LL := putP R.LL s ⟨(had R.LL s).by_ ++ l, (had R.LL s).syn⟩ } (n + 1) ∧ Mv6 w P w' P' ∧ ∀ i, i ≠ 0 → P' i = P i :=
 h.op fun wr sy h1 h2 hd => (append_ok w hd hv hs hfew hm hok hmax hr (by omega)).mono fun _ _ ⟨e, hl⟩ => ⟨e, wr + 1, sy, by omega, by omega, hl⟩
theorem sto_sync {s : ByteArray} {f : Fl} (h : Sto w P R n) (hs : s.size ≤ maxLen) (hf : findP R.LL s = some f) (hn : n ≤ 1000000) :
  Calls Tryz.prog 87 #[.pointer (some ⟨R.gd, 0, none⟩), .string s] w fun e w' => e = .returned (.int .i64 0) ∧ ∃ P', Sto w' P' { R with LL := putP R.LL s ⟨f.by_, f.by_.length⟩ } (n + 1) ∧ Mv6 w P w' P' ∧ ∀ i, i ≠ 0 → P' i = P i :=
 h.op fun wr sy h1 h2 hd => (sync_some w hd hs hf (by omega)).mono fun _ _ ⟨e, hl⟩ => ⟨e, wr, sy + 1, by omega, by omega, hl⟩
theorem sto_rename {s t : ByteArray} {f : Fl} (h : Sto w P R n) (hs : s.size ≤ maxLen) (ht : t.size ≤ maxLen) (hf : findP R.LL s = some f) (hv : valueB t = true) :
  Calls Tryz.prog 88 #[.pointer (some ⟨R.gd, 0, none⟩), .string s, .string t] w fun e w' => e = .returned (.int .i64 0) ∧ ∃ P', Sto w' P' { R with LL := putP (delP R.LL s) t f } (n + 1) ∧ Mv6 w P w' P' ∧ ∀ i, i ≠ 0 → P' i = P i :=
 h.op fun wr sy h1 h2 hd => (rename_some w hd hs ht hf hv).mono fun _ _ ⟨e, hl⟩ => ⟨e, wr, sy, by omega, by omega, hl⟩
theorem sto_remove {s : ByteArray} {f : Fl} (h : Sto w P R n) (hs : s.size ≤ maxLen) (hf : findP R.LL s = some f) :
  Calls Tryz.prog 86 #[.pointer (some ⟨R.gd, 0, none⟩), .string s] w fun e w' => e = .returned (.int .i64 0) ∧ ∃ P', Sto w' P' { R with LL := delP R.LL s } (n + 1) ∧ Mv6 w P w' P' ∧ ∀ i, i ≠ 0 → P' i = P i :=
 h.op fun wr sy h1 h2 hd => (remove_some w hd hs hf).mono fun _ _ ⟨e, hl⟩ => ⟨e, wr, sy, by omega, by omega, hl⟩
theorem sto_remove_none {s : ByteArray} (h : Sto w P R n) (hs : s.size ≤ maxLen) (hf : findP R.LL s = none) :
  Calls Tryz.prog 86 #[.pointer (some ⟨R.gd, 0, none⟩), .string s] w fun e w' => e = .returned (.int .i64 14) ∧ Below w.heap.size w w' := by
 obtain ⟨wr, sy, a1, a2, a3⟩ := h.dt.dk
 exact remove_none s w a3 hs hf
theorem sto_lay {A : Option Addr} {m c : Nat} {l : List Nat} (h : Sto w P R n) (hn : n ≤ 3000) (hm : m = l.length) (hl : m ≤ 29990) (hr : RdB w w.heap.size A l) (hok : OkB l) (hA : ∀ a, A = some a → ∀ i, ¬ P i a.block) :
  Calls Tryz.prog 84 #[.pointer (some ⟨R.g, 0, none⟩), .slice A m c] w fun e w' => ∃ v, e = .returned (.tuple #[v, .int .i64 0]) ∧ w'.ownsRow w.heap.size 5 1 v (m + 8) (cellsB (laidR l)) ∧ ∃ P', Sto w' P' R (n + 1) ∧ Mv6 w P w' P' ∧ ∀ i, P' i = P i := by
 obtain ⟨wr, sy, a1, a2, a3⟩ := h.dt.dk
 obtain ⟨d, t, b, b1, b2, b3, b4⟩ := h.dt.tab
 have hgP : ¬ P 0 R.g := fun h' => by have := h.own.sep 0 1 _ h' h.p1; omega
 refine (jlay_any R.g d t b b1 A m c l w.heap.size w b4 hm (by omega) (by omega) (by omega) hr (Nat.le_refl _) hok (fun _ a ha e => hA a ha 1 (by rw [e]; exact h.p1))).mono ?_
 rintro _ w1 ⟨v, rfl, hown, hti, hT⟩
 have ho : Only (fun k => P 0 k ∨ k = R.g) w w1 := ⟨hti.only.os, hti.only.tape, hti.only.output, hti.only.size, fun i hi hne => hti.only.block i hi (fun e => hne (.inr e))⟩
 have hon : Only (fun k => k = R.g) w w1 := hti.only
 obtain ⟨x1, x2⟩ := h.disks (S' := P 0) (LL' := R.LL) (m := n + 1) ho (fun k hk => .inl hk) ⟨⟨wr, sy, by omega, by omega, a3.keep hon (fun i hi e => hgP (by have e : i = R.g := e; rw [e] at hi; exact hi))⟩, ⟨1, t + 1, b + 4 + m, Nat.le_refl _, by omega, by omega, hT⟩⟩
 exact ⟨v, rfl, hown, _, x1, x2, fun i => by
  unfold upd
  by_cases hi : i = 0
  ·rw [if_pos hi, hi]
  ·rw [if_neg hi]⟩
end
section
variable {α : Type} {a b c : ByteArray} {f x y z : α}
theorem delP_put (l : List (ByteArray × α)) (s : ByteArray) (x : α) : delP (putP l s x) s = delP l s := delP_ins (x := (s, x)) fun _ hp => (mem_delP.1 hp).2
theorem delP_ne (h : a ≠ c) : delP [(a, f)] c = [(a, f)] := delP_no fun p hp => by rw [List.mem_singleton] at hp; rw [hp]; exact h
theorem findP_ne (h : a ≠ c) : findP [(a, f)] c = none := by simp [findP, eqS_no h]
theorem put_two (h : a ≠ b) (y : α) : putP [(a, f)] b y = [(a, f), (b, y)] ∨ putP [(a, f)] b y = [(b, y), (a, f)] := by
 unfold putP
 rw [delP_ne h]
 unfold insP
 split
 ·exact .inr rfl
 ·exact .inl rfl
theorem find_two (h : a ≠ b) : findP (putP [(a, f)] b y) a = some f := by
 rcases put_two (f := f) h y with e | e <;> rw [e]
 ·simp [findP, eqS_refl]
 ·simp [findP, eqS_refl, eqS_no (Ne.symm h)]
theorem del_two (h : a ≠ b) : delP (putP [(a, f)] b y) a = [(b, y)] := by
 rcases put_two (f := f) h y with e | e <;> rw [e]
 ·simp [delP, eqS_refl, eqS_no (Ne.symm h)]
 ·simp [delP, eqS_refl, eqS_no (Ne.symm h)]
theorem put_one9 : putP [(b, y)] b z = [(b, z)] := by simp [putP, delP, insP, eqS_refl]
end
section
variable {w0 w w' : World} {P0 P : Nat → Nat → Prop} {R : Rc} {n : Nat}
theorem Sto.file (h : Sto w P R n) (hm : Mv6 w0 P0 w P) {jb : Nat} {nm : ByteArray} (hj : JAt w jb R.gd R.g nm) (hjl : jb < w.heap.size) (hj0 : w0.heap.size ≤ jb) (hjP : ∀ i, ¬ P i jb)
  (hL : ∀ e ∈ R.L, ∀ a, e.A = some a → 0 < e.x.l.length → a.block ≠ jb) (hF : ∀ e ∈ R.F, ∀ a, e.A = some a → 0 < e.x.l.length → a.block ≠ jb) :
  Sto (w.setCell ⟨R.st, 2, none⟩ (.pointer (some ⟨jb, 0, none⟩))) (upd P 3 fun k => k = jb) { R with jb := jb, nm := nm } n ∧ Mv6 w0 P0 (w.setCell ⟨R.st, 2, none⟩ (.pointer (some ⟨jb, 0, none⟩))) (upd P 3 fun k => k = jb) := by
 have hon : Only (P 2) w (w.setCell ⟨R.st, 2, none⟩ (.pointer (some ⟨jb, 0, none⟩))) := Only.setCell _ _ _ h.p2
 have hb : ∀ {j k : Nat}, P j k → j ≠ 2 → ¬ P 2 k := fun hj hn h' => hn (h.own.sep _ _ _ hj h')
 have hm' : Mv6 w0 P0 (w.setCell ⟨R.st, 2, none⟩ (.pointer (some ⟨jb, 0, none⟩))) (upd P 3 fun k => k = jb) := ⟨hm.only.trans hon (fun i hi => hm.new 2 i hi), fun i k hk => by
  unfold upd at hk
  by_cases hi : i = 3
  ·rw [if_pos hi] at hk; have hk : k = jb := hk; exact .inr (by omega)
  ·rw [if_neg hi] at hk; exact hm.new i k hk⟩
 have hU : ∀ {A : Option Addr} {l : List Pr}, Lb w P A l → (∀ a, A = some a → 0 < l.length → a.block ≠ jb) → Lb (w.setCell ⟨R.st, 2, none⟩ (.pointer (some ⟨jb, 0, none⟩))) (upd P 3 fun k => k = jb) A l := fun hl hne =>
  ⟨hon.rdP hl.rd (fun a ha h0 => hl.ap a ha h0 2), fun a ha h0 i hi => by
   unfold upd at hi
   by_cases hi3 : i = 3
   ·rw [if_pos hi3] at hi; exact hne a ha h0 hi
   ·rw [if_neg hi3] at hi; exact hl.ap a ha h0 i hi⟩
 refine ⟨⟨⟨fun a b k ha hb' => ?_, fun a k ha => ?_⟩, h.dt.only hon (fun k hk => hb hk (by decide)) (hb h.p1 (by decide)), h.p1, h.p2, rfl, ?_, ?_, ?_, ?_, hon.own h.fr (fun k hk => hb (h.fP k hk) (by decide)), h.fP, fun e he => ?_⟩, hm'⟩
 ·unfold upd at ha hb'
  by_cases h1 : a = 3 <;> by_cases h2 : b = 3
  ·rw [h1, h2]
  ·rw [if_pos h1] at ha; rw [if_neg h2] at hb'
   have ha : k = jb := ha
   rw [ha] at hb'
   exact absurd hb' (hjP b)
  ·rw [if_neg h1] at ha; rw [if_pos h2] at hb'
   have hb' : k = jb := hb'
   rw [hb'] at ha
   exact absurd ha (hjP a)
  ·rw [if_neg h1] at ha; rw [if_neg h2] at hb'; exact h.own.sep _ _ _ ha hb'
 ·unfold upd at ha
  by_cases h1 : a = 3
  ·rw [if_pos h1] at ha; have ha : k = jb := ha; rw [ha]; exact Nat.lt_of_lt_of_le hjl hon.size
  ·rw [if_neg h1] at ha; exact Nat.lt_of_lt_of_le (h.own.lt a k ha) hon.size
 ·exact heap_setCell_same _ R.st 2 _ _ _ h.blk
 ·exact hj.only hon (hjP 2)
 ·exact h.sp.keep hon (fun k hk => hb hk (by decide)) (fun e he a ha h0 => h.lab e he a ha h0 2)
 ·intro e he a ha h0 i hi
  unfold upd at hi
  by_cases hi3 : i = 3
  ·rw [if_pos hi3] at hi; exact hL e he a ha h0 hi
  ·rw [if_neg hi3] at hi; exact h.lab e he a ha h0 i hi
 ·have q := h.fok e he
  exact ⟨q.m, q.g, q.z, q.nil, hU q.lb (hF e he)⟩
theorem Sto.file_low (h : Sto w P R n) {jb : Nat} (hj : w.heap.size ≤ jb) : (∀ i, ¬ P i jb) ∧ (∀ e ∈ R.L, ∀ a, e.A = some a → 0 < e.x.l.length → a.block ≠ jb) ∧ (∀ e ∈ R.F, ∀ a, e.A = some a → 0 < e.x.l.length → a.block ≠ jb) :=
 ⟨fun i hi => by have := h.own.lt i _ hi; omega, fun e he a ha h0 => by have := rdP_lt (h.sp.ent e he).rd ha h0; omega, fun e he a ha h0 => by have := rdP_lt (h.fok e he).lb.rd ha h0; omega⟩
theorem sto_jopen {s : ByteArray} {f : Fl} (h : Sto w P R n) (hn : n ≤ 3000) (hs : s.size ≤ maxLen) (hf : findP R.LL s = some f) (hl : f.by_.length ≤ 29000) :
  Calls Tryz.prog 59 #[.pointer (some ⟨R.gd, 0, none⟩), .pointer (some ⟨R.g, 0, none⟩), .string s] w fun e w' => ∃ v, e = .returned (.tuple #[.pointer (some ⟨w.heap.size, 0, none⟩), v, .int .i64 0]) ∧ ∃ P', Sto w' P' { R with LL := putP R.LL s ⟨f.by_.take (scanJ f.by_).2, (scanJ f.by_).2⟩ } (n + 1) ∧ Mv6 w P w' P' ∧ JAt w' w.heap.size R.gd R.g s ∧ ∀ i, ¬ P' i w.heap.size := by
 obtain ⟨wr, sy, a1, a2, a3⟩ := h.dt.dk
 obtain ⟨d, t, b, b1, b2, b3, b4⟩ := h.dt.tab
 have hgP : ¬ P 0 R.g := fun h' => by have := h.own.sep 0 1 _ h' h.p1; omega
 refine (jopen_rows s f w a3 b4 b1 hgP (by omega) (by omega) hs hf (by omega)).mono ?_
 rintro _ w' ⟨v, S', rfl, -, -, hSn, ho⟩
 obtain ⟨d', t', b', c1, c2, c3, c4⟩ := ho.tab
 obtain ⟨x1, x2⟩ := h.disks ho.only ho.new (m := n + 1) (LL' := putP R.LL s ⟨f.by_.take (scanJ f.by_).2, (scanJ f.by_).2⟩) ⟨⟨wr, sy + 1, by omega, by omega, ho.dk⟩, ⟨d', t', b', c1, by omega, by omega, c4⟩⟩
 refine ⟨v, rfl, _, x1, x2, ho.jat, fun i hi => ?_⟩
 unfold upd at hi
 by_cases h0 : i = 0
 ·rw [if_pos h0] at hi; exact hSn hi
 ·rw [if_neg h0] at hi; exact (h.file_low (Nat.le_refl _)).1 i hi
end
end Go.Proofs.YtholdcgkhicdmaaGreatDoor