/- Several texts in one: StSz, StLiv, StOpl, SpAwake. -/
import Derived.Test.YtholdcgkhicdmaaGreatDoorZt44
namespace Go.Proofs.YtholdcgkhicdmaaGreatDoor
open Go.RowKit
theorem entsB_len : ∀ {K : List Ett}, (∀ e ∈ K, e.i < 18446744073709551616) → (entsB K).length ≤ 10 * K.length + sumE K
  | [], _ => Nat.zero_le _
  | e :: K, h => by
    have ih := entsB_len (K := K) fun x hx => h x (List.mem_cons_of_mem _ hx)
    have h1 := leb_le10 (h e List.mem_cons_self)
    have h2 : entsB (e :: K) = (leb e.i ++ itemB e.x) ++ entsB K := by simp [entsB]
    rw [h2, List.length_append, List.length_append, sumE_cons, List.length_cons]
    omega
theorem snapB_ers (m : Nat) (X : Sp) (K : List Ett) (F : List It) : snapB m X (ers K) F = snapB m X K F := by
  unfold snapB baseB
  rw [ers_len, entsB_ers]
theorem firesB_len_filter (p : It → Bool) : ∀ F : List It, (firesB (F.filter p)).length ≤ (firesB F).length
  | [] => Nat.le_refl _
  | x :: F => by
    have ih := firesB_len_filter p F
    have h2 : firesB (x :: F) = itemB x ++ firesB F := by simp [firesB]
    rw [List.filter_cons]
    split
    · have h3 : firesB (x :: F.filter p) = itemB x ++ firesB (F.filter p) := by simp [firesB]
      rw [h2, h3, List.length_append, List.length_append]; omega
    · rw [h2, List.length_append]; omega
theorem firesB_note {me : Nat} {F : List It} {x : It} (hn : normI x = x) : (firesB (noteF me F x)).length ≤ (firesB F).length + (itemB x).length := by
  unfold noteF
  split
  · omega
  · rename_i hc
    have hg : x.g = false := by
      cases hg : x.g with
      | false => rfl
      | true => exact absurd (.inl hg) hc
    have h1 := firesB_len_filter (fun y => !alertB y x) F
    rw [firesB_app, List.length_append]
    split
    · rw [evI_norm hn hg]
      have h2 : firesB [x] = itemB x := by simp [firesB]
      rw [h2]; omega
    · have h2 : firesB [] = [] := rfl
      rw [h2, List.length_nil]; omega
theorem Al.snapLen {me k fb : Nat} {a : Ab} (h : Al me k a) (hk : k ≤ 1000000) (hm : a.m < 18446744073709551616) (hf : (firesB a.F).length ≤ fb) : (snapB a.m a.X a.K a.F).length ≤ 380 + 11 * a.X.q + fb := by
  have h1 := leb_le10 hm
  have hnk := h.fc.ok.nk
  have han := h.fc.ok.an
  have hev := h.fc.ok.ev
  have h2 : (leb a.X.n).length ≤ 10 := leb_le10 (by omega)
  have h3 : (leb a.X.a).length ≤ 10 := leb_le10 (by omega)
  have h4 : (leb a.X.v).length ≤ 10 := leb_le10 (by omega)
  have h5 := hisB_len a.X.h (fun i _ => by have := h.fc.ok.hs i; omega) 32 (Nat.le_refl _)
  have hl := len_sum a.K
  have hs := h.fc.sum
  have hll := h.fc.ok.len
  have h6 : (leb a.K.length).length ≤ 10 := leb_le10 (by omega)
  have h7 : (leb a.F.length).length ≤ 10 := leb_le10 (by have := h.fl; omega)
  have h8 := entsB_len (K := a.K) (fun e he => by
    have h9 := h.fc.ok.ix e.i (List.mem_map_of_mem (f := fun e : Ett => e.i) he)
    omega)
  unfold snapB baseB
  simp only [List.length_append]
  omega
structure Lv (me q k b : Nat) (gen : Nat) (cs : List (List Nat)) (a : Ab) : Prop where
  lg : Lg me gen q k cs a
  ml : me < 32
  q1 : 64 ≤ q
  q2 : q ≤ 320
  k2 : k ≤ 1000
  b2 : b ≤ 13000
  fb : (firesB a.F).length ≤ b
  fl : a.f ≤ (joinR cs).length
  fz : a.f ≤ 16920
  ge : gen * 1280 + (joinR cs).length ≤ b + a.f
section
variable {me q k b gen : Nat} {cs : List (List Nat)} {a : Ab}
theorem Lv.gen_lt (h : Lv me q k b gen cs a) : gen + 1 < 100 := by
  have h1 := h.ge; have h2 := h.b2; have h3 := h.fl; omega
theorem Lv.sn (h : Lv me q k b gen cs a) : (snapB a.m a.X a.K a.F).length + 9 ≤ 16920 ∧ OkB (4 :: snapB a.m a.X a.K a.F) := by
  have h1 := h.k2
  have h2 := h.lg.al.snapLen (by omega) h.lg.m h.fb
  have h3 := h.lg.qq
  have h4 := h.q2
  have h5 := h.b2
  exact ⟨by omega, h.lg.al.bytes (by omega) h.lg.m⟩
theorem Lv.len (h : Lv me q k b gen cs a) : (joinR cs).length ≤ 29920 := by
  have h1 := h.ge; have h2 := h.b2; have h3 := h.fz; omega
theorem joinR_snoc (cs : List (List Nat)) (c : List Nat) : (joinR (cs ++ [c])).length = (joinR cs).length + c.length + 8 := by
  have h2 : joinR [c] = laidR c := by simp [joinR]
  rw [joinR_append, h2, List.length_append, laidR_length]; omega
theorem joinR_app1 (cs : List (List Nat)) (c : List Nat) : joinR (cs ++ [c]) = joinR cs ++ laidR c := by
  have h2 : joinR [c] = laidR c := by simp [joinR]
  rw [joinR_append, h2]
theorem Lv.life (h : Lv me q k b gen cs a) {m : Nat} (hm : m < 18446744073709551616) (hb : b + 19 ≤ 13000) : Lv me q k (b + 19) gen (cs ++ [3 :: leb m]) { a with m := m } := by
  have h1 := joinR_snoc cs (3 :: leb m)
  have h2 := leb_le10 hm
  rw [List.length_cons] at h1
  have h3 := h.fl
  have h4 := h.ge
  exact ⟨h.lg.life hm, h.ml, h.q1, h.q2, h.k2, hb, by have := h.fb; show (firesB a.F).length ≤ _; omega, by show a.f ≤ _; omega, h.fz, by show _ ≤ _ + a.f; omega⟩
theorem Lv.ack (h : Lv me q k b gen cs a) {N : Nat} (hN : N < 18446744073709551616) (h0 : ackE a.X N = 0) (hb : b + 19 ≤ 13000) : Lv me q k (b + 19) gen (cs ++ [2 :: leb N]) (ackA a N) := by
  have h1 := joinR_snoc cs (2 :: leb N)
  have h2 := leb_le10 hN
  rw [List.length_cons] at h1
  have h3 := h.fl
  have h4 := h.ge
  exact ⟨h.lg.ack hN h0, h.ml, h.q1, h.q2, h.k2, hb, by have := h.fb; show (firesB a.F).length ≤ _; omega, by show a.f ≤ _; omega, h.fz, by show _ ≤ _ + a.f; omega⟩
theorem Lv.put (h : Lv me q k b gen cs a) {x : It} (hx : Nm x) (h0 : (putV a.X a.K x).1 = 0) (hok : OkB (1 :: itemB x)) (hk : k + 1 ≤ 1000) (hb : b + (itemB x).length + 9 ≤ 13000) : Lv me q (k + 1) (b + (itemB x).length + 9) gen (cs ++ [1 :: itemB x]) (putA me a x) := by
  have h1 := joinR_snoc cs (1 :: itemB x)
  rw [List.length_cons] at h1
  have h3 := h.fl
  have h4 := h.ge
  have h5 := firesB_note (me := me) (F := a.F) hx.2.1
  exact ⟨h.lg.put hx h0 hok (by omega), h.ml, h.q1, h.q2, hk, hb, by have := h.fb; show (firesB (noteF me a.F x)).length ≤ _; omega, by show a.f ≤ _; omega, h.fz, by show _ ≤ _ + a.f; omega⟩
theorem Lv.snap (h : Lv me q k b gen cs a) (hl : a.f + 4 * q + 1024 < (joinR cs).length) : Lv me q k b (gen + 1) [4 :: snapB a.m a.X a.K a.F] { a with f := (snapB a.m a.X a.K a.F).length + 9 } := by
  have h1 : joinR [4 :: snapB a.m a.X a.K a.F] = laidR (4 :: snapB a.m a.X a.K a.F) := by simp [joinR]
  have h2 : (joinR [4 :: snapB a.m a.X a.K a.F]).length = (snapB a.m a.X a.K a.F).length + 9 := by rw [h1, laidR_length, List.length_cons]
  obtain ⟨h3, h4⟩ := h.sn
  have h5 := h.k2
  have h6 := h.ge
  have h7 := h.q1
  have h8 := h.fl
  have hsn := h.lg.snap (by omega) h4 (by omega)
  obtain ⟨z, hz⟩ : ∃ z, z = (snapB a.m a.X a.K a.F).length + 9 := ⟨_, rfl⟩
  have h9 : (gen + 1) * 1280 + z ≤ b + z := by
    clear hsn h4 h1 h2 h3 hz h5
    generalize (joinR cs).length = y at *
    generalize a.f = x at *
    rw [Nat.add_mul, Nat.one_mul]
    generalize gen * 1280 = y2 at *
    omega
  rw [← hz] at h2 h3 hsn ⊢
  exact ⟨hsn, h.ml, h.q1, h.q2, h.k2, h.b2, h.fb, by rw [h2]; exact Nat.le_refl _, h3, by rw [h2]; exact h9⟩
end
theorem gns_gen {g : Nat} (hg : g < 100) (f : Fl) : GNs [(nmG g, f)] [some g] := ⟨rfl, fun i p o h1 h2 => by
  cases i with
  | zero =>
    simp at h1 h2
    rw [← h1, ← h2]
    exact .inl ⟨g, hg, rfl, rfl⟩
  | succ i => simp at h1⟩
theorem open_gen {g : Nat} (f : Fl) : open9 [(nmG g, f)] (nmG g) = [(nmG g, ⟨f.by_.take (scanJ f.by_).2, (scanJ f.by_).2⟩)] := by
  unfold open9
  rw [findP_one]
  exact put_one9
theorem had_one (s : ByteArray) (f : Fl) : had [(s, f)] s = f := by unfold had; rw [findP_one]; rfl
theorem scan_join {cs : List (List Nat)} (h : OkR cs) : scanJ (joinR cs) = (cs, (joinR cs).length) := by
  have := scanJ_join (r := []) h
  rw [List.append_nil] at this
  rw [this, scanJ_none (by rfl)]
  simp
theorem Lv.syncPre {me q k b gen s : Nat} {cs : List (List Nat)} {R : Rc} (h : Lv me q k b gen cs R.ab) (hg : R.gen = gen) (hn : R.nm = nmG gen) (hL : R.LL = [(nmG gen, ⟨joinR cs, s⟩)]) : SyncPre R := by
  have hf : R.first ≤ 16920 := h.fz
  have hq : R.X.q = q := h.lg.qq
  have hq2 := h.q2
  have hk := h.k2
  refine ⟨by omega, by omega, by rw [hn]; exact nmG_max (by have := h.gen_lt; omega), ⟨joinR cs, s⟩, by rw [hL, hn]; exact findP_one _ _, fun _ => ?_⟩
  obtain ⟨h1, h2⟩ := h.sn
  have e : snapB R.ab.m R.ab.X R.ab.K R.ab.F = snapB R.life R.X R.L (R.F.map (·.x)) := snapB_ers _ _ _ _
  rw [e] at h1 h2
  have hnk := h.lg.al.fc.ok.nk
  have han := h.lg.al.fc.ok.an
  have hev := h.lg.al.fc.ok.ev
  have hll := h.lg.al.fc.ok.len
  have hfl := h.lg.al.fl
  have hnk : R.X.n ≤ k + 1 := hnk
  have han : R.X.a < R.X.n := han
  have hev : R.X.v + cntE (ers R.L) ≤ k := hev
  have hll : (ers R.L).length ≤ k := hll
  have hfl : (R.F.map (·.x)).length ≤ k := hfl
  rw [ers_len] at hll
  rw [List.length_map] at hfl
  exact ⟨⟨by omega, by omega, by omega, fun i _ => by have : R.X.h i ≤ 1099511627776 := h.lg.al.fc.ok.hs i; omega, h.lg.m, by omega, by omega, by omega⟩, h2, by rw [hn, hg], by rw [hg]; exact h.gen_lt, by rw [hL, hg]⟩
theorem Lv.openPre {me q k b gen s : Nat} {cs : List (List Nat)} {a : Ab} (h : Lv me q k b gen cs a) (hl : (joinR cs).length ≤ 20000) (hm : a.m + 1 < 18446744073709551616) (hb : b + 19 ≤ 13000) : OpenPre me gen ⟨q, 1, 0, 0, fun _ => 0⟩ [(nmG gen, ⟨joinR cs, s⟩)] [some gen] := by
  have hg := h.gen_lt
  have hsc := scan_join h.lg.ok
  have e1 : open9 [(nmG gen, (⟨joinR cs, s⟩ : Fl))] (nmG gen) = [(nmG gen, ⟨joinR cs, (joinR cs).length⟩)] := by
    rw [open_gen]
    show [(nmG gen, (⟨(joinR cs).take (scanJ (joinR cs)).2, (scanJ (joinR cs)).2⟩ : Fl))] = _
    rw [hsc]
    show [(nmG gen, (⟨(joinR cs).take (joinR cs).length, (joinR cs).length⟩ : Fl))] = _
    rw [List.take_length]
  have e2 : recs9 [(nmG gen, (⟨joinR cs, s⟩ : Fl))] (nmG gen) = cs := by
    unfold recs9
    rw [findP_one]
    show (scanJ (joinR cs)).1 = cs
    rw [hsc]
  have hcl : ∀ c ∈ cs, c.length ≤ 20000 := fun c hc => by have := laidN_each hc; have := laidN_join cs; omega
  refine ⟨gns_gen (by omega) _, by simp [topG], by simp, ⟨[some gen], by rw [e1]; exact gns_gen (by omega) _, fun i p k h1 h2 => ?_⟩, by rw [e1]; simp, by rw [e1, had_one]; exact hl, fun p hp => ?_, h.ml, fun f hf => ?_, by rw [e2]; exact hcl, by rw [e2]; have := laidN_count cs; have := laidN_join cs; omega, fun j c r a' hj hr => ?_, fun a' R1 hra hs1 hs2 hs3 hs4 hs5 => ?_⟩
  · rw [e1] at h1
    cases i with
    | zero => simp at h1; rw [← h1]
    | succ i => simp at h1
  · rw [e1, List.mem_singleton] at hp
    rw [hp]
    exact nmG_ne_new _ (by omega)
  · rw [findP_one] at hf
    rw [← Option.some.inj hf]
    exact hl
  · rw [e2] at hj hr
    have := h.k2
    exact h.lg.re (by omega) h.q1 (by have := h.q2; omega) hj hr
  · rw [e2] at hra
    have e3 : a = a' := by
      have h9 : repAll me gen (a0of q) cs = some a' := hra
      rw [h.lg.rep] at h9
      exact Option.some.inj h9
    subst e3
    rw [Nat.mod_eq_of_lt hm] at hs4 hs5
    have h2 := h.life hm hb
    rw [e1, had_one, put_one9] at hs5
    rw [← hs4] at h2
    refine h2.syncPre hs2 hs3 (s := (joinR cs).length) ?_
    rw [hs5, joinR_app1]
structure Lw (w0 w : World) (P : Nat → Nat → Prop) : Prop where
  lo : ∀ i k, P i k → w0.heap.size ≤ k
  bl : Below w0.heap.size w0 w
section
variable {w0 w w' : World} {P P' : Nat → Nat → Prop}
theorem Lw.mv (h : Lw w0 w P) (hm : Mv6 w P w' P') : Lw w0 w' P' :=
  ⟨fun i k hk => (hm.new i k hk).elim (fun ⟨j, hj⟩ => h.lo j k hj) (fun hk => Nat.le_trans h.bl.size hk),
   h.bl.trans ⟨hm.only.os, hm.only.tape, hm.only.output, hm.only.size, fun k hk => hm.only.block k (Nat.lt_of_lt_of_le hk h.bl.size) (fun ⟨i, hi⟩ => by have := h.lo i k hi; omega)⟩⟩
theorem Lw.below (h : Lw w0 w P) (hb : Below w.heap.size w w') : Lw w0 w' P := ⟨h.lo, h.bl.trans (hb.mono h.bl.size)⟩
end
structure Live (w : World) (P : Nat → Nat → Prop) (R : Rc) (n me q k b : Nat) (cs : List (List Nat)) (syn : Nat) : Prop where
  st : Sto w P R n
  lv : Lv me q k b R.gen cs R.ab
  nm : R.nm = nmG R.gen
  LL : R.LL = [(nmG R.gen, ⟨joinR cs, syn⟩)]
  sf : R.self = me
section
variable {w w' : World} {P P' : Nat → Nat → Prop} {R R' : Rc} {n me q k b syn : Nat} {cs : List (List Nat)}
theorem Live.below (h : Live w P R n me q k b cs syn) (hb : Below w.heap.size w w') : Live w' P R n me q k b cs syn := ⟨h.st.below hb, h.lv, h.nm, h.LL, h.sf⟩
theorem Live.more (h : Live w P R n me q k b cs syn) {m : Nat} (hm : n ≤ m) : Live w P R m me q k b cs syn := ⟨h.st.more hm, h.lv, h.nm, h.LL, h.sf⟩
theorem Live.gen_lt (h : Live w P R n me q k b cs syn) : R.gen < 100 := by have := h.lv.gen_lt; omega
theorem Live.find (h : Live w P R n me q k b cs syn) : findP R.LL R.nm = some ⟨joinR cs, syn⟩ := by rw [h.LL, h.nm]; exact findP_one _ _
theorem Live.had_ (h : Live w P R n me q k b cs syn) : had R.LL R.nm = ⟨joinR cs, syn⟩ := by rw [h.LL, h.nm]; exact had_one _ _
theorem sync_live (h : SyncPost R R') (hs : Sto w P R' n) (hl : Lv me q k b R.gen cs R.ab) (hn : R.nm = nmG R.gen) (hL : R.LL = [(nmG R.gen, ⟨joinR cs, syn⟩)]) (hm : R.self = me) :
    ∃ cs', Live w P R' n me q k b cs' (joinR cs').length ∧ (joinR cs').length ≤ R'.first + 4 * q + 1024 ∧ R'.ab.X = R.ab.X ∧ R'.ab.K = R.ab.K ∧ R'.ab.F = R.ab.F ∧ R'.life = R.life ∧ R'.gd = R.gd ∧ R'.g = R.g ∧ R'.st = R.st := by
  obtain ⟨a1, a2, a3, a4, a5, a6, a7, a8⟩ := h.same
  have hq : R.X.q = q := hl.lg.qq
  obtain ⟨f, hf, h | h⟩ := h
  · obtain ⟨b1, LL', e, b2⟩ := h
    have ef : f = ⟨joinR cs, syn⟩ := by
      rw [hL, hn, findP_one] at hf
      exact (Option.some.inj hf).symm
    have eL : LL' = [(nmG R.gen, ⟨joinR cs, (joinR cs).length⟩)] := by
      rcases b2 with b2 | ⟨b2, b3⟩
      · rw [b2, hL, hn, put_one9, ef]
      · rw [b2, hL]
        rw [ef] at b3
        have b3 : syn = (joinR cs).length := b3
        rw [b3]
    subst e
    refine ⟨cs, ⟨hs, hl, hn, eL, hm⟩, ?_, a5, a6, a7, a8, a1, a2, a3⟩
    rw [ef, hq] at b1
    exact b1
  · obtain ⟨b1, jb, e⟩ := h
    have ef : f = ⟨joinR cs, syn⟩ := by
      rw [hL, hn, findP_one] at hf
      exact (Option.some.inj hf).symm
    rw [ef, hq] at b1
    have hsn := hl.snap (show R.ab.f + 4 * q + 1024 < (joinR cs).length from b1)
    have es : snapB R.ab.m R.ab.X R.ab.K R.ab.F = snapB R.life R.X R.L (R.F.map (·.x)) := snapB_ers _ _ _ _
    rw [es] at hsn
    obtain ⟨sb, hsb⟩ : ∃ z, z = snapB R.life R.X R.L (R.F.map fun e : Ett => e.x) := ⟨_, rfl⟩
    rw [← hsb] at hsn e
    have ej : joinR [4 :: sb] = laidR (4 :: sb) := by simp [joinR]
    have el : (joinR [4 :: sb]).length = sb.length + 9 := by rw [ej, laidR_length, List.length_cons]
    subst e
    refine ⟨[4 :: sb], ⟨hs, hsn, rfl, ?_, hm⟩, ?_, a5, a6, a7, a8, a1, a2, a3⟩
    · show [(nmG (R.gen + 1), (⟨laidR (4 :: sb), sb.length + 9⟩ : Fl))] = _
      rw [← ej, ← el]
    · rw [el]
      show sb.length + 9 ≤ (sb.length + 9) + 4 * q + 1024
      omega
theorem live_sync (h : Live w P R n me q k b cs syn) (hn : n ≤ 2000) :
    Calls Tryz.prog 13 #[.pointer (some ⟨R.st, 0, none⟩)] w fun e w' => e = .returned (.int .i64 0) ∧ ∃ P' R' cs', Live w' P' R' (n + 7) me q k b cs' (joinR cs').length ∧ Mv6 w P w' P' ∧ (joinR cs').length ≤ R'.first + 4 * q + 1024 ∧ R'.ab.X = R.ab.X ∧ R'.ab.K = R.ab.K ∧ R'.ab.F = R.ab.F ∧ R'.life = R.life ∧ R'.gd = R.gd ∧ R'.g = R.g ∧ R'.st = R.st := by
  refine (sto_sync9 h.st hn (h.lv.syncPre rfl h.nm h.LL)).mono ?_
  rintro _ w1 ⟨rfl, P', R', h1, h2, h3⟩
  obtain ⟨cs', g1, g2, g3⟩ := sync_live h3 h1 h.lv h.nm h.LL h.sf
  exact ⟨rfl, P', R', cs', g1, h2, g2, g3⟩
theorem live_put (x : It) (A : Option Addr) (c : Nat) (h : Live w P R n me q k b cs syn) (hn : n ≤ 3000) (hx : Mod x) (hnx : Nm x) (hA : A = none → x.l.length = 0) (hl : Lb w P A x.l) (hB : (itemB x).length ≤ 1000) (hok : OkB (1 :: itemB x)) (hk : k + 1 ≤ 1000) (hb : b + (itemB x).length + 9 ≤ 13000) :
    Calls Tryz.prog 11 #[.pointer (some ⟨R.st, 0, none⟩), .agg (itC x A c).toArray] w fun e w' =>
      ((putV R.ab.X R.ab.K x).1 ≠ 0 ∧ e = .returned (.tuple #[.int .u64 0, .int .u64 0, .int .i64 (putV R.ab.X R.ab.K x).1]) ∧ Below w.heap.size w w') ∨
      ((putV R.ab.X R.ab.K x).1 = 0 ∧ e = .returned (.tuple #[.int .u64 (putV R.ab.X R.ab.K x).2.1, .int .u64 (putV R.ab.X R.ab.K x).2.2.1, .int .i64 0]) ∧ ∃ P' R', Live w' P' R' (n + 1) me q (k + 1) (b + (itemB x).length + 9) (cs ++ [1 :: itemB x]) syn ∧ Mv6 w P w' P' ∧ R'.ab = putA me R.ab x ∧ R'.gd = R.gd ∧ R'.g = R.g ∧ R'.st = R.st ∧ R'.gen = R.gen) := by
  have hfc := h.lv.lg.al.fc.ok
  have hk2 := h.lv.k2
  have hlen := h.lv.len
  have hev := hfc.ev
  have hlL := hfc.len
  have hfl := h.lv.lg.al.fl
  have hev : R.X.v + cntE (ers R.L) ≤ k := hev
  have hlL : (ers R.L).length ≤ k := hlL
  have hfl : (R.F.map (·.x)).length ≤ k := hfl
  rw [cnt_ers] at hev
  rw [ers_len] at hlL
  rw [List.length_map] at hfl
  have hgl := h.gen_lt
  refine (sto_put x A c w h.st hn hx hA hl (by omega) hok (fun i _ => hfc.hs i) (.inr (by omega)) (by omega) (by omega) (by rw [h.nm]; exact nmG_value _ hgl) (by rw [h.nm]; exact nmG_max hgl) (fun hf => by rw [h.find] at hf; cases hf) (by rw [h.had_]; show (joinR cs).length ≤ 100000; omega)).mono ?_
  rintro e w1 (⟨h1, h2, h3⟩ | ⟨h1, h2, P', R', h3, h4, h5⟩)
  · exact .inl ⟨h1, h2, h3⟩
  · obtain ⟨c1, c2, c3, c4, c5, c6, c7, c8, c9⟩ := h5
    have hlv := h.lv.put hnx h1 hok hk hb
    refine .inr ⟨h1, h2, P', R', ⟨h3, ?_, ?_, ?_, ?_⟩, h4, ?_, c1, c2, c3, c6⟩
    · rw [c6, c9, h.sf]
      exact hlv
    · rw [c5, c6]; exact h.nm
    · rw [c8, h.had_, h.LL, h.nm, put_one9, c6, joinR_app1]
    · rw [c7]; exact h.sf
    · rw [c9, h.sf]
theorem live_ack (N : Nat) (hN : N < 18446744073709551616) (h : Live w P R n me q k b cs syn) (hn : n ≤ 3000) (hb : b + 19 ≤ 13000) :
    Calls Tryz.prog 19 #[.pointer (some ⟨R.st, 0, none⟩), .int .u64 N] w fun e w' => ∃ (P' : Nat → Nat → Prop) (R' : Rc) (cs' : List (List Nat)) (z : Int), e = .returned (.int .i64 z) ∧ Live w' P' R' (n + 1) me q k (b + 19) cs' syn ∧ Mv6 w P w' P' ∧ R'.life = R.life ∧ R'.gd = R.gd ∧ R'.g = R.g ∧ R'.st = R.st ∧ R'.ab.X.h = R.ab.X.h ∧ R'.gen = R.gen := by
  have hfc := h.lv.lg.al.fc.ok
  have hlen := h.lv.len
  have hgl := h.gen_lt
  refine (sto_ack N hN w h.st hn (rise_ers hfc.riseE) (by rw [h.nm]; exact nmG_value _ hgl) (by rw [h.nm]; exact nmG_max hgl) (fun hf => by rw [h.find] at hf; cases hf) (by rw [h.had_]; show (joinR cs).length ≤ 100000; omega)).mono ?_
  rintro e w1 (⟨h1, h2, h3⟩ | ⟨h1, h2, P', R', h3, h4, h5⟩)
  · refine ⟨P, R, cs, _, h2, ?_, Mv6.of_below h3 P, rfl, rfl, rfl, rfl, rfl, rfl⟩
    have h6 := (h.below h3).more (Nat.le_succ n)
    have h7 := h6.lv
    exact ⟨h6.st, ⟨h7.lg, h7.ml, h7.q1, h7.q2, h7.k2, hb, by have := h7.fb; omega, h7.fl, h7.fz, by have := h7.ge; omega⟩, h6.nm, h6.LL, h6.sf⟩
  · obtain ⟨c1, c2, c3, c4, c5, c6, c7, c8, c9⟩ := h5
    have hlv := h.lv.ack hN h1 hb
    refine ⟨P', R', cs ++ [2 :: leb N], _, h2, ⟨h3, ?_, ?_, ?_, ?_⟩, h4, ?_, c1, c2, c3, ?_, c6⟩
    · rw [c6, c9]
      exact hlv
    · rw [c5, c6]; exact h.nm
    · rw [c8, h.had_, h.LL, h.nm, put_one9, c6, joinR_app1]
    · rw [c7]; exact h.sf
    · have : R'.ab.m = R.ab.m := by rw [c9]; rfl
      exact this
    · rw [c9]
      show (ackX R.ab.X N).h = R.ab.X.h
      unfold ackX
      split <;> rfl
end
theorem crash_full {w : World} {S : Nat → Prop} {gd g n : Nat} {nm : ByteArray} {bs : List Nat} {A : Option Addr} {m c : Nat} {ts : List (Nat × Nat)} (h : DkT w S gd g [(nm, ⟨bs, bs.length⟩)] n) (hgS : ¬ S g) (hn : m = ts.length) (hnm : m ≤ 140737488351232) (hr : RdTe w w.heap.size A ts) (hT : ∀ a, A = some a → 0 < ts.length → ¬ S a.block) (hok : OkT ts) :
    Calls Tryz.prog 21 #[.pointer (some ⟨gd, 0, none⟩), .slice A m c] w fun e w' => e = .returned (.tuple #[]) ∧ ∃ S', DkT w' S' gd g [(nm, ⟨bs, bs.length⟩)] n ∧ Step w S w' S' := by
  obtain ⟨wr, sy, a1, a2, a3⟩ := h.dk
  obtain ⟨d, t, b, b1, b2, b3, b4⟩ := h.tab
  refine (crash_any w a3 hn hnm hr hT hok).mono ?_
  rintro _ w1 ⟨rfl, S', h1, h2⟩
  have e : crashL [(nm, (⟨bs, bs.length⟩ : Fl))] ts = [(nm, ⟨bs, bs.length⟩)] := by
    have e2 : tornF ⟨bs, bs.length⟩ (tearAt ts 0).1 (tearAt ts 0).2 = ⟨bs, bs.length⟩ := by
      unfold tornF
      simp only
      rw [show min bs.length (bs.length + (tearAt ts 0).1) = bs.length by omega, if_neg (by omega), List.take_length]
    show [(nm, tornF ⟨bs, bs.length⟩ (tearAt ts 0).1 (tearAt ts 0).2)] = _
    rw [e2]
  rw [e] at h1
  exact ⟨rfl, S', ⟨⟨wr, sy, a1, a2, h1⟩, ⟨d, t, b, b1, b2, b3, b4.only h2.only hgS⟩⟩, h2⟩
def OplPost (w : World) (S : Nat → Prop) (gd g n me q k b : Nat) (a : Ab) (e : Ending) (w' : World) : Prop :=
  ∃ P' R' cs', e = .returned (.tuple #[.pointer (some ⟨R'.st, 0, none⟩), .int .i64 0]) ∧ Live w' P' R' (n + 18) me q k (b + 19) cs' (joinR cs').length ∧ (∀ i k, P' i k → S k ∨ k = g ∨ w.heap.size ≤ k) ∧ Only (fun k => S k ∨ k = g) w w' ∧
    (joinR cs').length ≤ R'.first + 4 * q + 1024 ∧ R'.ab.X = a.X ∧ R'.ab.K = a.K ∧ R'.ab.F = a.F ∧ R'.life = a.m + 1 ∧ R'.gd = gd ∧ R'.g = g
theorem beg_live {w w' : World} {S : Nat → Prop} {gd g n me q k b gen s : Nat} {LL : List (ByteArray × Fl)} {cs : List (List Nat)} {a : Ab} {e : Ending} (h : BegGood w S gd g (fun _ => False) (n + 9) me gen ⟨⟨q, 1, 0, 0, fun _ => 0⟩, [], [], 0, 0⟩ LL (recs9 LL (nmG gen)) e w')
    (hl : Lv me q k b gen cs a) (hcs : recs9 LL (nmG gen) = cs) (hL : ∀ x : List Nat, putP (open9 LL (nmG gen)) (nmG gen) ⟨(had (open9 LL (nmG gen)) (nmG gen)).by_ ++ x, (had (open9 LL (nmG gen)) (nmG gen)).syn⟩ = [(nmG gen, ⟨joinR cs ++ x, s⟩)]) (hm : a.m + 1 < 18446744073709551616) (hb : b + 19 ≤ 13000) :
    OplPost w S gd g n me q k b a e w' := by
  obtain ⟨a', R1, P', R', h1, h2, h3, h4, h5, c1, c2, c3, c4, c5, c6, c7⟩ := h
  rw [hcs] at h1
  have e3 : a = a' := by
    have h9 : repAll me gen (a0of q) cs = some a' := h1
    rw [hl.lg.rep] at h9
    exact Option.some.inj h9
  subst e3
  rw [Nat.mod_eq_of_lt hm] at c6 c7
  have h6 := hl.life hm hb
  rw [hL, ← joinR_app1] at c7
  rw [← c6] at h6
  obtain ⟨cs', g1, g2, g3, g4, g5, g6, g7, g8, g9⟩ := sync_live h5 h3 (by rw [c4]; exact h6) (by rw [c4]; exact c5) (by rw [c4]; exact c7) c3
  refine ⟨P', R', cs', h2, g1, fun i k hk => ?_, h4.only.mono fun k hk => ?_, g2, by rw [g3, c6], by rw [g4, c6], by rw [g5, c6], ?_, by rw [g7, c1], by rw [g8, c2]⟩
  · rcases h4.new i k hk with ⟨j, hj⟩ | h7
    · match j, hj with
      | 0, hj => exact .inl hj
      | 1, hj => exact .inr (.inl hj)
      | 4, hj => exact hj.elim
    · exact .inr (.inr h7)
  · obtain ⟨j, hj⟩ := hk
    match j, hj with
    | 0, hj => exact .inl hj
    | 1, hj => exact .inr hj
    | 4, hj => exact hj.elim
  · rw [g6]
    have : R1.ab.m = a.m + 1 := by rw [c6]
    exact this
theorem no_bad {w w' : World} {g n me gen q : Nat} {cs : List (List Nat)} {a : Ab} {e : Ending} (hr : repAll me gen (a0of q) cs = some a) (h : OpenBad w g n me gen ⟨⟨q, 1, 0, 0, fun _ => 0⟩, [], [], 0, 0⟩ cs e w') : False := by
  obtain ⟨z, -, h1, -⟩ := h
  have h1 : repAll me gen (a0of q) cs = none := h1
  rw [hr] at h1
  cases h1
theorem live_open {ev : Value} {S : Nat → Prop} {gd g n me q k b gen s : Nat} {cs : List (List Nat)} {a : Ab} (w : World) (hd : DkT w S gd g [(nmG gen, ⟨joinR cs, s⟩)] n) (hl : Lv me q k b gen cs a) (hlen : (joinR cs).length ≤ 20000) (hm : a.m + 1 < 18446744073709551616) (hb : b + 19 ≤ 13000) (hn : n ≤ 1800) (hSg : ¬ S g)
    (hv : w.cell? ⟨1, 0, none⟩ = some ev) (hvl : 1 < w.heap.size) (hS1 : ¬ S 1) (hg1 : g ≠ 1) (hev : ev = .nilIface ∨ ∃ te pe, ev = .iface te pe) :
    Calls Tryz.prog 9 #[.pointer (some ⟨gd, 0, none⟩), .pointer (some ⟨g, 0, none⟩), .int .u8 me, .int .i64 q] w (OplPost w S gd g n me q k b a) := by
  have hsc := scan_join hl.lg.ok
  have e1 : open9 [(nmG gen, (⟨joinR cs, s⟩ : Fl))] (nmG gen) = [(nmG gen, ⟨joinR cs, (joinR cs).length⟩)] := by
    rw [open_gen]
    show [(nmG gen, (⟨(joinR cs).take (scanJ (joinR cs)).2, (scanJ (joinR cs)).2⟩ : Fl))] = _
    rw [hsc]
    show [(nmG gen, (⟨(joinR cs).take (joinR cs).length, (joinR cs).length⟩ : Fl))] = _
    rw [List.take_length]
  have e2 : recs9 [(nmG gen, (⟨joinR cs, s⟩ : Fl))] (nmG gen) = cs := by
    unfold recs9
    rw [findP_one]
    show (scanJ (joinR cs)).1 = cs
    rw [hsc]
  refine (open_any w (hl.openPre hlen hm hb) hd hn hd.glt hSg hl.q1 (by have := hl.q2; omega) hv hvl hS1 hg1 hev).mono ?_
  rintro e w' (h | h)
  · rw [e2] at h
    exact (no_bad hl.lg.rep h).elim
  · exact beg_live (s := (joinR cs).length) h hl e2 (fun x => by rw [e1, had_one, put_one9]) hm hb
theorem Lv.new {me q : Nat} (hme : me < 32) (h1 : 64 ≤ q) (h2 : q ≤ 320) : Lv me q 0 0 0 [] (a0of q) :=
  ⟨Lg.new me 0 q, hme, h1, h2, by decide, by decide, Nat.le_refl _, Nat.le_refl _, Nat.zero_le _, by show 0 * 1280 + 0 ≤ 0 + 0; decide⟩
theorem openPre_none {me q : Nat} (hse : me < 32) (hq1 : 64 ≤ q) (hq2 : q ≤ 65536) : OpenPre me 0 ⟨q, 1, 0, 0, fun _ => 0⟩ [] [] := by
  have hT : ∀ (i : Nat) (p : ByteArray × Fl) (k : Nat), ([] : List (ByteArray × Fl))[i]? = some p → ([] : List (Option Nat))[i]? = some (some k) → p.1 = nmG 0 := fun i p k h => by simp at h
  have hno : ∀ p ∈ ([] : List (ByteArray × Fl)), p.1 ≠ nmN := fun p hp => (by cases hp)
  have hre : ∀ (j k : Nat) r a, ([] : List (List Nat))[j]? = some (k :: r) → repAll me 0 ⟨⟨q, 1, 0, 0, fun _ => 0⟩, [], [], 0, 0⟩ (([] : List (List Nat)).take j) = some a → ReOkA a r := fun j k r a hj => by simp at hj
  have hz : ([] : List (ByteArray × Fl)).length < 64 := by decide
  have hz2 : ([] : List Nat).length ≤ 20000 := by decide
  have hz3 : ([] : List (List Nat)).length ≤ 20000 := by decide
  refine ⟨gns_nil, rfl, hz, ⟨[], gns_nil, hT⟩, hz, hz2, hno, hse, (fun f hf => (by cases hf)), (fun c hc => (by cases hc)), hz3, hre, fun a R1 hra e1 e2 e3 e4 e5 => ?_⟩
  have ea : (⟨⟨q, 1, 0, 0, fun _ => 0⟩, [], [], 0, 0⟩ : Ab) = a := Option.some.inj hra
  subst ea
  have hf0 : R1.first = 0 := congrArg Ab.f e4
  have hq : R1.X.q = q := congrArg (fun z : Ab => z.X.q) e4
  refine ⟨by omega, by omega, by rw [e3]; exact nmG_max (by decide), _, by rw [e5, e3]; exact findP_set _ _ _, fun hlong => ?_⟩
  exfalso
  have h5 : (leb ((0 + 1) % 18446744073709551616)).length ≤ 10 := leb_le10 (Nat.mod_lt _ (by decide))
  have h6 : (([] : List Nat) ++ laidR (3 :: leb ((0 + 1) % 18446744073709551616))).length ≤ 19 := by
    rw [List.length_append, laidR_length, List.length_cons, List.length_nil]
    omega
  have h7 : R1.first + 4 * R1.X.q + 1024 < (([] : List Nat) ++ laidR (3 :: leb ((0 + 1) % 18446744073709551616))).length := hlong
  omega
theorem live_first {ev : Value} {S : Nat → Prop} {gd g n me q : Nat} (w : World) (hd : DkT w S gd g [] n) (hme : me < 32) (hq1 : 64 ≤ q) (hq2 : q ≤ 320) (hn : n ≤ 1800) (hSg : ¬ S g)
    (hv : w.cell? ⟨1, 0, none⟩ = some ev) (hvl : 1 < w.heap.size) (hS1 : ¬ S 1) (hg1 : g ≠ 1) (hev : ev = .nilIface ∨ ∃ te pe, ev = .iface te pe) :
    Calls Tryz.prog 9 #[.pointer (some ⟨gd, 0, none⟩), .pointer (some ⟨g, 0, none⟩), .int .u8 me, .int .i64 q] w (OplPost w S gd g n me q 0 0 (a0of q)) := by
  have hl := Lv.new hme hq1 hq2
  refine (open_any w (openPre_none hme hq1 (by omega)) hd hn hd.glt hSg hq1 (by omega) hv hvl hS1 hg1 hev).mono ?_
  rintro e w' (h | h)
  · exact (no_bad (cs := []) hl.lg.rep h).elim
  · exact beg_live (s := 0) h hl rfl (fun x => rfl) (by show 0 + 1 < 18446744073709551616; decide) (by decide)
def longN : ByteArray := ⟨#[108, 111, 110, 103, 101, 114, 46, 110, 97, 109, 101]⟩
def evx (o p : Nat) : It := ⟨false, o, 1, 0, longN, [], 0, p, 0, 0, 0, 0, 0⟩
def pr8 : Nat → Nat
  | 0 => 1
  | _ => 0
def X8 : Nat → Sp
  | 0 => ⟨70, 1, 0, 0, fun _ => 0⟩
  | k + 1 => addX (X8 k) (evx k (pr8 k))
theorem put_plain {X : Sp} {L : List Ett} {x : It} {A : Option Addr} {c : Nat} (hE : partE x X.h = 0) (hI : partI x X.h = x) (hf : sumE L + (itemB x).length ≤ X.q) (hn : X.n < 1099511627776) (hg : x.g = false) : putR X L x A c = (0, X.n, 0, addX X x, L ++ [⟨X.n, x, A, c⟩]) := by
  unfold putR
  rw [if_neg (by rw [hE]; decide), hI, roomK_fit hf]
  simp only [Bool.true_eq_false, if_false]
  rw [if_neg (by omega)]
  have hj : addJ L (addE X x A c) = (L ++ [⟨X.n, x, A, c⟩], false) := by
    unfold addJ
    rw [if_neg (by show ¬ x.g = true; rw [hg]; decide)]
    rfl
  have hF : addF L (addE X x A c) = 0 := by unfold addF; rw [hj]; rfl
  show (0, X.n, lowE 0 (addF L (addE X x A c)), addX X x, (addJ L (addE X x A c)).1) = _
  rw [hF, hj]
  rfl
end Go.Proofs.YtholdcgkhicdmaaGreatDoor
