/- Several texts in one: FrSame, ItCheck. -/
import Derived.Test.YtnagmopejblegaaGreatMb5
import Derived.Test.YtnagmopejblegaaGreatMb8
import Derived.Test.YtnagmopejblegaaGreatMb12
import Derived.Test.YtnagmopejblegaaGreatMb16
/- Layer 5: frame.Same. -/
namespace Go.Proofs.YtnagmopejblegaaGreat
open Go.RowKit

theorem sameF_no {a b : Fr} (h : ¬ (a.k = b.k ∧ a.f = b.f ∧ a.t = b.t ∧ a.e = b.e ∧ a.q = b.q ∧ a.c = b.c ∧ a.b = b.b ∧ a.l = b.l)) : sameF a b = false := by
  unfold sameF; rw [decide_eq_false h]; rfl
theorem sameF_yes {a b : Fr} (h : a.k = b.k ∧ a.f = b.f ∧ a.t = b.t ∧ a.e = b.e ∧ a.q = b.q ∧ a.c = b.c ∧ a.b = b.b ∧ a.l = b.l) : sameF a b = sameI a.i b.i := by
  unfold sameF; rw [decide_eq_true h]; rfl

set_option maxRecDepth 100000 in
set_option maxHeartbeats 8000000 in
theorem frameSame_any (a b : Fr) (A : Option Addr) (n c : Nat) (A2 : Option Addr) (n2 c2 : Nat) (w : World) (hn : n = a.i.l.length) (hn2 : n2 = b.i.l.length) (hm : n ≤ maxLen) (hr : RdP w w.heap.size A a.i.l) (hr2 : RdP w w.heap.size A2 b.i.l) :
    Calls Tryz.prog 11 #[.agg #[.int .u8 a.k, .int .u8 a.f, .int .u8 a.t, .int .u64 a.e, .int .u64 a.q, .bool a.i.g, .int .u8 a.i.o, .int .u64 a.i.q, .int .u64 a.i.t, .string a.i.r, .slice A n c, .int .u8 a.i.s, .int .u8 a.i.p, .int .i64 a.i.v, .int .u8 a.i.w, .int .u8 a.i.ga, .int .u64 a.i.gf, .int .u64 a.i.gt, .int .u64 a.c, .int .u64 a.b, .int .u64 a.l], .agg #[.int .u8 b.k, .int .u8 b.f, .int .u8 b.t, .int .u64 b.e, .int .u64 b.q, .bool b.i.g, .int .u8 b.i.o, .int .u64 b.i.q, .int .u64 b.i.t, .string b.i.r, .slice A2 n2 c2, .int .u8 b.i.s, .int .u8 b.i.p, .int .i64 b.i.v, .int .u8 b.i.w, .int .u8 b.i.ga, .int .u64 b.i.gf, .int .u64 b.i.gt, .int .u64 b.c, .int .u64 b.b, .int .u64 b.l]] w fun e w' => e = .returned (.bool (sameF a b)) ∧ Below w.heap.size w w' := by
  have Hba := Lib.hid (((Below.refl w.heap.size w).alloc (Nat.le_refl _) (.cells #[.int .u8 a.k, .int .u8 a.f, .int .u8 a.t, .int .u64 a.e, .int .u64 a.q, .bool a.i.g, .int .u8 a.i.o, .int .u64 a.i.q, .int .u64 a.i.t, .string a.i.r, .slice A n c, .int .u8 a.i.s, .int .u8 a.i.p, .int .i64 a.i.v, .int .u8 a.i.w, .int .u8 a.i.ga, .int .u64 a.i.gf, .int .u64 a.i.gt, .int .u64 a.c, .int .u64 a.b, .int .u64 a.l] 42)).alloc (by simp) (.cells #[.int .u8 b.k, .int .u8 b.f, .int .u8 b.t, .int .u64 b.e, .int .u64 b.q, .bool b.i.g, .int .u8 b.i.o, .int .u64 b.i.q, .int .u64 b.i.t, .string b.i.r, .slice A2 n2 c2, .int .u8 b.i.s, .int .u8 b.i.p, .int .i64 b.i.v, .int .u8 b.i.w, .int .u8 b.i.ga, .int .u64 b.i.gf, .int .u64 b.i.gt, .int .u64 b.c, .int .u64 b.b, .int .u64 b.l] 42))
  have Hn := Lib.hid hn
  have Hn2 := Lib.hid hn2
  have Hr := Lib.hid (hr.below Hba.out)
  have Hr2 := Lib.hid (hr2.below Hba.out)
  clear hn hn2 hr hr2
  by_cases hk : a.k = b.k
  case neg =>
    have kk : ((a.k : Int) == (b.k : Int)) = false := by rw [beq_eq_false_iff_ne]; omega
    have HN : Hid (sameF a b = false) := sameF_no (fun e => hk e.1)
    clear hk
    go_enter Tryz.func11, Tryz.ntmps11
    go_wp2
    go_ret
    exact ⟨by rw [HN.out]; rfl, Hba.out⟩
  have kk : ((a.k : Int) == (b.k : Int)) = true := by rw [beq_iff_eq]; omega
  have Hk := Lib.hid hk
  clear hk
  by_cases hf : a.f = b.f
  case neg =>
    have kf : ((a.f : Int) == (b.f : Int)) = false := by rw [beq_eq_false_iff_ne]; omega
    have HN : Hid (sameF a b = false) := sameF_no (fun e => hf e.2.1)
    clear hf
    go_enter Tryz.func11, Tryz.ntmps11
    go_wp2
    go_ret
    exact ⟨by rw [HN.out]; rfl, Hba.out⟩
  have kf : ((a.f : Int) == (b.f : Int)) = true := by rw [beq_iff_eq]; omega
  have Hf := Lib.hid hf
  clear hf
  by_cases ht : a.t = b.t
  case neg =>
    have kt : ((a.t : Int) == (b.t : Int)) = false := by rw [beq_eq_false_iff_ne]; omega
    have HN : Hid (sameF a b = false) := sameF_no (fun e => ht e.2.2.1)
    clear ht
    go_enter Tryz.func11, Tryz.ntmps11
    go_wp2
    go_ret
    exact ⟨by rw [HN.out]; rfl, Hba.out⟩
  have kt : ((a.t : Int) == (b.t : Int)) = true := by rw [beq_iff_eq]; omega
  have Ht := Lib.hid ht
  clear ht
  by_cases he : a.e = b.e
  case neg =>
    have ke : ((a.e : Int) == (b.e : Int)) = false := by rw [beq_eq_false_iff_ne]; omega
    have HN : Hid (sameF a b = false) := sameF_no (fun e => he e.2.2.2.1)
    clear he
    go_enter Tryz.func11, Tryz.ntmps11
    go_wp2
    go_ret
    exact ⟨by rw [HN.out]; rfl, Hba.out⟩
  have ke : ((a.e : Int) == (b.e : Int)) = true := by rw [beq_iff_eq]; omega
  have He := Lib.hid he
  clear he
  by_cases hq : a.q = b.q
  case neg =>
    have kq : ((a.q : Int) == (b.q : Int)) = false := by rw [beq_eq_false_iff_ne]; omega
    have HN : Hid (sameF a b = false) := sameF_no (fun e => hq e.2.2.2.2.1)
    clear hq
    go_enter Tryz.func11, Tryz.ntmps11
    go_wp2
    go_ret
    exact ⟨by rw [HN.out]; rfl, Hba.out⟩
  have kq : ((a.q : Int) == (b.q : Int)) = true := by rw [beq_iff_eq]; omega
  have Hq := Lib.hid hq
  clear hq
  by_cases hc : a.c = b.c
  case neg =>
    have kc : ((a.c : Int) == (b.c : Int)) = false := by rw [beq_eq_false_iff_ne]; omega
    have HN : Hid (sameF a b = false) := sameF_no (fun e => hc e.2.2.2.2.2.1)
    clear hc
    go_enter Tryz.func11, Tryz.ntmps11
    go_wp2
    go_ret
    exact ⟨by rw [HN.out]; rfl, Hba.out⟩
  have kc : ((a.c : Int) == (b.c : Int)) = true := by rw [beq_iff_eq]; omega
  have Hc := Lib.hid hc
  clear hc
  by_cases hb : a.b = b.b
  case neg =>
    have kb : ((a.b : Int) == (b.b : Int)) = false := by rw [beq_eq_false_iff_ne]; omega
    have HN : Hid (sameF a b = false) := sameF_no (fun e => hb e.2.2.2.2.2.2.1)
    clear hb
    go_enter Tryz.func11, Tryz.ntmps11
    go_wp2
    go_ret
    exact ⟨by rw [HN.out]; rfl, Hba.out⟩
  have kb : ((a.b : Int) == (b.b : Int)) = true := by rw [beq_iff_eq]; omega
  have Hb := Lib.hid hb
  clear hb
  by_cases hl : a.l = b.l
  case neg =>
    have kl : ((a.l : Int) == (b.l : Int)) = false := by rw [beq_eq_false_iff_ne]; omega
    have HN : Hid (sameF a b = false) := sameF_no (fun e => hl e.2.2.2.2.2.2.2)
    clear hl
    go_enter Tryz.func11, Tryz.ntmps11
    go_wp2
    go_ret
    exact ⟨by rw [HN.out]; rfl, Hba.out⟩
  have kl : ((a.l : Int) == (b.l : Int)) = true := by rw [beq_iff_eq]; omega
  have Hl := Lib.hid hl
  clear hl
  have HN : Hid (sameF a b = sameI a.i b.i) := sameF_yes ⟨Hk.out, Hf.out, Ht.out, He.out, Hq.out, Hc.out, Hb.out, Hl.out⟩
  clear Hk Hf Ht He Hq Hc Hb Hl
  go_enter Tryz.func11, Tryz.ntmps11
  go_wp2_with fail
  refine (itemSame_any a.i b.i A n c A2 n2 c2 _ Hn.out Hn2.out hm (Hr.out.more (by simp; omega)) (Hr2.out.more (by simp; omega))).mono ?_
  rintro e w3 ⟨rfl, hb⟩
  have Hb := Lib.hid (Hba.out.trans (hb.mono (by simp; omega)))
  clear hb
  go_wp2
  go_ret
  exact ⟨by rw [HN.out]; rfl, Hb.out⟩
end Go.Proofs.YtnagmopejblegaaGreat
/- Layer 4: item.Own, item.Check; the document's own. -/
namespace Go.Proofs.YtnagmopejblegaaGreat
open Go.RowKit

theorem own_cut {s : ByteArray} : ((s.extract 0 4).toList == [111, 119, 110, 46]) = ownB s := by
  rw [Lib.toList_data, Lib.extract_data]
  unfold ownB
  rw [Bool.eq_iff_iff, beq_iff_eq, decide_eq_true_eq]
  rfl
theorem own_short {s : ByteArray} (h : ¬ 4 ≤ s.size) : false = ownB s := by
  unfold ownB
  symm
  rw [decide_eq_false_iff_not]
  intro e
  have h1 := congrArg List.length e
  rw [List.length_take] at h1
  have h2 : s.data.toList.length = s.size := rfl
  simp at h1
  omega
set_option maxHeartbeats 400000 in
theorem litePrefix_any (s : ByteArray) (w : World) :
    Calls Tryz.prog 110 #[.string s, .string ⟨#[111, 119, 110, 46]⟩] w fun e w' => e = .returned (.bool (ownB s)) ∧ w = w' := by
  by_cases h4 : 4 ≤ s.size
  · go_enter Tryz.func110, Tryz.ntmps110
    go_wp2
    go_ret
    exact ⟨ret_bool own_cut, rfl⟩
  · go_enter Tryz.func110, Tryz.ntmps110
    go_wp2
    go_ret
    exact ⟨ret_bool (own_short h4), rfl⟩
set_option maxHeartbeats 400000 in
theorem hasPrefix_any (s : ByteArray) (w : World) :
    Calls Tryz.prog 99 #[.string s, .string ⟨#[111, 119, 110, 46]⟩] w fun e w' => e = .returned (.bool (ownB s)) ∧ w = w' := by
  go_enter Tryz.func99, Tryz.ntmps99
  go_wp2_with fail
  refine (litePrefix_any s _).mono ?_
  rintro e w' ⟨rfl, rfl⟩
  go_wp2
  go_ret
  exact ⟨rfl, rfl⟩
set_option maxHeartbeats 400000 in
theorem own_any (s : ByteArray) (w : World) :
    Calls Tryz.prog 90 #[.string s] w fun e w' => e = .returned (.bool (ownB s)) ∧ w = w' := by
  go_enter Tryz.func90, Tryz.ntmps90
  go_wp2_with fail
  refine (hasPrefix_any s _).mono ?_
  rintro e w' ⟨rfl, rfl⟩
  go_wp2
  go_ret
  exact ⟨rfl, rfl⟩
set_option maxHeartbeats 400000 in
theorem refOwn_any (s : ByteArray) (w : World) :
    Calls Tryz.prog 52 #[.string s] w fun e w' => e = .returned (.bool (ownB s)) ∧ w = w' := by
  by_cases h4 : 4 ≤ s.size
  · go_enter Tryz.func52, Tryz.ntmps52
    go_wp2
    go_ret
    exact ⟨ret_bool own_cut, rfl⟩
  · go_enter Tryz.func52, Tryz.ntmps52
    go_wp2
    go_ret
    exact ⟨ret_bool (own_short h4), rfl⟩

set_option maxRecDepth 100000 in
set_option maxHeartbeats 1000000 in
theorem checkGap_any (x : It) (w : World) :
    Calls Tryz.prog 79 #[.agg #[.int .u8 x.ga, .int .u64 x.gf, .int .u64 x.gt]] w fun e w' => e = .returned (.int .i64 (gapN x : Nat)) ∧ Below w.heap.size w w' := by
  have hba : Below w.heap.size w (w.alloc (.cells #[.int .u8 x.ga, .int .u64 x.gf, .int .u64 x.gt] 38)) := (Below.refl _ _).alloc (Nat.le_refl _) _
  by_cases h1 : 31 < x.ga
  · have k1 : (32 : Int) ≤ x.ga := by omega
    have hg : Hid (gapN x = 6) := if_pos (.inl h1)
    clear h1
    go_enter Tryz.func79, Tryz.ntmps79
    go_wp2
    go_ret
    exact ⟨by rw [hg.out]; rfl, hba⟩
  have k1 : ¬ (32 : Int) ≤ x.ga := by omega
  by_cases h2 : x.gf = 0
  · have k2 : ((x.gf : Int) == 0) = true := by rw [beq_iff_eq]; omega
    have hg : Hid (gapN x = 6) := if_pos (.inr (.inl h2))
    clear h1 h2
    go_enter Tryz.func79, Tryz.ntmps79
    go_wp2
    go_ret
    exact ⟨by rw [hg.out]; rfl, hba⟩
  have k2 : ((x.gf : Int) == 0) = false := by rw [beq_eq_false_iff_ne]; omega
  by_cases h3 : x.gt < x.gf
  · have hg : Hid (gapN x = 6) := if_pos (.inr (.inr (.inl h3)))
    clear h1 h2
    go_enter Tryz.func79, Tryz.ntmps79
    go_wp2
    go_ret
    exact ⟨by rw [hg.out]; rfl, hba⟩
  by_cases h4 : 1099511627776 < x.gt
  · have k4 : (1099511627776 : Int) < x.gt := by omega
    have hg : Hid (gapN x = 6) := if_pos (.inr (.inr (.inr h4)))
    clear h1 h2 h4
    go_enter Tryz.func79, Tryz.ntmps79
    go_wp2
    go_ret
    exact ⟨by rw [hg.out]; rfl, hba⟩
  have k4 : ¬ (1099511627776 : Int) < x.gt := by omega
  have hg : Hid (gapN x = 0) := if_neg (by omega)
  clear h1 h2 h4
  go_enter Tryz.func79, Tryz.ntmps79
  go_wp2
  go_ret
  exact ⟨by rw [hg.out]; rfl, hba⟩
end Go.Proofs.YtnagmopejblegaaGreat
