/- Several texts in one: ItSame. -/
import Derived.Deep.DeepCutAuto
import Derived.Test.YtnagmopejblegaaGreatMb5
import Derived.Test.YtnagmopejblegaaGreatMb11
/- Layer 4: item.Same; the document's own. -/
namespace Go.Proofs.YtnagmopejblegaaGreat
open Go.RowKit

def sameEv (a b : It) : Bool := decide (a.o = b.o ∧ a.q = b.q ∧ a.t = b.t ∧ a.r = b.r ∧ a.s = b.s ∧ a.p = b.p ∧ a.v = b.v ∧ a.w = b.w ∧ a.l = b.l)
def sameG (a b : It) : Bool := decide (a.ga = b.ga ∧ a.gf = b.gf ∧ a.gt = b.gt)
/-- two items: of a gap the event is no part, nor the gap of an event -/
def sameI (a b : It) : Bool := if a.g != b.g then false else if a.g then sameG a b else sameEv a b

theorem run_eqlG (a b : It) (w : World) : (binOp .eql 38 (.agg #[.int .u8 a.ga, .int .u64 a.gf, .int .u64 a.gt]) (.agg #[.int .u8 b.ga, .int .u64 b.gf, .int .u64 b.gt])).run Tryz.prog w = .ok (.bool (sameG a b)) w := by
  have u5 := Tryz.underlying5
  have u22 := Tryz.underlying24
  have hS : Tryz.prog.underlying 38 = some (.struct (Tryz.prog.fieldsOf 38)) := by kernel_rfl
  have hp : Tryz.prog.stoodInHeld 38 = false := by kernel_rfl
  rw [run_eql_struct, show (10000 : Nat) = 9999 + 1 from rfl, run_equalIn_struct w 9999 38 _ _ hS hp]
  simp only [Program.fieldsOf, Tryz.underlying38]
  go_simp
  unfold sameG
  have e1 : ((a.ga : Int) = (b.ga : Int)) = (a.ga = b.ga) := propext (by omega)
  have e2 : ((a.gf : Int) = (b.gf : Int)) = (a.gf = b.gf) := propext (by omega)
  have e3 : ((a.gt : Int) = (b.gt : Int)) = (a.gt = b.gt) := propext (by omega)
  simp only [e1, e2, e3]
  by_cases h1 : a.ga = b.ga <;> by_cases h2 : a.gf = b.gf <;> by_cases h3 : a.gt = b.gt <;> simp [h1, h2, h3]

theorem str_ne {a b : ByteArray} (h : a ≠ b) : (a.toList == b.toList) = false := by
  have h2 := eqS_iff a b
  unfold eqS at h2
  rw [Bool.eq_false_iff]
  exact fun e => h (h2.1 e)
theorem str_eq {a b : ByteArray} (h : a = b) : (a.toList == b.toList) = true := by rw [h]; exact beq_self_eq_true _

/-- the first difference of two events -/
theorem sameEv_no {a b : It} (h : ¬ (a.o = b.o ∧ a.q = b.q ∧ a.t = b.t ∧ a.r = b.r ∧ a.s = b.s ∧ a.p = b.p ∧ a.v = b.v ∧ a.w = b.w ∧ a.l = b.l)) : sameEv a b = false := decide_eq_false h
theorem sameEv_labs {a b : It} (h : a.o = b.o ∧ a.q = b.q ∧ a.t = b.t ∧ a.r = b.r ∧ a.s = b.s ∧ a.p = b.p ∧ a.v = b.v ∧ a.w = b.w) : sameEv a b = decide (a.l = b.l) := by
  unfold sameEv
  by_cases hl : a.l = b.l
  · rw [decide_eq_true hl, decide_eq_true ⟨h.1, h.2.1, h.2.2.1, h.2.2.2.1, h.2.2.2.2.1, h.2.2.2.2.2.1, h.2.2.2.2.2.2.1, h.2.2.2.2.2.2.2, hl⟩]
  · rw [decide_eq_false hl, decide_eq_false (fun e => hl e.2.2.2.2.2.2.2.2)]

set_option maxRecDepth 100000 in
set_option maxHeartbeats 4000000 in
theorem sameEvent_any (a b : It) (A : Option Addr) (n c : Nat) (A2 : Option Addr) (n2 c2 : Nat) (w : World) (hn : n = a.l.length) (hn2 : n2 = b.l.length) (hm : n ≤ maxLen) (hr : RdP w w.heap.size A a.l) (hr2 : RdP w w.heap.size A2 b.l) :
    Calls Tryz.prog 54 #[.agg #[.int .u8 a.o, .int .u64 a.q, .int .u64 a.t, .string a.r, .slice A n c, .int .u8 a.s, .int .u8 a.p, .int .i64 a.v, .int .u8 a.w], .agg #[.int .u8 b.o, .int .u64 b.q, .int .u64 b.t, .string b.r, .slice A2 n2 c2, .int .u8 b.s, .int .u8 b.p, .int .i64 b.v, .int .u8 b.w]] w fun e w' => e = .returned (.bool (sameEv a b)) ∧ Below w.heap.size w w' := by
  have hba : Below w.heap.size w ((w.alloc (.cells #[.int .u8 a.o, .int .u64 a.q, .int .u64 a.t, .string a.r, .slice A n c, .int .u8 a.s, .int .u8 a.p, .int .i64 a.v, .int .u8 a.w] 36)).alloc (.cells #[.int .u8 b.o, .int .u64 b.q, .int .u64 b.t, .string b.r, .slice A2 n2 c2, .int .u8 b.s, .int .u8 b.p, .int .i64 b.v, .int .u8 b.w] 36)) := ((Below.refl _ _).alloc (Nat.le_refl _) _).alloc (by simp) _
  have Hba := Lib.hid hba
  have Hn := Lib.hid hn
  have Hn2 := Lib.hid hn2
  have Hr := Lib.hid (hr.below hba)
  have Hr2 := Lib.hid (hr2.below hba)
  clear hba hn hn2 hr hr2
  by_cases ho : a.o = b.o
  case' neg =>
    have ko : ((a.o : Int) == (b.o : Int)) = false := by rw [beq_eq_false_iff_ne]; omega
    have HN : Hid (sameEv a b = false) := sameEv_no (fun e => ho e.1)
    clear ho
    go_enter Tryz.func54, Tryz.ntmps54
    go_wp2
    go_ret
    exact ⟨by rw [HN.out]; rfl, Hba.out⟩
  case' pos =>
    have ko : ((a.o : Int) == (b.o : Int)) = true := by rw [beq_iff_eq]; omega
    by_cases hq : a.q = b.q
    case' neg =>
      have kq : ((a.q : Int) == (b.q : Int)) = false := by rw [beq_eq_false_iff_ne]; omega
      have HN : Hid (sameEv a b = false) := sameEv_no (fun e => hq e.2.1)
      clear ho hq
      go_enter Tryz.func54, Tryz.ntmps54
      go_wp2
      go_ret
      exact ⟨by rw [HN.out]; rfl, Hba.out⟩
    case' pos =>
      have kq : ((a.q : Int) == (b.q : Int)) = true := by rw [beq_iff_eq]; omega
      by_cases ht : a.t = b.t
      case' neg =>
        have kt : ((a.t : Int) == (b.t : Int)) = false := by rw [beq_eq_false_iff_ne]; omega
        have HN : Hid (sameEv a b = false) := sameEv_no (fun e => ht e.2.2.1)
        clear ho hq ht
        go_enter Tryz.func54, Tryz.ntmps54
        go_wp2
        go_ret
        exact ⟨by rw [HN.out]; rfl, Hba.out⟩
      case' pos =>
        have kt : ((a.t : Int) == (b.t : Int)) = true := by rw [beq_iff_eq]; omega
        by_cases hr : a.r = b.r
        case' neg =>
          have kr : (a.r.toList == b.r.toList) = false := str_ne hr
          have HN : Hid (sameEv a b = false) := sameEv_no (fun e => hr e.2.2.2.1)
          clear ho hq ht hr
          go_enter Tryz.func54, Tryz.ntmps54
          go_wp2
          go_ret
          exact ⟨by rw [HN.out]; rfl, Hba.out⟩
        case' pos =>
          have kr : (a.r.toList == b.r.toList) = true := str_eq hr
          by_cases hs : a.s = b.s
          case' neg =>
            have ks : ((a.s : Int) == (b.s : Int)) = false := by rw [beq_eq_false_iff_ne]; omega
            have HN : Hid (sameEv a b = false) := sameEv_no (fun e => hs e.2.2.2.2.1)
            clear ho hq ht hr hs
            go_enter Tryz.func54, Tryz.ntmps54
            go_wp2
            go_ret
            exact ⟨by rw [HN.out]; rfl, Hba.out⟩
          case' pos =>
            have ks : ((a.s : Int) == (b.s : Int)) = true := by rw [beq_iff_eq]; omega
            by_cases hp : a.p = b.p
            case' neg =>
              have kp : ((a.p : Int) == (b.p : Int)) = false := by rw [beq_eq_false_iff_ne]; omega
              have HN : Hid (sameEv a b = false) := sameEv_no (fun e => hp e.2.2.2.2.2.1)
              clear ho hq ht hr hs hp
              go_enter Tryz.func54, Tryz.ntmps54
              go_wp2
              go_ret
              exact ⟨by rw [HN.out]; rfl, Hba.out⟩
            case' pos =>
              have kp : ((a.p : Int) == (b.p : Int)) = true := by rw [beq_iff_eq]; omega
              by_cases hv : a.v = b.v
              case' neg =>
                have kv : (a.v == b.v) = false := by rw [beq_eq_false_iff_ne]; exact hv
                have HN : Hid (sameEv a b = false) := sameEv_no (fun e => hv e.2.2.2.2.2.2.1)
                clear ho hq ht hr hs hp hv
                go_enter Tryz.func54, Tryz.ntmps54
                go_wp2
                go_ret
                exact ⟨by rw [HN.out]; rfl, Hba.out⟩
              case' pos =>
                have kv : (a.v == b.v) = true := by rw [beq_iff_eq]; exact hv
                by_cases hw : a.w = b.w
                case' neg =>
                  have kw : ((a.w : Int) == (b.w : Int)) = false := by rw [beq_eq_false_iff_ne]; omega
                  have HN : Hid (sameEv a b = false) := sameEv_no (fun e => hw e.2.2.2.2.2.2.2.1)
                  clear ho hq ht hr hs hp hv hw
                  go_enter Tryz.func54, Tryz.ntmps54
                  go_wp2
                  go_ret
                  exact ⟨by rw [HN.out]; rfl, Hba.out⟩
                case' pos =>
                  have kw : ((a.w : Int) == (b.w : Int)) = true := by rw [beq_iff_eq]; omega
                  have HN : Hid (sameEv a b = decide (a.l = b.l)) := sameEv_labs ⟨ho, hq, ht, hr, hs, hp, hv, hw⟩
                  clear ho hq ht hr hs hp hv hw
                  go_enter Tryz.func54, Tryz.ntmps54
                  go_wp2_with fail
                  refine (same_any A n c a.l A2 n2 c2 b.l _ w.heap.size Hn.out Hn2.out hm Hr.out Hr2.out).mono ?_
                  rintro e w3 ⟨rfl, q, rfl⟩
                  go_wp2
                  go_ret
                  exact ⟨by rw [HN.out]; rfl, cbelow_drewN Hba.out q⟩

set_option maxRecDepth 100000 in
set_option maxHeartbeats 1000000 in
theorem itemSame_any (a b : It) (A : Option Addr) (n c : Nat) (A2 : Option Addr) (n2 c2 : Nat) (w : World) (hn : n = a.l.length) (hn2 : n2 = b.l.length) (hm : n ≤ maxLen) (hr : RdP w w.heap.size A a.l) (hr2 : RdP w w.heap.size A2 b.l) :
    Calls Tryz.prog 28 #[.agg #[.bool a.g, .int .u8 a.o, .int .u64 a.q, .int .u64 a.t, .string a.r, .slice A n c, .int .u8 a.s, .int .u8 a.p, .int .i64 a.v, .int .u8 a.w, .int .u8 a.ga, .int .u64 a.gf, .int .u64 a.gt], .agg #[.bool b.g, .int .u8 b.o, .int .u64 b.q, .int .u64 b.t, .string b.r, .slice A2 n2 c2, .int .u8 b.s, .int .u8 b.p, .int .i64 b.v, .int .u8 b.w, .int .u8 b.ga, .int .u64 b.gf, .int .u64 b.gt]] w fun e w' => e = .returned (.bool (sameI a b)) ∧ Below w.heap.size w w' := by
  have Hn := Lib.hid hn
  have Hn2 := Lib.hid hn2
  have Hr := Lib.hid hr
  have Hr2 := Lib.hid hr2
  clear hn hn2 hr hr2
  obtain ⟨x, hx⟩ : ∃ x, a.g = x := ⟨_, rfl⟩
  obtain ⟨y, hy⟩ : ∃ y, b.g = y := ⟨_, rfl⟩
  have HN : Hid (sameI a b = if x != y then false else if x then sameG a b else sameEv a b) := by show _ = _; unfold sameI; rw [hx, hy]
  rw [hx, hy]
  clear hx hy
  have hG := run_eqlG a b
  cases x <;> cases y
  · clear hG
    go_enter Tryz.func28, Tryz.ntmps28
    go_wp2_with fail
    refine (sameEvent_any a b A n c A2 n2 c2 _ Hn.out Hn2.out hm ((Hr.out.below (((Below.refl w.heap.size w).alloc (Nat.le_refl _) _).alloc (by simp) _)).more (by simp; omega)) ((Hr2.out.below (((Below.refl w.heap.size w).alloc (Nat.le_refl _) _).alloc (by simp) _)).more (by simp; omega))).mono ?_
    rintro e w3 ⟨rfl, hb⟩
    have Hb := Lib.hid ((((Below.refl w.heap.size w).alloc (Nat.le_refl _) _).alloc (by simp) _).trans (hb.mono (by simp; omega)))
    clear hb
    go_wp2
    go_ret
    exact ⟨by rw [HN.out]; rfl, Hb.out⟩
  · go_enter Tryz.func28, Tryz.ntmps28
    go_wp2
    go_ret
    exact ⟨by rw [HN.out]; rfl, ((Below.refl w.heap.size w).alloc (Nat.le_refl _) _).alloc (by simp) _⟩
  · go_enter Tryz.func28, Tryz.ntmps28
    go_wp2
    go_ret
    exact ⟨by rw [HN.out]; rfl, ((Below.refl w.heap.size w).alloc (Nat.le_refl _) _).alloc (by simp) _⟩
  · go_enter Tryz.func28, Tryz.ntmps28
    go_wp2
    go_ret
    exact ⟨by rw [HN.out]; rfl, ((Below.refl w.heap.size w).alloc (Nat.le_refl _) _).alloc (by simp) _⟩
end Go.Proofs.YtnagmopejblegaaGreat
