/-
  The contracts of same, clean, begins.
-/
import Derived.Test.YtfhfbpjhjigbnaaDoorKParts
import Derived.Deep.RegionHeld3
import Derived.LoopTactic
namespace Go.Proofs.YtfhfbpjhjigbnaaDoor
open Go.RowKit Go.WideShapes
set_option maxRecDepth 100000

theorem ret_bool {a b : Bool} (h : a = b) : Ending.returned (.bool a) = .returned (.bool b) := by rw [h]

def sameB (ps qs : List PD) : Bool := decide (ps.map PD.plain = qs.map PD.plain)
theorem map_plain_iff : ∀ (ps qs : List PD), ps.map PD.plain = qs.map PD.plain ↔ ps.map PD.part = qs.map PD.part
  | [], [] => by simp
  | [], _ :: _ => by simp
  | _ :: _, [] => by simp
  | p :: ps, q :: qs => by
    rw [List.map_cons, List.map_cons, List.map_cons, List.map_cons, List.cons.injEq, List.cons.injEq, plain_iff, map_plain_iff ps qs]
theorem sameB_iff (ps qs : List PD) : sameB ps qs = true ↔ ps.map PD.part = qs.map PD.part := by
  unfold sameB; rw [decide_eq_true_eq, map_plain_iff]
theorem sameB_len {ps qs : List PD} (h : ps.length ≠ qs.length) : sameB ps qs = false := by
  unfold sameB; rw [decide_eq_false_iff_not]; intro e; exact h (by simpa using congrArg List.length e)
theorem sameB_at {ps qs : List PD} {k : Nat} {p q : PD} (hp : ps[k]? = some p) (hq : qs[k]? = some q) (h : p.plain ≠ q.plain) : sameB ps qs = false := by
  unfold sameB; rw [decide_eq_false_iff_not]; intro e
  have := congrArg (·[k]?) e
  simp only [List.getElem?_map, hp, hq, Option.map_some, Option.some.injEq] at this
  exact h this
theorem sameB_all {ps qs : List PD} (hl : ps.length = qs.length) (h : ∀ (k : Nat) (p q : PD), ps[k]? = some p → qs[k]? = some q → p.plain = q.plain) : sameB ps qs = true := by
  unfold sameB; rw [decide_eq_true_eq]
  apply List.ext_getElem?
  intro k
  rw [List.getElem?_map, List.getElem?_map]
  by_cases hk : k < ps.length
  · rw [List.getElem?_eq_getElem hk, List.getElem?_eq_getElem (show k < qs.length by omega)]
    simp only [Option.map_some, Option.some.injEq]
    exact h k _ _ (List.getElem?_eq_getElem hk) (List.getElem?_eq_getElem (show k < qs.length by omega))
  · rw [List.getElem?_eq_none (by omega), List.getElem?_eq_none (by omega)]

def SameAt (ps qs : List PD) (w : World) (i : Value) (wr : World) : Prop :=
  ∃ k : Nat, k ≤ ps.length ∧ i = .int .i64 k ∧ (∀ (j : Nat) (p q : PD), j < k → ps[j]? = some p → qs[j]? = some q → p.plain = q.plain) ∧ Qt w wr

set_option maxHeartbeats 3200000 in
theorem same_any (v v2 : Value) (g off g2 off2 : Nat) (ps qs : List PD) (w : World) (hs : Parts w v g off ps) (ht : Parts w v2 g2 off2 qs) :
    Calls Tryd.prog 21 #[v, v2] w fun e w' => e = .returned (.bool (sameB ps qs)) ∧ Qt w w' := by
  obtain ⟨a, cap, rfl, ha⟩ := hs.val
  obtain ⟨a2, cap2, rfl, ha2⟩ := ht.val
  have hle := hs.le
  have hle2 := ht.le
  have HS := Lib.hid hs
  have HT := Lib.hid ht
  clear hs ht ha ha2
  by_cases hl : ps.length = qs.length
  · have hlb : ((ps.length : Int) != (qs.length : Int)) = false := by simp [hl]
    have Hl := Lib.hid hl
    have hle3 : ps.length ≤ qs.length := by omega
    clear hl
    go_enter Tryd.func21, Tryd.ntmps21
    go_wp2
    clear hlb
    go_loopw [13] (fun i wr => SameAt ps qs w i wr) (fun i _ => ps.length - (intOf i).toNat)
    case atStart => exact ⟨0, Nat.zero_le _, rfl, fun j p q hj => by omega, Qt.refl _⟩
    case round =>
      obtain ⟨k, hk, rfl, he, hq⟩ := hrel
      have He := Lib.hid he
      have HQ := Lib.hid hq
      by_cases hlt : k < ps.length
      · obtain ⟨p, cap', hpk, hv⟩ := HS.out.elem hlt
        injection hv with hv q1 q2
        clear q1 q2
        subst hv
        have hlt2 : k < qs.length := by omega
        obtain ⟨q, cap2', hqk, hv⟩ := HT.out.elem hlt2
        injection hv with hv q1 q2
        clear q1 q2
        subst hv
        obtain ⟨c0, c1, c2⟩ := (HS.out.qt hq).cells k p hpk
        obtain ⟨d0, d1, d2⟩ := (HT.out.qt hq).cells k q hqk
        have hb1 : (0 : Int) ≤ (k : Int) := by omega
        have hb2 : (k : Int) < (ps.length : Int) := by omega
        have hb3 : (k : Int) < (qs.length : Int) := by omega
        have HC := Lib.hid (fun (W' : World) (kq : Qt wr.drew W') => show W'.cell? ⟨g, off + k * 3, none⟩ = some (.bool p.b) ∧ W'.cell? ⟨g, off + k * 3 + 1, none⟩ = some (.int .i64 p.n) ∧ W'.cell? ⟨g, off + k * 3 + 2, none⟩ = some (.string p.s) ∧ W'.cell? ⟨g2, off2 + k * 3, none⟩ = some (.bool q.b) ∧ W'.cell? ⟨g2, off2 + k * 3 + 1, none⟩ = some (.int .i64 q.n) ∧ W'.cell? ⟨g2, off2 + k * 3 + 2, none⟩ = some (.string q.s) from
          ⟨kq.cellv c0, kq.cellv c1, kq.cellv c2, kq.cellv d0, kq.cellv d1, kq.cellv d2⟩)
        have Hpk := Lib.hid hpk
        have Hqk := Lib.hid hqk
        by_cases hpq : p.plain = q.plain
        · have n1 := fun W => run_neq_part p.plain q.plain W
          simp only [hpq, decide_true, Bool.not_true] at n1
          have hpq1 := hpq
          have Hpq := Lib.hid hpq
          have n1 : ∀ W, (binOp .neq 25 p.plain.val q.plain.val).run Tryd.prog W = .ok (.bool false) W := fun W => by rw [run_neq_part, hpq1]; simp
          clear hpq hpq1 hq he hpk hqk
          go_wp2
          go_region_held3 (fun W' => W'.cell? ⟨g, off + k * 3, none⟩ = some (.bool p.b) ∧ W'.cell? ⟨g, off + k * 3 + 1, none⟩ = some (.int .i64 p.n) ∧ W'.cell? ⟨g, off + k * 3 + 2, none⟩ = some (.string p.s) ∧ W'.cell? ⟨g2, off2 + k * 3, none⟩ = some (.bool q.b) ∧ W'.cell? ⟨g2, off2 + k * 3 + 1, none⟩ = some (.int .i64 q.n) ∧ W'.cell? ⟨g2, off2 + k * 3 + 2, none⟩ = some (.string q.s))
            (first | go_keep | exact HC.out _ (Qt.trans kT kU) | exact HC.out _ (Qt.trans kU kT) | exact HC.out _ kT | exact HC.out _ kU)
            (first | (go_at_call 34; (with_reducible refine (plain_any p _).mono ?_); rintro e wT ⟨rfl, kT⟩) | (go_at_call 34; (with_reducible refine (plain_any q _).mono ?_); rintro e wU ⟨rfl, kU⟩))
          all_goals
            have fin := Lib.hid (Qt.trans HQ.out.drew (by first | exact Qt.trans kT kU | exact Qt.trans kU kT))
            clear kT kU c0 c1 c2 d0 d1 d2 HC n1
            go_wp2
            go_roundw
            case rel => exact ⟨k + 1, by omega, by simp, fun j p' q' hj hp' hq' => by
              by_cases hjk : j < k
              · exact He.out j p' q' hjk hp' hq'
              · obtain rfl : j = k := by omega
                rw [Hpk.out] at hp'; rw [Hqk.out] at hq'
                cases hp'; cases hq'
                exact Hpq.out, fin.out⟩
            case measure => simp [intOf]; omega
        · have n1 : ∀ W, (binOp .neq 25 p.plain.val q.plain.val).run Tryd.prog W = .ok (.bool true) W := fun W => by rw [run_neq_part, decide_eq_false hpq]; rfl
          have Hno := Lib.hid (sameB_at hpk hqk hpq)
          clear hpq hq he hpk hqk
          go_wp2
          go_region_held3 (fun W' => W'.cell? ⟨g, off + k * 3, none⟩ = some (.bool p.b) ∧ W'.cell? ⟨g, off + k * 3 + 1, none⟩ = some (.int .i64 p.n) ∧ W'.cell? ⟨g, off + k * 3 + 2, none⟩ = some (.string p.s) ∧ W'.cell? ⟨g2, off2 + k * 3, none⟩ = some (.bool q.b) ∧ W'.cell? ⟨g2, off2 + k * 3 + 1, none⟩ = some (.int .i64 q.n) ∧ W'.cell? ⟨g2, off2 + k * 3 + 2, none⟩ = some (.string q.s))
            (first | go_keep | exact HC.out _ (Qt.trans kT kU) | exact HC.out _ (Qt.trans kU kT) | exact HC.out _ kT | exact HC.out _ kU)
            (first | (go_at_call 34; (with_reducible refine (plain_any p _).mono ?_); rintro e wT ⟨rfl, kT⟩) | (go_at_call 34; (with_reducible refine (plain_any q _).mono ?_); rintro e wU ⟨rfl, kU⟩))
          all_goals
            have fin := Lib.hid (Qt.trans HQ.out.drew (by first | exact Qt.trans kT kU | exact Qt.trans kU kT))
            clear kT kU c0 c1 c2 d0 d1 d2 HC n1
            go_wp2
            go_ret
            exact ⟨ret_bool Hno.out.symm, fin.out⟩
      · obtain rfl : k = ps.length := by omega
        have Hyes := Lib.hid (sameB_all Hl.out (fun j p q hp hq => he j p q (List.getElem?_eq_some_iff.1 hp).1 hp hq))
        clear hq he hlt
        go_wp2
        go_ret
        exact ⟨ret_bool Hyes.out.symm, HQ.out⟩
  · have hlb : ((ps.length : Int) != (qs.length : Int)) = true := by simp; omega
    have Hno := Lib.hid (sameB_len hl)
    clear hl
    go_enter Tryd.func21, Tryd.ntmps21
    go_wp2
    go_ret
    exact ⟨ret_bool Hno.out.symm, Qt.refl _⟩
end Go.Proofs.YtfhfbpjhjigbnaaDoor
