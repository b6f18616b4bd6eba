/-
  The document's own batch: Decode.
  Errors' values can be compared.
-/
import Derived.Test.YtffjleceogablaaDoorP22
import Derived.WalkLawsBesides
import Derived.BigQuiet
import Derived.Test.YtffjleceogablaaDoorP03
import Derived.LaidEql
namespace Go.Proofs.YtffjleceogablaaDoor
open Go.RowKit Go.WideShapes
set_option maxRecDepth 100000

namespace Bt
/-- Decode's answer, of what the ops' reading gives. -/
def decF (n L : Nat) : Nat ⊕ (List O × Nat) → Nat ⊕ List O
  | .inl e => .inl e
  | .inr (ops, m) => if n + m < L then .inl 5 else .inr ops
theorem decD_num {l : Tb.Txt} {x n : Nat} (h : varintD l = .inr (x, n)) : decD l = decF n l.length (opsD x true [] (l.drop n)) := by
  unfold decD
  rw [h]
  simp only
  cases opsD x true [] (l.drop n) with
  | inl e => rfl
  | inr r => rfl
end Bt
/-- What the document's Decode answers. -/
def RefDP (w : World) (D : Nat ⊕ List Bt.O) (e : Ending) (w' : World) : Prop :=
  match D with
  | .inl er => e = .returned (.tuple #[.slice none 0 0, .int .i64 (er : Int)]) ∧ Qt w w'
  | .inr ops => ∃ v, e = .returned (.tuple #[v, .int .i64 0]) ∧ NewO w w' v ops
/-- Where the loop stands. -/
def DdAt (w : World) (q : Nat) (s : ByteArray) (x n : Nat) (ov bv iv : Value) (wr : World) : Prop :=
  ∃ (k p2 er : Nat) (us : List Bt.O) (K0 : ByteArray), k ≤ x ∧ iv = .int .u64 (k : Int) ∧ bv = .string K0 ∧ NewO w wr ov us ∧ ov.ownBlock ≠ some q ∧ RdQ q s p2 er wr ∧
    ((er = 0 ∧ us.length = k ∧ ∃ d, p2 = n + d ∧ k ≤ d ∧ n + d ≤ s.size ∧ Bt.decD s.data.toList = Bt.decF n s.data.toList.length (Bt.onto us d (Bt.opsD (x - k) (decide (k = 0)) K0.data.toList (rest s (n + d))))) ∨
      (Bt.ErrN er ∧ Bt.decD s.data.toList = .inl er))
set_option maxHeartbeats 12800000 in
theorem rdecode12_any (s : ByteArray) (w : World) (hs : s.size ≤ 1099511627776) :
    Calls Tryd.prog 20 #[.string s] w (RefDP w (Bt.decD s.data.toList)) := by
  obtain ⟨i0, hi0, hz0, hz1, hz2⟩ := info_parts infoOp12
  obtain ⟨q, hq⟩ : ∃ q, w.heap.size = q := ⟨_, rfl⟩
  have HS := Lib.hid hs
  have HQ := Lib.hid hq
  have RB : RdQ q s 0 0 (w.alloc (.cells #[.string s, .int .i64 0, .int .i64 0] 85)) := hq ▸ heap_alloc_new w _
  have NU := rnumber_any q s 0 _ RB (Nat.zero_le _) (by omega)
  have QB := Lib.hid (show Qt w (w.alloc (.cells #[.string s, .int .i64 0, .int .i64 0] 85)) from (Qt.refl w).alloc _)
  have VL := Lib.hid (fun x n h => varintD_len (s := s) (p := 0) (x := x) (n := n) (Nat.zero_le _) h)
  clear hs hq RB
  go_enter Tryd.func20, Tryd.ntmps20
  go_wp2_with fail
  rw [HQ.out]
  refine NU.mono ?_
  rintro e w2 ⟨hm, hk⟩
  have Q2 := Lib.hid (show Qt w w2 from Keeps.trans QB.out hk (fun i hi e => by have := HQ.out; omega))
  have H : ∃ (x n er p2 : Nat), e = .returned (.int .u64 (x : Int)) ∧ x < 18446744073709551616 ∧ RdQ q s p2 er w2 ∧ ((er = 0 ∧ p2 = n ∧ n ≤ s.size ∧ Bt.decD s.data.toList = Bt.decF n s.data.toList.length (Bt.opsD x true [] (rest s n))) ∨ (Bt.ErrN er ∧ Bt.decD s.data.toList = .inl er)) := by
    cases hD : varintD (rest s 0) with
    | inl er =>
      rw [hD] at hm
      refine ⟨0, 0, er, 0, hm.1, by decide, hm.2, .inr ⟨?_, ?_⟩⟩
      · rcases vd_err _ _ _ _ hD with rfl | rfl
        · exact .inl rfl
        · exact .inr (.inl rfl)
      · unfold Bt.decD
        rw [show varintD s.data.toList = .inl er from hD]
    | inr xn =>
      obtain ⟨x, n⟩ := xn
      rw [hD] at hm
      obtain ⟨h1, h2, h3⟩ := VL.out x n hD
      rw [Nat.zero_add] at h2
      refine ⟨x, n, 0, n, hm.1, h1, by have h := hm.2; rwa [Nat.zero_add] at h, .inl ⟨rfl, rfl, h2, Bt.decD_num hD⟩⟩
  obtain ⟨x, n, er, p2, rfl, hx, R2, hst⟩ := H
  have HX := Lib.hid hx
  have W0 : w2.heap.size = w2.heap.size := rfl
  have START := Lib.hid (fun x3 (hx3 : x3 = w2.alloc (.cells #[] 29)) => (show DdAt w q s x n (.slice (some ⟨w2.heap.size, 0, none⟩) 0 0) (.string ⟨#[]⟩) (.int .u64 0) x3 from by
    subst hx3
    refine ⟨0, p2, er, [], ⟨#[]⟩, Nat.zero_le _, rfl, rfl, ⟨op_new0 w2, fun g e => by injection e with e; have := Q2.out.size; simp only at e; omega, Q2.out.alloc _⟩, fun e => by have e2 := Option.some.inj e; have := R2.lt; simp only at e2; omega, R2.qt ((Qt.refl w2).alloc _), ?_⟩
    rcases hst with ⟨h1, h2, h3, h4⟩ | h
    · refine .inl ⟨h1, rfl, 0, by rw [h2]; rfl, Nat.le_refl _, h3, ?_⟩
      rw [Bt.onto_nil]
      exact h4
    · exact .inr h))
  clear NU hm hk hx R2 hst W0
  go_wp2
  go_loopw [6, 7, 8] (fun ov bv iv wr => DdAt w q s x n ov bv iv wr) (fun _ _ iv _ => x - (intOf iv).toNat)
  case atStart => exact START.out _ rfl
  case round =>
    obtain ⟨k, p2, er, us, K0, hk, rfl, rfl, N, hnq, R, hst⟩ := hrel
    have HN := Lib.hid N
    have HNQ := Lib.hid hnq
    have HR := Lib.hid R
    have HQW := Lib.hid N.qt
    have c1 := R.c1
    have c2 := R.c2
    obtain ⟨oa, oc, rfl⟩ := ownG_shape N.own
    clear START N hnq R
    rcases hst with ⟨rfl, hus, d, rfl, hkd, hns, hon⟩ | ⟨hE, hFD⟩
    · have HUS := Lib.hid hus
      have HKD := Lib.hid hkd
      have HNS := Lib.hid hns
      have HON := Lib.hid hon
      by_cases hlt : k < x
      · have zlt : decide ((k : Int) < (x : Int)) = true := decide_eq_true (by omega)
        have zlt' : decide (k < x) = true := decide_eq_true hlt
        have hw1 : IntKind.u64.wrap ((k : Int) + 1) = (k : Int) + 1 := by have := HX.out; rw [IntKind.wrap_u64]; omega
        have HM := Lib.hid (show x - (intOf (.int .u64 ((k : Int) + 1))).toNat < x - (intOf (.int .u64 (k : Int))).toNat by simp [intOf]; omega)
        have HLT := Lib.hid hlt
        obtain ⟨fb, hfb⟩ : ∃ fb : Bool, ((k : Int) == 0) = fb := ⟨_, rfl⟩
        have HFB := Lib.hid (show decide (k = 0) = fb from by rw [← hfb]; cases hk0 : decide (k = 0) with
          | true => have := of_decide_eq_true hk0; subst this; rfl
          | false => have h0 := of_decide_eq_false hk0; exact (beq_eq_false_iff_ne.2 (by omega)).symm)
        have RO := ropQ_any q s (n + d) fb K0 wr HR.out hns (by have := HS.out; omega)
        have hxk : x - k = (x - (k + 1)) + 1 := by omega
        have hb1 : us.length + 1 ≤ maxLen := by have := HS.out; unfold maxLen; omega
        have hb2 : (us.length + 1) * 40 ≤ 140737488355328 := by have := HS.out; omega
        rw [HFB.out] at hon
        clear hlt hk hus hkd hns
        go_wp2_with fail
        refine RO.mono ?_
        rintro e w3 ⟨hm, k3⟩
        have OWN3 := Lib.hid (show w3.ownsRow 0 29 3 (.slice oa us.length oc) us.length (opsC us) from ownsRow_kept HN.out.own k3 (fun z e1 e2 => HNQ.out (by rw [e1, e2])))
        have OW := Lib.hid (fun o1 o2 => (show ((w3.alloc o1).alloc o2).ownsRow 0 29 3 (.slice oa us.length oc) us.length (opsC us) from ownsRow_kept OWN3.out (((Keeps.refl (fun _ => False) w3).alloc o1).alloc o2) (fun _ _ e => e)))
        have Q3 := Lib.hid (show Qt w w3 from Keeps.trans HQW.out k3 (fun i hi e => by have := HQ.out; omega))
        have H : ∃ (op : Bt.O) (p3 er3 : Nat), e = .returned (opV op) ∧ RdQ q s p3 er3 w3 ∧ ((er3 = 0 ∧ ∃ d3, p3 = n + d3 ∧ k + 1 ≤ d3 ∧ n + d3 ≤ s.size ∧ Bt.decD s.data.toList = Bt.decF n s.data.toList.length (Bt.onto (us ++ [op]) d3 (Bt.opsD (x - (k + 1)) false op.key (rest s (n + d3))))) ∨ (Bt.ErrN er3 ∧ Bt.decD s.data.toList = .inl er3)) := by
          cases hod : Bt.opD fb K0.data.toList (rest s (n + d)) with
          | inl er =>
            rw [hod] at hm
            obtain ⟨o, p3, h1, h2⟩ := hm
            refine ⟨o, p3, er, h1, h2, .inr ⟨Bt.opD_err hod, ?_⟩⟩
            rw [hon, hxk, Bt.onto_err hod]
            rfl
          | inr om =>
            obtain ⟨o, m⟩ := om
            rw [hod] at hm
            obtain ⟨hm2, hml⟩ := Bt.opD_pos hod
            rw [rest_length] at hml
            refine ⟨o, n + d + m, 0, hm.1, hm.2, .inl ⟨rfl, d + m, by omega, by have := HKD.out; omega, by have := HNS.out; omega, ?_⟩⟩
            rw [hon, hxk, Bt.onto_ok hod, rest_drop, Nat.add_assoc]
        obtain ⟨op, p3, er3, rfl, R3, hst3⟩ := H
        obtain ⟨K, hK, hKl⟩ : ∃ K : ByteArray, strV op.key = .string K ∧ K.data.toList = op.key := ⟨⟨op.key.toArray⟩, rfl, rfl⟩
        obtain ⟨V, hV⟩ : ∃ V : ByteArray, strV op.val = .string V := ⟨_, rfl⟩
        have OPV : opV op = .agg #[.bool op.del, .string K, .string V] := by unfold opV; rw [hK, hV]
        have HCV := Lib.hid (show opC op = [.bool op.del, .string K, .string V] by unfold opC; rw [hK, hV])
        rw [OPV]
        have R3H := Lib.hid R3
        have HST := Lib.hid hst3
        have HKL := Lib.hid hKl
        clear RO hm k3 hon hxk hfb c1 c2 R3 hst3 OPV hK hV hKl
        go_wp2_with (at_builtin; refine wpList_append_rows _ rfl _ _ 22 rfl 29 i0 (.agg #[.bool false, .string ⟨#[]⟩, .string ⟨#[]⟩]) 3 40 Tryd.underlying22 hi0 hz0 hz1 hz2 rfl (by decide) _ us.length (opsC us) rfl (OW.out _ _) (some ⟨w3.heap.size + 1, 0, none⟩) 1 1 [.bool op.del, .string K, .string V] rfl rfl (fun _ => ⟨_, rfl, fun j u h => by have := newsG (w3.alloc (.cells #[.bool op.del, .string K, .string V] 29)) [.bool op.del, .string K, .string V] 29 j u h; rw [show (w3.alloc (.cells #[.bool op.del, .string K, .string V] 29)).heap.size = w3.heap.size + 1 by simp] at this; exact this⟩) (by intro y hy; simp at hy; rcases hy with rfl | rfl | rfl <;> rfl) hb1 hb2 ?_)
        intro v5 w5 own5 gr5 la5
        have N5 := Lib.hid (ownG_more (f := opC) (W := w) (l := us) (k := [op]) HN.out.new ((Q3.out.alloc _).alloc _) (by simp) (by rw [cellsG_append, cellsG_one, HCV.out]) own5 gr5 la5)
        have FIN := Lib.hid (show DdAt w q s x n v5 (.string K) (.int .u64 ((k : Int) + 1)) w5 from
          ⟨k + 1, p3, er3, us ++ [op], K, HLT.out, by simp, rfl, N5.out,
            fun e => by
              rcases la5 with e2 | ⟨z, e2, hz⟩
              · exact HNQ.out (e2 ▸ e)
              · rw [e2] at e; have e3 := Option.some.inj e; have := R3H.out.lt; simp at hz; omega,
            by
              have h1 := (R3H.out.qt ((Qt.refl w3).alloc (.cells #[.bool op.del, .string K, .string V] 29))).qt ((Qt.refl _).alloc (.cells #[.bool op.del, .string K, .string V] 29))
              have h2 : Keeps (fun z => (Value.slice oa us.length oc).ownBlock = some z) _ w5 := Keeps.grown (S := fun z => (Value.slice oa us.length oc).ownBlock = some z) (Keeps.refl _ _) gr5 (fun z _ e => e.symm)
              exact h1.kept h2 HNQ.out,
            by
              rcases HST.out with ⟨h1, d3, h2, h3, h4, h5⟩ | h
              · refine .inl ⟨h1, by rw [List.length_append, List.length_singleton, HUS.out], d3, h2, h3, h4, ?_⟩
                rw [HKL.out, show decide (k + 1 = 0) = false from decide_eq_false (by omega)]
                exact h5
              · exact .inr h⟩)
        clear own5 gr5 la5
        obtain ⟨a5, c5, rfl⟩ := ownG_shape N5.out.own
        go_wp2
        first | exact ⟨FIN.out, HM.out⟩ | (rw [hw1]; exact ⟨FIN.out, HM.out⟩)
      · obtain rfl : k = x := by omega
        have zlt : decide ((k : Int) < (k : Int)) = false := decide_eq_false (by omega)
        have zlt' : decide (k < k) = false := decide_eq_false (by omega)
        have hOS : Bt.decD s.data.toList = if n + d < s.data.toList.length then .inl 5 else .inr us := by
          rw [hon, Nat.sub_self]
          show Bt.decF n s.data.toList.length (.inr (us ++ [], d + 0)) = _
          simp [Bt.decF]
        clear hlt hk hus hkd hns hon
        by_cases ht : n + d < s.size
        · have FD := Lib.hid (show Bt.decD s.data.toList = .inl 5 by rw [hOS, if_pos (by simpa using ht)])
          obtain ⟨p, hp⟩ : ∃ p, n + d = p := ⟨_, rfl⟩
          rw [hp] at c1 ht
          have z1 : (p : Int) < (s.size : Int) := by omega
          have z1' : decide ((p : Int) < (s.size : Int)) = true := decide_eq_true z1
          have f2 := HR.out.f 2
          have R9 := HR.out.set2 (i := 5) (n := 5) rfl
          have d2 := R9.c2
          have QF := Lib.hid (show Qt w (wr.setCell ⟨q, 2, none⟩ (.int .i64 5)) from Keeps.setCell HQW.out (fun h => by have := HQ.out; simp only at h; omega) _)
          clear ht hOS R9
          go_wp2
          go_quiet (fail)
          go_wp2
          go_ret2
          rw [FD.out]
          exact ⟨rfl, QF.out.drewN _⟩
        · have FD := Lib.hid (show Bt.decD s.data.toList = .inr us by rw [hOS, if_neg (by simpa using ht)])
          obtain ⟨p, hp⟩ : ∃ p, n + d = p := ⟨_, rfl⟩
          rw [hp] at c1 ht
          have z1 : (s.size : Int) ≤ (p : Int) := by omega
          have z1' : decide ((p : Int) < (s.size : Int)) = false := decide_eq_false (by omega)
          clear ht hOS
          go_wp2
          go_ret2
          rw [FD.out]
          exact ⟨_, rfl, HN.out⟩
    · have hz : ((er : Int) == 0) = false := by
        rcases hE with rfl | rfl | rfl | rfl | rfl | rfl <;> decide
      have hz2 : ((er : Int) != 0) = true := by
        rcases hE with rfl | rfl | rfl | rfl | rfl | rfl <;> decide
      have FD := Lib.hid hFD
      clear hE hFD
      by_cases hlt : k < x
      · have zlt : decide ((k : Int) < (x : Int)) = true := decide_eq_true (by omega)
        have zlt' : decide (k < x) = true := decide_eq_true hlt
        clear hlt hk
        go_wp2
        go_quiet (fail)
        go_wp2
        go_ret2
        rw [FD.out]
        exact ⟨rfl, HQW.out.drewN _⟩
      · have zlt : decide ((k : Int) < (x : Int)) = false := decide_eq_false (by omega)
        have zlt' : decide (k < x) = false := decide_eq_false hlt
        clear hlt hk
        go_wp2
        go_quiet (fail)
        go_wp2
        go_ret2
        rw [FD.out]
        exact ⟨rfl, HQW.out.drewN _⟩
end Go.Proofs.YtffjleceogablaaDoor
namespace Go.Proofs.YtffjleceogablaaDoor
open Go.RowKit
set_option maxRecDepth 100000

theorem compErr : (Tryd.prog.info? 155).map (·.comparable) = some true := by kernel_rfl
theorem sizeErr : (Tryd.prog.info? 169).map (·.size) = some 1 := by kernel_rfl
end Go.Proofs.YtffjleceogablaaDoor
