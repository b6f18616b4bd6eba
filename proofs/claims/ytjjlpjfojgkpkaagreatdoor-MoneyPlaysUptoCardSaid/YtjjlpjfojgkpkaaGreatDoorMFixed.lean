/-
  The contracts of remitlaw04's fixed, same.
-/
import Derived.Test.YtjjlpjfojgkpkaaGreatDoorMText2
import Derived.Test.YtjjlpjfojgkpkaaGreatDoorMSplit
import Derived.Test.YtjjlpjfojgkpkaaGreatDoorNum
namespace Go.Proofs.YtjjlpjfojgkpkaaGreatDoor
open Go.RowKit Go.WideShapes
set_option maxRecDepth 100000

theorem fix_rate : M.rate 12345 150 = 185 := by decide
theorem fix_splitE : M.splitE 10 [3, 3, 1] = 0 := by decide
theorem fix_shares : M.shares 10 (M.total [3, 3, 1] 3) [3, 3, 1] = [4, 4, 2] := by decide
theorem fix_text : textB (-5) 2 = ⟨#[45, 48, 46, 48, 53]⟩ := by
  show (⟨(M.textI 2 (-5)).toArray⟩ : ByteArray) = _
  have : M.textI 2 (-5) = [45, 48, 46, 48, 53] := by
    show 45 :: M.text 2 5 = _
    unfold M.text
    rw [show 5 / 10 ^ 2 = 0 from rfl, M.dec_zero]
    decide
  rw [this]
theorem fix_code : codeB (⟨#[69, 85, 82]⟩ : ByteArray).data.toList = true := by decide

set_option maxHeartbeats 3200000 in
theorem fixed_any (ad : Nat → Addr) (w : World) (hE : Errs ad w) (htab : Tab10 w) :
    Calls Tryz.prog 5 #[] w fun e w' => e = .returned (.bool true) ∧ Qt w w' := by
  have HE := Lib.hid (fun W (q : Qt w W) => hE.qt q)
  have HT := Lib.hid (fun W (q : Qt w W) => htab.qt q)
  clear hE htab
  go_enter Tryz.func5, Tryz.ntmps5
  go_wp2_with fail
  refine (rate_any ad 12345 150 _ (HE.out _ (Qt.refl w)) (by decide) (by decide) (by decide) (by decide)).mono ?_
  rintro e w1 ⟨rfl, k1⟩
  have K1 := Lib.hid k1; clear k1
  rw [show rateM ad 12345 150 = .tuple #[.int .i64 185, .nilIface] by rw [← fix_rate]; rfl]
  go_wp2_with fail
  refine (split4_any ad 10 _ _ _ [3, 3, 1] _ (by decide) (by decide) (HE.out _ (K1.out.alloc _)) (built_ints w1 [3, 3, 1] 3 3 rfl (by show (3 : Nat) ≤ _; decide))).mono ?_
  rintro e w2 ⟨v, rfl, k2, h⟩
  rw [fix_splitE]
  obtain ⟨h, _⟩ | ⟨_, g, rfl, _, hrow⟩ := h
  · exact absurd fix_splitE h
  have hrow2 : RowI .i64 w2 g 2 [4, 4, 2] := by rw [← fix_shares]; exact hrow
  have c0 := hrow2.cell (i := 0) (x := 4) rfl
  have c1 := hrow2.cell (i := 1) (x := 4) rfl
  have c2 := hrow2.cell (i := 2) (x := 2) rfl
  have K2 := Lib.hid (Qt.trans (K1.out.alloc _) k2)
  clear k2 hrow hrow2
  rw [errV_zero]
  go_wp2_with fail
  refine (add_any ad 9223372036854775807 1 _ (HE.out _ K2.out) (by decide) (by decide) (by decide) (by decide)).mono ?_
  rintro e w3 ⟨rfl, k3⟩
  have K3 := Lib.hid (Qt.trans K2.out k3); clear k3 c0 c1 c2
  rw [show sumM ad (9223372036854775807 + 1) = .tuple #[.int .i64 0, errV ad 10] from rfl]
  rw [show errV ad 10 = .iface 158 (.pointer (some (ad 10))) from rfl]
  go_wp2_with fail
  refine (num_any ad 10 _ (HE.out _ K3.out) (by decide)).mono ?_
  rintro e w4 ⟨rfl, k4⟩
  have K4 := Lib.hid (Qt.trans K3.out k4); clear k4
  go_wp2_with fail
  refine (text_any (-5) 2 _ (by decide) (by decide) (HT.out _ K4.out)).mono ?_
  rintro e w5 ⟨rfl, k5⟩
  have K5 := Lib.hid (Qt.trans K4.out k5); clear k5
  rw [fix_text]
  go_wp2_with fail
  refine (code_any ⟨#[69, 85, 82]⟩ _ (by decide)).mono ?_
  rintro e w6 ⟨rfl, rfl⟩
  rw [fix_code]
  go_wp2
  go_ret
  exact ⟨rfl, K5.out⟩

/-- Are two lists of numbers alike? -/
def sameB (a b : List Int) : Bool := decide (a = b)
set_option maxHeartbeats 3200000 in
theorem same_any (va vb : Value) (ga oa gb ob : Nat) (a b : List Int) (w : World) (ha : IntsAt .i64 w va ga oa a) (hb : IntsAt .i64 w vb gb ob b) :
    Calls Tryz.prog 22 #[va, vb] w fun e w' => e = .returned (.bool (sameB a b)) ∧ Qt w w' := by
  obtain ⟨pa, ca, rfl, hpa⟩ := ha.val
  obtain ⟨pb, cb, rfl, hpb⟩ := hb.val
  have hla := ha.le
  have hlb := hb.le
  have HA := Lib.hid (fun W (q : Qt w W) => ha.qt q)
  have HB := Lib.hid (fun W (q : Qt w W) => hb.qt q)
  have HPA := Lib.hid hpa
  have HPB := Lib.hid hpb
  clear ha hb hpa hpb
  by_cases hl : a.length = b.length
  · have hln : ((a.length : Int) != (b.length : Int)) = false := by rw [bne_eq_false_iff_eq]; omega
    rw [hl] at HA hln hla ⊢
    have HL := Lib.hid hl
    go_enter Tryz.func22, Tryz.ntmps22
    go_wp2
    go_loopw [13] (fun i wr => ∃ k : Nat, k ≤ b.length ∧ i = .int .i64 k ∧ a.take k = b.take k ∧ Qt w wr) (fun i _ => b.length - (intOf i).toNat)
    case atStart => exact ⟨0, Nat.zero_le _, rfl, rfl, Qt.refl w⟩
    case round =>
      obtain ⟨k, hk, rfl, he, hq⟩ := hrel
      have HQ := Lib.hid hq
      have HEQ := Lib.hid he
      clear he
      by_cases hlt : k < b.length
      · have hka : k < a.length := by rw [HL.out]; exact hlt
        have h1 := (HA.out wr hq).cells k _ (List.getElem?_eq_getElem hka)
        have h2 := (HB.out wr hq).cells k _ (List.getElem?_eq_getElem hlt)
        obtain rfl := HPA.out (fun e => by rw [e] at hka; simp at hka)
        obtain rfl := HPB.out (fun e => by rw [e] at hlt; simp at hlt)
        have hkb : (k : Int) < (b.length : Int) := by omega
        by_cases hx : a[k] = b[k]
        · have hxn : (a[k] != b[k]) = false := by rw [bne_eq_false_iff_eq]; exact hx
          have HN := Lib.hid (show a.take (k + 1) = b.take (k + 1) by rw [List.take_succ_eq_append_getElem hka, List.take_succ_eq_append_getElem hlt, HEQ.out, hx])
          clear hx hq
          generalize a[k] = x at *
          generalize b[k] = y at *
          go_wp2
          go_quiet (fail)
          go_wp2
          go_roundw
          case rel => exact ⟨k + 1, hlt, by go_num, HN.out, Keeps.drewN HQ.out _⟩
          case measure => simp [intOf]; omega
        · have hxn : (a[k] != b[k]) = true := by rw [bne_iff_ne]; exact hx
          have HF := Lib.hid (show sameB a b = false by
            unfold sameB
            refine decide_eq_false fun e => hx ?_
            subst e; rfl)
          clear hx hq
          generalize a[k] = x at *
          generalize b[k] = y at *
          go_wp2
          go_quiet (fail)
          go_wp2
          go_ret
          exact ⟨retB HF.out.symm, Keeps.drewN HQ.out _⟩
      · obtain rfl : k = b.length := by omega
        have HF := Lib.hid (show sameB a b = true by
          unfold sameB
          refine decide_eq_true ?_
          have h := HEQ.out
          rw [List.take_length, ← HL.out, List.take_length] at h
          exact h)
        clear hlt hk hq
        go_wp2
        go_ret
        exact ⟨retB HF.out.symm, HQ.out⟩
  · have hln : ((a.length : Int) != (b.length : Int)) = true := by rw [bne_iff_ne]; omega
    have HF := Lib.hid (show sameB a b = false from decide_eq_false (fun e => hl (by rw [e])))
    clear hl
    go_enter Tryz.func22, Tryz.ntmps22
    go_wp2
    go_ret
    exact ⟨retB HF.out.symm, Qt.refl w⟩
end Go.Proofs.YtjjlpjfojgkpkaaGreatDoor
