/-
  The landed batch: write.
-/
import Derived.Test.YtffjleceogablaaDoorWireU
import Derived.Test.YtffjleceogablaaDoorBCode
import Derived.Test.YtffjleceogablaaDoorBRow
namespace Go.Proofs.YtffjleceogablaaDoor
open Go.RowKit Go.WideShapes
set_option maxRecDepth 100000

theorem textB_le {l : List UInt8} (h : l.length < 18446744073709551616) : (textB l).length ≤ l.length + 10 := by
  have := Lib.uvarint_length64 h
  unfold textB
  rw [List.length_append]
  omega
set_option maxHeartbeats 1600000 in
theorem write12_any (b : Nat) (r : Option Nat) (l : List UInt8) (op : Bt.O) (w : World) (h : Wr b r l w) (hlen : l.length + 1 + op.key.length + op.val.length + 30 ≤ 140737488355328) :
    Calls Tryd.prog 36 #[.pointer (some ⟨b, 0, none⟩), opV op] w fun e w' => e = .returned (.tuple #[]) ∧ Wrote b r (l ++ Bt.opB op) w w' := by
  obtain ⟨d, k, v⟩ := op
  unfold opV
  obtain ⟨K, hK, hKl⟩ : ∃ K : ByteArray, strV k = .string K ∧ K.data.toList = k := ⟨⟨k.toArray⟩, rfl, rfl⟩
  obtain ⟨V, hV, hVl⟩ : ∃ V : ByteArray, strV v = .string V ∧ V.data.toList = v := ⟨⟨v.toArray⟩, rfl, rfl⟩
  simp only [hK, hV] at *
  have hKs : K.size = k.length := by rw [← hKl]; rfl
  have hVs : V.size = v.length := by rw [← hVl]; rfl
  have hbl := h.lt
  have W1 := h.alloc (.cells #[.bool d, .string K, .string V] 29)
  have K1 : Kept b r r w (w.alloc (.cells #[.bool d, .string K, .string V] 29)) := (Kept.refl b r w).alloc _
  have hbx := heap_alloc_new w (.cells #[.bool d, .string K, .string V] 29)
  obtain ⟨B, hB⟩ : ∃ B, w.heap.size = B := ⟨_, rfl⟩
  have hrl : ∀ k, r = some k → k < B := fun k e => hB ▸ h.rlt e
  rw [hB] at hbx hbl
  have BX := Lib.hid hbx
  have HL := Lib.hid hlen
  have HKV := Lib.hid (And.intro hKs (And.intro hVs (And.intro hKl hVl)))
  have KK := Lib.hid K1
  have HBL := Lib.hid hbl
  have HRL := Lib.hid hrl
  cases d with
  | true =>
    have C1 := wbyte_any b r l 1 _ W1 (by omega) (by omega) (by omega)
    clear h hlen hK hV hKl hVl hKs hVs hbl W1 K1 hbx hrl
    go_enter Tryd.func36, Tryd.ntmps36
    go_wp2_with fail
    refine C1.mono ?_
    rintro e w1 ⟨rfl, r1, hw1, k1⟩
    have BX1 := Lib.hid ((k1.keeps.block B (lt_of_block BX.out) (fun e => by rcases e with e | e; exact Nat.ne_of_gt HBL.out e; exact Nat.lt_irrefl _ (HRL.out _ e.symm))).trans BX.out)
    have x1 : w1.cell? ⟨B, 1, none⟩ = some (.string K) := by rw [Lib.cell_of_heap BX1.out]; rfl
    have C2 := wtext_any b r1 _ K _ hw1 (by have := HKV.out.1; have := HL.out; simp; omega)
    have K1 := Lib.hid (KK.out.trans k1)
    clear C1 hw1 k1
    go_wp2_with fail
    refine C2.mono ?_
    rintro e w2 ⟨rfl, r2, hw2, k2⟩
    have FN := Lib.hid (show Wrote b r (l ++ Bt.opB ⟨true, k, v⟩) w w2 from ⟨r2, by
      have h := hw2
      rw [HKV.out.2.2.1, List.append_assoc] at h
      exact h, K1.out.trans k2⟩)
    clear C2 hw2 k2
    go_wp2
    refine bodyPost_ret (results_none rfl _ _ _) rfl ?_
    exact ⟨rfl, FN.out⟩
  | false =>
    have C1 := wbyte_any b r l 0 _ W1 (by omega) (by omega) (by omega)
    clear h hlen hK hV hKl hVl hKs hVs hbl W1 K1 hbx hrl
    go_enter Tryd.func36, Tryd.ntmps36
    go_wp2_with fail
    refine C1.mono ?_
    rintro e w1 ⟨rfl, r1, hw1, k1⟩
    have BX1 := Lib.hid ((k1.keeps.block B (lt_of_block BX.out) (fun e => by rcases e with e | e; exact Nat.ne_of_gt HBL.out e; exact Nat.lt_irrefl _ (HRL.out _ e.symm))).trans BX.out)
    have x1 : w1.cell? ⟨B, 1, none⟩ = some (.string K) := by rw [Lib.cell_of_heap BX1.out]; rfl
    have HB1 := Lib.hid (show B < w1.heap.size from lt_of_block BX1.out)
    have HR1 := Lib.hid (show ¬ some B = r1 from fun e => by
      rcases k1.later with e2 | ⟨z, e2, hz⟩
      · exact Nat.lt_irrefl _ (HRL.out B (by rw [← e2, ← e]))
      · rw [e2] at e; have e3 := Option.some.inj e; have := lt_of_block BX.out; simp at hz; omega)
    have C2 := wtext_any b r1 _ K _ hw1 (by have := HKV.out.1; have := HL.out; simp; omega)
    have K1 := Lib.hid (KK.out.trans k1)
    clear C1 hw1 k1
    go_wp2_with fail
    refine C2.mono ?_
    rintro e w2 ⟨rfl, r2, hw2, k2⟩
    have BX2 := Lib.hid ((k2.keeps.block B HB1.out (fun e => by rcases e with e | e; exact Nat.ne_of_gt HBL.out e; exact HR1.out e)).trans BX1.out)
    have x2 : w2.cell? ⟨B, 2, none⟩ = some (.string V) := by rw [Lib.cell_of_heap BX2.out]; rfl
    have C3 := wtext_any b r2 _ V _ hw2 (by have h1 := HKV.out.1; have := HKV.out.2.1; have := HL.out; rw [HKV.out.2.2.1]; have h2 := textB_le (l := k) (by omega); simp; omega)
    have K2 := Lib.hid (K1.out.trans k2)
    clear C2 hw2 k2 x1
    go_wp2_with fail
    refine C3.mono ?_
    rintro e w3 ⟨rfl, r3, hw3, k3⟩
    have FN := Lib.hid (show Wrote b r (l ++ Bt.opB ⟨false, k, v⟩) w w3 from ⟨r3, by
      have h := hw3
      rw [HKV.out.2.2.1, HKV.out.2.2.2, List.append_assoc, List.append_assoc] at h
      exact h, K2.out.trans k3⟩)
    clear C3 hw3 k3
    go_wp2
    go_end0
    exact ⟨rfl, FN.out⟩
end Go.Proofs.YtffjleceogablaaDoor
