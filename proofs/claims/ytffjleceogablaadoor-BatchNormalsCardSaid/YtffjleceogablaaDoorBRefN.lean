/-
  The document's own batch: the contract of Normal.
-/
import Derived.Test.YtffjleceogablaaDoorBRefA
import Derived.Test.YtffjleceogablaaDoorBRefT
import Derived.Test.YtffjleceogablaaDoorBSpare
import Derived.LoopTactic
namespace Go.Proofs.YtffjleceogablaaDoor
open Go.RowKit Go.WideShapes
set_option maxRecDepth 100000

def NmAt (w : World) (ops : List Bt.O) (kv ov iv : Value) (wr : World) : Prop :=
  ∃ j : Nat, j ≤ ops.length ∧ iv = .int .i64 ((j : Int) - 1) ∧ TwR w wr kv ov (Bt.keysR (Bt.normal (ops.drop j))) (Bt.normal (ops.drop j))
/-- What the inner loop keeps: from k on all has moved up by one. -/
def ShAt (w x4 : World) (gk go : Nat) (ks : List Tb.R) (os : List Bt.O) (N ck M co p : Nat) (kv : Value) (wr : World) : Prop :=
  ∃ k : Nat, p ≤ k ∧ k ≤ os.length ∧ kv = .int .i64 k ∧ TwR w wr (.slice (some ⟨gk, 0, none⟩) N ck) (.slice (some ⟨go, 0, none⟩) M co) (Bt.shiftL ks ([], []) k) (Bt.shiftL os ⟨false, [], []⟩ k) ∧ Keeps (fun b => b = gk ∨ b = go) x4 wr
set_option maxHeartbeats 3200000 in
theorem rnormal12_any {v : Value} {g o : Nat} {ops : List Bt.O} (w : World) (hr : OpsIn w v g o ops) (hb : ops.length * 40 ≤ 140737488355328) :
    Calls Tryd.prog 13 #[v] w fun e w' => ∃ v', e = .returned v' ∧ NewO w w' v' (Bt.normal ops) := by
  have HR := Lib.hid hr
  have HLE := Lib.hid hr.le
  have HB := Lib.hid hb
  obtain ⟨a, cap, rfl, ha⟩ := hr.val
  clear hr ha hb
  obtain ⟨i0, hi0, hz0, hz1, hz2⟩ := info_parts infoOp12
  obtain ⟨j0, hj0, jz0, jz1, jz2⟩ := info_parts infoRow
  have START := Lib.hid (show NmAt w ops (.slice (some ⟨w.heap.size, 0, none⟩) 0 0) (.slice (some ⟨w.heap.size + 1, 0, none⟩) 0 0) (.int .i64 ((ops.length : Int) - 1)) ((w.alloc (.cells #[] 64)).alloc (.cells #[] 29)) from
    ⟨ops.length, Nat.le_refl _, rfl, by
      rw [List.drop_length]
      refine ⟨ownsRow_kept (row_new0G w) ((Keeps.refl (fun _ => False) _).alloc _) (fun _ _ e => e), ?_, ?_, ?_, ?_, ((Qt.refl w).alloc _).alloc _⟩
      · have h := op_new0 (w.alloc (.cells #[] 64))
        rw [show (w.alloc (.cells #[] 64)).heap.size = w.heap.size + 1 by simp] at h
        exact h
      · intro g e; injection e with e; subst e; exact Nat.le_refl _
      · intro g e; injection e with e; subst e; exact Nat.le_succ _
      · intro g e e2
        have e3 : w.heap.size = g := Option.some.inj e
        have e4 : w.heap.size + 1 = g := Option.some.inj e2
        omega⟩)
  have hw0 : wrap64 ((ops.length : Int) - 1) = (ops.length : Int) - 1 := by have := HLE.out; unfold wrap64; omega
  go_enter Tryd.func13, Tryd.ntmps13
  go_wp2
  rw [hw0]
  clear hw0
  go_loopw [3, 4, 5] (fun kv ov iv wr => NmAt w ops kv ov iv wr) (fun _ _ iv _ => (intOf iv + 1).toNat)
  case atStart => exact START.out
  case round =>
    obtain ⟨j, hj, rfl, T⟩ := hrel
    have HT := Lib.hid T
    clear T START
    by_cases hlt : 0 < j
    · obtain ⟨i, rfl⟩ : ∃ i, j = i + 1 := ⟨j - 1, by omega⟩
      have hcast : (((i + 1 : Nat) : Int) - 1) = (i : Int) := by omega
      rw [hcast]
      have hil : i < ops.length := hj
      have zge : decide ((i : Int) ≥ 0) = true := decide_eq_true (by omega)
      have zge' : decide ((0 : Int) ≤ (i : Int)) = true := decide_eq_true (by omega)
      obtain ⟨op, c1, hop, e0⟩ := HR.out.elem hil
      injection e0 with e0 q1 q2
      clear q1 q2
      subst e0
      obtain ⟨x1, x2, x3⟩ := OpsIn.cell (recs_turn HR.out HT.out.qt) hop
      obtain ⟨K, hK, hKl⟩ : ∃ K : ByteArray, strV op.key = .string K ∧ K.data.toList = op.key := ⟨⟨op.key.toArray⟩, rfl, rfl⟩
      obtain ⟨V, hV, hVl⟩ : ∃ V : ByteArray, strV op.val = .string V ∧ V.data.toList = op.val := ⟨⟨op.val.toArray⟩, rfl, rfl⟩
      rw [hK] at x2
      rw [hV] at x3
      have k0 : (0 : Int) ≤ (i : Int) := by omega
      have k1 : (i : Int) < (ops.length : Int) := by omega
      have hnl : (Bt.normal (ops.drop (i + 1))).length ≤ ops.length - (i + 1) := by have := Bt.normal_length (ops.drop (i + 1)); rwa [List.length_drop] at this
      obtain ⟨gk, KR, nx⟩ := ownG_in rowC_len HT.out.kown (by rw [Bt.keysR_length]; have := HLE.out; omega)
      clear nx
      have PL := rplace12_any K _ KR (Bt.keysR_sorted (Bt.normal_norm _))
      obtain ⟨ka, kc, hkv⟩ := ownG_shape HT.out.kown
      obtain ⟨oa, oc, hov⟩ := ownG_shape HT.out.oown
      subst hkv hov
      have hdrop : ops.drop i = op :: ops.drop (i + 1) := by
        obtain ⟨h1, h2⟩ := List.getElem?_eq_some_iff.1 hop
        rw [List.drop_eq_getElem_cons h1, h2]
      have HN := Bt.normal_cons op (ops.drop (i + 1))
      rw [← hdrop] at HN
      have HN := Lib.hid HN
      have HNL := Lib.hid hnl
      have HOP := Lib.hid hop
      clear hop hdrop hnl KR hj
      generalize hm : Bt.normal (ops.drop (i + 1)) = m at *
      go_wp2_with fail
      refine PL.mono ?_
      rintro e w1 ⟨rfl, q1⟩
      have T1 := Lib.hid (HT.out.quiet q1)
      have x1 := q1.cellv x1
      have x2 := q1.cellv x2
      have x3 := q1.cellv x3
      clear PL q1
      rw [hKl]
      cases hh : Tb.has (Bt.keysR m) op.key with
      | true =>
        have FN := Lib.hid (show NmAt w ops (.slice ka (Bt.keysR m).length kc) (.slice oa m.length oc) (.int .i64 ((i : Int) - 1)) w1 from ⟨i, Nat.le_of_lt hil, rfl, by rw [HN.out, hh, if_pos rfl]; exact T1.out⟩)
        have hwi : wrap64 ((i : Int) - 1) = (i : Int) - 1 := by have := HLE.out; unfold wrap64; omega
        have HM := Lib.hid (show (intOf (.int .i64 ((i : Int) - 1)) + 1).toNat < (intOf (.int .i64 (i : Int)) + 1).toNat by simp [intOf])
        go_wp2
        rw [hwi]
        exact ⟨FN.out, HM.out⟩
      | false =>
        have hp : Tb.place (Bt.keysR m) op.key ≤ m.length := by have := Tb.place_le (Bt.keysR m) op.key; rwa [Bt.keysR_length] at this
        cases hd : op.del with
        | true =>
          rw [hd] at x1
          have hcl : Bt.clean op = ⟨true, op.key, []⟩ := by unfold Bt.clean; rw [hd]; rfl
          have HN2 := Lib.hid (show Bt.normal (ops.drop i) = m.take (Tb.place (Bt.keysR m) op.key) ++ ⟨true, op.key, []⟩ :: m.drop (Tb.place (Bt.keysR m) op.key) from by rw [HN.out, hh, if_neg (by decide), hcl])
          have T2 := Lib.hid (T1.out.quiet ((Qt.refl w1).alloc (.cells #[.bool true, .string K, .string ⟨#[]⟩] 29)))
          have OK := Lib.hid (fun o => (show ((w1.alloc (.cells #[.bool true, .string K, .string ⟨#[]⟩] 29)).alloc o).ownsRow 0 64 2 (.slice ka (Bt.keysR m).length kc) (Bt.keysR m).length (cellsG rowC (Bt.keysR m)) from ownsRow_kept T2.out.kown ((Keeps.refl (fun _ => False) _).alloc o) (fun _ _ e => e)))
          have KB := Lib.hid (show ∀ k, (Value.slice ka (Bt.keysR m).length kc).ownBlock = some k → k ≠ w1.heap.size from fun k e => by have := ownsRow_lt T1.out.kown e; omega)
          have OB := Lib.hid (show ∀ k, (Value.slice oa m.length oc).ownBlock = some k → k ≠ w1.heap.size from fun k e => by have := ownsRow_lt T1.out.oown e; omega)
          have hb1 : (Bt.keysR m).length + 1 ≤ maxLen := by rw [Bt.keysR_length]; have := HB.out; have := HNL.out; unfold maxLen; omega
          have hb2 : ((Bt.keysR m).length + 1) * 32 ≤ 140737488355328 := by rw [Bt.keysR_length]; have := HB.out; have := HNL.out; omega
          have BB := Lib.hid (newsG w1 [.bool true, .string K, .string ⟨#[]⟩] 29)
          clear hcl hd
          go_wp2_with (at_builtin; refine wpList_append_rows _ rfl _ _ 45 rfl 64 j0 (.agg #[.string ⟨#[]⟩, .string ⟨#[]⟩]) 2 32 Tryd.underlying45 hj0 jz0 jz1 jz2 rfl (by decide) _ (Bt.keysR m).length (cellsG rowC (Bt.keysR m)) rfl (OK.out _) (some ⟨w1.heap.size + 1, 0, none⟩) 1 1 (rowC ([], [])) rfl rfl (fun _ => ⟨_, rfl, fun j u h => by have := newsG (w1.alloc (.cells #[.bool true, .string K, .string ⟨#[]⟩] 29)) (rowC ([], [])) 64 j u h; rw [show (w1.alloc (.cells #[.bool true, .string K, .string ⟨#[]⟩] 29)).heap.size = w1.heap.size + 1 by simp] at this; exact this⟩) (by intro y hy; simp [rowC] at hy; subst hy; rfl) hb1 hb2 ?_)
          intro v3 x3 own3 gr3 la3
          obtain ⟨T3, K3⟩ := T2.out.growK (z := ([], [])) own3 gr3 la3
          obtain ⟨gk, ck, rfl⟩ := ownsRow_succ own3
          have T3 := Lib.hid T3
          have OO := Lib.hid (fun o => (show (x3.alloc o).ownsRow 0 29 3 (.slice oa m.length oc) m.length (opsC m) from ownsRow_kept T3.out.oown ((Keeps.refl (fun _ => False) _).alloc o) (fun _ _ e => e)))
          have c0 : x3.cell? ⟨w1.heap.size, 0, none⟩ = some (.bool true) := K3.cellv (BB.out 0 _ rfl) (fun e => KB.out _ e rfl)
          have c1 : x3.cell? ⟨w1.heap.size, 1, none⟩ = some (.string K) := K3.cellv (BB.out 1 _ rfl) (fun e => KB.out _ e rfl)
          have c2 : x3.cell? ⟨w1.heap.size, 2, none⟩ = some (.string ⟨#[]⟩) := K3.cellv (BB.out 2 _ rfl) (fun e => KB.out _ e rfl)
          have GK := Lib.hid (show gk ≠ w1.heap.size from by rcases la3 with r | ⟨x, r, hx⟩; exact KB.out gk r.symm; exact fun e => by have e2 : gk = x := Option.some.inj r; simp at hx; omega)
          clear own3 gr3 la3 hb1 hb2 K3
          have hb1 : m.length + 1 ≤ maxLen := by have := HB.out; have := HNL.out; unfold maxLen; omega
          have hb2 : (m.length + 1) * 40 ≤ 140737488355328 := by have := HB.out; have := HNL.out; omega
          have CC := Lib.hid (And.intro c0 (And.intro c1 c2))
          clear c0 c1 c2
          go_wp2_with (at_builtin; refine wpList_append_rows _ rfl _ _ 22 rfl 29 i0 (.agg #[.bool false, .string ⟨#[]⟩, .string ⟨#[]⟩]) 3 40 Tryd.underlying22 hi0 hz0 hz1 hz2 rfl (by decide) _ m.length (opsC m) rfl (OO.out _) (some ⟨x3.heap.size, 0, none⟩) 1 1 (opC ⟨false, [], []⟩) rfl rfl (fun _ => ⟨_, rfl, newsG _ (opC ⟨false, [], []⟩) _⟩) (by intro y hy; simp [opC] at hy; rcases hy with rfl | rfl <;> rfl) hb1 hb2 ?_)
          intro v4 x4 own4 gr4 la4
          obtain ⟨T4, K4⟩ := T3.out.growO (z := ⟨false, [], []⟩) own4 gr4 la4
          obtain ⟨go, co, rfl⟩ := ownsRow_succ own4
          have c0 : x4.cell? ⟨w1.heap.size, 0, none⟩ = some (.bool true) := K4.cellv CC.out.1 (fun e => OB.out _ e rfl)
          have c1 : x4.cell? ⟨w1.heap.size, 1, none⟩ = some (.string K) := K4.cellv CC.out.2.1 (fun e => OB.out _ e rfl)
          have c2 : x4.cell? ⟨w1.heap.size, 2, none⟩ = some (.string ⟨#[]⟩) := K4.cellv CC.out.2.2 (fun e => OB.out _ e rfl)
          have hz3 : w1.heap.size < x3.heap.size := World.block_lt_of_cell? _ _ CC.out.1
          have GO := Lib.hid (show go ≠ w1.heap.size from by rcases la4 with r | ⟨x, r, hx⟩; exact OB.out go r.symm; exact fun e => by have e2 : go = x := Option.some.inj r; simp at hx; omega)
          have CC4 := Lib.hid (And.intro c0 (And.intro c1 c2))
          clear own4 gr4 la4 hb1 hb2 K4 c0 c1 c2 CC hz3
          have START2 := Lib.hid (show ShAt w x4 gk go (Bt.keysR m) m ((Bt.keysR m).length + 1) ck (m.length + 1) co (Tb.place (Bt.keysR m) op.key) (.int .i64 (m.length : Int)) x4 from ⟨m.length, hp, Nat.le_refl _, rfl, by
            have e := Bt.shift_start (Bt.keysR m) (([], []) : Tb.R)
            rw [Bt.keysR_length] at e
            rw [e, Bt.shift_start]
            exact T4, Keeps.refl _ _⟩)
          have hw2 : wrap64 ((m.length : Int) + 1 - 1) = (m.length : Int) := by have := HB.out; have := HNL.out; unfold wrap64; omega
          have hw2' : wrap64 (((m.length + 1 : Nat) : Int) - 1) = (m.length : Int) := by have := HB.out; have := HNL.out; unfold wrap64; omega
          have hw2'' : wrap64 (m.length : Int) = (m.length : Int) := by have := HB.out; have := HNL.out; unfold wrap64; omega
          go_wp2
          rw [hw2'']
          clear hw2 hw2' hw2''
          generalize hn1 : (Bt.keysR m).length + 1 = n1 at START2 ⊢
          generalize hm1 : m.length + 1 = m1 at START2 ⊢
          have HM1 := Lib.hid hm1
          have HN1 := Lib.hid (show m.length + 1 = n1 by rw [← hn1, Bt.keysR_length])
          have HGG := Lib.hid (show gk ≠ go from fun e => T4.apart gk rfl (by rw [e]; rfl))
          clear hn1 hm1 T4 OK OO T2 T3
          go_loopw [9] (fun kv wr => ShAt w x4 gk go (Bt.keysR m) m n1 ck m1 co (Tb.place (Bt.keysR m) op.key) kv wr) (fun kv _ => (intOf kv).toNat)
          case atStart => exact START2.out
          case round =>
            obtain ⟨k, hk1, hk2, rfl, TT, KK⟩ := hrel
            have hgg := HGG.out
            have hgg' : go ≠ gk := fun e => hgg e.symm
            have fk : ∀ x, wr.frozen? ⟨gk, x, none⟩ = false := ownG_frozen TT.kown
            have fo : ∀ x, wr.frozen? ⟨go, x, none⟩ = false := ownG_frozen TT.oown
            have HK2 := Lib.hid hk2
            have k0 : (0 : Int) ≤ (k : Int) := by omega
            have kn : (k : Int) < (n1 : Int) := by have := HN1.out; omega
            have km : (k : Int) < (m1 : Int) := by have := HM1.out; omega
            obtain ⟨yk, hyk⟩ := Bt.shift_at (xs := Bt.keysR m) (z := ([], [])) (k := k) (by rw [Bt.keysR_length]; exact hk2)
            obtain ⟨yo, hyo⟩ := Bt.shift_at (xs := m) (z := ⟨false, [], []⟩) hk2
            have t1 : wr.cell? ⟨gk, k * 2, none⟩ = some (strV yk.1) := ownG_cell1 rowC_len TT.kown hyk (j := 0) rfl
            have t2 : wr.cell? ⟨gk, k * 2 + 1, none⟩ = some (strV yk.2) := ownG_cell1 rowC_len TT.kown hyk (j := 1) rfl
            have t3 : wr.cell? ⟨go, k * 3, none⟩ = some (.bool yo.del) := ownG_cell1 opC_len TT.oown hyo (j := 0) rfl
            have t4 : wr.cell? ⟨go, k * 3 + 1, none⟩ = some (strV yo.key) := ownG_cell1 opC_len TT.oown hyo (j := 1) rfl
            have t5 : wr.cell? ⟨go, k * 3 + 2, none⟩ = some (strV yo.val) := ownG_cell1 opC_len TT.oown hyo (j := 2) rfl
            clear hyk hyo
            by_cases hlt2 : Tb.place (Bt.keysR m) op.key < k
            · have zgt : decide ((Tb.place (Bt.keysR m) op.key : Int) < (k : Int)) = true := decide_eq_true (by omega)
              have zgt' : decide (Tb.place (Bt.keysR m) op.key < k) = true := decide_eq_true hlt2
              obtain ⟨j, hkj⟩ : ∃ j, k = j + 1 := ⟨k - 1, by omega⟩
              have hwk : wrap64 ((k : Int) - 1) = (j : Int) := by have := HLE.out; have := HNL.out; unfold wrap64; omega
              have jk0 : (0 : Int) ≤ (j : Int) := by omega
              have jn : (j : Int) < (n1 : Int) := by have := HN1.out; omega
              have jm : (j : Int) < (m1 : Int) := by have := HM1.out; omega
              have hjm : j < m.length := by omega
              have hjk : j < (Bt.keysR m).length := by rw [Bt.keysR_length]; exact hjm
              have e1 : (Bt.shiftL (Bt.keysR m) ([], []) k)[j]? = some (Bt.keysR m)[j] := by rw [hkj, Bt.shift_get hjk]; exact List.getElem?_eq_getElem hjk
              have e2 : (Bt.shiftL m ⟨false, [], []⟩ k)[j]? = some m[j] := by rw [hkj, Bt.shift_get hjm]; exact List.getElem?_eq_getElem hjm
              obtain ⟨r, hr⟩ : ∃ r, (Bt.keysR m)[j] = r := ⟨_, rfl⟩
              obtain ⟨p, hp2⟩ : ∃ p, m[j] = p := ⟨_, rfl⟩
              rw [hr] at e1
              rw [hp2] at e2
              have s1 : wr.cell? ⟨gk, j * 2, none⟩ = some (strV r.1) := ownG_cell1 rowC_len TT.kown e1 (j := 0) rfl
              have s2 : wr.cell? ⟨gk, j * 2 + 1, none⟩ = some (strV r.2) := ownG_cell1 rowC_len TT.kown e1 (j := 1) rfl
              have s3 : wr.cell? ⟨go, j * 3, none⟩ = some (.bool p.del) := ownG_cell1 opC_len TT.oown e2 (j := 0) rfl
              have s4 : wr.cell? ⟨go, j * 3 + 1, none⟩ = some (strV p.key) := ownG_cell1 opC_len TT.oown e2 (j := 1) rfl
              have s5 : wr.cell? ⟨go, j * 3 + 2, none⟩ = some (strV p.val) := ownG_cell1 opC_len TT.oown e2 (j := 2) rfl
              have FN := Lib.hid (show ShAt w x4 gk go (Bt.keysR m) m n1 ck m1 co (Tb.place (Bt.keysR m) op.key) (.int .i64 (j : Int)) (((((wr.setCell ⟨gk, k * 2, none⟩ (strV r.1)).setCell ⟨gk, k * 2 + 1, none⟩ (strV r.2)).setCell ⟨go, k * 3, none⟩ (.bool p.del)).setCell ⟨go, k * 3 + 1, none⟩ (strV p.key)).setCell ⟨go, k * 3 + 2, none⟩ (strV p.val)) from ⟨j, by omega, by omega, rfl, by
                have h1 := (TT.setK (i := k) (by rw [Bt.shift_length (by rw [Bt.keysR_length]; exact hk2), Bt.keysR_length]; omega) r).setO (i := k) (by rw [Bt.shift_length hk2]; omega) p
                have f1 := Bt.shift_step (z := (([], []) : Tb.R)) hjk
                have f2 := Bt.shift_step (z := (⟨false, [], []⟩ : Bt.O)) hjm
                rw [hr, ← hkj] at f1
                rw [hp2, ← hkj] at f2
                rw [f1, f2] at h1
                exact h1, keeps_set3 (keeps_set2 KK (fun _ => .inl rfl) k _ _) (fun _ => .inr rfl) k _ _ _⟩)
              have HM := Lib.hid (show (intOf (.int .i64 (j : Int))).toNat < (intOf (.int .i64 (k : Int))).toNat by simp [intOf]; omega)
              obtain ⟨A1, hA1⟩ : ∃ A : ByteArray, strV r.1 = .string A := ⟨_, rfl⟩
              obtain ⟨A2, hA2⟩ : ∃ A : ByteArray, strV r.2 = .string A := ⟨_, rfl⟩
              obtain ⟨A3, hA3⟩ : ∃ A : ByteArray, strV p.key = .string A := ⟨_, rfl⟩
              obtain ⟨A4, hA4⟩ : ∃ A : ByteArray, strV p.val = .string A := ⟨_, rfl⟩
              rw [hA1, hA2, hA3, hA4] at FN
              rw [hA1] at s1
              rw [hA2] at s2
              rw [hA3] at s4
              rw [hA4] at s5
              clear hA1 hA2 hA3 hA4 TT KK hk1 hk2 hlt2 hkj hjm hjk e1 e2 hr hp2
              go_wp2
              rw [hwk]
              exact ⟨FN.out, HM.out⟩
            · have hke : k = Tb.place (Bt.keysR m) op.key := by omega
              have zgt : decide ((Tb.place (Bt.keysR m) op.key : Int) < (k : Int)) = false := decide_eq_false (by omega)
              have zgt' : decide (Tb.place (Bt.keysR m) op.key < k) = false := decide_eq_false hlt2
              have bk : w1.heap.size ≠ gk := fun e => GK.out e.symm
              have bo : w1.heap.size ≠ go := fun e => GO.out e.symm
              have s0 : wr.cell? ⟨w1.heap.size, 0, none⟩ = some (.bool true) := KK.cellv CC4.out.1 (fun e => by rcases e with e | e; exact bk e; exact bo e)
              have s1 : wr.cell? ⟨w1.heap.size, 1, none⟩ = some (.string K) := KK.cellv CC4.out.2.1 (fun e => by rcases e with e | e; exact bk e; exact bo e)
              have s2 : wr.cell? ⟨w1.heap.size, 2, none⟩ = some (.string ⟨#[]⟩) := KK.cellv CC4.out.2.2 (fun e => by rcases e with e | e; exact bk e; exact bo e)
              have FN := Lib.hid (show NmAt w ops (.slice (some ⟨gk, 0, none⟩) n1 ck) (.slice (some ⟨go, 0, none⟩) m1 co) (.int .i64 ((i : Int) - 1)) (((((wr.setCell ⟨gk, k * 2, none⟩ (strV op.key)).setCell ⟨gk, k * 2 + 1, none⟩ (strV [])).setCell ⟨go, k * 3, none⟩ (.bool true)).setCell ⟨go, k * 3 + 1, none⟩ (strV op.key)).setCell ⟨go, k * 3 + 2, none⟩ (strV [])) from ⟨i, Nat.le_of_lt hil, rfl, by
                have h1 := (TT.setK (i := k) (by rw [Bt.shift_length (by rw [Bt.keysR_length]; exact hk2), Bt.keysR_length]; omega) (op.key, [])).setO (i := k) (by rw [Bt.shift_length hk2]; omega) ⟨true, op.key, []⟩
                rw [Bt.shift_set (by rw [Bt.keysR_length]; exact hk2), Bt.shift_set hk2] at h1
                rw [HN2.out, ← hke, show Bt.keysR (m.take k ++ ⟨true, op.key, []⟩ :: m.drop k) = (Bt.keysR m).take k ++ (op.key, []) :: (Bt.keysR m).drop k by simp [Bt.keysR]]
                exact h1⟩)
              have hwi : wrap64 ((i : Int) - 1) = (i : Int) - 1 := by have := HLE.out; unfold wrap64; omega
              have HM := Lib.hid (show (intOf (.int .i64 ((i : Int) - 1)) + 1).toNat < (intOf (.int .i64 (i : Int)) + 1).toNat by simp [intOf])
              rw [hK] at FN
              rw [← hke]
              clear TT KK hk1 hk2 hlt2 bk bo hke
              have bk : w1.heap.size ≠ gk := fun e => GK.out e.symm
              have bo : w1.heap.size ≠ go := fun e => GO.out e.symm
              go_wp2
              first
                | (rw [hwi]; exact ⟨FN.out, HM.out⟩)
        | false =>
          rw [hd] at x1
          have hcl : Bt.clean op = ⟨false, op.key, op.val⟩ := by unfold Bt.clean; rw [hd]; rfl
          have HN2 := Lib.hid (show Bt.normal (ops.drop i) = m.take (Tb.place (Bt.keysR m) op.key) ++ ⟨false, op.key, op.val⟩ :: m.drop (Tb.place (Bt.keysR m) op.key) from by rw [HN.out, hh, if_neg (by decide), hcl])
          have T2 := Lib.hid (T1.out.quiet ((Qt.refl w1).alloc (.cells #[.bool false, .string K, .string V] 29)))
          have OK := Lib.hid (fun o => (show ((w1.alloc (.cells #[.bool false, .string K, .string V] 29)).alloc o).ownsRow 0 64 2 (.slice ka (Bt.keysR m).length kc) (Bt.keysR m).length (cellsG rowC (Bt.keysR m)) from ownsRow_kept T2.out.kown ((Keeps.refl (fun _ => False) _).alloc o) (fun _ _ e => e)))
          have KB := Lib.hid (show ∀ k, (Value.slice ka (Bt.keysR m).length kc).ownBlock = some k → k ≠ w1.heap.size from fun k e => by have := ownsRow_lt T1.out.kown e; omega)
          have OB := Lib.hid (show ∀ k, (Value.slice oa m.length oc).ownBlock = some k → k ≠ w1.heap.size from fun k e => by have := ownsRow_lt T1.out.oown e; omega)
          have hb1 : (Bt.keysR m).length + 1 ≤ maxLen := by rw [Bt.keysR_length]; have := HB.out; have := HNL.out; unfold maxLen; omega
          have hb2 : ((Bt.keysR m).length + 1) * 32 ≤ 140737488355328 := by rw [Bt.keysR_length]; have := HB.out; have := HNL.out; omega
          have BB := Lib.hid (newsG w1 [.bool false, .string K, .string V] 29)
          clear hcl hd
          go_wp2_with (at_builtin; refine wpList_append_rows _ rfl _ _ 45 rfl 64 j0 (.agg #[.string ⟨#[]⟩, .string ⟨#[]⟩]) 2 32 Tryd.underlying45 hj0 jz0 jz1 jz2 rfl (by decide) _ (Bt.keysR m).length (cellsG rowC (Bt.keysR m)) rfl (OK.out _) (some ⟨w1.heap.size + 1, 0, none⟩) 1 1 (rowC ([], [])) rfl rfl (fun _ => ⟨_, rfl, fun j u h => by have := newsG (w1.alloc (.cells #[.bool false, .string K, .string V] 29)) (rowC ([], [])) 64 j u h; rw [show (w1.alloc (.cells #[.bool false, .string K, .string V] 29)).heap.size = w1.heap.size + 1 by simp] at this; exact this⟩) (by intro y hy; simp [rowC] at hy; subst hy; rfl) hb1 hb2 ?_)
          intro v3 x3 own3 gr3 la3
          obtain ⟨T3, K3⟩ := T2.out.growK (z := ([], [])) own3 gr3 la3
          obtain ⟨gk, ck, rfl⟩ := ownsRow_succ own3
          have T3 := Lib.hid T3
          have OO := Lib.hid (fun o => (show (x3.alloc o).ownsRow 0 29 3 (.slice oa m.length oc) m.length (opsC m) from ownsRow_kept T3.out.oown ((Keeps.refl (fun _ => False) _).alloc o) (fun _ _ e => e)))
          have c0 : x3.cell? ⟨w1.heap.size, 0, none⟩ = some (.bool false) := K3.cellv (BB.out 0 _ rfl) (fun e => KB.out _ e rfl)
          have c1 : x3.cell? ⟨w1.heap.size, 1, none⟩ = some (.string K) := K3.cellv (BB.out 1 _ rfl) (fun e => KB.out _ e rfl)
          have c2 : x3.cell? ⟨w1.heap.size, 2, none⟩ = some (.string V) := K3.cellv (BB.out 2 _ rfl) (fun e => KB.out _ e rfl)
          have GK := Lib.hid (show gk ≠ w1.heap.size from by rcases la3 with r | ⟨x, r, hx⟩; exact KB.out gk r.symm; exact fun e => by have e2 : gk = x := Option.some.inj r; simp at hx; omega)
          clear own3 gr3 la3 hb1 hb2 K3
          have hb1 : m.length + 1 ≤ maxLen := by have := HB.out; have := HNL.out; unfold maxLen; omega
          have hb2 : (m.length + 1) * 40 ≤ 140737488355328 := by have := HB.out; have := HNL.out; omega
          have CC := Lib.hid (And.intro c0 (And.intro c1 c2))
          clear c0 c1 c2
          go_wp2_with (at_builtin; refine wpList_append_rows _ rfl _ _ 22 rfl 29 i0 (.agg #[.bool false, .string ⟨#[]⟩, .string ⟨#[]⟩]) 3 40 Tryd.underlying22 hi0 hz0 hz1 hz2 rfl (by decide) _ m.length (opsC m) rfl (OO.out _) (some ⟨x3.heap.size, 0, none⟩) 1 1 (opC ⟨false, [], []⟩) rfl rfl (fun _ => ⟨_, rfl, newsG _ (opC ⟨false, [], []⟩) _⟩) (by intro y hy; simp [opC] at hy; rcases hy with rfl | rfl <;> rfl) hb1 hb2 ?_)
          intro v4 x4 own4 gr4 la4
          obtain ⟨T4, K4⟩ := T3.out.growO (z := ⟨false, [], []⟩) own4 gr4 la4
          obtain ⟨go, co, rfl⟩ := ownsRow_succ own4
          have c0 : x4.cell? ⟨w1.heap.size, 0, none⟩ = some (.bool false) := K4.cellv CC.out.1 (fun e => OB.out _ e rfl)
          have c1 : x4.cell? ⟨w1.heap.size, 1, none⟩ = some (.string K) := K4.cellv CC.out.2.1 (fun e => OB.out _ e rfl)
          have c2 : x4.cell? ⟨w1.heap.size, 2, none⟩ = some (.string V) := K4.cellv CC.out.2.2 (fun e => OB.out _ e rfl)
          have hz3 : w1.heap.size < x3.heap.size := World.block_lt_of_cell? _ _ CC.out.1
          have GO := Lib.hid (show go ≠ w1.heap.size from by rcases la4 with r | ⟨x, r, hx⟩; exact OB.out go r.symm; exact fun e => by have e2 : go = x := Option.some.inj r; simp at hx; omega)
          have CC4 := Lib.hid (And.intro c0 (And.intro c1 c2))
          clear own4 gr4 la4 hb1 hb2 K4 c0 c1 c2 CC hz3
          have START2 := Lib.hid (show ShAt w x4 gk go (Bt.keysR m) m ((Bt.keysR m).length + 1) ck (m.length + 1) co (Tb.place (Bt.keysR m) op.key) (.int .i64 (m.length : Int)) x4 from ⟨m.length, hp, Nat.le_refl _, rfl, by
            have e := Bt.shift_start (Bt.keysR m) (([], []) : Tb.R)
            rw [Bt.keysR_length] at e
            rw [e, Bt.shift_start]
            exact T4, Keeps.refl _ _⟩)
          have hw2 : wrap64 ((m.length : Int) + 1 - 1) = (m.length : Int) := by have := HB.out; have := HNL.out; unfold wrap64; omega
          have hw2' : wrap64 (((m.length + 1 : Nat) : Int) - 1) = (m.length : Int) := by have := HB.out; have := HNL.out; unfold wrap64; omega
          have hw2'' : wrap64 (m.length : Int) = (m.length : Int) := by have := HB.out; have := HNL.out; unfold wrap64; omega
          go_wp2
          rw [hw2'']
          clear hw2 hw2' hw2''
          generalize hn1 : (Bt.keysR m).length + 1 = n1 at START2 ⊢
          generalize hm1 : m.length + 1 = m1 at START2 ⊢
          have HM1 := Lib.hid hm1
          have HN1 := Lib.hid (show m.length + 1 = n1 by rw [← hn1, Bt.keysR_length])
          have HGG := Lib.hid (show gk ≠ go from fun e => T4.apart gk rfl (by rw [e]; rfl))
          clear hn1 hm1 T4 OK OO T2 T3
          go_loopw [9] (fun kv wr => ShAt w x4 gk go (Bt.keysR m) m n1 ck m1 co (Tb.place (Bt.keysR m) op.key) kv wr) (fun kv _ => (intOf kv).toNat)
          case atStart => exact START2.out
          case round =>
            obtain ⟨k, hk1, hk2, rfl, TT, KK⟩ := hrel
            have hgg := HGG.out
            have hgg' : go ≠ gk := fun e => hgg e.symm
            have fk : ∀ x, wr.frozen? ⟨gk, x, none⟩ = false := ownG_frozen TT.kown
            have fo : ∀ x, wr.frozen? ⟨go, x, none⟩ = false := ownG_frozen TT.oown
            have HK2 := Lib.hid hk2
            have k0 : (0 : Int) ≤ (k : Int) := by omega
            have kn : (k : Int) < (n1 : Int) := by have := HN1.out; omega
            have km : (k : Int) < (m1 : Int) := by have := HM1.out; omega
            obtain ⟨yk, hyk⟩ := Bt.shift_at (xs := Bt.keysR m) (z := ([], [])) (k := k) (by rw [Bt.keysR_length]; exact hk2)
            obtain ⟨yo, hyo⟩ := Bt.shift_at (xs := m) (z := ⟨false, [], []⟩) hk2
            have t1 : wr.cell? ⟨gk, k * 2, none⟩ = some (strV yk.1) := ownG_cell1 rowC_len TT.kown hyk (j := 0) rfl
            have t2 : wr.cell? ⟨gk, k * 2 + 1, none⟩ = some (strV yk.2) := ownG_cell1 rowC_len TT.kown hyk (j := 1) rfl
            have t3 : wr.cell? ⟨go, k * 3, none⟩ = some (.bool yo.del) := ownG_cell1 opC_len TT.oown hyo (j := 0) rfl
            have t4 : wr.cell? ⟨go, k * 3 + 1, none⟩ = some (strV yo.key) := ownG_cell1 opC_len TT.oown hyo (j := 1) rfl
            have t5 : wr.cell? ⟨go, k * 3 + 2, none⟩ = some (strV yo.val) := ownG_cell1 opC_len TT.oown hyo (j := 2) rfl
            clear hyk hyo
            by_cases hlt2 : Tb.place (Bt.keysR m) op.key < k
            · have zgt : decide ((Tb.place (Bt.keysR m) op.key : Int) < (k : Int)) = true := decide_eq_true (by omega)
              have zgt' : decide (Tb.place (Bt.keysR m) op.key < k) = true := decide_eq_true hlt2
              obtain ⟨j, hkj⟩ : ∃ j, k = j + 1 := ⟨k - 1, by omega⟩
              have hwk : wrap64 ((k : Int) - 1) = (j : Int) := by have := HLE.out; have := HNL.out; unfold wrap64; omega
              have jk0 : (0 : Int) ≤ (j : Int) := by omega
              have jn : (j : Int) < (n1 : Int) := by have := HN1.out; omega
              have jm : (j : Int) < (m1 : Int) := by have := HM1.out; omega
              have hjm : j < m.length := by omega
              have hjk : j < (Bt.keysR m).length := by rw [Bt.keysR_length]; exact hjm
              have e1 : (Bt.shiftL (Bt.keysR m) ([], []) k)[j]? = some (Bt.keysR m)[j] := by rw [hkj, Bt.shift_get hjk]; exact List.getElem?_eq_getElem hjk
              have e2 : (Bt.shiftL m ⟨false, [], []⟩ k)[j]? = some m[j] := by rw [hkj, Bt.shift_get hjm]; exact List.getElem?_eq_getElem hjm
              obtain ⟨r, hr⟩ : ∃ r, (Bt.keysR m)[j] = r := ⟨_, rfl⟩
              obtain ⟨p, hp2⟩ : ∃ p, m[j] = p := ⟨_, rfl⟩
              rw [hr] at e1
              rw [hp2] at e2
              have s1 : wr.cell? ⟨gk, j * 2, none⟩ = some (strV r.1) := ownG_cell1 rowC_len TT.kown e1 (j := 0) rfl
              have s2 : wr.cell? ⟨gk, j * 2 + 1, none⟩ = some (strV r.2) := ownG_cell1 rowC_len TT.kown e1 (j := 1) rfl
              have s3 : wr.cell? ⟨go, j * 3, none⟩ = some (.bool p.del) := ownG_cell1 opC_len TT.oown e2 (j := 0) rfl
              have s4 : wr.cell? ⟨go, j * 3 + 1, none⟩ = some (strV p.key) := ownG_cell1 opC_len TT.oown e2 (j := 1) rfl
              have s5 : wr.cell? ⟨go, j * 3 + 2, none⟩ = some (strV p.val) := ownG_cell1 opC_len TT.oown e2 (j := 2) rfl
              have FN := Lib.hid (show ShAt w x4 gk go (Bt.keysR m) m n1 ck m1 co (Tb.place (Bt.keysR m) op.key) (.int .i64 (j : Int)) (((((wr.setCell ⟨gk, k * 2, none⟩ (strV r.1)).setCell ⟨gk, k * 2 + 1, none⟩ (strV r.2)).setCell ⟨go, k * 3, none⟩ (.bool p.del)).setCell ⟨go, k * 3 + 1, none⟩ (strV p.key)).setCell ⟨go, k * 3 + 2, none⟩ (strV p.val)) from ⟨j, by omega, by omega, rfl, by
                have h1 := (TT.setK (i := k) (by rw [Bt.shift_length (by rw [Bt.keysR_length]; exact hk2), Bt.keysR_length]; omega) r).setO (i := k) (by rw [Bt.shift_length hk2]; omega) p
                have f1 := Bt.shift_step (z := (([], []) : Tb.R)) hjk
                have f2 := Bt.shift_step (z := (⟨false, [], []⟩ : Bt.O)) hjm
                rw [hr, ← hkj] at f1
                rw [hp2, ← hkj] at f2
                rw [f1, f2] at h1
                exact h1, keeps_set3 (keeps_set2 KK (fun _ => .inl rfl) k _ _) (fun _ => .inr rfl) k _ _ _⟩)
              have HM := Lib.hid (show (intOf (.int .i64 (j : Int))).toNat < (intOf (.int .i64 (k : Int))).toNat by simp [intOf]; omega)
              obtain ⟨A1, hA1⟩ : ∃ A : ByteArray, strV r.1 = .string A := ⟨_, rfl⟩
              obtain ⟨A2, hA2⟩ : ∃ A : ByteArray, strV r.2 = .string A := ⟨_, rfl⟩
              obtain ⟨A3, hA3⟩ : ∃ A : ByteArray, strV p.key = .string A := ⟨_, rfl⟩
              obtain ⟨A4, hA4⟩ : ∃ A : ByteArray, strV p.val = .string A := ⟨_, rfl⟩
              rw [hA1, hA2, hA3, hA4] at FN
              rw [hA1] at s1
              rw [hA2] at s2
              rw [hA3] at s4
              rw [hA4] at s5
              clear hA1 hA2 hA3 hA4 TT KK hk1 hk2 hlt2 hkj hjm hjk e1 e2 hr hp2
              go_wp2
              rw [hwk]
              exact ⟨FN.out, HM.out⟩
            · have hke : k = Tb.place (Bt.keysR m) op.key := by omega
              have zgt : decide ((Tb.place (Bt.keysR m) op.key : Int) < (k : Int)) = false := decide_eq_false (by omega)
              have zgt' : decide (Tb.place (Bt.keysR m) op.key < k) = false := decide_eq_false hlt2
              have bk : w1.heap.size ≠ gk := fun e => GK.out e.symm
              have bo : w1.heap.size ≠ go := fun e => GO.out e.symm
              have s0 : wr.cell? ⟨w1.heap.size, 0, none⟩ = some (.bool false) := KK.cellv CC4.out.1 (fun e => by rcases e with e | e; exact bk e; exact bo e)
              have s1 : wr.cell? ⟨w1.heap.size, 1, none⟩ = some (.string K) := KK.cellv CC4.out.2.1 (fun e => by rcases e with e | e; exact bk e; exact bo e)
              have s2 : wr.cell? ⟨w1.heap.size, 2, none⟩ = some (.string V) := KK.cellv CC4.out.2.2 (fun e => by rcases e with e | e; exact bk e; exact bo e)
              have FN := Lib.hid (show NmAt w ops (.slice (some ⟨gk, 0, none⟩) n1 ck) (.slice (some ⟨go, 0, none⟩) m1 co) (.int .i64 ((i : Int) - 1)) (((((wr.setCell ⟨gk, k * 2, none⟩ (strV op.key)).setCell ⟨gk, k * 2 + 1, none⟩ (strV [])).setCell ⟨go, k * 3, none⟩ (.bool false)).setCell ⟨go, k * 3 + 1, none⟩ (strV op.key)).setCell ⟨go, k * 3 + 2, none⟩ (strV op.val)) from ⟨i, Nat.le_of_lt hil, rfl, by
                have h1 := (TT.setK (i := k) (by rw [Bt.shift_length (by rw [Bt.keysR_length]; exact hk2), Bt.keysR_length]; omega) (op.key, [])).setO (i := k) (by rw [Bt.shift_length hk2]; omega) ⟨false, op.key, op.val⟩
                rw [Bt.shift_set (by rw [Bt.keysR_length]; exact hk2), Bt.shift_set hk2] at h1
                rw [HN2.out, ← hke, show Bt.keysR (m.take k ++ ⟨false, op.key, op.val⟩ :: m.drop k) = (Bt.keysR m).take k ++ (op.key, []) :: (Bt.keysR m).drop k by simp [Bt.keysR]]
                exact h1⟩)
              have hwi : wrap64 ((i : Int) - 1) = (i : Int) - 1 := by have := HLE.out; unfold wrap64; omega
              have HM := Lib.hid (show (intOf (.int .i64 ((i : Int) - 1)) + 1).toNat < (intOf (.int .i64 (i : Int)) + 1).toNat by simp [intOf])
              rw [hK, hV] at FN
              rw [← hke]
              clear TT KK hk1 hk2 hlt2 bk bo hke
              have bk : w1.heap.size ≠ gk := fun e => GK.out e.symm
              have bo : w1.heap.size ≠ go := fun e => GO.out e.symm
              go_wp2
              first
                | (rw [hwi]; exact ⟨FN.out, HM.out⟩)
    · obtain rfl : j = 0 := by omega
      have zge : decide ((((0 : Nat) : Int) - 1) ≥ 0) = false := rfl
      have zge' : decide ((0 : Int) ≤ ((0 : Nat) : Int) - 1) = false := rfl
      obtain ⟨ka, kc, hkv⟩ := ownG_shape HT.out.kown
      obtain ⟨oa, oc, hov⟩ := ownG_shape HT.out.oown
      subst hkv hov
      rw [List.drop_zero] at HT ⊢
      clear hj hlt
      go_wp2
      go_ret
      exact ⟨_, rfl, HT.out.oown, HT.out.onew, HT.out.qt⟩
end Go.Proofs.YtffjleceogablaaDoor
