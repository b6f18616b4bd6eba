/-
  A slice of rows (api.Row), cut at either end.
  The document's own batch: the contract of Encode.
-/
import Derived.Test.YtffjleceogablaaDoorP06
import Derived.Test.YtffjleceogablaaDoorP29
import Derived.Test.YtffjleceogablaaDoorP03
import Derived.BigQuiet
import Derived.Laws.Cover1
namespace Go.Proofs.YtffjleceogablaaDoor
open Go.RowKit Go.WideShapes
set_option maxRecDepth 100000

theorem sizeOf_row (W : World) : (sizeOf (Tryd.prog.elem 45)).run Tryd.prog W = .ok 2 W := by
  obtain ⟨i, hi, hs⟩ := Option.map_eq_some_iff.1 (show (Tryd.prog.info? (Tryd.prog.elem 45)).map (·.size) = some 2 by kernel_rfl)
  simp [sizeOf, typeInfo, hi, hs]
theorem sliceR_h {a : Option Addr} (ha : a = none ∨ ∃ g, a = some ⟨g, 0, none⟩) (n c m : Nat) (hm : m ≤ c) (W : World) : (Instr.slice 45 (.slice a n c) none (some (.int .i64 (m : Int))) none).run Tryd.prog W = .ok (.slice a m c) W := by
  have h := run_slice_h (P := Tryd.prog) (w := W) 45 a n c (by kernel_rfl) .i64 (m : Int) (by omega) (by omega)
  rw [h, sizeOf_row]
  simp only [Result.andThen_ok, Int.toNat_natCast]
  rcases ha with rfl | ⟨g, rfl⟩
  · simp [sliced]
  · simp [sliced, Addr.add]
theorem sliceR_l (a : Option Addr) (n c m : Nat) (hm : m ≤ n) (W : World) : (Instr.slice 45 (.slice a n c) (some (.int .i64 (m : Int))) none none).run Tryd.prog W = .ok (.slice (if c = m then a else a.map (·.add (m * 2))) (n - m) (c - m)) W := by
  have h := run_slice_l (P := Tryd.prog) (w := W) 45 a n c (by kernel_rfl) .i64 (m : Int) (by omega) (by omega)
  rw [h, sizeOf_row]
  simp only [Result.andThen_ok, Int.toNat_natCast]
  rfl

theorem strV_str (k : ByteArray) : strV k.data.toList = .string k := by
  obtain ⟨⟨k⟩⟩ := k
  rfl
end Go.Proofs.YtffjleceogablaaDoor
namespace Go.Proofs.YtffjleceogablaaDoor
open Go.RowKit Go.WideShapes
set_option maxRecDepth 100000

theorem leq_lt (a b : Tb.Txt) : (Tb.lt b a || b == a) = !Tb.lt a b := by
  cases h : Tb.lt a b with
  | true =>
    have h1 := Tb.lt_asymm h
    have h2 : (b == a) = false := beq_eq_false_iff_ne.2 (fun e => Tb.lt_ne h e.symm)
    rw [h1, h2]; rfl
  | false =>
    cases h1 : Tb.lt b a with
    | true => rfl
    | false => rw [Tb.lt_total h1 h]; simp
theorem leq_bytes {K1 K2 : ByteArray} {a b : Tb.Txt} (h1 : K1.data.toList = a) (h2 : K2.data.toList = b) {v : Bool} (hl : Tb.lt a b = v) : (Op.bytesLess K2.toList K1.toList || K2.toList == K1.toList) = !v := by
  have := leq_lt a b
  rw [hl] at this
  rw [ByteArray.toList_eq, ByteArray.toList_eq, h1, h2]
  exact this
def RiAt (w : World) (ops : List Bt.O) (iv : Value) (wr : World) : Prop := ∃ i : Nat, 1 ≤ i ∧ (i ≤ ops.length ∨ i = 1) ∧ iv = .int .i64 i ∧ (∀ (k : Nat) (a b : Bt.O), k + 1 < i → ops[k]? = some a → ops[k + 1]? = some b → Tb.lt a.key b.key = true) ∧ Qt w wr
def EnAt (w : World) (ops : List Bt.O) (ov iv : Value) (wr : World) : Prop := ∃ i : Nat, i ≤ ops.length ∧ iv = .int .i64 i ∧ NewF w wr ov (Lib.uvarint ops.length ++ Bt.opsB (ops.take i)) ∧ (∀ o ∈ ops.take i, o.del = true → o.val = [])
theorem opsB_app (a b : List Bt.O) : Bt.opsB (a ++ b) = Bt.opsB a ++ Bt.opsB b := by simp [Bt.opsB]
theorem opsB_take {ops : List Bt.O} {i : Nat} {op : Bt.O} (h : ops[i]? = some op) : Bt.opsB (ops.take (i + 1)) = Bt.opsB (ops.take i) ++ Bt.opB op := by
  rw [List.take_add_one, opsB_app, h]
  simp [Bt.opsB]
theorem opsB_le (ops : List Bt.O) (i : Nat) : (Bt.opsB (ops.take i)).length ≤ (Bt.opsB ops).length := by
  have h := opsB_app (ops.take i) (ops.drop i)
  rw [List.take_append_drop] at h
  rw [h, List.length_append]
  omega
theorem uvarint_pos (x : Nat) : 0 < (Lib.uvarint x).length := by
  by_cases hx : x < 128
  · rw [Lib.uvarint_small hx]; simp
  · rw [Lib.uvarint_big (by omega)]; simp
set_option maxHeartbeats 3200000 in
theorem rencode12_any {v : Value} {g o : Nat} {ops : List Bt.O} (w : World) (hr : OpsIn w v g o ops) (hb : (Bt.encB ops).length ≤ 140737488355328) :
    Calls Tryd.prog 17 #[v] w fun e w' => e = .returned (.tuple #[strV (Bt.encT ops), .int .i64 (Bt.encE ops : Int)]) ∧ Qt w w' := by
  have HR := Lib.hid hr
  have HB := Lib.hid hb
  have HLE := Lib.hid hr.le
  obtain ⟨a, cap, rfl, ha⟩ := hr.val
  clear hr ha hb
  obtain ⟨i0, hi0, hz0, hz1, hz2⟩ := info_parts infoU8F
  have START := Lib.hid (show RiAt w ops (.int .i64 1) w from ⟨1, Nat.le_refl _, .inr rfl, rfl, fun k _ _ h _ _ => (by omega), Qt.refl w⟩)
  go_enter Tryd.func17, Tryd.ntmps17
  go_wp2
  go_loopw [4] (fun iv wr => RiAt w ops iv wr) (fun iv _ => (ops.length + 1) - (intOf iv).toNat)
  case atStart => exact START.out
  case round =>
    obtain ⟨i, h1, h2, rfl, hri, q⟩ := hrel
    have HQ := Lib.hid q
    have HRI := Lib.hid hri
    have H2 := Lib.hid h2
    clear START hri
    by_cases hlt : i < ops.length
    · have zlt : decide ((i : Int) < (ops.length : Int)) = true := decide_eq_true (by omega)
      have zlt' : decide (i < ops.length) = true := decide_eq_true hlt
      obtain ⟨k, hk⟩ : ∃ k, i = k + 1 := ⟨i - 1, by omega⟩
      obtain ⟨y, c1, hy, e0⟩ := HR.out.elem hlt
      injection e0 with e0 q1 q2
      clear q1 q2
      subst e0
      have hx : ops[k]? = some (ops[k]'(by omega)) := List.getElem?_eq_getElem (by omega)
      obtain ⟨x, hxx⟩ : ∃ x, ops[k]'(by omega) = x := ⟨_, rfl⟩
      rw [hxx] at hx
      obtain ⟨_, x2, _⟩ := OpsIn.cell (recs_turn HR.out q) hx
      obtain ⟨_, y2, _⟩ := OpsIn.cell (recs_turn HR.out q) hy
      obtain ⟨K1, hK1, hK1l⟩ : ∃ K : ByteArray, strV x.key = .string K ∧ K.data.toList = x.key := ⟨⟨x.key.toArray⟩, rfl, rfl⟩
      obtain ⟨K2, hK2, hK2l⟩ : ∃ K : ByteArray, strV y.key = .string K ∧ K.data.toList = y.key := ⟨⟨y.key.toArray⟩, rfl, rfl⟩
      rw [hK1] at x2
      rw [hK2] at y2
      have k0 : (0 : Int) ≤ (k : Int) := by omega
      have k1 : (k : Int) < (ops.length : Int) := by omega
      have i0' : (0 : Int) ≤ (i : Int) := by omega
      have i1 : (i : Int) < (ops.length : Int) := by omega
      have hwk : IntKind.i64.wrap ((i : Int) - 1) = (k : Int) := by rw [IntKind.wrap_i64]; have := HLE.out; omega
      have hwk' : wrap64 ((i : Int) - 1) = (k : Int) := by unfold wrap64; have := HLE.out; omega
      have hwi : wrap64 ((i : Int) + 1) = (i : Int) + 1 := by unfold wrap64; have := HLE.out; omega
      cases hl : Tb.lt x.key y.key with
      | true =>
        have zk : (Op.bytesLess K2.toList K1.toList || K2.toList == K1.toList) = false := leq_bytes hK1l hK2l hl
        have FN := Lib.hid (fun (W : World) (qq : Qt w W) => (show RiAt w ops (.int .i64 ((i : Int) + 1)) W from ⟨i + 1, by omega, .inl hlt, by push_cast; rfl, fun j a b hj ha hb => by
          rcases Nat.lt_or_ge (j + 1) i with e | e
          · exact HRI.out j a b e ha hb
          · obtain rfl : j = k := by omega
            rw [hx] at ha
            rw [← hk, hy] at hb
            rw [← Option.some.inj ha, ← Option.some.inj hb]
            exact hl, qq⟩))
        have HM := Lib.hid (show (ops.length + 1) - (intOf (.int .i64 ((i : Int) + 1))).toNat < (ops.length + 1) - (intOf (.int .i64 (i : Int))).toNat by simp [intOf]; omega)
        clear hK1 hK2 hK1l hK2l hx hy hxx hl hk hlt h1 h2 q
        go_wp2
        go_quiet (fail)
        have FN2 := Lib.hid (FN.out _ (Keeps.drewN HQ.out nq))
        go_wp2
        first | exact ⟨FN2.out, HM.out⟩ | (rw [hwi]; exact ⟨FN2.out, HM.out⟩)
      | false =>
        have zk : (Op.bytesLess K2.toList K1.toList || K2.toList == K1.toList) = true := leq_bytes hK1l hK2l hl
        have FIN := Lib.hid (Bt.encE_order (k := k) hx (hk ▸ hy) hl)
        clear hK1 hK2 hK1l hK2l hx hy hxx hl hk hlt h1 h2 q
        go_wp2
        go_quiet (fail)
        have QN := Lib.hid (Keeps.drewN HQ.out nq)
        go_wp2
        go_ret2
        exact ⟨by rw [Bt.encT_no (by rw [FIN.out]; decide), FIN.out]; rfl, QN.out⟩
    · have zlt : decide ((i : Int) < (ops.length : Int)) = false := decide_eq_false (by omega)
      have zlt' : decide (i < ops.length) = false := decide_eq_false hlt
      have RISE := Lib.hid (show Bt.Rise ops from fun k a b ha hb => HRI.out k a b (by have := (List.getElem?_eq_some_iff.1 hb).1; omega) ha hb)
      have NUM := rnumber12_any ops.length wr (by have := HLE.out; omega)
      obtain ⟨i8, hi8⟩ : ∃ n, i = n := ⟨_, rfl⟩
      clear hlt h1 h2 q HRI hi8 i8
      go_wp2_with fail
      refine NUM.mono ?_
      rintro e w1 ⟨v1, rfl, N1⟩
      have Q1 := Lib.hid (Qt.trans HQ.out N1.qt)
      have START2 := Lib.hid (show EnAt w ops v1 (.int .i64 0) w1 from ⟨0, Nat.zero_le _, rfl, by simpa [Bt.opsB] using NewF.since HQ.out N1, fun o ho => by simp at ho⟩)
      clear NUM N1
      go_wp2
      go_loopw [5, 32] (fun ov iv wr => EnAt w ops ov iv wr) (fun _ iv _ => ops.length - (intOf iv).toNat)
      case atStart => exact START2.out
      case round =>
        obtain ⟨i, hi, rfl, N, hno⟩ := hrel
        have HN := Lib.hid N
        have HNO := Lib.hid hno
        clear START2 hno
        by_cases hlt : i < ops.length
        · have zlt : decide ((i : Int) < (ops.length : Int)) = true := decide_eq_true (by omega)
          have zlt' : decide (i < ops.length) = true := decide_eq_true hlt
          obtain ⟨op, c1, hop, e0⟩ := HR.out.elem hlt
          injection e0 with e0 q1 q2
          clear q1 q2
          subst e0
          obtain ⟨x1, x2, x3⟩ := OpsIn.cell (recs_turn HR.out N.qt) hop
          obtain ⟨K, hK, hKl⟩ : ∃ K : ByteArray, strV op.key = .string K ∧ K.data.toList = op.key := ⟨⟨op.key.toArray⟩, rfl, rfl⟩
          obtain ⟨V, hV, hVl⟩ : ∃ K : ByteArray, strV op.val = .string K ∧ K.data.toList = op.val := ⟨⟨op.val.toArray⟩, rfl, rfl⟩
          rw [hK] at x2
          rw [hV] at x3
          have HKS := Lib.hid (show K.size = op.key.length by rw [← hKl]; rfl)
          have HVS := Lib.hid (show V.size = op.val.length by rw [← hVl]; rfl)
          have HKL := Lib.hid hKl
          have HVL := Lib.hid hVl
          have k0 : (0 : Int) ≤ (i : Int) := by omega
          have k1 : (i : Int) < (ops.length : Int) := by omega
          have hwi : wrap64 ((i : Int) + 1) = (i : Int) + 1 := by unfold wrap64; have := HLE.out; omega
          have HM := Lib.hid (show ops.length - (intOf (.int .i64 ((i : Int) + 1))).toNat < ops.length - (intOf (.int .i64 (i : Int))).toNat by simp [intOf]; omega)
          have hlen : (Lib.uvarint ops.length ++ Bt.opsB (ops.take i)).length + (Bt.opB op).length ≤ 140737488355328 := by
            have h1 := opsB_le ops (i + 1)
            rw [opsB_take hop, List.length_append] at h1
            have h2 := HB.out
            unfold Bt.encB at h2
            rw [List.length_append] at h2 ⊢
            omega
          have HFN := Lib.hid (fun (W : World) (z : Value) (h : NewF w W z ((Lib.uvarint ops.length ++ Bt.opsB (ops.take i)) ++ Bt.opB op)) (hc : op.del = true → op.val = []) => (show EnAt w ops z (.int .i64 ((i : Int) + 1)) W from ⟨i + 1, hlt, by push_cast; rfl, by rw [opsB_take hop, ← List.append_assoc]; exact h, fun p hp => by
            rw [List.take_add_one, hop] at hp
            rcases List.mem_append.1 hp with hp | hp
            · exact HNO.out p hp
            · have e : p = op := by simpa using hp
              subst e
              exact hc⟩))
          have HLEN := Lib.hid hlen
          have HOP := Lib.hid (List.mem_of_getElem? hop)
          generalize hP : Lib.uvarint ops.length ++ Bt.opsB (ops.take i) = pre at *
          clear hP hop hlt hi hlen hKl hVl hK hV
          obtain ⟨oa, n2, oc, rfl, hn2, nx⟩ := N.shapeN
          have LN2 := Lib.hid hn2
          clear nx N hn2
          have OUT := Lib.hid (show ∀ k, (Value.slice oa n2 oc).ownBlock = some k → k < wr.heap.size from fun k e => ownsRowF_lt HN.out.own e)
          cases hd : op.del with
          | true =>
            rw [hd] at x1
            by_cases hv : op.val = []
            · have HOBE := Lib.hid (show Bt.opB op = 1 :: (Lib.uvarint K.size ++ K.data.toList) from by unfold Bt.opB textB; rw [hd, if_pos rfl, HKS.out, HKL.out])
              have HOB := Lib.hid (congrArg List.length HOBE.out)
              have HKZ := Lib.hid (show K.size = K.data.toList.length from rfl)
              have hV0 : V = ⟨#[]⟩ := by have h := HVL.out; rw [hv] at h; obtain ⟨⟨l⟩⟩ := V; simp at h; subst h; rfl
              subst hV0
              have BB := newsG wr [.bool true, .string K, .string ⟨#[]⟩] 29
              have N2 := Lib.hid (HN.out.quiet ((Qt.refl wr).alloc (.cells #[.bool true, .string K, .string ⟨#[]⟩] 29)))
              have c0 : (wr.alloc (.cells #[.bool true, .string K, .string ⟨#[]⟩] 29)).cell? ⟨wr.heap.size, 0, none⟩ = some (.bool true) := BB 0 _ rfl
              have c1 : (wr.alloc (.cells #[.bool true, .string K, .string ⟨#[]⟩] 29)).cell? ⟨wr.heap.size, 1, none⟩ = some (.string K) := BB 1 _ rfl
              have c2 : (wr.alloc (.cells #[.bool true, .string K, .string ⟨#[]⟩] 29)).cell? ⟨wr.heap.size, 2, none⟩ = some (.string ⟨#[]⟩) := BB 2 _ rfl
              clear BB
              have OW := Lib.hid (fun o => (show ((wr.alloc (.cells #[.bool true, .string K, .string ⟨#[]⟩] 29)).alloc o).ownsRowF 0 5 1 _ n2 (Lib.byteCells pre) from by rw [LN2.out]; exact ownsRowF_kept N2.out.own ((Keeps.refl (fun _ => False) (wr.alloc (.cells #[.bool true, .string K, .string ⟨#[]⟩] 29))).alloc o) (fun _ _ e => e)))
              have hb1 : n2 + 1 ≤ maxLen := by have := HLEN.out; have := HOB.out; have := LN2.out; unfold maxLen; simp only [List.length_append, List.length_cons] at *; omega
              have hb2 : (n2 + 1) * 1 ≤ 140737488355328 := by have := HLEN.out; have := HOB.out; have := LN2.out; simp only [List.length_append, List.length_cons] at *; omega
              go_wp2_with (at_builtin; refine wpList_append_cellsF _ rfl _ _ 72 rfl 5 i0 (.int .u8 0) 1 1 Tryd.underlying72 hi0 hz0 hz1 hz2 rfl (by decide) _ n2 (Lib.byteCells pre) rfl (OW.out _) ⟨wr.heap.size + 1, 0, none⟩ 1 1 [.int .u8 1] rfl rfl (fun j u h => by have := newsG (wr.alloc (.cells #[.bool true, .string K, .string ⟨#[]⟩] 29)) [.int .u8 1] 5 j u h; rw [show (wr.alloc (.cells #[.bool true, .string K, .string ⟨#[]⟩] 29)).heap.size = wr.heap.size + 1 by simp] at this; exact this) (by intro u hu; simp at hu; subst hu; rfl) hb1 hb2 ?_)
              intro v3 w3 own3 gr3 la3 nx3
              obtain ⟨N3, K3⟩ := NewF.more N2.out ((Qt.refl (wr.alloc (.cells #[.bool true, .string K, .string ⟨#[]⟩] 29))).alloc (.cells #[.int .u8 1] 5)) (k := [1]) (by rw [LN2.out]; first | exact List.length_append.symm | simp) (by rw [byteCells_app]; rfl) own3 gr3 la3
              have OUT3 := Lib.hid (show ∀ k, v3.ownBlock = some k → k ≠ wr.heap.size from fun k e => by
                rcases la3 with r | ⟨x, r, hx⟩
                · have := OUT.out k (r ▸ e); omega
                · rw [r] at e; injection e with e; subst e; have h3 : wr.heap.size < (wr.alloc (.cells #[.bool true, .string K, .string ⟨#[]⟩] 29)).heap.size := World.block_lt_of_cell? _ _ c1; have h4 := (show Qt (wr.alloc (.cells #[.bool true, .string K, .string ⟨#[]⟩] 29)) _ from ((Qt.refl (wr.alloc (.cells #[.bool true, .string K, .string ⟨#[]⟩] 29))).alloc (.cells #[.int .u8 1] 5))).size; omega)
              obtain ⟨oa3, n3, oc3, rfl, hn3, nx⟩ := N3.shapeN
              have LN3 := Lib.hid (show n3 = (pre ++ [1]).length from hn3)
              have HN3 := Lib.hid N3
              clear nx nx3 own3 gr3 la3 hn3 N3
              have N3 := HN3
              clear HN3
              obtain ⟨p3, hp3⟩ : ∃ p, pre ++ [1] = p := ⟨_, rfl⟩
              rw [hp3] at N3 LN3
              have HP3 := Lib.hid hp3
              clear hp3
              have c0' := Keeps.cellv K3 c0 (fun e => absurd e (fun e => by have := OUT.out _ e; simp only at this; omega))
              clear c0
              have c0 := c0'
              clear c0'
              have c1' := Keeps.cellv K3 c1 (fun e => absurd e (fun e => by have := OUT.out _ e; simp only at this; omega))
              clear c1
              have c1 := c1'
              clear c1'
              have c2' := Keeps.cellv K3 c2 (fun e => absurd e (fun e => by have := OUT.out _ e; simp only at this; omega))
              clear c2
              have c2 := c2'
              clear c2'
              clear K3 hb1 hb2
              have NUM := rnumber12_any K.size w3 (by have := congrArg List.length HP3.out; have := HLEN.out; have := HOB.out; have := HKZ.out; simp only [List.length_append, List.length_cons, List.length_nil] at *; omega)
              go_wp2_with fail
              refine NUM.mono ?_
              rintro e w4 ⟨u4, rfl, M4⟩
              clear NUM
              have N4 := Lib.hid (N3.out.quiet M4.qt)
              have Z4 := Lib.hid M4.qt.size
              have c0' := M4.qt.cellv c0
              clear c0
              have c0 := c0'
              clear c0'
              have c1' := M4.qt.cellv c1
              clear c1
              have c1 := c1'
              clear c1'
              have c2' := M4.qt.cellv c2
              clear c2
              have c2 := c2'
              clear c2'
              obtain ⟨ua4, uc4, rfl, nz⟩ := M4.shape
              obtain ⟨ug4, rfl⟩ := nz (by have := uvarint_pos K.size; intro e; rw [e] at this; cases this)
              have NWS := Lib.hid (NewF.news M4)
              clear M4 nz
              have hb1 : n3 + (Lib.uvarint K.size).length ≤ maxLen := by have := congrArg List.length HP3.out; have := HLEN.out; have := HOB.out; have := HKZ.out; have := LN3.out; unfold maxLen; simp only [List.length_append, List.length_cons, List.length_nil] at *; omega
              have hb2 : (n3 + (Lib.uvarint K.size).length) * 1 ≤ 140737488355328 := by have := congrArg List.length HP3.out; have := HLEN.out; have := HOB.out; have := HKZ.out; have := LN3.out; simp only [List.length_append, List.length_cons, List.length_nil] at *; omega
              have OW := Lib.hid (show w4.ownsRowF 0 5 1 _ n3 (Lib.byteCells p3) from by rw [LN3.out]; exact N4.out.own)
              go_wp2_with (at_builtin; refine wpList_append_cellsF _ rfl _ _ 72 rfl 5 i0 (.int .u8 0) 1 1 Tryd.underlying72 hi0 hz0 hz1 hz2 rfl (by decide) _ n3 (Lib.byteCells p3) rfl OW.out ⟨ug4, 0, none⟩ (Lib.uvarint K.size).length uc4 (Lib.byteCells (Lib.uvarint K.size)) rfl (byteCells_len _) NWS.out (byteCells_one _) hb1 hb2 ?_)
              intro v5 w5 own5 gr5 la5 nx5
              obtain ⟨N5, K5⟩ := NewF.more N4.out (Qt.refl w4) (k := (Lib.uvarint K.size)) (by rw [LN3.out]; first | exact List.length_append.symm | simp) (by exact (byteCells_app _ _).symm) own5 gr5 la5
              have OUT5 := Lib.hid (show ∀ k, v5.ownBlock = some k → k ≠ wr.heap.size from fun k e => by
                rcases la5 with r | ⟨x, r, hx⟩
                · have := OUT3.out k (r ▸ e); omega
                · rw [r] at e; injection e with e; subst e; have h3 : wr.heap.size < w4.heap.size := World.block_lt_of_cell? _ _ c1; have h4 := (show Qt w4 _ from (Qt.refl w4)).size; omega)
              obtain ⟨oa5, n5, oc5, rfl, hn5, nx⟩ := N5.shapeN
              have LN5 := Lib.hid (show n5 = (p3 ++ (Lib.uvarint K.size)).length from hn5)
              have HN5 := Lib.hid N5
              clear nx nx5 own5 gr5 la5 hn5 N5
              have N5 := HN5
              clear HN5
              obtain ⟨p5, hp5⟩ : ∃ p, p3 ++ (Lib.uvarint K.size) = p := ⟨_, rfl⟩
              rw [hp5] at N5 LN5
              have HP5 := Lib.hid hp5
              clear hp5
              have c0' := Keeps.cellv K5 c0 (fun e => absurd e (fun e => by have := OUT3.out _ e; simp only at this; omega))
              clear c0
              have c0 := c0'
              clear c0'
              have c1' := Keeps.cellv K5 c1 (fun e => absurd e (fun e => by have := OUT3.out _ e; simp only at this; omega))
              clear c1
              have c1 := c1'
              clear c1'
              have c2' := Keeps.cellv K5 c2 (fun e => absurd e (fun e => by have := OUT3.out _ e; simp only at this; omega))
              clear c2
              have c2 := c2'
              clear c2'
              clear K5 hb1 hb2
              have hb1 : n5 + K.size ≤ maxLen := by have := congrArg List.length HP3.out; have := congrArg List.length HP5.out; have := HLEN.out; have := HOB.out; have := HKZ.out; have := LN5.out; unfold maxLen; simp only [List.length_append, List.length_cons, List.length_nil] at *; omega
              have hb2 : n5 + K.size ≤ 140737488355328 := by have := congrArg List.length HP3.out; have := congrArg List.length HP5.out; have := HLEN.out; have := HOB.out; have := HKZ.out; have := LN5.out; simp only [List.length_append, List.length_cons, List.length_nil] at *; omega
              have OW := Lib.hid (show w5.ownsRowF 0 5 1 _ n5 (Lib.byteCells p5) from by rw [LN5.out]; exact N5.out.own)
              go_wp2_with (at_builtin; refine wpList_append_strF _ rfl _ _ 72 9 rfl 5 i0 Tryd.underlying72 Tryd.underlying9 hi0 hz0 hz1 hz2 _ n5 (Lib.byteCells p5) rfl OW.out K rfl hb1 hb2 ?_)
              intro v6 w6 own6 gr6 la6 nx6
              obtain ⟨N6, K6⟩ := NewF.more N5.out (Qt.refl w5) (k := K.data.toList) (by rw [LN5.out]; first | exact List.length_append.symm | simp) (by exact (byteCells_app _ _).symm) own6 gr6 la6
              have OUT6 := Lib.hid (show ∀ k, v6.ownBlock = some k → k ≠ wr.heap.size from fun k e => by
                rcases la6 with r | ⟨x, r, hx⟩
                · have := OUT5.out k (r ▸ e); omega
                · rw [r] at e; injection e with e; subst e; have h3 : wr.heap.size < w5.heap.size := World.block_lt_of_cell? _ _ c1; omega)
              obtain ⟨oa6, n6, oc6, rfl, hn6, nx⟩ := N6.shapeN
              have LN6 := Lib.hid (show n6 = (p5 ++ K.data.toList).length from hn6)
              have HN6 := Lib.hid N6
              clear nx nx6 own6 gr6 la6 hn6 N6
              have N6 := HN6
              clear HN6
              obtain ⟨p6, hp6⟩ : ∃ p, p5 ++ K.data.toList = p := ⟨_, rfl⟩
              rw [hp6] at N6 LN6
              have HP6 := Lib.hid hp6
              clear hp6
              have c0' := Keeps.cellv K6 c0 (fun e => absurd e (fun e => by have := OUT5.out _ e; simp only at this; omega))
              clear c0
              have c0 := c0'
              clear c0'
              have c1' := Keeps.cellv K6 c1 (fun e => absurd e (fun e => by have := OUT5.out _ e; simp only at this; omega))
              clear c1
              have c1 := c1'
              clear c1'
              have c2' := Keeps.cellv K6 c2 (fun e => absurd e (fun e => by have := OUT5.out _ e; simp only at this; omega))
              clear c2
              have c2 := c2'
              clear c2'
              clear K6 hb1 hb2
              have FN := Lib.hid (HFN.out _ _ (by have h := N6.out; rw [show pre ++ Bt.opB op = p6 from by rw [HOBE.out, ← HP6.out, ← HP5.out, ← HP3.out]; simp only [List.append_assoc, List.cons_append, List.nil_append]]; exact h) (fun _ => hv))
              go_wp2
              first | exact ⟨FN.out, HM.out⟩ | (rw [hwi]; exact ⟨FN.out, HM.out⟩)
            · have FIN := Lib.hid (Bt.encE_form RISE.out HOP.out hd hv)
              have hvn : V.data.toList ≠ [] := by rw [HVL.out]; exact hv
              have zn : (V.toList != []) = true := by rw [ByteArray.toList_eq, bne_iff_ne]; exact hvn
              have zn2 : (V.toList == []) = false := by rw [ByteArray.toList_eq, beq_eq_false_iff_ne]; exact hvn
              have ze : V.toList.isEmpty = false := by rw [ByteArray.toList_eq]; cases h : V.data.toList with | nil => exact absurd h hvn | cons => rfl
              have QF := Lib.hid (HN.out.qt.alloc (.cells #[.bool true, .string K, .string V] 29))
              clear hv hvn hd
              go_wp2
              go_ret2
              exact ⟨by rw [Bt.encT_no (by rw [FIN.out]; decide), FIN.out]; rfl, QF.out⟩
          | false =>
            rw [hd] at x1
            have HOBE := Lib.hid (show Bt.opB op = 0 :: ((Lib.uvarint K.size ++ K.data.toList) ++ (Lib.uvarint V.size ++ V.data.toList)) from by unfold Bt.opB textB; rw [hd, if_neg (by decide), HKS.out, HKL.out, HVS.out, HVL.out])
            have HOB := Lib.hid (congrArg List.length HOBE.out)
            have HKZ := Lib.hid (show K.size = K.data.toList.length from rfl)
            have HVZ := Lib.hid (show V.size = V.data.toList.length from rfl)
            have BB := newsG wr [.bool false, .string K, .string V] 29
            have N2 := Lib.hid (HN.out.quiet ((Qt.refl wr).alloc (.cells #[.bool false, .string K, .string V] 29)))
            have c0 : (wr.alloc (.cells #[.bool false, .string K, .string V] 29)).cell? ⟨wr.heap.size, 0, none⟩ = some (.bool false) := BB 0 _ rfl
            have c1 : (wr.alloc (.cells #[.bool false, .string K, .string V] 29)).cell? ⟨wr.heap.size, 1, none⟩ = some (.string K) := BB 1 _ rfl
            have c2 : (wr.alloc (.cells #[.bool false, .string K, .string V] 29)).cell? ⟨wr.heap.size, 2, none⟩ = some (.string V) := BB 2 _ rfl
            clear BB
            have OW := Lib.hid (fun o => (show ((wr.alloc (.cells #[.bool false, .string K, .string V] 29)).alloc o).ownsRowF 0 5 1 _ n2 (Lib.byteCells pre) from by rw [LN2.out]; exact ownsRowF_kept N2.out.own ((Keeps.refl (fun _ => False) (wr.alloc (.cells #[.bool false, .string K, .string V] 29))).alloc o) (fun _ _ e => e)))
            have hb1 : n2 + 1 ≤ maxLen := by have := HLEN.out; have := HOB.out; have := LN2.out; unfold maxLen; simp only [List.length_append, List.length_cons] at *; omega
            have hb2 : (n2 + 1) * 1 ≤ 140737488355328 := by have := HLEN.out; have := HOB.out; have := LN2.out; simp only [List.length_append, List.length_cons] at *; omega
            go_wp2_with (at_builtin; refine wpList_append_cellsF _ rfl _ _ 72 rfl 5 i0 (.int .u8 0) 1 1 Tryd.underlying72 hi0 hz0 hz1 hz2 rfl (by decide) _ n2 (Lib.byteCells pre) rfl (OW.out _) ⟨wr.heap.size + 1, 0, none⟩ 1 1 [.int .u8 0] rfl rfl (fun j u h => by have := newsG (wr.alloc (.cells #[.bool false, .string K, .string V] 29)) [.int .u8 0] 5 j u h; rw [show (wr.alloc (.cells #[.bool false, .string K, .string V] 29)).heap.size = wr.heap.size + 1 by simp] at this; exact this) (by intro u hu; simp at hu; subst hu; rfl) hb1 hb2 ?_)
            intro v3 w3 own3 gr3 la3 nx3
            obtain ⟨N3, K3⟩ := NewF.more N2.out ((Qt.refl (wr.alloc (.cells #[.bool false, .string K, .string V] 29))).alloc (.cells #[.int .u8 0] 5)) (k := [0]) (by rw [LN2.out]; first | exact List.length_append.symm | simp) (by rw [byteCells_app]; rfl) own3 gr3 la3
            have OUT3 := Lib.hid (show ∀ k, v3.ownBlock = some k → k ≠ wr.heap.size from fun k e => by
              rcases la3 with r | ⟨x, r, hx⟩
              · have := OUT.out k (r ▸ e); omega
              · rw [r] at e; injection e with e; subst e; have h3 : wr.heap.size < (wr.alloc (.cells #[.bool false, .string K, .string V] 29)).heap.size := World.block_lt_of_cell? _ _ c1; have h4 := (show Qt (wr.alloc (.cells #[.bool false, .string K, .string V] 29)) _ from ((Qt.refl (wr.alloc (.cells #[.bool false, .string K, .string V] 29))).alloc (.cells #[.int .u8 0] 5))).size; omega)
            obtain ⟨oa3, n3, oc3, rfl, hn3, nx⟩ := N3.shapeN
            have LN3 := Lib.hid (show n3 = (pre ++ [0]).length from hn3)
            have HN3 := Lib.hid N3
            clear nx nx3 own3 gr3 la3 hn3 N3
            have N3 := HN3
            clear HN3
            obtain ⟨p3, hp3⟩ : ∃ p, pre ++ [0] = p := ⟨_, rfl⟩
            rw [hp3] at N3 LN3
            have HP3 := Lib.hid hp3
            clear hp3
            have c0' := Keeps.cellv K3 c0 (fun e => absurd e (fun e => by have := OUT.out _ e; simp only at this; omega))
            clear c0
            have c0 := c0'
            clear c0'
            have c1' := Keeps.cellv K3 c1 (fun e => absurd e (fun e => by have := OUT.out _ e; simp only at this; omega))
            clear c1
            have c1 := c1'
            clear c1'
            have c2' := Keeps.cellv K3 c2 (fun e => absurd e (fun e => by have := OUT.out _ e; simp only at this; omega))
            clear c2
            have c2 := c2'
            clear c2'
            clear K3 hb1 hb2
            have NUM := rnumber12_any K.size w3 (by have := congrArg List.length HP3.out; have := HLEN.out; have := HOB.out; have := HKZ.out; simp only [List.length_append, List.length_cons, List.length_nil] at *; omega)
            go_wp2_with fail
            refine NUM.mono ?_
            rintro e w4 ⟨u4, rfl, M4⟩
            clear NUM
            have N4 := Lib.hid (N3.out.quiet M4.qt)
            have Z4 := Lib.hid M4.qt.size
            have c0' := M4.qt.cellv c0
            clear c0
            have c0 := c0'
            clear c0'
            have c1' := M4.qt.cellv c1
            clear c1
            have c1 := c1'
            clear c1'
            have c2' := M4.qt.cellv c2
            clear c2
            have c2 := c2'
            clear c2'
            obtain ⟨ua4, uc4, rfl, nz⟩ := M4.shape
            obtain ⟨ug4, rfl⟩ := nz (by have := uvarint_pos K.size; intro e; rw [e] at this; cases this)
            have NWS := Lib.hid (NewF.news M4)
            clear M4 nz
            have hb1 : n3 + (Lib.uvarint K.size).length ≤ maxLen := by have := congrArg List.length HP3.out; have := HLEN.out; have := HOB.out; have := HKZ.out; have := LN3.out; unfold maxLen; simp only [List.length_append, List.length_cons, List.length_nil] at *; omega
            have hb2 : (n3 + (Lib.uvarint K.size).length) * 1 ≤ 140737488355328 := by have := congrArg List.length HP3.out; have := HLEN.out; have := HOB.out; have := HKZ.out; have := LN3.out; simp only [List.length_append, List.length_cons, List.length_nil] at *; omega
            have OW := Lib.hid (show w4.ownsRowF 0 5 1 _ n3 (Lib.byteCells p3) from by rw [LN3.out]; exact N4.out.own)
            go_wp2_with (at_builtin; refine wpList_append_cellsF _ rfl _ _ 72 rfl 5 i0 (.int .u8 0) 1 1 Tryd.underlying72 hi0 hz0 hz1 hz2 rfl (by decide) _ n3 (Lib.byteCells p3) rfl OW.out ⟨ug4, 0, none⟩ (Lib.uvarint K.size).length uc4 (Lib.byteCells (Lib.uvarint K.size)) rfl (byteCells_len _) NWS.out (byteCells_one _) hb1 hb2 ?_)
            intro v5 w5 own5 gr5 la5 nx5
            obtain ⟨N5, K5⟩ := NewF.more N4.out (Qt.refl w4) (k := (Lib.uvarint K.size)) (by rw [LN3.out]; first | exact List.length_append.symm | simp) (by exact (byteCells_app _ _).symm) own5 gr5 la5
            have OUT5 := Lib.hid (show ∀ k, v5.ownBlock = some k → k ≠ wr.heap.size from fun k e => by
              rcases la5 with r | ⟨x, r, hx⟩
              · have := OUT3.out k (r ▸ e); omega
              · rw [r] at e; injection e with e; subst e; have h3 : wr.heap.size < w4.heap.size := World.block_lt_of_cell? _ _ c1; have h4 := (show Qt w4 _ from (Qt.refl w4)).size; omega)
            obtain ⟨oa5, n5, oc5, rfl, hn5, nx⟩ := N5.shapeN
            have LN5 := Lib.hid (show n5 = (p3 ++ (Lib.uvarint K.size)).length from hn5)
            have HN5 := Lib.hid N5
            clear nx nx5 own5 gr5 la5 hn5 N5
            have N5 := HN5
            clear HN5
            obtain ⟨p5, hp5⟩ : ∃ p, p3 ++ (Lib.uvarint K.size) = p := ⟨_, rfl⟩
            rw [hp5] at N5 LN5
            have HP5 := Lib.hid hp5
            clear hp5
            have c0' := Keeps.cellv K5 c0 (fun e => absurd e (fun e => by have := OUT3.out _ e; simp only at this; omega))
            clear c0
            have c0 := c0'
            clear c0'
            have c1' := Keeps.cellv K5 c1 (fun e => absurd e (fun e => by have := OUT3.out _ e; simp only at this; omega))
            clear c1
            have c1 := c1'
            clear c1'
            have c2' := Keeps.cellv K5 c2 (fun e => absurd e (fun e => by have := OUT3.out _ e; simp only at this; omega))
            clear c2
            have c2 := c2'
            clear c2'
            clear K5 hb1 hb2
            have hb1 : n5 + K.size ≤ maxLen := by have := congrArg List.length HP3.out; have := congrArg List.length HP5.out; have := HLEN.out; have := HOB.out; have := HKZ.out; have := LN5.out; unfold maxLen; simp only [List.length_append, List.length_cons, List.length_nil] at *; omega
            have hb2 : n5 + K.size ≤ 140737488355328 := by have := congrArg List.length HP3.out; have := congrArg List.length HP5.out; have := HLEN.out; have := HOB.out; have := HKZ.out; have := LN5.out; simp only [List.length_append, List.length_cons, List.length_nil] at *; omega
            have OW := Lib.hid (show w5.ownsRowF 0 5 1 _ n5 (Lib.byteCells p5) from by rw [LN5.out]; exact N5.out.own)
            go_wp2_with (at_builtin; refine wpList_append_strF _ rfl _ _ 72 9 rfl 5 i0 Tryd.underlying72 Tryd.underlying9 hi0 hz0 hz1 hz2 _ n5 (Lib.byteCells p5) rfl OW.out K rfl hb1 hb2 ?_)
            intro v6 w6 own6 gr6 la6 nx6
            obtain ⟨N6, K6⟩ := NewF.more N5.out (Qt.refl w5) (k := K.data.toList) (by rw [LN5.out]; first | exact List.length_append.symm | simp) (by exact (byteCells_app _ _).symm) own6 gr6 la6
            have OUT6 := Lib.hid (show ∀ k, v6.ownBlock = some k → k ≠ wr.heap.size from fun k e => by
              rcases la6 with r | ⟨x, r, hx⟩
              · have := OUT5.out k (r ▸ e); omega
              · rw [r] at e; injection e with e; subst e; have h3 : wr.heap.size < w5.heap.size := World.block_lt_of_cell? _ _ c1; omega)
            obtain ⟨oa6, n6, oc6, rfl, hn6, nx⟩ := N6.shapeN
            have LN6 := Lib.hid (show n6 = (p5 ++ K.data.toList).length from hn6)
            have HN6 := Lib.hid N6
            clear nx nx6 own6 gr6 la6 hn6 N6
            have N6 := HN6
            clear HN6
            obtain ⟨p6, hp6⟩ : ∃ p, p5 ++ K.data.toList = p := ⟨_, rfl⟩
            rw [hp6] at N6 LN6
            have HP6 := Lib.hid hp6
            clear hp6
            have c0' := Keeps.cellv K6 c0 (fun e => absurd e (fun e => by have := OUT5.out _ e; simp only at this; omega))
            clear c0
            have c0 := c0'
            clear c0'
            have c1' := Keeps.cellv K6 c1 (fun e => absurd e (fun e => by have := OUT5.out _ e; simp only at this; omega))
            clear c1
            have c1 := c1'
            clear c1'
            have c2' := Keeps.cellv K6 c2 (fun e => absurd e (fun e => by have := OUT5.out _ e; simp only at this; omega))
            clear c2
            have c2 := c2'
            clear c2'
            clear K6 hb1 hb2
            have NUM := rnumber12_any V.size w6 (by have := congrArg List.length HP3.out; have := congrArg List.length HP5.out; have := congrArg List.length HP6.out; have := HLEN.out; have := HOB.out; have := HVZ.out; simp only [List.length_append, List.length_cons, List.length_nil] at *; omega)
            go_wp2_with fail
            refine NUM.mono ?_
            rintro e w7 ⟨u7, rfl, M7⟩
            clear NUM
            have N7 := Lib.hid (N6.out.quiet M7.qt)
            have Z7 := Lib.hid M7.qt.size
            have c0' := M7.qt.cellv c0
            clear c0
            have c0 := c0'
            clear c0'
            have c1' := M7.qt.cellv c1
            clear c1
            have c1 := c1'
            clear c1'
            have c2' := M7.qt.cellv c2
            clear c2
            have c2 := c2'
            clear c2'
            obtain ⟨ua7, uc7, rfl, nz⟩ := M7.shape
            obtain ⟨ug7, rfl⟩ := nz (by have := uvarint_pos V.size; intro e; rw [e] at this; cases this)
            have NWS := Lib.hid (NewF.news M7)
            clear M7 nz
            have hb1 : n6 + (Lib.uvarint V.size).length ≤ maxLen := by have := congrArg List.length HP3.out; have := congrArg List.length HP5.out; have := congrArg List.length HP6.out; have := HLEN.out; have := HOB.out; have := HVZ.out; have := LN6.out; unfold maxLen; simp only [List.length_append, List.length_cons, List.length_nil] at *; omega
            have hb2 : (n6 + (Lib.uvarint V.size).length) * 1 ≤ 140737488355328 := by have := congrArg List.length HP3.out; have := congrArg List.length HP5.out; have := congrArg List.length HP6.out; have := HLEN.out; have := HOB.out; have := HVZ.out; have := LN6.out; simp only [List.length_append, List.length_cons, List.length_nil] at *; omega
            have OW := Lib.hid (show w7.ownsRowF 0 5 1 _ n6 (Lib.byteCells p6) from by rw [LN6.out]; exact N7.out.own)
            go_wp2_with (at_builtin; refine wpList_append_cellsF _ rfl _ _ 72 rfl 5 i0 (.int .u8 0) 1 1 Tryd.underlying72 hi0 hz0 hz1 hz2 rfl (by decide) _ n6 (Lib.byteCells p6) rfl OW.out ⟨ug7, 0, none⟩ (Lib.uvarint V.size).length uc7 (Lib.byteCells (Lib.uvarint V.size)) rfl (byteCells_len _) NWS.out (byteCells_one _) hb1 hb2 ?_)
            intro v8 w8 own8 gr8 la8 nx8
            obtain ⟨N8, K8⟩ := NewF.more N7.out (Qt.refl w7) (k := (Lib.uvarint V.size)) (by rw [LN6.out]; first | exact List.length_append.symm | simp) (by exact (byteCells_app _ _).symm) own8 gr8 la8
            have OUT8 := Lib.hid (show ∀ k, v8.ownBlock = some k → k ≠ wr.heap.size from fun k e => by
              rcases la8 with r | ⟨x, r, hx⟩
              · have := OUT6.out k (r ▸ e); omega
              · rw [r] at e; injection e with e; subst e; have h3 : wr.heap.size < w7.heap.size := World.block_lt_of_cell? _ _ c1; have h4 := (show Qt w7 _ from (Qt.refl w7)).size; omega)
            obtain ⟨oa8, n8, oc8, rfl, hn8, nx⟩ := N8.shapeN
            have LN8 := Lib.hid (show n8 = (p6 ++ (Lib.uvarint V.size)).length from hn8)
            have HN8 := Lib.hid N8
            clear nx nx8 own8 gr8 la8 hn8 N8
            have N8 := HN8
            clear HN8
            obtain ⟨p8, hp8⟩ : ∃ p, p6 ++ (Lib.uvarint V.size) = p := ⟨_, rfl⟩
            rw [hp8] at N8 LN8
            have HP8 := Lib.hid hp8
            clear hp8
            have c0' := Keeps.cellv K8 c0 (fun e => absurd e (fun e => by have := OUT6.out _ e; simp only at this; omega))
            clear c0
            have c0 := c0'
            clear c0'
            have c1' := Keeps.cellv K8 c1 (fun e => absurd e (fun e => by have := OUT6.out _ e; simp only at this; omega))
            clear c1
            have c1 := c1'
            clear c1'
            have c2' := Keeps.cellv K8 c2 (fun e => absurd e (fun e => by have := OUT6.out _ e; simp only at this; omega))
            clear c2
            have c2 := c2'
            clear c2'
            clear K8 hb1 hb2
            have hb1 : n8 + V.size ≤ maxLen := by have := congrArg List.length HP3.out; have := congrArg List.length HP5.out; have := congrArg List.length HP6.out; have := congrArg List.length HP8.out; have := HLEN.out; have := HOB.out; have := HVZ.out; have := LN8.out; unfold maxLen; simp only [List.length_append, List.length_cons, List.length_nil] at *; omega
            have hb2 : n8 + V.size ≤ 140737488355328 := by have := congrArg List.length HP3.out; have := congrArg List.length HP5.out; have := congrArg List.length HP6.out; have := congrArg List.length HP8.out; have := HLEN.out; have := HOB.out; have := HVZ.out; have := LN8.out; simp only [List.length_append, List.length_cons, List.length_nil] at *; omega
            have OW := Lib.hid (show w8.ownsRowF 0 5 1 _ n8 (Lib.byteCells p8) from by rw [LN8.out]; exact N8.out.own)
            go_wp2_with (at_builtin; refine wpList_append_strF _ rfl _ _ 72 9 rfl 5 i0 Tryd.underlying72 Tryd.underlying9 hi0 hz0 hz1 hz2 _ n8 (Lib.byteCells p8) rfl OW.out V rfl hb1 hb2 ?_)
            intro v9 w9 own9 gr9 la9 nx9
            obtain ⟨N9, K9⟩ := NewF.more N8.out (Qt.refl w8) (k := V.data.toList) (by rw [LN8.out]; first | exact List.length_append.symm | simp) (by exact (byteCells_app _ _).symm) own9 gr9 la9
            have OUT9 := Lib.hid (show ∀ k, v9.ownBlock = some k → k ≠ wr.heap.size from fun k e => by
              rcases la9 with r | ⟨x, r, hx⟩
              · have := OUT8.out k (r ▸ e); omega
              · rw [r] at e; injection e with e; subst e; have h3 : wr.heap.size < w8.heap.size := World.block_lt_of_cell? _ _ c1; omega)
            obtain ⟨oa9, n9, oc9, rfl, hn9, nx⟩ := N9.shapeN
            have LN9 := Lib.hid (show n9 = (p8 ++ V.data.toList).length from hn9)
            have HN9 := Lib.hid N9
            clear nx nx9 own9 gr9 la9 hn9 N9
            have N9 := HN9
            clear HN9
            obtain ⟨p9, hp9⟩ : ∃ p, p8 ++ V.data.toList = p := ⟨_, rfl⟩
            rw [hp9] at N9 LN9
            have HP9 := Lib.hid hp9
            clear hp9
            have c0' := Keeps.cellv K9 c0 (fun e => absurd e (fun e => by have := OUT8.out _ e; simp only at this; omega))
            clear c0
            have c0 := c0'
            clear c0'
            have c1' := Keeps.cellv K9 c1 (fun e => absurd e (fun e => by have := OUT8.out _ e; simp only at this; omega))
            clear c1
            have c1 := c1'
            clear c1'
            have c2' := Keeps.cellv K9 c2 (fun e => absurd e (fun e => by have := OUT8.out _ e; simp only at this; omega))
            clear c2
            have c2 := c2'
            clear c2'
            clear K9 hb1 hb2
            have FN := Lib.hid (HFN.out _ _ (by have h := N9.out; rw [show pre ++ Bt.opB op = p9 from by rw [HOBE.out, ← HP9.out, ← HP8.out, ← HP6.out, ← HP5.out, ← HP3.out]; simp only [List.append_assoc, List.cons_append, List.nil_append]]; exact h) (fun e => by rw [hd] at e; cases e))
            go_wp2
            first | exact ⟨FN.out, HM.out⟩ | (rw [hwi]; exact ⟨FN.out, HM.out⟩)
        · obtain rfl : i = ops.length := by omega
          have zlt : decide ((ops.length : Int) < (ops.length : Int)) = false := decide_eq_false (by omega)
          have zlt' : decide (ops.length < ops.length) = false := decide_eq_false (by omega)
          rw [List.take_length] at HN HNO
          have E0 := Lib.hid (Bt.encE_ok RISE.out HNO.out)
          have CV := HN.out.conv
          have QF := Lib.hid HN.out.qt
          clear N
          clear hi hlt
          go_wp2
          go_ret2
          exact ⟨by rw [E0.out, Bt.encT_ok E0.out]; rfl, QF.out⟩
end Go.Proofs.YtffjleceogablaaDoor
