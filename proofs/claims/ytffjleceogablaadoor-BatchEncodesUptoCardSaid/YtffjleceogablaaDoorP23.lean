/-
  The landed batch: readBehind.
  The landed batch: Decode.
-/
import Derived.Test.YtffjleceogablaaDoorP10
import Derived.Test.YtffjleceogablaaDoorP22
import Derived.Laws.ResultCell
import Derived.WalkLawsBesides
namespace Go.Proofs.YtffjleceogablaaDoor
open Go.RowKit Go.WideShapes
set_option maxRecDepth 100000

theorem or_no12 {x y : Bool} (h : false = (x || y)) : x = false ∧ y = false := by cases x <;> cases y <;> simp at h ⊢
theorem or_yes12 {x y : Bool} (h : true = (x || y)) : ¬ (x = false ∧ y = false) := by cases x <;> cases y <;> simp at h ⊢
/-- A result of an op's box and a value. -/
theorem results12 {fn : Func} {p u : Tmp} (h : fn.results = #[.cell p 29, .tmp u]) (tmps : Array Value) (w : World) (g : Nat) (a b c : Value) (hp : tmps.getD p undef = .pointer (some ⟨g, 0, none⟩)) (hb : w.heap[g]? = some (.cells #[a, b, c] 29 (0, 0))) :
    (results fn tmps).run Tryd.prog w = .ok (.tuple #[.agg #[a, b, c], tmps.getD u undef]) w := by
  have h1 := run_loadVar_row (P := Tryd.prog) w g 29 29 #[a, b, c] (0, 0) _ hb Tryd.underlying29 rfl (by kernel_rfl)
  rw [results_cell_tmp h, hp]
  simp [asAddr, h1, Result.andThen]
/-- Where readBehind stands: the Reader, the result's box. -/
structure RbSt (ad : Nat → Addr) (w : World) (b : Nat) (s : ByteArray) (p B : Nat) (W : World) : Prop where
  rd : Rd b s p W
  res : OpB W B ⟨false, [], []⟩
  kp : Keeps (fun k => k = b) w W
  er : Errs ad W
  hb : b < B
  hw : w.heap.size ≤ B
section
variable {ad : Nat → Addr} {w W W' : World} {b p q B : Nat} {s : ByteArray}
theorem RbSt.moved (h : RbSt ad w b s p B W) (hO : OffErrs ad (fun k => k = b)) (m : Moved b s q W W') : RbSt ad w b s q B W' :=
  ⟨m.rd, h.res.kept m.keeps (by have := h.hb; omega), h.kp.trans m.keeps (fun _ _ e => e), h.er.kept m.keeps hO, h.hb, h.hw⟩
theorem RbSt.drew (h : RbSt ad w b s p B W) : RbSt ad w b s p B W.drew := ⟨⟨h.rd.blk, h.rd.le, h.rd.sz⟩, h.res, h.kp.drew, h.er.drew, h.hb, h.hw⟩
theorem RbSt.r6 (h : RbSt ad w b s p B W) : W.cell? ⟨B, 0, none⟩ = some (.bool false) ∧ W.cell? ⟨B, 1, none⟩ = some (.string ⟨#[]⟩) ∧ W.cell? ⟨B, 2, none⟩ = some (.string ⟨#[]⟩) ∧ W.frozen? ⟨B, 0, none⟩ = false ∧ W.frozen? ⟨B, 1, none⟩ = false ∧ W.frozen? ⟨B, 2, none⟩ = false :=
  ⟨h.res.c0, h.res.c1, h.res.c2, h.res.f 0, h.res.f 1, h.res.f 2⟩
theorem RbSt.fin (h : RbSt ad w b s p B W) (x y z : Value) : (((W.setCell ⟨B, 0, none⟩ x).setCell ⟨B, 1, none⟩ y).setCell ⟨B, 2, none⟩ z).heap[B]? = some (.cells #[x, y, z] 29 (0, 0)) ∧
    Rd b s p (((W.setCell ⟨B, 0, none⟩ x).setCell ⟨B, 1, none⟩ y).setCell ⟨B, 2, none⟩ z) ∧ Keeps (fun k => k = b) w (((W.setCell ⟨B, 0, none⟩ x).setCell ⟨B, 1, none⟩ y).setCell ⟨B, 2, none⟩ z) := by
  have k : Keeps (fun k => k = B) W (((W.setCell ⟨B, 0, none⟩ x).setCell ⟨B, 1, none⟩ y).setCell ⟨B, 2, none⟩ z) :=
    Keeps.setCell (S := fun k => k = B) (Keeps.setCell (S := fun k => k = B) (Keeps.setCell (S := fun k => k = B) (Keeps.refl _ _) (fun _ => rfl) _) (fun _ => rfl) _) (fun _ => rfl) _
  have hw := h.hw
  exact ⟨h.res.all x y z, h.rd.kept k (by have := h.hb; omega), Keeps.trans h.kp k (fun i hi e => by omega)⟩
theorem RbSt.finD (h : RbSt ad w b s p B W) (x y z : Value) : (((W.setCell ⟨B, 0, none⟩ x).setCell ⟨B, 1, none⟩ y).setCell ⟨B, 2, none⟩ z).drew.heap[B]? = some (.cells #[x, y, z] 29 (0, 0)) ∧
    Rd b s p (((W.setCell ⟨B, 0, none⟩ x).setCell ⟨B, 1, none⟩ y).setCell ⟨B, 2, none⟩ z).drew ∧ Keeps (fun k => k = b) w (((W.setCell ⟨B, 0, none⟩ x).setCell ⟨B, 1, none⟩ y).setCell ⟨B, 2, none⟩ z).drew :=
  ⟨(h.fin x y z).1, ⟨(h.fin x y z).2.1.blk, (h.fin x y z).2.1.le, (h.fin x y z).2.1.sz⟩, (h.fin x y z).2.2.drew⟩
end
/-- What readBehind answers. -/
def RbP (ad : Nat → Addr) (b : Nat) (s : ByteArray) (p : Nat) (D : Nat ⊕ (Bt.O × Nat)) (w : World) (e : Ending) (w' : World) : Prop :=
  (match D with
    | .inl er => e = .returned (.tuple #[opV ⟨false, [], []⟩, errV ad er]) ∧ ∃ q, Rd b s q w'
    | .inr (o, n) => e = .returned (.tuple #[opV o, .nilIface]) ∧ Rd b s (p + n) w') ∧ Keeps (fun k => k = b) w w'
set_option maxHeartbeats 6400000 in
theorem readBehind_any (ad : Nat → Addr) {v : Value} {g o : Nat} {us : List Bt.O} (b : Nat) (s : ByteArray) (p : Nat) (fst : Bool) (before : Tb.Txt) (w : World) (hr : OpsIn w v g o us) (hd : us ≠ [] → g ≠ b) (h : Rd b s p w) (hE : Errs ad w) (hO : OffErrs ad (fun k => k = b)) (hfb : ∀ k, Bt.risesB us k = (fst || Tb.lt before k)) :
    Calls Tryd.prog 42 #[v, .pointer (some ⟨b, 0, none⟩)] w (RbP ad b s p (Bt.opD fst before (rest s p)) w) := by
  obtain ⟨B, hB⟩ : ∃ B, w.heap.size = B := ⟨_, rfl⟩
  have HS := Lib.hid (show RbSt ad w b s p B (w.alloc (.cells #[.bool false, .string ⟨#[]⟩, .string ⟨#[]⟩] 29)) from
    ⟨h.alloc _, hB ▸ opB_new w, (Keeps.refl _ _).alloc _, hE.alloc _, hB ▸ h.lt, Nat.le_of_eq hB⟩)
  have hg4 : 0 < B := hB ▸ World.block_lt_of_cell? w _ (hE.cells 3 _ rfl)
  have hg7 : 1 < B := hB ▸ World.block_lt_of_cell? w _ (hE.cells 6 _ rfl)
  have HG := Lib.hid (show (B ≠ 0 ∧ 0 ≠ B) ∧ (B ≠ 1 ∧ 1 ≠ B) from ⟨⟨by omega, by omega⟩, ⟨by omega, by omega⟩⟩)
  clear hg4 hg7
  have HR := Lib.hid hr
  have HD := Lib.hid hd
  have HO := Lib.hid hO
  have HF := Lib.hid hfb
  obtain ⟨a, cap, rfl, ha⟩ := hr.val
  have hle := h.le
  have hsz := h.sz
  clear hr hd hO hfb ha h hE
  have RI := fun (K : ByteArray) (W : World) (k : Keeps (fun k => k = b) w W) => rises_any K W (recs_kept HR.out k HD.out)
  have HRI := Lib.hid RI
  clear RI
  by_cases hlt : p < s.size
  · have HO2 := Lib.hid (rest_cons hlt)
    obtain ⟨bn, hbn⟩ : ∃ bn, s[p].toNat = bn := ⟨_, rfl⟩
    have hb256 : bn < 256 := by rw [← hbn]; exact s[p].toNat_lt
    have BY := rbyte_ok b s p _ HS.out.rd (by omega)
    rw [show lowN ((rest s p).take 1) = bn by rw [HO2.out]; simp [lowN, hbn]] at BY
    have HBN := Lib.hid hbn
    clear hbn
    go_enter Tryd.func42, Tryd.ntmps42
    go_wp2_with fail
    refine BY.mono ?_
    rintro e w1 ⟨rfl, m1⟩
    have H1 := Lib.hid (HS.out.moved HO.out m1)
    clear BY m1 hB
    by_cases h7 : 1 < bn
    · have FD := Lib.hid (show Bt.opD fst before (rest s p) = .inl 7 by rw [HO2.out, opD_cons, if_pos (by rw [HBN.out]; exact h7)])
      have z0 : ((bn : Int) != 0) = true := by simp; omega
      have z1 : ((bn : Int) != 1) = true := by simp; omega
      have H2 := Lib.hid H1.out.drew
      have c7 := H2.out.er.cells 6 _ rfl
      have c7' := H1.out.er.cells 6 _ rfl
      obtain ⟨s0, s1, s2, t0, t1, t2⟩ := H1.out.r6
      obtain ⟨_, n1, n2⟩ := HG.out
      obtain ⟨r0, r1, r2, g0, g1, g2⟩ := H2.out.r6
      clear h7
      go_wp2_with fail
      go_region
      go_wp2
      refine bodyPost_ret (results12 (p := 4) (u := 5) (by kernel_rfl) _ _ B (.bool false) (.string ⟨#[]⟩) (.string ⟨#[]⟩) rfl (H1.out.finD _ _ _).1) rfl ⟨?_, (H1.out.finD _ _ _).2.2⟩
      rw [FD.out]
      exact ⟨rfl, _, (H1.out.finD _ _ _).2.1⟩
    · have hb01 : bn = 0 ∨ bn = 1 := by omega
      clear h7 hb256
      rcases hb01 with rfl | rfl
      · cases hD : textD 2147483647 (rest s (p + 1)) with
        | inl er =>
          have FD := Lib.hid (show Bt.opD fst before (rest s p) = .inl er by rw [HO2.out, opD_cons, if_neg (by rw [HBN.out]; decide), hD])
          have TX := rtext_err ad b s (p + 1) er 2147483647 w1 H1.out.rd H1.out.er HO.out (by decide) hD
          have her := textD_err hD
          go_wp2_with fail
          refine TX.mono ?_
          rintro e w2 ⟨rfl, m2⟩
          have H2 := Lib.hid (H1.out.moved HO.out m2)
          obtain ⟨r0, r1, r2, g0, g1, g2⟩ := H2.out.r6
          have EV := Lib.hid (show errV ad er = .iface 155 (.pointer (some (ad er))) from errV_pos ad (by omega))
          clear TX m2 hD her
          go_wp2
          refine bodyPost_ret (results12 (p := 4) (u := 5) (by kernel_rfl) _ _ B (.bool false) (.string ⟨#[]⟩) (.string ⟨#[]⟩) rfl (H2.out.fin _ _ _).1) rfl ⟨?_, (H2.out.fin _ _ _).2.2⟩
          rw [FD.out]
          exact ⟨by rw [EV.out]; rfl, _, (H2.out.fin _ _ _).2.1⟩
        | inr kn =>
          obtain ⟨k, n⟩ := kn
          have TX := rtext_ok ad b s (p + 1) n k 2147483647 w1 H1.out.rd H1.out.er (by decide) hD
          obtain ⟨K, hK, hKl⟩ : ∃ K : ByteArray, strV k = .string K ∧ K.data.toList = k := ⟨⟨k.toArray⟩, rfl, rfl⟩
          rw [show (Value.string ⟨k.toArray⟩) = .string K from hK] at TX
          have HK := Lib.hid hK
          have HDD := Lib.hid hD
          go_wp2_with fail
          refine TX.mono ?_
          rintro e w2 ⟨rfl, m2⟩
          have H2 := Lib.hid (H1.out.moved HO.out m2)
          have RS := HRI.out K w2 H2.out.kp
          rw [hKl] at RS
          clear TX m2 hD hK hKl
          cases hrb : Bt.risesB us k with
          | false =>
            rw [hrb] at RS
            have FD := Lib.hid (show Bt.opD fst before (rest s p) = .inl 4 by
              have hf := HF.out k
              rw [hrb] at hf
              have h1 := or_no12 hf
              rw [HO2.out, opD_cons, if_neg (by rw [HBN.out]; decide), HDD.out]; simp only; rw [if_pos h1])
            have H3 := Lib.hid H2.out.drew
            have c4 := H3.out.er.cells 3 _ rfl
            have c4' := H2.out.er.cells 3 _ rfl
            obtain ⟨s0, s1, s2, t0, t1, t2⟩ := H2.out.r6
            obtain ⟨⟨n1, n2⟩, _⟩ := HG.out
            obtain ⟨r0, r1, r2, g0, g1, g2⟩ := H3.out.r6
            clear hrb
            go_wp2_with fail
            refine RS.mono ?_
            rintro e w3 ⟨rfl, rfl⟩
            go_wp2
            go_region
            go_wp2
            refine bodyPost_ret (results12 (p := 4) (u := 5) (by kernel_rfl) _ _ B (.bool false) (.string ⟨#[]⟩) (.string ⟨#[]⟩) rfl (H2.out.finD _ _ _).1) rfl ⟨?_, (H2.out.finD _ _ _).2.2⟩
            rw [FD.out]
            exact ⟨rfl, _, (H2.out.finD _ _ _).2.1⟩
          | true =>
            rw [hrb] at RS
            have HNO := Lib.hid (show ¬ (fst = false ∧ Tb.lt before k = false) by
              have hf := HF.out k
              rw [hrb] at hf
              exact or_yes12 hf)
            clear hrb
            go_wp2_with fail
            refine RS.mono ?_
            rintro e w3 ⟨rfl, rfl⟩
            clear RS
            cases hD2 : textD 2147483647 (rest s (p + 1 + n)) with
            | inl er =>
              have FD := Lib.hid (show Bt.opD fst before (rest s p) = .inl er by rw [HO2.out, opD_cons, if_neg (by rw [HBN.out]; decide), HDD.out]; simp only; rw [if_neg HNO.out, if_neg (by rw [HBN.out]; decide), rest_drop, hD2])
              have TX := rtext_err ad b s (p + 1 + n) er 2147483647 _ H2.out.rd H2.out.er HO.out (by decide) hD2
              have her := textD_err hD2
              have EV := Lib.hid (show errV ad er = .iface 155 (.pointer (some (ad er))) from errV_pos ad (by omega))
              clear hD2 her
              go_wp2_with fail
              refine TX.mono ?_
              rintro e w4 ⟨rfl, m4⟩
              have H4 := Lib.hid (H2.out.moved HO.out m4)
              obtain ⟨r0, r1, r2, g0, g1, g2⟩ := H4.out.r6
              clear TX m4
              go_wp2
              refine bodyPost_ret (results12 (p := 4) (u := 5) (by kernel_rfl) _ _ B (.bool false) (.string ⟨#[]⟩) (.string ⟨#[]⟩) rfl (H4.out.fin _ _ _).1) rfl ⟨?_, (H4.out.fin _ _ _).2.2⟩
              rw [FD.out]
              exact ⟨by rw [EV.out]; rfl, _, (H4.out.fin _ _ _).2.1⟩
            | inr vm =>
              obtain ⟨v, m⟩ := vm
              have FD := Lib.hid (show Bt.opD fst before (rest s p) = .inr (⟨false, k, v⟩, 1 + n + m) by rw [HO2.out, opD_cons, if_neg (by rw [HBN.out]; decide), HDD.out]; simp only; rw [if_neg HNO.out, if_neg (by rw [HBN.out]; decide), rest_drop, hD2])
              have TX := rtext_ok ad b s (p + 1 + n) m v 2147483647 _ H2.out.rd H2.out.er (by decide) hD2
              obtain ⟨V, hV⟩ : ∃ V : ByteArray, strV v = .string V := ⟨_, rfl⟩
              rw [show (Value.string ⟨v.toArray⟩) = .string V from hV] at TX
              have HV := Lib.hid hV
              clear hD2 hV
              go_wp2_with fail
              refine TX.mono ?_
              rintro e w4 ⟨rfl, m4⟩
              have H4 := Lib.hid (H2.out.moved HO.out m4)
              obtain ⟨r0, r1, r2, g0, g1, g2⟩ := H4.out.r6
              clear TX m4
              go_wp2
              refine bodyPost_ret (results12 (p := 4) (u := 5) (by kernel_rfl) _ _ B (.bool false) (.string K) (.string V) rfl (H4.out.fin _ _ _).1) rfl ⟨?_, (H4.out.fin _ _ _).2.2⟩
              rw [FD.out]
              refine ⟨?_, ?_⟩
              · show Ending.returned (.tuple #[.agg #[.bool false, .string K, .string V], .nilIface]) = .returned (.tuple #[.agg #[.bool false, strV k, strV v], .nilIface])
                rw [HK.out, HV.out]
              · have hh := (H4.out.fin (.bool false) (.string K) (.string V)).2.1
                rw [show p + 1 + n + m = p + (1 + n + m) by omega] at hh
                exact hh
      · cases hD : textD 2147483647 (rest s (p + 1)) with
        | inl er =>
          have FD := Lib.hid (show Bt.opD fst before (rest s p) = .inl er by rw [HO2.out, opD_cons, if_neg (by rw [HBN.out]; decide), hD])
          have TX := rtext_err ad b s (p + 1) er 2147483647 w1 H1.out.rd H1.out.er HO.out (by decide) hD
          have her := textD_err hD
          go_wp2_with fail
          refine TX.mono ?_
          rintro e w2 ⟨rfl, m2⟩
          have H2 := Lib.hid (H1.out.moved HO.out m2)
          obtain ⟨r0, r1, r2, g0, g1, g2⟩ := H2.out.r6
          have EV := Lib.hid (show errV ad er = .iface 155 (.pointer (some (ad er))) from errV_pos ad (by omega))
          clear TX m2 hD her
          go_wp2
          refine bodyPost_ret (results12 (p := 4) (u := 5) (by kernel_rfl) _ _ B (.bool false) (.string ⟨#[]⟩) (.string ⟨#[]⟩) rfl (H2.out.fin _ _ _).1) rfl ⟨?_, (H2.out.fin _ _ _).2.2⟩
          rw [FD.out]
          exact ⟨by rw [EV.out]; rfl, _, (H2.out.fin _ _ _).2.1⟩
        | inr kn =>
          obtain ⟨k, n⟩ := kn
          have TX := rtext_ok ad b s (p + 1) n k 2147483647 w1 H1.out.rd H1.out.er (by decide) hD
          obtain ⟨K, hK, hKl⟩ : ∃ K : ByteArray, strV k = .string K ∧ K.data.toList = k := ⟨⟨k.toArray⟩, rfl, rfl⟩
          rw [show (Value.string ⟨k.toArray⟩) = .string K from hK] at TX
          have HK := Lib.hid hK
          have HDD := Lib.hid hD
          go_wp2_with fail
          refine TX.mono ?_
          rintro e w2 ⟨rfl, m2⟩
          have H2 := Lib.hid (H1.out.moved HO.out m2)
          have RS := HRI.out K w2 H2.out.kp
          rw [hKl] at RS
          clear TX m2 hD hK hKl
          cases hrb : Bt.risesB us k with
          | false =>
            rw [hrb] at RS
            have FD := Lib.hid (show Bt.opD fst before (rest s p) = .inl 4 by
              have hf := HF.out k
              rw [hrb] at hf
              have h1 := or_no12 hf
              rw [HO2.out, opD_cons, if_neg (by rw [HBN.out]; decide), HDD.out]; simp only; rw [if_pos h1])
            have H3 := Lib.hid H2.out.drew
            have c4 := H3.out.er.cells 3 _ rfl
            have c4' := H2.out.er.cells 3 _ rfl
            obtain ⟨s0, s1, s2, t0, t1, t2⟩ := H2.out.r6
            obtain ⟨⟨n1, n2⟩, _⟩ := HG.out
            obtain ⟨r0, r1, r2, g0, g1, g2⟩ := H3.out.r6
            clear hrb
            go_wp2_with fail
            refine RS.mono ?_
            rintro e w3 ⟨rfl, rfl⟩
            go_wp2
            go_region
            go_wp2
            refine bodyPost_ret (results12 (p := 4) (u := 5) (by kernel_rfl) _ _ B (.bool false) (.string ⟨#[]⟩) (.string ⟨#[]⟩) rfl (H2.out.finD _ _ _).1) rfl ⟨?_, (H2.out.finD _ _ _).2.2⟩
            rw [FD.out]
            exact ⟨rfl, _, (H2.out.finD _ _ _).2.1⟩
          | true =>
            rw [hrb] at RS
            have HNO := Lib.hid (show ¬ (fst = false ∧ Tb.lt before k = false) by
              have hf := HF.out k
              rw [hrb] at hf
              exact or_yes12 hf)
            clear hrb
            go_wp2_with fail
            refine RS.mono ?_
            rintro e w3 ⟨rfl, rfl⟩
            clear RS
            have FD := Lib.hid (show Bt.opD fst before (rest s p) = .inr (⟨true, k, []⟩, 1 + n) by rw [HO2.out, opD_cons, if_neg (by rw [HBN.out]; decide), HDD.out]; simp only; rw [if_neg HNO.out, if_pos HBN.out])
            obtain ⟨r0, r1, r2, g0, g1, g2⟩ := H2.out.r6
            go_wp2
            refine bodyPost_ret (results12 (p := 4) (u := 5) (by kernel_rfl) _ _ B (.bool true) (.string K) (.string ⟨#[]⟩) rfl (H2.out.fin _ _ _).1) rfl ⟨?_, (H2.out.fin _ _ _).2.2⟩
            rw [FD.out]
            refine ⟨?_, ?_⟩
            · show Ending.returned (.tuple #[.agg #[.bool true, .string K, .string ⟨#[]⟩], .nilIface]) = .returned (.tuple #[.agg #[.bool true, strV k, strV []], .nilIface])
              rw [HK.out]; rfl
            · have hh := (H2.out.fin (.bool true) (.string K) (.string ⟨#[]⟩)).2.1
              rw [show p + 1 + n = p + (1 + n) by omega] at hh
              exact hh
  · have BY := rbyte_short ad b s p _ HS.out.rd HS.out.er (by omega)
    have FD := Lib.hid (show Bt.opD fst before (rest s p) = .inl 1 by
      have : rest s p = [] := List.drop_eq_nil_of_le (by simp; omega)
      rw [this]; rfl)
    go_enter Tryd.func42, Tryd.ntmps42
    go_wp2_with fail
    refine BY.mono ?_
    rintro e w1 ⟨rfl, m1⟩
    have H1 := Lib.hid (HS.out.moved HO.out m1)
    clear BY m1 hB
    obtain ⟨r0, r1, r2, g0, g1, g2⟩ := H1.out.r6
    go_wp2
    refine bodyPost_ret (results12 (p := 4) (u := 5) (by kernel_rfl) _ _ B (.bool false) (.string ⟨#[]⟩) (.string ⟨#[]⟩) rfl (H1.out.fin _ _ _).1) rfl ⟨?_, (H1.out.fin _ _ _).2.2⟩
    rw [FD.out]
    exact ⟨rfl, _, (H1.out.fin _ _ _).2.1⟩
end Go.Proofs.YtffjleceogablaaDoor
namespace Go.Proofs.YtffjleceogablaaDoor
open Go.RowKit Go.WideShapes
set_option maxRecDepth 100000

theorem offErrs_new {ad : Nat → Addr} {w : World} {b : Nat} (h : Errs ad w) (hb : w.heap.size ≤ b) : OffErrs ad (fun k => k = b) := by
  refine ⟨fun g hg e => ?_, fun i hi e => ?_⟩
  · obtain ⟨i, hi⟩ := List.mem_iff_getElem?.1 hg
    have := World.block_lt_of_cell? w _ (h.cells i g hi)
    simp only at this
    omega
  · obtain ⟨c, t, hb2⟩ := h.blk i hi
    have := lt_of_block hb2
    omega
/-- What Decode answers. -/
def DecP (ad : Nat → Addr) (w : World) (D : Nat ⊕ List Bt.O) (e : Ending) (w' : World) : Prop :=
  match D with
  | .inl er => e = .returned (.tuple #[.slice none 0 0, errV ad er]) ∧ Qt w w'
  | .inr ops => ∃ v, e = .returned (.tuple #[v, .nilIface]) ∧ NewO w w' v ops
/-- The ops read so far. -/
def DcAt (w : World) (b : Nat) (s : ByteArray) (x n : Nat) (ov iv : Value) (wr : World) : Prop :=
  ∃ (k d : Nat) (us : List Bt.O) (fst : Bool) (before : Tb.Txt), k ≤ x ∧ iv = .int .u64 (k : Int) ∧ us.length = k ∧ k ≤ d ∧ NewO w wr ov us ∧ ov.ownBlock ≠ some b ∧ Rd b s (n + d) wr ∧ (∀ K, Bt.risesB us K = (fst || Tb.lt before K)) ∧
    Bt.onto us d (Bt.opsD (x - k) fst before (rest s (n + d))) = Bt.opsD x true [] (rest s n)
theorem risesB_snoc (us : List Bt.O) (o : Bt.O) (K : Tb.Txt) : Bt.risesB (us ++ [o]) K = (false || Tb.lt o.key K) := by
  unfold Bt.risesB
  rw [List.getLast?_concat, Bool.false_or]
set_option maxHeartbeats 6400000 in
theorem decode12_any (ad : Nat → Addr) (s : ByteArray) (w : World) (hs : s.size ≤ 1099511627776) (hE : Errs ad w) :
    Calls Tryd.prog 19 #[.string s] w (DecP ad w (Bt.decD s.data.toList)) := by
  have RR := rread_any s w (by omega)
  obtain ⟨i0, hi0, hz0, hz1, hz2⟩ := info_parts infoOp12
  have HE := Lib.hid hE
  have HS := Lib.hid hs
  obtain ⟨b, hb⟩ : ∃ b, w.heap.size = b := ⟨_, rfl⟩
  have HO := Lib.hid (offErrs_new hE (Nat.le_of_eq hb))
  have HB := Lib.hid hb
  rw [hb] at RR
  clear hE hs hb
  go_enter Tryd.func19, Tryd.ntmps19
  go_wp2_with fail
  refine RR.mono ?_
  rintro e w1 ⟨rfl, h1, q1⟩
  have Q1 := Lib.hid q1
  have R1 := Lib.hid h1
  have E1 := Lib.hid (HE.out.kept q1 (OffErrs.none ad))
  clear RR h1 q1
  cases hD : varintD (rest s 0) with
  | inl er =>
    have UI := ruint_err ad b s 0 er w1 R1.out E1.out hD
    have FD := Lib.hid (show Bt.decD s.data.toList = .inl er from by
      unfold Bt.decD
      rw [show varintD s.data.toList = .inl er from hD])
    have EV := Lib.hid (show errV ad er = .iface 155 (.pointer (some (ad er))) from errV_pos ad (by rcases vd_err _ _ _ _ hD with rfl | rfl <;> decide))
    clear hD
    go_wp2_with fail
    refine UI.mono ?_
    rintro e w2 ⟨rfl, m2⟩
    have Q2 := Lib.hid (Keeps.trans Q1.out m2.keeps (fun i hi e => by have := HB.out; omega))
    clear UI m2
    go_wp2
    go_ret2
    rw [FD.out]
    exact ⟨by rw [EV.out]; rfl, Q2.out⟩
  | inr xn =>
    obtain ⟨x, n⟩ := xn
    have UI := ruint_ok ad b s 0 x n w1 R1.out E1.out hD
    obtain ⟨hx64, hn0, hn10⟩ := varintD_len (Nat.zero_le _) hD
    rw [Nat.zero_add] at UI hn0
    have HD := Lib.hid (show varintD s.data.toList = .inr (x, n) from hD)
    have HX := Lib.hid hx64
    clear hD hx64
    go_wp2_with fail
    refine UI.mono ?_
    rintro e w2 ⟨rfl, m2⟩
    have Q2 := Lib.hid (show Qt w w2 from Keeps.trans Q1.out m2.keeps (fun i hi e => by have := HB.out; omega))
    have START := Lib.hid (show DcAt w b s x n (.slice none 0 0) (.int .u64 0) w2 from
      ⟨0, 0, [], true, [], Nat.zero_le _, rfl, rfl, Nat.le_refl _, ⟨⟨rfl, .inl ⟨rfl, rfl⟩⟩, fun g e => (by cases e), Q2.out⟩, (by intro e; cases e), m2.rd, fun K => rfl, by rw [Bt.onto_nil]; rfl⟩)
    clear UI m2
    go_wp2
    go_loopw [7, 22] (fun ov iv wr => DcAt w b s x n ov iv wr) (fun _ iv _ => x - (intOf iv).toNat)
    case atStart => exact START.out
    case round =>
      obtain ⟨k, d, us, fst, before, hk, rfl, hus, hkd, N, hnb, R, hfb, hon⟩ := hrel
      have HN := Lib.hid N
      have HNB := Lib.hid hnb
      have HR := Lib.hid R
      have HFB := Lib.hid hfb
      have HON := Lib.hid hon
      have HUS := Lib.hid hus
      have HKD := Lib.hid hkd
      have HQ := Lib.hid N.qt
      have ER := Lib.hid (HE.out.kept N.qt (OffErrs.none ad))
      have HDS := Lib.hid (show d ≤ s.size from by have := R.le; omega)
      obtain ⟨oa, oc, rfl⟩ := ownG_shape N.own
      clear START N hnb R hfb hon
      by_cases hlt : k < x
      · have zlt : decide ((k : Int) < (x : Int)) = true := decide_eq_true (by omega)
        have zlt' : decide (k < x) = true := decide_eq_true hlt
        have hw1 : IntKind.u64.wrap ((k : Int) + 1) = (k : Int) + 1 := by have := HX.out; rw [IntKind.wrap_u64]; omega
        have HM := Lib.hid (show x - (intOf (.int .u64 ((k : Int) + 1))).toNat < x - (intOf (.int .u64 (k : Int))).toNat by simp [intOf]; omega)
        have HLT := Lib.hid hlt
        obtain ⟨g, hin, hg⟩ := ownG_in opC_len HN.out.own (by have := HDS.out; have := HS.out; omega)
        have hgb : us ≠ [] → g ≠ b := fun hne e => by
          obtain ⟨g2, e2⟩ := ownG_some HN.out.own (by rw [List.length_pos_iff]; exact hne)
          subst e2
          have := hg g2 rfl
          exact HNB.out (by rw [← e, ← this]; rfl)
        have RB := readBehind_any ad b s (n + d) fst before wr hin hgb HR.out ER.out HO.out HFB.out
        have hxk : x - k = (x - (k + 1)) + 1 := by omega
        clear hin hg hgb hlt hk hus hkd
        cases hod : Bt.opD fst before (rest s (n + d)) with
        | inl er =>
          have FD := Lib.hid (show Bt.decD s.data.toList = .inl er from by
            have h1 := HON.out
            rw [hxk, Bt.onto_err hod] at h1
            unfold Bt.decD
            rw [HD.out]
            simp only
            rw [show s.data.toList.drop n = rest s n from rfl, ← h1])
          have EV := Lib.hid (show errV ad er = .iface 155 (.pointer (some (ad er))) from errV_pos ad (by rcases Bt.opD_err hod with r | r | r | r | r | r <;> omega))
          rw [hod] at RB
          clear hod hxk
          go_wp2_with fail
          refine RB.mono ?_
          rintro e w3 ⟨⟨rfl, q, r3⟩, k3⟩
          rw [EV.out, show opV (⟨false, [], []⟩ : Bt.O) = .agg #[.bool false, .string ⟨#[]⟩, .string ⟨#[]⟩] from rfl]
          have Q3 := Lib.hid (Keeps.trans HQ.out k3 (fun i hi e => by have := HB.out; omega))
          clear RB r3 k3
          go_wp2
          go_ret2
          rw [FD.out]
          exact ⟨by rw [EV.out]; rfl, Q3.out.alloc _⟩
        | inr om =>
          obtain ⟨op, m⟩ := om
          have HON2 := Lib.hid (show Bt.onto (us ++ [op]) (d + m) (Bt.opsD (x - (k + 1)) false op.key (rest s (n + (d + m)))) = Bt.opsD x true [] (rest s n) from by
            have h1 := HON.out
            rw [hxk, Bt.onto_ok hod, rest_drop, Nat.add_assoc] at h1
            exact h1)
          obtain ⟨hm2, hml⟩ := Bt.opD_pos hod
          have HM2 := Lib.hid hm2
          rw [hod] at RB
          obtain ⟨K, hK⟩ : ∃ K : ByteArray, strV op.key = .string K := ⟨_, rfl⟩
          obtain ⟨V, hV⟩ : ∃ V : ByteArray, strV op.val = .string V := ⟨_, rfl⟩
          have OPV := Lib.hid (show opV op = .agg #[.bool op.del, .string K, .string V] by unfold opV; rw [hK, hV])
          have HCV := Lib.hid (show opC op = [.bool op.del, .string K, .string V] by unfold opC; rw [hK, hV])
          clear hod hxk hm2 hml hK hV
          go_wp2_with fail
          refine RB.mono ?_
          rintro e w3 ⟨⟨rfl, r3⟩, k3⟩
          rw [OPV.out]
          have OWN3 := Lib.hid (show w3.ownsRow 0 29 3 (.slice oa us.length oc) us.length (opsC us) from ownsRow_kept HN.out.own k3 (fun z e1 e2 => HNB.out (by rw [e1, e2])))
          have OW := Lib.hid (fun o1 o2 => (show ((w3.alloc o1).alloc o2).ownsRow 0 29 3 (.slice oa us.length oc) us.length (opsC us) from ownsRow_kept OWN3.out (((Keeps.refl (fun _ => False) w3).alloc o1).alloc o2) (fun _ _ e => e)))
          have Q3 := Lib.hid (show Qt w w3 from Keeps.trans HQ.out k3 (fun i hi e => by have := HB.out; omega))
          have R3 := Lib.hid r3
          have hb1 : us.length + 1 ≤ maxLen := by have := HS.out; have := HDS.out; have := HUS.out; have := HKD.out; unfold maxLen; omega
          have hb2 : (us.length + 1) * 40 ≤ 140737488355328 := by have := HS.out; have := HDS.out; have := HUS.out; have := HKD.out; omega
          clear RB r3 k3
          go_wp2_with (at_builtin; refine wpList_append_rows _ rfl _ _ 22 rfl 29 i0 (.agg #[.bool false, .string ⟨#[]⟩, .string ⟨#[]⟩]) 3 40 Tryd.underlying22 hi0 hz0 hz1 hz2 rfl (by decide) _ us.length (opsC us) rfl (OW.out _ _) (some ⟨w3.heap.size + 1, 0, none⟩) 1 1 [.bool op.del, .string K, .string V] rfl rfl (fun _ => ⟨_, rfl, fun j u h => by have := newsG (w3.alloc (.cells #[.bool op.del, .string K, .string V] 29)) [.bool op.del, .string K, .string V] 29 j u h; rw [show (w3.alloc (.cells #[.bool op.del, .string K, .string V] 29)).heap.size = w3.heap.size + 1 by simp] at this; exact this⟩) (by intro y hy; simp at hy; rcases hy with rfl | rfl | rfl <;> rfl) hb1 hb2 ?_)
          intro v5 w5 own5 gr5 la5
          have N5 := Lib.hid (ownG_more (f := opC) (W := w) (l := us) (k := [op]) HN.out.new ((Q3.out.alloc _).alloc _) (by simp) (by rw [cellsG_append, cellsG_one, HCV.out]) own5 gr5 la5)
          have FIN := Lib.hid (show DcAt w b s x n v5 (.int .u64 ((k : Int) + 1)) w5 from
            ⟨k + 1, d + m, us ++ [op], false, op.key, HLT.out, by simp, by rw [List.length_append, List.length_singleton, HUS.out], by have := HKD.out; have := HM2.out; omega, N5.out,
              fun e => by
                rcases la5 with e2 | ⟨z, e2, hz⟩
                · exact HNB.out (e2 ▸ e)
                · rw [e2] at e; have e3 := Option.some.inj e; have := R3.out.lt; simp at hz; omega,
              by
                have h1 := (R3.out.alloc (.cells #[.bool op.del, .string K, .string V] 29)).alloc (.cells #[.bool op.del, .string K, .string V] 29)
                have h2 : Keeps (fun z => (Value.slice oa us.length oc).ownBlock = some z) _ w5 := Keeps.grown (S := fun z => (Value.slice oa us.length oc).ownBlock = some z) (Keeps.refl _ _) gr5 (fun z _ e => e.symm)
                have h3 := h1.kept h2 HNB.out
                rw [Nat.add_assoc] at h3
                exact h3,
              fun K2 => risesB_snoc us op K2, HON2.out⟩)
          clear own5 gr5 la5
          obtain ⟨a5, c5, rfl⟩ := ownG_shape N5.out.own
          go_wp2
          exact ⟨FIN.out, HM.out⟩
      · obtain rfl : k = x := by omega
        have zlt : decide ((k : Int) < (k : Int)) = false := decide_eq_false (by omega)
        have zlt' : decide (k < k) = false := decide_eq_false (by omega)
        have DN := rdone_any ad b s (n + d) wr HR.out ER.out
        have HOS := Lib.hid (show Bt.opsD k true [] (rest s n) = .inr (us, d) from by
          have h1 := HON.out
          rw [Nat.sub_self] at h1
          rw [← h1]
          show Sum.inr (us ++ [], d + 0) = _
          simp)
        clear hlt hk hus hkd
        by_cases ht : n + d < s.size
        · rw [if_pos ht, errV_pos ad (by decide)] at DN
          have FD := Lib.hid (show Bt.decD s.data.toList = .inl 5 from by
            unfold Bt.decD
            rw [HD.out]
            simp only
            rw [show s.data.toList.drop n = rest s n from rfl, HOS.out]
            simp only
            rw [if_pos (by simpa using ht)])
          clear ht
          go_wp2_with fail
          refine DN.mono ?_
          rintro e w6 ⟨rfl, n6, rfl⟩
          go_wp2
          go_ret2
          rw [FD.out]
          exact ⟨rfl, HQ.out.drewN _⟩
        · rw [if_neg ht, errV_zero] at DN
          have FD := Lib.hid (show Bt.decD s.data.toList = .inr us from by
            unfold Bt.decD
            rw [HD.out]
            simp only
            rw [show s.data.toList.drop n = rest s n from rfl, HOS.out]
            simp only
            rw [if_neg (by simpa using ht)])
          clear ht
          go_wp2_with fail
          refine DN.mono ?_
          rintro e w6 ⟨rfl, n6, rfl⟩
          go_wp2
          go_ret2
          rw [FD.out]
          exact ⟨_, rfl, HN.out.quiet ((Qt.refl wr).drewN _)⟩
end Go.Proofs.YtffjleceogablaaDoor
