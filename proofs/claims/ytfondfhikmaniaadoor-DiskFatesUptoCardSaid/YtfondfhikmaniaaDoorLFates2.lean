/-
  DiskFates, walked.
-/
import Derived.Test.YtfondfhikmaniaaDoorLFates
namespace Go.Proofs.YtfondfhikmaniaaDoor
open Go.RowKit Go.WideShapes
set_option maxRecDepth 100000

theorem infoTexts : (Tryd.prog.info? 58).map (fun i => (i.zero, i.size, i.bytes)) = some (some (.slice none 0 0), 1, 24) := by kernel_rfl
theorem infoString6 : (Tryd.prog.info? 9).map (fun i => (i.zero, i.size, i.bytes)) = some (some (.string ⟨#[]⟩), 1, 16) := by kernel_rfl

def nils (n : Nat) : List Value := List.replicate n (.slice none 0 0)
theorem nils_cells (n : Nat) : madeCells #[Value.slice none 0 0] n = (nils n).toArray := by
  unfold madeCells nils
  apply Array.ext_getElem?
  intro i
  rw [Array.getElem?_map]
  by_cases h : i < n
  · rw [Array.getElem?_range, if_pos h]
    simp [h, Nat.mod_one]
  · rw [Array.getElem?_range, if_neg h]
    simp [h]
theorem make_lists (n : Nat) (h : n ≤ 40) (W : World) : (Instr.makeSlice 52 (.int .i64 n) (.int .i64 n)).run Tryd.prog W = .ok (.slice (some ⟨W.heap.size, 0, none⟩) n n) (W.alloc (.cells (nils n).toArray 58)) := by
  obtain ⟨i, hi, h1⟩ := Option.map_eq_some_iff.1 infoTexts
  simp only [Prod.mk.injEq] at h1
  obtain ⟨hz, hs, hb⟩ := h1
  have hr := run_make (P := Tryd.prog) W 52 58 i _ Tryd.underlying52 hi hz .i64 .i64 n n (by omega) (by omega) (by rw [hb]; omega) (by omega)
  rw [hs] at hr
  simp only [Int.toNat_natCast, Nat.mul_one] at hr
  rw [← nils_cells]
  exact hr
theorem WroteAt.start {W : World} {g N : Nat} (h : W.heap[g]? = some (.cells (nils N).toArray 58 (0, 0))) : WroteAt W g N (nils N) [] (fun k => k = g) := by
  have hv : ∀ (i : Nat) (v : Value), (nils N)[i]? = some v → v = .slice none 0 0 := by
    intro i v h
    unfold nils at h
    rw [List.getElem?_replicate] at h
    split at h
    · injection h with h; exact h.symm
    · cases h
  refine ⟨by simp [nils], h, rfl, fun i v e => ?_, fun i v e _ hk => ?_, fun i j v u e _ _ hk _ => ?_⟩
  · rw [hv i v e]; exact World.ownsRow_nil W 0 _ 1
  · rw [hv i v e] at hk; cases hk
  · rw [hv i v e] at hk; cases hk

theorem WroteAt.blk1 {W W1 : World} {g N i : Nat} {vs : List Value} {ws : List (Nat × List UInt8)} {R : Nat → Prop} {v : Value} (h : WroteAt W g N vs ws R) (hv : vs[i]? = some v) (hg : W.grownBy W1 v.ownBlock) : W1.heap[g]? = some (.cells vs.toArray 58 (0, 0)) :=
  ((Keeps.grown (Keeps.refl _ W) hg (fun _ _ e => e) : Keeps (fun k => some k = v.ownBlock) W W1).block g (lt_of_block h.blk) (fun e => (h.own i v hv g e.symm).2 rfl)).trans h.blk

theorem MadeI.few2 {N k : Nat} {d : DS} (h : MadeI N k d) (hk : k ≤ 3000000) : d.Few := ⟨by have := h.ways; omega, by have := h.wr; omega, by have := h.fl; omega, by have := h.cr; omega⟩

/-- A write of the last part: told or done. -/
theorem MadeI.wrote {N k : Nat} {d : DS} (h : MadeI N k d) {i : Nat} (hi : i < N) (s : List UInt8) :
    (s.length = 256 ∧ d.writeE i s = 0 ∧ (d.writeD i s).ways = d.ways ++ [(i, s)] ∧ (d.writeD i s).dur = d.dur) ∨ (s.length ≠ 256 ∧ d.writeE i s = 7 ∧ d.writeD i s = d) := by
  have hr : d.reach i = 0 := by
    have hl := h.len
    unfold DS.reach
    rw [h.off]
    simp
    omega
  have ha : d.armed ≠ 0 := by rw [h.armed]; decide
  by_cases hs : s.length = 256
  · refine .inl ⟨hs, ?_, ?_, ?_⟩
    · unfold DS.writeE; rw [if_neg (by simp [hr]), if_neg (by simp [hs]), if_neg ha]
    · unfold DS.writeD; rw [if_neg (by simp [hr]), if_neg (by simp [hs]), if_neg ha]; simp
    · unfold DS.writeD; rw [if_neg (by simp [hr]), if_neg (by simp [hs]), if_neg ha]
  · refine .inr ⟨hs, ?_, ?_⟩
    · unfold DS.writeE; rw [if_neg (by simp [hr]), if_pos hs]
    · unfold DS.writeD; rw [if_neg (by simp [hr]), if_pos hs]

theorem place_wrap2 {N : Nat} (hN0 : 1 ≤ N) (hN : N ≤ 40) (i : Int) : wrap64 ((IntKind.u64.wrap i).tmod (N : Int)) = ((unsig i % N : Nat) : Int) := by
  rw [u64_wrap]
  have h : ((unsig i : Int)).tmod (N : Int) = ((unsig i % N : Nat) : Int) := by rw [Int.tmod_eq_emod_of_nonneg (by omega)]; omega
  rw [h]
  have hb : unsig i % N < N := Nat.mod_lt _ (by omega)
  rw [IntWalk.wrap64_in ((unsig i % N : Nat) : Int) ⟨by omega, by omega⟩]

/-- The state of the first loop. -/
def FaAt (N K : Nat) (w0 : World) (b gw : Nat) (D : List (List UInt8)) (len : Nat) (iv : Value) (wr : World) : Prop :=
  ∃ (k : Nat) (d : DS) (vs : List Value) (S R : Nat → Prop), k ≤ len ∧ iv = .int .i64 k ∧ MadeI N (K + k) d ∧ d.dur = D ∧ DiskAt wr b d S ∧ WroteAt wr gw N vs d.ways R ∧ (∀ j, S j → R j → False) ∧ (∀ j, S j → w0.heap.size ≤ j) ∧ (∀ j, R j → w0.heap.size ≤ j) ∧ Since w0.heap.size w0 wr

/-- Sector k of an image, as the law slices it. -/
theorem cut_ext {D : List (List UInt8)} {N k : Nat} (hD : ∀ (i : Nat) (t : List UInt8), D[i]? = some t → t.length = 256) (hl : D.length = N) (hk : k < N) : (⟨D.flatten.toArray⟩ : ByteArray).extract (256 * k) (256 * k + 256) = ⟨(D.getD k []).toArray⟩ := by
  have e := flat_cut hD (show k < D.length by omega)
  apply ByteArray.ext
  rw [ByteArray.data_extract]
  apply Array.toList_inj.1
  rw [Array.toList_extract, List.extract_eq_take_drop]
  simp only
  rw [show 256 * k + 256 - 256 * k = 256 by omega, show 256 * k = k * 256 by omega]
  exact e

/-- The state of the second loop. -/
def FzAt (N : Nat) (w : World) (gw : Nat) (vs : List Value) (ways : List (Nat × List UInt8)) (R : Nat → Prop) (D D' : List (List UInt8)) (tv iv : Value) (wr : World) : Prop :=
  ∃ k t : Nat, k ≤ N ∧ iv = .int .i64 k ∧ tv = .int .i64 t ∧ (t = 0 ∨ (t = 1 ∧ ∃ j, j < k ∧ wholeAt D D' ways j = false)) ∧ WroteAt wr gw N vs ways R ∧ Since w.heap.size w wr

/-- Is a sector whole, as far as the first j of its writes say? -/
def wholeTo (D D' : List (List UInt8)) (ws : List (List UInt8)) (k j : Nat) : Bool := D'.getD k [] == D.getD k [] || (ws.take j).any (fun t => D'.getD k [] == t)

theorem wholeTo_succ {D D' : List (List UInt8)} {ws : List (List UInt8)} {k j : Nat} {x : List UInt8} (h : ws[j]? = some x) : wholeTo D D' ws k (j + 1) = (wholeTo D D' ws k j || (D'.getD k [] == x)) := by
  unfold wholeTo
  have e : ws.take (j + 1) = ws.take j ++ [x] := by
    obtain ⟨hj, rfl⟩ := List.getElem?_eq_some_iff.1 h
    exact List.take_succ_eq_append_getElem hj
  rw [e, List.any_append, Bool.or_assoc]
  simp
theorem wholeTo_zero (D D' : List (List UInt8)) (ws : List (List UInt8)) (k : Nat) : wholeTo D D' ws k 0 = (D'.getD k [] == D.getD k []) := by simp [wholeTo]
theorem wholeTo_all (D D' : List (List UInt8)) (ways : List (Nat × List UInt8)) (k : Nat) : wholeTo D D' (wroteOf ways k) k (wroteOf ways k).length = wholeAt D D' ways k := by unfold wholeTo wholeAt; rw [List.take_length]

/-- The state of the inner loop. -/
def FyAt (N : Nat) (w : World) (gw : Nat) (vs : List Value) (ways : List (Nat × List UInt8)) (R : Nat → Prop) (D D' : List (List UInt8)) (k : Nat) (bv jv : Value) (wr : World) : Prop :=
  ∃ j : Nat, j ≤ (wroteOf ways k).length ∧ jv = .int .i64 j ∧ bv = .bool (wholeTo D D' (wroteOf ways k) k j) ∧ WroteAt wr gw N vs ways R ∧ Since w.heap.size w wr

set_option maxHeartbeats 3200000 in
theorem fates_any (ad : Nat → Addr) (n : Int) (_lo : -9223372036854775808 ≤ n) (_hi : n ≤ 9223372036854775807) (v v2 : Value) (g off : Nat) (os : List OpD) (g2 off2 : Nat) (os2 : List OpD) (kv : Value) (f : FT) (w : World) (hE : Errs ad w) (hs : Script w v g off os) (hs2 : Script w v2 g2 off2 os2) (hB : Bools w kv f.kept) (hkl : f.kept.length ≤ 1048576) :
    Calls Tryd.prog 6 #[.int .i64 n, v, v2, fateV kv f] w fun e w' => e = .returned (.bool true) ∧ Qt w w' := by
  have hle := hs.le
  have hle2 := hs2.le
  obtain ⟨hN0, hN1⟩ := madeN_bd n
  have v0 := Lib.hid (errV_zero ad)
  have hB' := hB
  obtain ⟨ka, kc, hkv, _⟩ := hB'
  subst hkv
  obtain ⟨va2, vc2, rfl, _⟩ := hs2.val
  obtain ⟨wF, hwF⟩ : ∃ wF, w.alloc (.cells #[.slice ka f.kept.length kc, .int .i64 f.torn, .int .i64 f.bytes] 40) = wF := ⟨_, rfl⟩
  have qF : Qt w wF := hwF ▸ (Qt.refl w).alloc _
  have hbl : wF.heap[w.heap.size]? = some (.cells #[.slice ka f.kept.length kc, .int .i64 f.torn, .int .i64 f.bytes] 40 (0, 0)) := hwF ▸ heap_alloc_new w _
  have HE := Lib.hid (hE.kept qF (OffErrs.none ad))
  have HSC := Lib.hid (hs.qt qF)
  have HSC2 := Lib.hid (hs2.qt qF)
  have HB := Lib.hid (hB.qt qF)
  have HQF := Lib.hid qF
  have HBL := Lib.hid hbl
  have HWF := Lib.hid hwF
  clear hs hs2 hB hE qF hbl hwF
  unfold fateV
  go_enter Tryd.func6, Tryd.ntmps6
  go_wp2_with fail
  rw [HWF.out]
  refine (lives_any ad wF HE.out).mono ?_
  rintro e w1 ⟨rfl, q1⟩
  have HS1 := Lib.hid (Qt.since (B := wF.heap.size) q1)
  clear q1
  go_wp2_with fail
  refine (made_any ad n v g off os wF w1 HE.out HSC.out HS1.out).mono ?_
  rintro e w2 ⟨b, d0, rfl, hI, h2, S2⟩
  obtain ⟨N, hN⟩ : ∃ N, madeN n = N := ⟨_, rfl⟩
  rw [hN] at hI hN0 hN1
  rw [hN]
  have HF0 := Lib.hid (hI.few (by omega))
  obtain ⟨hfe, hfi⟩ := FlushedI.of hI (by omega)
  have HFE := Lib.hid hfe
  have HFI := Lib.hid hfi
  have HMI := Lib.hid hI.flush
  have H2 := Lib.hid h2
  have HS2 := Lib.hid S2
  clear h2 S2 hI hfe hfi
  go_wp2_with fail
  refine (own_flush HE.out HS2.out H2.out HF0.out).mono ?_
  rintro e w3 ⟨rfl, h3, S3⟩
  rw [HFE.out, v0.out]
  obtain ⟨d, hd⟩ : ∃ d, d0.flushD = d := ⟨_, rfl⟩
  rw [hd] at HFI h3 HMI
  have H3 := Lib.hid h3
  have HS3 := Lib.hid S3
  clear h3 S3
  go_wp2_with fail
  refine (own_image HS3.out H3.out).mono ?_
  rintro e w4 ⟨rfl, h4, S4, _⟩
  have hmk := fun W => make_lists N hN1 W
  have q5 : Qt w4 (w4.alloc (.cells (nils N).toArray 58)) := (Qt.refl w4).alloc _
  have hb5 := heap_alloc_new w4 (.cells (nils N).toArray 58)
  obtain ⟨w5, hw5⟩ : ∃ W, w4.alloc (.cells (nils N).toArray 58) = W := ⟨_, rfl⟩
  obtain ⟨gw, hgw⟩ : ∃ g, w4.heap.size = g := ⟨_, rfl⟩
  have HW5 := Lib.hid hw5
  have HG := Lib.hid hgw
  rw [hw5] at q5 hb5
  rw [hgw] at hb5
  have A0 : FaAt N (os.length + 1) wF b gw d.dur os2.length (.int .i64 0) w5 := by
    refine ⟨0, d, nils N, _, _, Nat.zero_le _, rfl, HMI.out, rfl, DiskAt.qt h4.there q5, HFI.out.ways.symm ▸ WroteAt.start hb5, ?_, fun j e => e.1, ?_, S4.step q5 (fun _ e => e.elim)⟩
    · rintro j e rfl; omega
    · rintro j rfl; have := S4.size; omega
  have HA0 := Lib.hid A0
  clear A0 q5 hb5 hw5 hgw h4 S4
  go_wp2_with fail
  rw [HW5.out, HG.out]
  clear hmk
  go_loopw [44] (fun iv wr => FaAt N (os.length + 1) wF b gw d.dur os2.length iv wr) (fun iv _ => os2.length - (intOf iv).toNat)
  case atStart => exact HA0.out
  case round =>
    obtain ⟨k, dk, vs, S, R, hk, rfl, hI, hdur, hD, hW, hSR, hS0, hR0, hS⟩ := hrel
    by_cases hlt : k < os2.length
    · obtain ⟨o, cap, ho, hval⟩ := HSC2.out.elem hlt
      injection hval with hva _ hvc
      subst hva hvc
      have HEA := Lib.hid (HSC2.out.each k o ho)
      obtain ⟨oa, oc, hkv, _⟩ := HEA.out.2
      obtain ⟨kind, i, s, fill, okv, of⟩ := o
      simp only at hkv
      subst hkv
      have c0 : wr.cell? ⟨g2, off2 + k * 7, none⟩ = some (.int .i64 kind) := HSC2.out.since hS ho 0 (.int .i64 kind) rfl
      have c1 := HSC2.out.since hS ho 1 (.int .i64 i) rfl
      have c2 := HSC2.out.since hS ho 2 (.string s) rfl
      have c3 := HSC2.out.since hS ho 3 (.int .u8 fill.toNat) rfl
      have c4 := HSC2.out.since hS ho 4 (.slice oa of.kept.length oc) rfl
      have c5 := HSC2.out.since hS ho 5 (.int .i64 of.torn) rfl
      have c6 := HSC2.out.since hS ho 6 (.int .i64 of.bytes) rfl
      obtain ⟨WA, hWA, qA, hCA⟩ := laid_op wr ⟨kind, i, s, fill, .slice oa of.kept.length oc, of⟩
      simp only at hWA
      have hz1 := World.size_alloc wr (.cells #[.int .i64 kind, .int .i64 i, .string s, .int .u8 fill.toNat, .slice oa of.kept.length oc, .int .i64 of.torn, .int .i64 of.bytes] 54)
      rw [hWA] at hz1
      have cA := hCA (fun _ => False) WA (fun e => e) (Keeps.refl _ _)
      obtain ⟨a0, a1, a2, a3, a4, a5, a6⟩ := cA
      have hnz2 : ¬ IntKind.u64.wrap (N : Int) = 0 := by rw [u64_wrap]; unfold unsig; omega
      have hnz : (IntKind.u64.wrap (N : Int) == 0) = false := beq_eq_false_iff_ne.2 hnz2
      have HPL := Lib.hid (place_wrap2 hN0 hN1 i)
      have HWA := Lib.hid hWA
      have hp : unsig i % N < N := Nat.mod_lt _ (by omega)
      obtain ⟨p, hpp⟩ : ∃ p, unsig i % N = p := ⟨_, rfl⟩
      rw [hpp] at HPL hp
      have HD := Lib.hid (DiskAt.qt hD.there qA)
      have HW := Lib.hid (hW.lt.kept qA (fun _ _ e => e))
      have HI := Lib.hid hI
      have HS := Lib.hid (hS.step qA (fun _ e => e.elim))
      have HSR := Lib.hid hSR
      have HS0 := Lib.hid hS0
      have HR0 := Lib.hid hR0
      have HDU := Lib.hid hdur
      clear hD hW hI hS hSR hS0 hR0 qA hWA hCA hdur
      go_wp2_with fail
      rw [HWA.out]
      go_wp2_with fail
      rw [HPL.out]
      refine (sector_any ⟨kind, i, s, fill, .slice oa of.kept.length oc, of⟩ _).mono ?_
      rintro e wS ⟨rfl, qS⟩
      obtain ⟨X, hX⟩ : ∃ X : List UInt8, OpD.sector ⟨kind, i, s, fill, .slice oa of.kept.length oc, of⟩ = X := ⟨_, rfl⟩
      rw [hX]
      have HDS := Lib.hid (DiskAt.qt HD.out qS)
      have HWS := Lib.hid (HW.out.kept qS (fun _ _ e => e))
      have HSS := Lib.hid (HS.out.step qS (fun _ e => e.elim))
      have hzs := Nat.le_trans (Nat.le_of_eq hz1.symm) qS.size
      clear qS hX a0 a1 a2 a3 a4 a5 a6 c0 c1 c2 c3 c4 c5 c6
      have HZR := Lib.hid (show wr.heap.size + 1 ≤ wS.heap.size from hzs)
      clear hz1 hzs
      go_wp2_with fail
      refine (write_any ad (errs_since HE.out HSS.out) (OffErrs.mono (off_since HE.out) (fun j (e : S j ∧ j < wr.heap.size) => HS0.out j e.1)) HDS.out (HI.out.few2 (by omega)) (p : Int) ⟨X.toArray⟩).mono ?_
      rintro e wW ⟨rfl, dW, kW⟩
      rw [strL_mk] at dW ⊢
      have HDW := Lib.hid dW
      have HWW := Lib.hid (HWS.out.kept kW (fun j h1 h2 => HSR.out j h2.1 h1.1))
      have HSW := Lib.hid (HSS.out.step kW (fun j e => HS0.out j e.1))
      have HKW := Lib.hid kW.size
      clear dW kW
      rcases HI.out.wrote hp X with ⟨hx, e1, e2, e3⟩ | ⟨hx, e1, e2⟩
      · rw [e1, v0.out]
        obtain ⟨vp, hvp⟩ : ∃ v, vs[p]? = some v := ⟨_, List.getElem?_eq_getElem (by rw [HWW.out.len]; exact hp)⟩
        obtain ⟨pa, pc, hpv, _⟩ := own_slice (HWW.out.row p vp hvp)
        subst hpv
        have cp := HWW.out.cell hvp
        have HROW := Lib.hid (ownsRow_kept (HWW.out.row p _ hvp) ((Qt.refl wW).alloc (.cells #[.string ⟨X.toArray⟩] 9)) (fun _ _ e => e))
        have HWB := Lib.hid (HWW.out.kept ((Qt.refl wW).alloc (.cells #[.string ⟨X.toArray⟩] 9)) (fun _ _ e => e))
        have HDB := Lib.hid (DiskAt.qt HDW.out ((Qt.refl wW).alloc (.cells #[.string ⟨X.toArray⟩] 9)))
        have HSB := Lib.hid (HSW.out.step ((Qt.refl wW).alloc (.cells #[.string ⟨X.toArray⟩] 9)) (fun _ e => e.elim))
        have hbl1 : (wroteOf dk.ways p).length ≤ dk.ways.length := by unfold wroteOf; rw [List.length_map]; exact List.length_filter_le ..
        have hbl2 := HI.out.ways
        have HBD := Lib.hid (show (wroteOf dk.ways p).length ≤ 3000000 by omega)
        obtain ⟨i0, hi, hz0, hz1, hz2⟩ := info_parts infoString6
        have HVP := Lib.hid hvp
        clear hbl1 hbl2 hvp
        obtain ⟨m, hm⟩ : ∃ m, (wroteOf dk.ways p).length = m := ⟨_, rfl⟩
        rw [hm] at HROW cp HBD HVP
        have HM := Lib.hid hm
        have HX := Lib.hid (show FaAt N (os.length + 1) wF b gw d.dur os2.length (.int .i64 ((k : Int) + 1)) wW → True from fun _ => trivial)
        clear HX hm
        go_wp2_with (refine wpList_append_cells0 _ rfl (.tmp 67) (.tmp 69) 58 rfl 9 i0 (.string ⟨#[]⟩) 1 16 Tryd.underlying58 hi hz0 hz1 hz2 rfl (by decide) (.slice pa m pc) m ((wroteOf dk.ways p).map strV) rfl HROW.out ⟨wW.heap.size, 0, none⟩ 1 1 [.string ⟨X.toArray⟩] rfl rfl (World.news_of_block (cs := #[.string ⟨X.toArray⟩]) (heap_alloc_new wW _)) (by intro u hu; rw [List.mem_singleton.1 hu]; rfl) (by have := HBD.out; unfold maxLen; omega) (by have := HBD.out; omega) ?_; intro v5 w5 hown5 hg5 hl5 _; obtain ⟨pa5, pc5, e5, _⟩ := own_slice hown5; subst e5; have hb5 := HWB.out.blk1 HVP.out hg5; have PU := Lib.hid (HWB.out.push (s := X) HVP.out (by rw [HM.out]; exact hown5) hg5 hl5); have HG5 := Lib.hid (show (wW.alloc (.cells #[.string ⟨X.toArray⟩] 9)).heap.size ≤ w5.heap.size from hg5.size); have cq : w5.cell? ⟨gw, p, none⟩ = some (.slice pa m pc) := by { rw [cell_of_row _ _ _ _ _ _ hb5]; have := HVP.out; simpa using this }; have fq := frozen_of_row hb5 p; clear hown5 hg5 hl5 hb5)
        obtain ⟨w6, hw6⟩ : ∃ W, w5.setCell ⟨gw, p, none⟩ (.slice pa5 (m + 1) pc5) = W := ⟨_, rfl⟩
        have HW6 := Lib.hid hw6
        have PU6 := PU.out
        rw [hw6] at PU6
        obtain ⟨hW6, hK6⟩ := PU6
        have hzB := World.size_alloc wW (.cells #[.string ⟨X.toArray⟩] 9)
        have hz1 := HZR.out
        have hz2 := HKW.out
        have hz3 := HG5.out
        have D6 : DiskAt w6 b (dk.writeD p X) (Grow (fun j => S j ∧ j < wr.heap.size) wS wW) := HDB.out.kept hK6 (fun j h1 h2 => by
          rcases h1 with h1 | h1
          · exact HSR.out j h1.1 h2.1
          · have := h2.2; have := h1.1; omega)
        have FF := Lib.hid (show FaAt N (os.length + 1) wF b gw d.dur os2.length (.int .i64 ((k : Int) + 1)) w6 from ⟨k + 1, _, _, _, _, hlt, by simp, HI.out.write p X, e3.trans HDU.out, D6, e2.symm ▸ hW6, fun j h1 h2 => by
            rcases h1 with h1 | h1
            · rcases h2 with h2 | h2
              · exact HSR.out j h1.1 h2.1
              · have := h2.1; have := h1.2; omega
            · rcases h2 with h2 | h2
              · have := h2.2; have := h1.1; omega
              · have := h2.1; have := h1.2; omega, fun j h1 => by
            rcases h1 with h1 | h1
            · exact HS0.out j h1.1
            · have := HSS.out.size; have := h1.1; omega, fun j h1 => by
            rcases h1 with h1 | h1
            · exact HR0.out j h1.1
            · have := HSB.out.size; have := h1.1; omega, HSB.out.step hK6 (fun j e => HR0.out j e.1)⟩)
        clear hW6 hK6 hzB hz1 hz2 hz3 D6 cp cq fq hw6
        rw [HW6.out]
        go_wp2_with fail
        go_roundw
        case rel => exact FF.out
        case measure => simp [intOf]; omega
      · rw [e1]
        rw [e2] at HDW
        have FF := Lib.hid (show FaAt N (os.length + 1) wF b gw d.dur os2.length (.int .i64 ((k : Int) + 1)) wW from ⟨k + 1, dk, vs, _, _, hlt, by simp, HI.out.skip, HDU.out, HDW.out, HWW.out, fun j h1 h2 => by
            rcases h1 with h1 | h1
            · exact HSR.out j h1.1 h2.1
            · have := h2.2; have := h1.1; have := HZR.out; omega, fun j h1 => by
            rcases h1 with h1 | h1
            · exact HS0.out j h1.1
            · have := HSS.out.size; have := h1.1; omega, fun j h => HR0.out j h.1, HSW.out⟩)
        rw [errV_ne (by decide)]
        go_wp2_with fail
        go_roundw
        case rel => exact FF.out
        case measure => simp [intOf]; omega
    · obtain rfl : k = os2.length := by omega
      have hb4 : wr.heap[w.heap.size]? = some (.cells #[.slice ka f.kept.length kc, .int .i64 f.torn, .int .i64 f.bytes] 40 (0, 0)) := (hS.block _ (lt_of_block HBL.out) (fun e => absurd (lt_of_block HBL.out) (Nat.not_lt_of_le e))).trans HBL.out
      have c0 : wr.cell? ⟨w.heap.size, 0, none⟩ = some (.slice ka f.kept.length kc) := by rw [cell_of_row _ _ _ _ _ _ hb4]; rfl
      have c1 : wr.cell? ⟨w.heap.size, 1, none⟩ = some (.int .i64 f.torn) := by rw [cell_of_row _ _ _ _ _ _ hb4]; rfl
      have c2 : wr.cell? ⟨w.heap.size, 2, none⟩ = some (.int .i64 f.bytes) := by rw [cell_of_row _ _ _ _ _ _ hb4]; rfl
      have HB4 := Lib.hid hb4
      have HI := Lib.hid hI
      have HDU := Lib.hid hdur
      have HD := Lib.hid hD
      have HW := Lib.hid hW
      have HSR := Lib.hid hSR
      have HS0 := Lib.hid hS0
      have HR0 := Lib.hid hR0
      have HS := Lib.hid hS
      clear hb4 hI hdur hD hW hSR hS0 hR0 hS hlt
      go_wp2_with fail
      clear c0 c1 c2
      refine (spare_any (.slice ka f.kept.length kc) f wr (HB.out.kept HS.out (fun a n c e hn q => by have := Bools.block HB.out a n c e hn; omega)) hkl).mono ?_
      rintro e wS ⟨v', full, B, cc, rfl, SP⟩
      have HSP := Lib.hid SP
      clear SP
      obtain rfl := HSP.out.v
      have hbS : wS.heap[w.heap.size]? = some (.cells #[.slice ka f.kept.length kc, .int .i64 f.torn, .int .i64 f.bytes] 40 (0, 0)) := (HSP.out.qt.block _ (lt_of_block (HB4.out)) (fun e => e)).trans HB4.out
      have c0 : wS.cell? ⟨w.heap.size, 0, none⟩ = some (.slice ka f.kept.length kc) := by rw [cell_of_row _ _ _ _ _ _ hbS]; rfl
      have c1 : wS.cell? ⟨w.heap.size, 1, none⟩ = some (.int .i64 f.torn) := by rw [cell_of_row _ _ _ _ _ _ hbS]; rfl
      have c2 : wS.cell? ⟨w.heap.size, 2, none⟩ = some (.int .i64 f.bytes) := by rw [cell_of_row _ _ _ _ _ _ hbS]; rfl
      have f0 := frozen_of_row hbS 0
      have f1 := frozen_of_row hbS 1
      have f2 := frozen_of_row hbS 2
      have HBS := Lib.hid hbS
      clear hbS
      unfold fateV
      go_wp2_with fail
      have k6 := keeps3 wS w.heap.size (.slice (some ⟨B, 0, none⟩) f.kept.length cc) (.int .i64 f.torn) (.int .i64 f.bytes)
      have r6 := row3 HBS.out (.slice (some ⟨B, 0, none⟩) f.kept.length cc) (.int .i64 f.torn) (.int .i64 f.bytes)
      obtain ⟨W6, hW6⟩ : ∃ W, ((wS.setCell ⟨w.heap.size, 0, none⟩ (.slice (some ⟨B, 0, none⟩) f.kept.length cc)).setCell ⟨w.heap.size, 1, none⟩ (.int .i64 f.torn)).setCell ⟨w.heap.size, 2, none⟩ (.int .i64 f.bytes) = W := ⟨_, rfl⟩
      rw [hW6] at k6 r6
      rw [hW6]
      have l0 : w.heap.size < wF.heap.size := lt_of_block HBL.out
      have l5 : wF.heap.size ≤ wr.heap.size := HS.out.size
      have lB := HSP.out.new
      have D6 : DiskAt W6 b dk (fun k => S k ∧ k < wr.heap.size) := DiskAt.kept (DiskAt.qt HD.out.there HSP.out.qt) k6 (fun q hq e => by have := HS0.out q hq.1; omega)
      have WR6 : WroteAt W6 gw N vs dk.ways R := WroteAt.kept (WroteAt.kept HW.out HSP.out.qt (fun _ _ e => e)) k6 (fun q hq e => by have := HR0.out q hq; omega)
      have B6 := Bools.kept (HSP.out.bools (by omega) (Qt.refl wS)) k6 (fun a n c e hn q => by
        injection e with e _ _
        injection e with e
        subst e
        simp only at q
        omega)
      have c0 : W6.cell? ⟨w.heap.size, 0, none⟩ = some (.slice (some ⟨B, 0, none⟩) f.kept.length cc) := by rw [cell_of_row _ _ _ _ _ _ r6]; rfl
      have c1 : W6.cell? ⟨w.heap.size, 1, none⟩ = some (.int .i64 f.torn) := by rw [cell_of_row _ _ _ _ _ _ r6]; rfl
      have c2 : W6.cell? ⟨w.heap.size, 2, none⟩ = some (.int .i64 f.bytes) := by rw [cell_of_row _ _ _ _ _ _ r6]; rfl
      have S6 : Since w.heap.size w W6 := ((Qt.since HQF.out).step (Keeps.mono HS.out (fun k _ (e : wF.heap.size ≤ k) => (show w.heap.size ≤ k by omega)) : Keeps (fun k => w.heap.size ≤ k) wF wr) (fun _ e => e)).step (Keeps.trans (HSP.out.qt.mono (fun _ _ e => e.elim)) k6 (fun _ _ e => e)) (fun k e => by omega)
      have HD6 := Lib.hid D6
      have HWR6 := Lib.hid WR6
      have HB6 := Lib.hid B6
      have HS6 := Lib.hid S6
      have HSB := Lib.hid (show wr.heap.size ≤ B from lB)
      have HL0 := Lib.hid l0
      clear k6 r6 hW6 D6 B6 S6 l0 l5 lB f0 f1 f2 WR6
      go_wp2_with fail
      have HCR := crash_any W6 b dk _ HD6.out (HI.out.few2 (by omega)) (.slice (some ⟨B, 0, none⟩) f.kept.length cc) f HB6.out (fun a n c e n0 q => by
        injection e with e _ _
        injection e with e
        subst e
        have := HSB.out
        simp only at q
        omega)
      unfold fateV at HCR
      refine HCR.mono ?_
      rintro e w7 ⟨rfl, D7, K7⟩
      have HD7 := Lib.hid D7
      have HOK := Lib.hid HD6.out.ok
      have HOC := Lib.hid D7.ok
      have HW7 := Lib.hid (HWR6.out.kept K7 (fun j h1 h2 => HSR.out j h2.1 h1))
      have HS7 := Lib.hid (HS6.out.step K7 (fun k e => by have := HS0.out k e.1; have := HL0.out; omega))
      clear D7 K7 HCR c0 c1 c2
      go_wp2_with fail
      refine (image_any w7 b _ _ HD7.out).mono ?_
      rintro e w8 ⟨rfl, q8⟩
      have HW8 := Lib.hid (HW7.out.kept q8 (fun _ _ e => e))
      have HS8 := Lib.hid (HS7.out.step q8 (fun _ e => e.elim))
      clear q8
      obtain ⟨D', hD'⟩ : ∃ D', (dk.crashD f).dur = D' := ⟨_, rfl⟩
      have hlD : d.dur.length = N := HFI.out.len
      have hlD' : D'.length = N := by rw [← hD', crashD_size]; exact HI.out.len
      have hsD := flat_len HOK.out.each N (by rw [HI.out.len]; exact Nat.le_refl _)
      have hsD' := flat_len HOC.out.each N (by rw [crashD_size, HI.out.len]; exact Nat.le_refl _)
      rw [HDU.out, List.take_of_length_le (by omega)] at hsD
      rw [hD', List.take_of_length_le (by omega)] at hsD'
      have HTS := Lib.hid (fun i k (h1 : wholeAt d.dur D' dk.ways i = false) (h2 : wholeAt d.dur D' dk.ways k = false) => torn_same HOK.out f (by rw [HDU.out, hD']; exact h1) (by rw [HDU.out, hD']; exact h2))
      have HTW := Lib.hid (fun i (h1 : wholeAt d.dur D' dk.ways i = false) => torn_wrote HOK.out f (by rw [HDU.out, hD']; exact h1))
      have HE1 := Lib.hid (HDU.out ▸ HOK.out.each)
      have HE2 := Lib.hid (hD' ▸ HOC.out.each)
      rw [show (dk.crashD f).image = D'.flatten by rw [← hD']; rfl, show d.image = d.dur.flatten from rfl]
      have hwl : dk.ways.length ≤ 3000000 := by have := HI.out.ways; omega
      generalize dk.ways = ways at *
      generalize d.dur = D at *
      have hcA := fun k hk => cut_ext (N := N) (k := k) HE1.out hlD hk
      have hcA' := fun k hk => cut_ext (N := N) (k := k) HE2.out hlD' hk
      obtain ⟨A, hA⟩ : ∃ A : ByteArray, ⟨D.flatten.toArray⟩ = A := ⟨_, rfl⟩
      obtain ⟨A', hA'⟩ : ∃ A : ByteArray, ⟨D'.flatten.toArray⟩ = A := ⟨_, rfl⟩
      have hzA : A.size = N * 256 := by rw [← hA]; exact (List.size_toArray ..).trans hsD
      have hzA' : A'.size = N * 256 := by rw [← hA']; exact (List.size_toArray ..).trans hsD'
      rw [hA] at hcA
      rw [hA'] at hcA'
      rw [hA, hA']
      have HCA := Lib.hid hcA
      have HCA' := Lib.hid hcA'
      skip
      clear hcA hcA' hA hA' hsD hsD' hlD hlD'
      go_wp2_with fail
      go_loopw [17, 18] (fun tv iv wr => FzAt N w gw vs ways R D D' tv iv wr) (fun _ iv _ => N - (intOf iv).toNat)
      case atStart => exact ⟨0, 0, Nat.zero_le _, rfl, rfl, .inl rfl, HW8.out, HS8.out⟩
      case round =>
        obtain ⟨k, t, hk, rfl, rfl, ht, hW, hS⟩ := hrel
        by_cases hlt : k < N
        · obtain ⟨vp, hvp⟩ : ∃ v, vs[k]? = some v := ⟨_, List.getElem?_eq_getElem (by rw [hW.len]; exact hlt)⟩
          obtain ⟨pa, pc, hpv, _⟩ := own_slice (hW.row k vp hvp)
          subst hpv
          have cp := hW.cell hvp
          obtain ⟨Y, hY⟩ : ∃ Y : ByteArray, ⟨(D.getD k []).toArray⟩ = Y := ⟨_, rfl⟩
          obtain ⟨Y', hY'⟩ : ∃ Y : ByteArray, ⟨(D'.getD k []).toArray⟩ = Y := ⟨_, rfl⟩
          have sA : ∀ wx : World, (Instr.slice 9 (.string A) (some (.int .i64 (256 * (k : Int)))) (some (.int .i64 (256 * (k : Int) + 256))) none).run Tryd.prog wx = .ok (.string Y) wx := fun wx => by
            rw [← hY, ← HCA.out k hlt]
            have := run_slice_string (P := Tryd.prog) wx 9 A .i64 .i64 (256 * (k : Int)) (256 * (k : Int) + 256) Tryd.underlying9 (by omega) (by omega) (by omega)
            rw [this, show (256 * (k : Int)).toNat = 256 * k by omega, show (256 * (k : Int) + 256).toNat = 256 * k + 256 by omega]
          have sA' : ∀ wx : World, (Instr.slice 9 (.string A') (some (.int .i64 (256 * (k : Int)))) (some (.int .i64 (256 * (k : Int) + 256))) none).run Tryd.prog wx = .ok (.string Y') wx := fun wx => by
            rw [← hY', ← HCA'.out k hlt]
            have := run_slice_string (P := Tryd.prog) wx 9 A' .i64 .i64 (256 * (k : Int)) (256 * (k : Int) + 256) Tryd.underlying9 (by omega) (by omega) (by omega)
            rw [this, show (256 * (k : Int)).toNat = 256 * k by omega, show (256 * (k : Int) + 256).toNat = 256 * k + 256 by omega]
          obtain ⟨w0, hw0⟩ : ∃ w0, (D'.getD k [] == D.getD k []) = w0 := ⟨_, rfl⟩
          have heq : (Y'.toList == Y.toList) = w0 := by rw [← hw0, ← hY, ← hY', Lib.toList_data, Lib.toList_data]
          have HY := Lib.hid hY'
          have HW0 := Lib.hid hw0
          clear hY hY' hw0
          have HVP := Lib.hid hvp
          have HW := Lib.hid hW
          have HS := Lib.hid hS
          have HT := Lib.hid ht
          clear hvp hW hS ht
          go_wp2_with fail
          clear cp sA sA' heq
          go_loopw [20, 121] (fun bv jv wr => FyAt N w gw vs ways R D D' k bv jv wr) (fun _ jv _ => (wroteOf ways k).length - (intOf jv).toNat)
          case atStart => exact ⟨0, Nat.zero_le _, rfl, by rw [wholeTo_zero, HW0.out], HW.out, HS.out⟩
          case round =>
            obtain ⟨j, hj, rfl, rfl, hW, hS⟩ := hrel
            obtain ⟨bb, hbb⟩ : ∃ bb, wholeTo D D' (wroteOf ways k) k j = bb := ⟨_, rfl⟩
            rw [hbb]
            by_cases hjl : j < (wroteOf ways k).length
            · obtain ⟨x, hx⟩ : ∃ x, (wroteOf ways k)[j]? = some x := ⟨_, List.getElem?_eq_getElem hjl⟩
              have hml : (wroteOf ways k).length ≤ 3000000 := by
                have : (wroteOf ways k).length ≤ ways.length := by unfold wroteOf; rw [List.length_map]; exact List.length_filter_le ..
                omega
              have hsu := wholeTo_succ (D := D) (D' := D') (k := k) hx
              rw [hbb] at hsu
              have hro := hW.row k _ HVP.out
              obtain ⟨gp, hpa⟩ : ∃ gp, pa = some ⟨gp, 0, none⟩ := by
                rcases hro.2 with ⟨e, _⟩ | ⟨gp, cap, cur, e, _⟩
                · injection e with _ e _; have e' : (wroteOf ways k).length = 0 := e; omega
                · injection e with e _ _; exact ⟨gp, e⟩
              subst hpa
              have cx := (World.ownsRowF_of hro).cells (g := gp) rfl j (strV x) (by rw [List.getElem?_map, hx]; rfl)
              rw [add_plain, Nat.zero_add] at cx
              unfold strV at cx
              obtain ⟨T, hT⟩ : ∃ T : ByteArray, ⟨x.toArray⟩ = T := ⟨_, rfl⟩
              rw [hT] at cx
              have heq : (Y'.toList == T.toList) = (D'.getD k [] == x) := by rw [← HY.out, ← hT, Lib.toList_data, Lib.toList_data]
              obtain ⟨e0, he0⟩ : ∃ e0, (D'.getD k [] == x) = e0 := ⟨_, rfl⟩
              rw [he0] at heq hsu
              have FF := Lib.hid (show FyAt N w gw vs ways R D D' k (.bool (bb || e0)) (.int .i64 ((j : Int) + 1)) wr from ⟨j + 1, hjl, by simp, by rw [hsu], hW, hS⟩)
              generalize (wroteOf ways k).length = m at *
              clear hW hS hsu hro hx hbb hT he0
              cases bb with
              | true =>
                go_wp2_with fail
                go_roundw
                case rel => exact FF.out
                case measure => simp [intOf]; omega
              | false =>
                go_wp2_with fail
                go_roundw
                case rel => exact FF.out
                case measure => simp [intOf]; omega
            · obtain rfl : j = (wroteOf ways k).length := by omega
              rw [wholeTo_all] at hbb
              have HWF := Lib.hid hW
              have HSF := Lib.hid hS
              clear hW hS hjl
              have HBB := Lib.hid hbb
              clear hbb
              cases bb with
              | true =>
                have FF := Lib.hid (show FzAt N w gw vs ways R D D' (.int .i64 t) (.int .i64 ((k : Int) + 1)) wr from ⟨k + 1, t, hlt, by simp, rfl, by
                  rcases HT.out with h | ⟨h, j, hj, e⟩
                  · exact .inl h
                  · exact .inr ⟨h, j, by omega, e⟩, HWF.out, HSF.out⟩)
                go_wp2_with fail
                go_roundw
                case rel => exact FF.out
                case measure => simp [intOf]; omega
              | false =>
                have ht0 : t = 0 := by
                  rcases HT.out with h | ⟨h, j, hj, e⟩
                  · exact h
                  · have := HTS.out j k e HBB.out; omega
                have hne := HTW.out k HBB.out
                have hpos : (wroteOf ways k).length ≠ 0 := fun e => hne (List.eq_nil_of_length_eq_zero e)
                have hz : (((wroteOf ways k).length : Int) == 0) = false := by rw [beq_eq_false_iff_ne]; omega
                have cp := HWF.out.cell HVP.out
                subst ht0
                have FF := Lib.hid (show FzAt N w gw vs ways R D D' (.int .i64 ((0 : Nat) + 1 : Int)) (.int .i64 ((k : Int) + 1)) wr from ⟨k + 1, 1, hlt, by simp, rfl, .inr ⟨rfl, k, by omega, HBB.out⟩, HWF.out, HSF.out⟩)
                clear hne
                generalize (wroteOf ways k).length = m at *
                go_wp2_with fail
                go_roundw
                case rel => exact FF.out
                case measure => simp [intOf]; omega
        · obtain rfl : k = N := by omega
          have HSF := Lib.hid (Since.qt hS)
          have hd1 : decide ((t : Int) ≤ 1) = true := decide_eq_true (by rcases ht with h | ⟨h, _⟩ <;> omega)
          clear hW hS hlt ht
          go_wp2_with fail
          go_ret
          exact ⟨rfl, HSF.out⟩
end Go.Proofs.YtfondfhikmaniaaDoor
