/-
  The contract of remitlaw01.WireWrites: it answers true.
-/
import Derived.Test.YtilhkbohemghlaaDoorWritesL
import Derived.Deep.RegionHeld3
import Derived.Deep.WholeRow
namespace Go.Proofs.YtilhkbohemghlaaDoor
open Go.ChangeShapes Go.WideShapes Go.ChangeAt Go.RowKit
set_option maxRecDepth 100000

set_option maxHeartbeats 1600000 in
theorem writes_any (ad : Nat → Addr) (v : Value) (g off : Nat) (os : List OpD) (w : World) (hE : Errs ad w) (hs : Script w v g off os) :
    Calls Tryd.prog 3 #[v] w fun e w' => e = .returned (.bool true) ∧ Keeps (fun _ => False) w w' := by
  obtain ⟨a, cap, rfl, ha⟩ := hs.val
  have hle := hs.le
  have HS := Lib.hid hs
  have HE := Lib.hid hE
  clear hs ha hE
  go_enter Tryd.func3, Tryd.ntmps3
  go_wp2_with fail
  refine (fixed_any ad w HE.out).mono ?_
  rintro e W1 ⟨rfl, k1⟩
  go_wp2_with fail
  refine (wnew_any W1).mono ?_
  rintro e W2 ⟨rfl, h2, k2, s2⟩
  have K12 := Lib.hid (k1.trans k2 (fun _ _ h => h))
  have hz1 := k1.size
  clear k1 k2
  go_wp2_with fail
  refine (wnew_any W2).mono ?_
  rintro e W3 ⟨rfl, h3, k3, s3⟩
  have hA3 := Lib.hid (h2.kept k3 (fun h => h) (fun _ e => by cases e))
  have hB3 := Lib.hid h3
  have K3 := Lib.hid (K12.out.trans k3 (fun _ _ h => h))
  clear h2 h3 k3 K12
  go_wp2
  have hst0 : Since w.heap.size w ((W3.alloc (Obj.cells #[Value.slice none 0 0] 26)).alloc (Obj.cells #[Value.slice none 0 0] 26)) := ((K3.out.alloc _).alloc _).mono (fun _ _ h => h.elim)
  have hsA : Side W1.heap.size W3.heap.size none (.slice none 0 0) (encsOf false (os.take 0)) (fun j => j = W1.heap.size ∨ j = W3.heap.size) ((W3.alloc (Obj.cells #[Value.slice none 0 0] 26)).alloc (Obj.cells #[Value.slice none 0 0] 26)) :=
    ⟨by simpa [encsOf, encs] using (hA3.out.alloc _).alloc _, by rw [Below.heap_alloc _ _ _ (by simp)]; exact heap_alloc_new W3 _, by simpa [encsOf, encs, Lib.byteCells] using World.ownsRowF_nil _ _ _ _, by omega, by simp, by simp [Value.ownBlock], by simp [Value.ownBlock], by simp [Value.ownBlock], .inl rfl, .inr rfl, by simp, by simp [Value.ownBlock]⟩
  have hsB : Side W2.heap.size (W3.heap.size + 1) none (.slice none 0 0) (encsOf true (os.take 0)) (fun j => j = W2.heap.size ∨ j = W3.heap.size + 1) ((W3.alloc (Obj.cells #[Value.slice none 0 0] 26)).alloc (Obj.cells #[Value.slice none 0 0] 26)) :=
    ⟨by simpa [encsOf, encs] using (hB3.out.alloc _).alloc _, by have := heap_alloc_new (W3.alloc (Obj.cells #[Value.slice none 0 0] 26)) (Obj.cells #[Value.slice none 0 0] 26); simpa using this, by simpa [encsOf, encs, Lib.byteCells] using World.ownsRowF_nil _ _ _ _, by omega, by simp, by simp [Value.ownBlock], by simp [Value.ownBlock], by simp [Value.ownBlock], .inl rfl, .inr rfl, by simp, by simp [Value.ownBlock]⟩
  have hst : WritesAt os W1.heap.size W2.heap.size W3.heap.size (W3.heap.size + 1) w (.int .i64 0) ((W3.alloc (Obj.cells #[Value.slice none 0 0] 26)).alloc (Obj.cells #[Value.slice none 0 0] 26)) :=
    ⟨0, none, none, _, _, _, _, Nat.zero_le _, rfl, hsA, hsB, fun j h => by rw [World.size_alloc, World.size_alloc]; omega, fun j h => by rw [World.size_alloc, World.size_alloc]; omega, fun j h h' => by omega, hst0⟩
  clear hst0 hsA hsB hA3 hB3 K3
  generalize W1.heap.size = ba at *
  generalize W2.heap.size = bb at *
  generalize (W3.heap.size + 1) = b2 at *
  generalize W3.heap.size = bx at *
  obtain ⟨i0, hi, hz0, hz1, hz2⟩ := info_parts infoByte
  go_loopw [25] (fun i wr => WritesAt os ba bb bx b2 w i wr) (fun i _ => os.length - (intOf i).toNat)
  case atStart => exact hst
  case round =>
    obtain ⟨k, ra, rb, va, vb, F, G, hk, rfl, hA, hB, hF, hG, hFG, hS⟩ := hrel
    clear hst
    by_cases hlt : k < os.length
    · obtain ⟨o, cap', hok, hv⟩ := HS.out.elem hlt
      injection hv with hv q1 q2
      clear q1 q2
      subst hv
      have hc := HS.out.cells k o hok
      obtain ⟨oOk, oSm, g', g0, hst⟩ := HS.out.each k o hok
      have hcell : ∀ (j : Nat) (u : Value), o.list[j]? = some u → wr.cell? ⟨g, off + k * 8 + j, none⟩ = some u := fun j u hj => by
        have h1 := hc j u hj
        have h2 := World.block_lt_of_cell? w _ h1
        rw [hS.cell h2 (fun e => by simp only at e h2; omega)]
        exact h1
      have hstw : o.ss ≠ [] → g' < w.heap.size := fun hne => hst.lt hne
      have hstr := hst.kept hS (fun hne e => by have := hst.lt hne; omega)
      have hone : o.v.oneCell' = true := by obtain ⟨ta, tc, e, _⟩ := hst.val; rw [e]; rfl
      have hone8 : o.list.toArray.all (·.oneCell') = true := by simp only [OpD.list, List.all_toArray, List.all_cons, List.all_nil, hone]; rfl
      have Hone := Lib.hid hone8
      have HSr := Lib.hid hS
      have hws := hS.size
      have hsum := HS.out.sum
      have hlA := encsOf_le false os k
      have hlB := encsOf_le true os k
      have hlA' := encsOf_le false os (k + 1)
      have hlB' := encsOf_le true os (k + 1)
      have HtA := Lib.hid (encsOf_take false hok)
      have HtB := Lib.hid (encsOf_take true hok)
      obtain ⟨y, hy⟩ : ∃ y, y = (o.enc).getD [] := ⟨_, rfl⟩
      rw [← hy] at HtA HtB
      have Hput := Lib.hid (fun (W : World) (b : Nat) (r : Option Nat) (l : List UInt8) (h : Wr b r l W) (hst : Strs W o.v g' g0 o.ss) (hd : o.ss ≠ [] → g' ≠ b ∧ some g' ≠ r) (hlen : l.length ≤ 70368744177664) => hy ▸ put_any b r l o W h oOk oSm g' g0 hst hd hlen)
      clear hc hst hone hone8 hS hy oOk oSm
      obtain ⟨kind, sec, u, i, nn, m, os1, tv, ss⟩ := o
      have c0 : wr.cell? ⟨g, off + k * 8, none⟩ = some (.int .i64 kind) := hcell 0 _ rfl
      have c1 := hcell 1 (.bool sec) rfl
      have c2 := hcell 2 (.int .u64 u) rfl
      have c3 := hcell 3 (.int .i64 i) rfl
      have c4 := hcell 4 (.int .i64 nn) rfl
      have c5 := hcell 5 (.int .i64 m) rfl
      have c6 := hcell 6 (.string os1) rfl
      have c7 := hcell 7 tv rfl
      have cbox : ∀ C t j, (wr.alloc (.cells C t)).cell? ⟨wr.heap.size, j, none⟩ = C[j]? := fun C t j => cell_of_row _ _ _ _ _ _ (heap_alloc_new wr _)
      have hk0' := Lib.hid (fun o => (Keeps.refl (fun _ => False) wr).alloc o)
      have hs0' := Lib.hid (fun o => show wr.heap.size < (wr.alloc o).heap.size by simp)
      have Hok := Lib.hid hok
      have HstR := Lib.hid hstr
      have HA := Lib.hid hA
      have HB := Lib.hid hB
      have HF := Lib.hid hF
      have HG := Lib.hid hG
      have HFG := Lib.hid hFG
      have Hstw := Lib.hid hstw
      clear hcell hok hstr hA hB hF hG hFG hstw
      cases sec
      · have h1 : encsOf false (os.take (k + 1)) = encsOf false (os.take k) ++ y := by simpa using HtA.out
        have h2 : encsOf true (os.take (k + 1)) = encsOf true (os.take k) := by simpa using HtB.out
        rw [h1, List.length_append] at hlA'
        rw [h2] at hlB'
        have HSd := HA
        have HFl := HF
        have Fin := Lib.hid (fun (r1 : Option Nat) (v' : Value) (W w2 w' : World) (hW : Keeps (fun _ => False) wr W) => WritesAt.left (y := y) (w2 := w2) (w' := w') (r1 := r1) (v' := v') hlt HA.out HB.out HF.out HG.out HFG.out HSr.out hW h1 h2)
        clear h1 h2 HtA HtB HA HB HF HG HFG HSr
        generalize encsOf false (os.take k) = l at *
        go_wp2_with (refine wpList_store_row _ rfl 30 _ _ rfl wr.heap.size _ _ 30 rfl rfl (heap_alloc_new wr _) (by kernel_rfl) rfl Hone.out ?_; rw [World.setRow_alloc_new])
        generalize hW : wr.alloc _ = W
        have hcW : W.cell? ⟨wr.heap.size, 0, none⟩ = some (.int .i64 kind) := by rw [← hW, cbox]; rfl
        have hKW := Lib.hid (hW ▸ hk0'.out _)
        have hSW := (hW ▸ hs0'.out _ : wr.heap.size < W.heap.size)
        have HcW := Lib.hid hcW
        clear cbox hk0' hs0' hW c0 c1 c2 c3 c4 c5 c6 c7 hcW
        have HSw := Lib.hid (HSd.out.kept hKW.out (fun _ _ e => e))
        refine (Hput.out W _ _ l HSw.out.wr (HstR.out.kept hKW.out (fun _ h => h)) (fun hne => ⟨fun e => ?cd1, fun e => ?cd2⟩) (by omega)).mono ?_
        case cd1 => have := Hstw.out hne; have := (HFl.out _ HSd.out.f1).1; omega
        case cd2 => have := Hstw.out hne; have := (HFl.out _ (HSd.out.f3 _ e.symm)).1; omega
        rintro e w1 ⟨rfl, hw1⟩
        obtain ⟨r1, hmid⟩ := HSw.out.mid (Keeps.refl _ _) hw1
        have hc1 := hmid.cell
        have own1 := hmid.own
        have Hmid := Lib.hid hmid
        have hBw : ∀ w3, Keeps _ W w3 → w3.cell? ⟨wr.heap.size, 0, none⟩ = some (.int .i64 kind) := fun w3 k3 => (k3.cell hSW (fun e => by have := (HFl.out _ e).2; simp only at this; omega)).trans HcW.out
        have HBw := Lib.hid hBw
        have HFin := Lib.hid (fun r1 v' w2 w' => Fin.out r1 v' W w2 w' hKW.out)
        have hyl : (⟨y.toArray⟩ : ByteArray).size = y.length := rfl
        have hyl' : (⟨y.toArray⟩ : ByteArray).size ≤ 11534336 := by rw [hyl]; omega
        clear hmid hBw hyl Fin
        go_wp2_with (at_builtin; refine wpList_append_strF _ rfl _ _ 26 9 rfl 5 i0 Tryd.underlying26 Tryd.underlying9 hi hz0 hz1 hz2 _ l.length (Lib.byteCells l) rfl own1 ⟨y.toArray⟩ rfl (by unfold maxLen; omega) (by omega) ?_)
        intro v' w2 hown hg hlat _
        obtain ⟨c2, z2⟩ := Hmid.out.slot HSw.out hg
        obtain ⟨hs3, k3⟩ := Hmid.out.done HSw.out hg hlat hown
        obtain ⟨a3, cap3, n3, hn3, rfl⟩ := hs3.shapeN
        have Hn3 := Lib.hid hn3
        have HS3 := Lib.hid hs3
        have hb3 := HBw.out _ k3
        have K3 := Lib.hid k3
        have Hsz := Lib.hid (fun p => show w2.heap.size ≤ (w2.setCell p (.slice a3 n3 cap3)).heap.size by rw [World.size_setCell]; exact Nat.le_refl _)
        clear hs3 k3 hown hg hlat own1 hc1 hn3
        go_wp2
        have Hsz' := Lib.hid (Hsz.out ⟨bx, 0, none⟩)
        clear Hsz
        generalize w2.setCell _ _ = w3 at *
        by_cases hk9 : kind = 9
        · subst hk9
          have hcx := HS3.out.cell
          have hcv := HS3.out.drew.conv
          have hzw3 := K3.out.size
          have HK := Lib.hid (fun (W' : World) (h6 : Wr _ r1 (l ++ y) W') (k6 : Keeps (fun k => some k = r1) w3.drew W') => show W'.cell? ⟨wr.heap.size, 0, none⟩ = some (.int .i64 9) ∧ W'.cell? ⟨bx, 0, none⟩ = some (.slice a3 n3 cap3) ∧ (convert 26 9 (.slice a3 n3 cap3)).run Tryd.prog W' = .ok (.string ⟨(l ++ y).toArray⟩) W' from
            ⟨(k6.cell (by show wr.heap.size < w3.heap.size; omega) (fun e => by rcases HS3.out.f3 _ e.symm with q | q; have := (HFl.out _ q).2; simp only at this; omega; simp only at q; omega)).trans hb3, (HS3.out.drew.out h6 k6).1.cell, (HS3.out.drew.out h6 k6).1.conv⟩)
          have hL := wlen_any _ _ _ _ HS3.out.drew.wr
          rw [← Hn3.out] at hL
          have HL := Lib.hid hL
          clear hL
          go_region_held3 (fun w' => w'.cell? ⟨wr.heap.size, 0, none⟩ = some (.int .i64 9) ∧ w'.cell? ⟨bx, 0, none⟩ = some (.slice a3 n3 cap3) ∧ (convert 26 9 (.slice a3 n3 cap3)).run Tryd.prog w' = .ok (.string ⟨(l ++ y).toArray⟩) w')
            (first | go_keep | exact HK.out _ h6 k6)
            (first | (go_at_call 12; refine HL.out.mono ?_; rintro e w' ⟨rfl, rfl⟩) | (go_at_call 13; refine (wout_any _ _ _ _ HS3.out.drew.wr).mono ?_; rintro e w' ⟨rfl, h6, k6⟩))
          have fin := Lib.hid (HFin.out r1 _ w2 w' (HS3.out.drew.out h6 k6).1 (Nat.le_trans Hsz'.out k6.size) (K3.out.drew.trans (HS3.out.drew.out h6 k6).2 ?cf))
          case cf =>
            intro j hj e
            rcases e with e | e
            · exact e
            · omega
          clear h6 k6 hcx hcv
          go_wp2
          go_roundw
          case rel => exact fin.out
          case measure => simp [intOf]; omega
        · have t9 : (kind == 9) = false := beq_eq_false_iff_ne.2 hk9
          clear hk9
          go_quiet (fail)
          have fin := Lib.hid (HFin.out r1 _ w2 (w3.drewN nq) (HS3.out.drewN nq) (Hsz'.out) (K3.out.drewN nq))
          go_wp2
          go_roundw
          case rel => exact fin.out
          case measure => simp [intOf]; omega
      · have h1 : encsOf false (os.take (k + 1)) = encsOf false (os.take k) := by simpa using HtA.out
        have h2 : encsOf true (os.take (k + 1)) = encsOf true (os.take k) ++ y := by simpa using HtB.out
        rw [h1] at hlA'
        rw [h2, List.length_append] at hlB'
        have HSd := HB
        have HFl := HG
        have Fin := Lib.hid (fun (r1 : Option Nat) (v' : Value) (W w2 w' : World) (hW : Keeps (fun _ => False) wr W) => WritesAt.right (y := y) (w2 := w2) (w' := w') (r1 := r1) (v' := v') hlt HA.out HB.out HF.out HG.out HFG.out HSr.out hW h1 h2)
        clear h1 h2 HtA HtB HA HB HF HG HFG HSr
        generalize encsOf true (os.take k) = l at *
        go_wp2_with (refine wpList_store_row _ rfl 30 _ _ rfl wr.heap.size _ _ 30 rfl rfl (heap_alloc_new wr _) (by kernel_rfl) rfl Hone.out ?_; rw [World.setRow_alloc_new])
        generalize hW : wr.alloc _ = W
        have hcW : W.cell? ⟨wr.heap.size, 0, none⟩ = some (.int .i64 kind) := by rw [← hW, cbox]; rfl
        have hKW := Lib.hid (hW ▸ hk0'.out _)
        have hSW := (hW ▸ hs0'.out _ : wr.heap.size < W.heap.size)
        have HcW := Lib.hid hcW
        clear cbox hk0' hs0' hW c0 c1 c2 c3 c4 c5 c6 c7 hcW
        have HSw := Lib.hid (HSd.out.kept hKW.out (fun _ _ e => e))
        refine (Hput.out W _ _ l HSw.out.wr (HstR.out.kept hKW.out (fun _ h => h)) (fun hne => ⟨fun e => ?cd1, fun e => ?cd2⟩) (by omega)).mono ?_
        case cd1 => have := Hstw.out hne; have := (HFl.out _ HSd.out.f1).1; omega
        case cd2 => have := Hstw.out hne; have := (HFl.out _ (HSd.out.f3 _ e.symm)).1; omega
        rintro e w1 ⟨rfl, hw1⟩
        obtain ⟨r1, hmid⟩ := HSw.out.mid (Keeps.refl _ _) hw1
        have hc1 := hmid.cell
        have own1 := hmid.own
        have Hmid := Lib.hid hmid
        have hBw : ∀ w3, Keeps _ W w3 → w3.cell? ⟨wr.heap.size, 0, none⟩ = some (.int .i64 kind) := fun w3 k3 => (k3.cell hSW (fun e => by have := (HFl.out _ e).2; simp only at this; omega)).trans HcW.out
        have HBw := Lib.hid hBw
        have HFin := Lib.hid (fun r1 v' w2 w' => Fin.out r1 v' W w2 w' hKW.out)
        have hyl : (⟨y.toArray⟩ : ByteArray).size = y.length := rfl
        have hyl' : (⟨y.toArray⟩ : ByteArray).size ≤ 11534336 := by rw [hyl]; omega
        clear hmid hBw hyl Fin
        go_wp2_with (at_builtin; refine wpList_append_strF _ rfl _ _ 26 9 rfl 5 i0 Tryd.underlying26 Tryd.underlying9 hi hz0 hz1 hz2 _ l.length (Lib.byteCells l) rfl own1 ⟨y.toArray⟩ rfl (by unfold maxLen; omega) (by omega) ?_)
        intro v' w2 hown hg hlat _
        obtain ⟨c2, z2⟩ := Hmid.out.slot HSw.out hg
        obtain ⟨hs3, k3⟩ := Hmid.out.done HSw.out hg hlat hown
        obtain ⟨a3, cap3, n3, hn3, rfl⟩ := hs3.shapeN
        have Hn3 := Lib.hid hn3
        have HS3 := Lib.hid hs3
        have hb3 := HBw.out _ k3
        have K3 := Lib.hid k3
        have Hsz := Lib.hid (fun p => show w2.heap.size ≤ (w2.setCell p (.slice a3 n3 cap3)).heap.size by rw [World.size_setCell]; exact Nat.le_refl _)
        clear hs3 k3 hown hg hlat own1 hc1 hn3
        go_wp2
        have Hsz' := Lib.hid (Hsz.out ⟨b2, 0, none⟩)
        clear Hsz
        generalize w2.setCell _ _ = w3 at *
        by_cases hk9 : kind = 9
        · subst hk9
          have hcx := HS3.out.cell
          have hcv := HS3.out.drew.conv
          have hzw3 := K3.out.size
          have HK := Lib.hid (fun (W' : World) (h6 : Wr _ r1 (l ++ y) W') (k6 : Keeps (fun k => some k = r1) w3.drew W') => show W'.cell? ⟨wr.heap.size, 0, none⟩ = some (.int .i64 9) ∧ W'.cell? ⟨b2, 0, none⟩ = some (.slice a3 n3 cap3) ∧ (convert 26 9 (.slice a3 n3 cap3)).run Tryd.prog W' = .ok (.string ⟨(l ++ y).toArray⟩) W' from
            ⟨(k6.cell (by show wr.heap.size < w3.heap.size; omega) (fun e => by rcases HS3.out.f3 _ e.symm with q | q; have := (HFl.out _ q).2; simp only at this; omega; simp only at q; omega)).trans hb3, (HS3.out.drew.out h6 k6).1.cell, (HS3.out.drew.out h6 k6).1.conv⟩)
          have hL := wlen_any _ _ _ _ HS3.out.drew.wr
          rw [← Hn3.out] at hL
          have HL := Lib.hid hL
          clear hL
          go_region_held3 (fun w' => w'.cell? ⟨wr.heap.size, 0, none⟩ = some (.int .i64 9) ∧ w'.cell? ⟨b2, 0, none⟩ = some (.slice a3 n3 cap3) ∧ (convert 26 9 (.slice a3 n3 cap3)).run Tryd.prog w' = .ok (.string ⟨(l ++ y).toArray⟩) w')
            (first | go_keep | exact HK.out _ h6 k6)
            (first | (go_at_call 12; refine HL.out.mono ?_; rintro e w' ⟨rfl, rfl⟩) | (go_at_call 13; refine (wout_any _ _ _ _ HS3.out.drew.wr).mono ?_; rintro e w' ⟨rfl, h6, k6⟩))
          have fin := Lib.hid (HFin.out r1 _ w2 w' (HS3.out.drew.out h6 k6).1 (Nat.le_trans Hsz'.out k6.size) (K3.out.drew.trans (HS3.out.drew.out h6 k6).2 ?cf))
          case cf =>
            intro j hj e
            rcases e with e | e
            · exact e
            · omega
          clear h6 k6 hcx hcv
          go_wp2
          go_roundw
          case rel => exact fin.out
          case measure => simp [intOf]; omega
        · have t9 : (kind == 9) = false := beq_eq_false_iff_ne.2 hk9
          clear hk9
          go_quiet (fail)
          have fin := Lib.hid (HFin.out r1 _ w2 (w3.drewN nq) (HS3.out.drewN nq) (Hsz'.out) (K3.out.drewN nq))
          go_wp2
          go_roundw
          case rel => exact fin.out
          case measure => simp [intOf]; omega
    · obtain rfl : k = os.length := by omega
      rw [List.take_length] at hA hB
      obtain ⟨aa, ca, na, hna, rfl⟩ := hA.shapeN
      obtain ⟨ab, cb, nb, hnb, rfl⟩ := hB.shapeN
      have HO : OutsAt ba bx bb b2 ra rb (.slice aa na ca) (.slice ab nb cb) (encsOf false os) (encsOf true os) F G wr wr := ⟨hA, hB, Keeps.refl _ _⟩
      have hT := HO.drew
      have Hna := Lib.hid hna
      have Hnb := Lib.hid hnb
      have HFG := Lib.hid hFG
      have HS' := Lib.hid hS
      have HF := Lib.hid hF
      have HG := Lib.hid hG
      clear hA hB hna hnb hFG hS hF hG HO hlt HS HE
      generalize encsOf false os = la at *
      generalize encsOf true os = lb at *
      have HL := Lib.hid (fun (W' : World) (h : OutsAt ba bx bb b2 ra rb (.slice aa na ca) (.slice ab nb cb) la lb F G wr W') => show W'.cell? ⟨bx, 0, none⟩ = some (.slice aa na ca) ∧ W'.cell? ⟨b2, 0, none⟩ = some (.slice ab nb cb) ∧ (convert 26 9 (.slice aa na ca)).run Tryd.prog W' = .ok (.string ⟨la.toArray⟩) W' ∧ (convert 26 9 (.slice ab nb cb)).run Tryd.prog W' = .ok (.string ⟨lb.toArray⟩) W' from
        ⟨h.a.cell, h.b.cell, h.a.conv, h.b.conv⟩)
      go_wp2
      go_region_held3 (fun W' => W'.cell? ⟨bx, 0, none⟩ = some (.slice aa na ca) ∧ W'.cell? ⟨b2, 0, none⟩ = some (.slice ab nb cb) ∧ (convert 26 9 (.slice aa na ca)).run Tryd.prog W' = .ok (.string ⟨la.toArray⟩) W' ∧ (convert 26 9 (.slice ab nb cb)).run Tryd.prog W' = .ok (.string ⟨lb.toArray⟩) W')
        (exact HL.out _ hT)
        (first | (go_at_call 13; (with_reducible refine (OutsAt.outA (by assumption) HFG.out).mono ?_); rintro e w' ⟨rfl, hT⟩) | (go_at_call 13; (with_reducible refine (OutsAt.outB (by assumption) HFG.out).mono ?_); rintro e w' ⟨rfl, hT⟩) | (go_at_call 12; (with_reducible refine (OutsAt.lenA (by assumption) Hna.out).mono ?_); rintro e w' ⟨rfl, rfl⟩) | (go_at_call 12; (with_reducible refine (OutsAt.lenB (by assumption) Hnb.out).mono ?_); rintro e w' ⟨rfl, rfl⟩))
      have fin := Lib.hid (Keeps.fresh (HS'.out.step hT.keeps (fun i e => by rcases e with e | e; exact (HF.out i e).1; exact (HG.out i e).1)))
      clear hT
      go_wp2
      go_ret
      exact ⟨rfl, fin.out⟩
end Go.Proofs.YtilhkbohemghlaaDoor
