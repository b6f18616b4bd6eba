/-
  The contract of remitlaw02.KeysMemory: it answers true.
-/
import Derived.Test.YtfhfbpjhjigbnaaDoorKGrow
import Derived.Deep.MidRow
namespace Go.Proofs.YtfhfbpjhjigbnaaDoor
open Go.RowKit Go.WideShapes
set_option maxRecDepth 100000

set_option maxHeartbeats 12800000 in
theorem memory_any (ef : Addr) (m : Int) (v v2 : Value) (g off g2 off2 : Nat) (ps qs : List PD) (w : World) (hE : ErrF ef w) (hm : MaxL m w) (hs : Parts w v g off ps) (ht : Parts w v2 g2 off2 qs) (hp : ∀ p ∈ ps, p.Ok)
    (hl : (K.joinB (ps.map PD.part)).length ≤ 4194304) (hpl : ps.length ≤ 1048576) :
    Calls Tryd.prog 8 #[v, v2] w fun e w' => e = .returned (.bool true) ∧ Qt w w' := by
  obtain ⟨i0, hi, hz0, hz1, hz2⟩ := info_parts infoPart
  have HE := Lib.hid (fun W (k : Since w.heap.size w W) => show ErrF ef W from k.cellv hE (fun e => by have := World.block_lt_of_cell? w _ hE; simp only at e this; omega))
  have HM := Lib.hid (fun W (k : Since w.heap.size w W) => show MaxL m W from k.cellv hm (fun e => by have := hm.lt; simp only at e; omega))
  have Li := Lib.hid (lives_any m w hm)
  obtain ⟨a, cap, rfl, ha⟩ := hs.val
  obtain ⟨a2, cap2, rfl, ha2⟩ := ht.val
  have HS := Lib.hid (fun W (k : Since w.heap.size w W) => Parts.since hs (Nat.le_refl _) k)
  have HT := Lib.hid (fun W (k : Since w.heap.size w W) => Parts.since ht (Nat.le_refl _) k)
  have hks : (⟨(K.joinB (ps.map PD.part)).toArray⟩ : ByteArray).size = (K.joinB (ps.map PD.part)).length := rfl
  have Sk := Lib.hid (fun W (k : Since w.heap.size w W) => split_key ef m (⟨(K.joinB (ps.map PD.part)).toArray⟩) (ps.map PD.part) rfl (ok_parts hp) W (HE.out W k) (HM.out W k) (by rw [hks]; omega))
  have Jm := Lib.hid (fun W v gg (k : Since w.heap.size w W) (h : Parts W v gg 0 ps) => join_any m v gg 0 ps W (HM.out W k) h hp (by omega))
  have Jn := Lib.hid (fun W v gg (k : Since w.heap.size w W) (h : Parts W v gg 0 (numsP ps.length)) => join_any m v gg 0 (numsP ps.length) W (HM.out W k) h (numsP_ok hpl) (by rw [joinB_nums]; omega))
  generalize (⟨(K.joinB (ps.map PD.part)).toArray⟩ : ByteArray) = key at *
  generalize (⟨(K.joinB ((numsP ps.length).map PD.part)).toArray⟩ : ByteArray) = key2 at *
  have hkk : (key2.toList == key2.toList) = true := by simp
  have n1 := neq_self spareP
  have n2 := neq_self roomP
  have n3 := neq_self markP
  simp only [spareP] at n1
  simp only [roomP] at n2
  simp only [markP] at n3
  have Hx0 := Lib.hid (show ((ps.map PD.part).map ofPart).length = ps.length by simp)
  have Sb := Lib.hid (same_back ps)
  clear hE hm hs ht ha ha2 hp hks hl
  go_enter Tryd.func8, Tryd.ntmps8
  go_wp2_with fail
  refine Li.out.mono ?_
  rintro e w1 ⟨rfl, k1⟩
  have S1 := Lib.hid (k1.since (B := w.heap.size))
  have hw1 := k1.size
  have Oe := Lib.hid (NewParts.own_empty w1)
  have KA1 := Lib.hid (fun o => (Keeps.refl (fun _ => False) w1).alloc o)
  have N1 := Lib.hid (fun o => (HS.out _ (Since.step S1.out (KA1.out o) (fun _ e => e.elim))).news rfl)
  clear k1 Li
  go_wp2_with (at_builtin; refine wpList_append_rows _ rfl _ _ 22 rfl 25 i0 _ 3 32 Tryd.underlying22 hi hz0 hz1 hz2 rfl (by decide) _ 0 [] rfl Oe.out a ps.length cap (psCells ps) rfl (psCells_length ps) (N1.out _) (psCells_one' ps) (by unfold maxLen; omega) (by omega) ?_)
  intro v1 W2 hown2 hg2 hlat2
  have S2 := Lib.hid (Keeps.grown (Since.step S1.out (KA1.out (.cells #[] 25)) (fun _ e => e.elim)) hg2 (fun j hj e => by simp [Value.ownBlock] at e; omega))
  have hv1 : ∀ b, v1.ownBlock = some b → w.heap.size ≤ b := fun b hb => by
    rcases hlat2 with e | ⟨g', e, hge⟩
    · rw [e] at hb; simp [Value.ownBlock] at hb; omega
    · rw [e] at hb; injection hb with hb; rw [World.size_alloc] at hge; omega
  have Hv1 := Lib.hid hv1
  have Own2 := Lib.hid (fun o => ownsRow_kept hown2 ((Keeps.refl (fun _ => False) W2).alloc o) (fun _ _ e => e))
  have hw2 := S2.out.size
  clear hown2 hg2 hlat2 hv1 Oe N1
  go_wp2_with (at_builtin; refine wpList_append_cells0 _ rfl _ _ 22 rfl 25 i0 _ 3 32 Tryd.underlying22 hi hz0 hz1 hz2 rfl (by decide) _ ps.length _ rfl (Own2.out _) ⟨W2.heap.size, 0, none⟩ 2 2 (psCells [spareP, roomP]) rfl rfl (World.news_of_block (cs := (psCells [spareP, roomP]).toArray) (heap_alloc_new W2 _)) (psCells_one' _) (by unfold maxLen; omega) (by omega) ?_)
  intro v3 W3 hown3 hg3 hlat3 _
  have S3 := Lib.hid (show Since w.heap.size w W3 from Keeps.grown (Since.step S2.out ((Keeps.refl (fun _ => False) W2).alloc _) (fun _ e => e.elim)) hg3 (fun j hj e => Hv1.out j e.symm))
  try simp only [Nat.zero_add, List.nil_append] at hown3
  rw [← psCells_append] at hown3
  obtain ⟨gr, capr, rfl, hrow⟩ := row_of_own hown3 (by omega)
  have hgr : w.heap.size ≤ gr := by
    rcases hlat3 with e | ⟨g', e, hge⟩
    · exact Hv1.out gr e.symm
    · have e' : some gr = some g' := e
      injection e' with e'
      rw [World.size_alloc] at hge; omega
  obtain ⟨hcap1, hcap2⟩ := hrow.cap
  have Hrow := Lib.hid hrow
  have Hgr := Lib.hid hgr
  have Mine := Lib.hid (fun W (k : Qt W3 W) => show Parts W (.slice (some ⟨gr, 0, none⟩) ps.length capr) gr 0 ps from by
    have q := Row.parts (hrow.kept k (fun e => e)) (by omega) (k := ps.length) (by omega) capr
    rwa [List.take_left] at q)
  clear hown3 hg3 hlat3 hrow Own2 KA1 S2 S1 hgr hw1 hw2 Hv1
  go_wp2_with fail
  refine (Jm.out W3 _ gr S3.out (Mine.out _ (Qt.refl _))).mono ?_
  rintro e w4 ⟨rfl, k4⟩
  have K4 := Lib.hid k4; clear k4
  go_wp2_with fail
  refine (compare_any _ _ gr 0 g2 off2 ps qs w4 (Mine.out _ K4.out) (HT.out _ (Since.step S3.out K4.out (fun _ e => e.elim)))).mono ?_
  rintro e w5 ⟨rfl, k5⟩
  have K5 := Lib.hid (Qt.trans K4.out k5); clear k5 K4 Jm HT
  go_wp2
  go_loopw [41] (fun i wr => ∃ k : Nat, k ≤ ps.length ∧ i = .int .i64 k ∧ Qt W3 wr) (fun i _ => ps.length - (intOf i).toNat)
  case atStart => exact ⟨0, Nat.zero_le _, rfl, K5.out⟩
  case round =>
    obtain ⟨k, hk, rfl, hq⟩ := hrel
    have HQ := Lib.hid hq
    by_cases hlt : k < ps.length
    · have hpq := HS.out _ (Since.step S3.out hq (fun _ e => e.elim))
      obtain ⟨p, cap', hpk, hv⟩ := hpq.elem hlt
      injection hv with hv q1 q2
      clear q1 q2
      subst hv
      obtain ⟨c0, c1, c2⟩ := hpq.cells k p hpk
      obtain ⟨d0, d1, d2⟩ := (Mine.out _ hq).cells k p hpk
      rw [Nat.zero_add] at d0 d1 d2
      have n4 := neq_self p
      have hb1 : (0 : Int) ≤ (k : Int) := by omega
      have hb2 : (k : Int) < (ps.length : Int) := by omega
      clear hpq hq hpk n1 n2 n3
      go_wp2
      go_quiet (fail)
      have fin := Lib.hid (HQ.out.drewN nq)
      clear c0 c1 c2 d0 d1 d2
      go_wp2
      go_roundw
      case rel => exact ⟨k + 1, by omega, by simp, fin.out⟩
      case measure => simp [intOf]; omega
    · obtain rfl : k = ps.length := by omega
      clear hq hlt
      have hR := Hrow.out.kept HQ.out (fun e => e)
      obtain ⟨⟨e0, e1, e2⟩, _⟩ := hR.cell (i := ps.length) (p := spareP) (by simp)
      obtain ⟨⟨f0, f1, f2⟩, _⟩ := hR.cell (i := ps.length + 1) (p := roomP) (by simp)
      simp only [spareP] at e0 e1 e2
      simp only [roomP] at f0 f1 f2
      have hn1 : ((ps.length : Int) + 1).toNat = ps.length + 1 := by omega
      have hw1 : IntKind.i64.wrap ((ps.length : Int) + 1) = (ps.length : Int) + 1 := IntWalk.i64_in _ (by omega)
      have hb1 : (0 : Int) ≤ (ps.length : Int) := by omega
      have hb2 : (ps.length : Int) < (ps.length : Int) + 2 := by omega
      have hb3 : (0 : Int) ≤ (ps.length : Int) + 1 := by omega
      have hb4 : (ps.length : Int) + 1 < (ps.length : Int) + 2 := by omega
      have NS := Lib.hid (NumsAt.start (n := ps.length) hR (Since.step S3.out HQ.out (fun _ e => e.elim)))
      have Hxl := Lib.hid (show (ps ++ [spareP, roomP]).length = ps.length + 2 by simp)
      clear hR
      go_wp2
      clear e0 e1 e2 f0 f1 f2 hn1 hw1 hb2 hb3 hb4 n1 n2
      obtain ⟨wa, rfl⟩ : ∃ x : World, x = wr := ⟨_, rfl⟩
      go_loopw [73] (fun i wr => NumsAt gr ps.length capr (ps ++ [spareP, roomP]) w i wr) (fun i _ => ps.length - (intOf i).toNat)
      case atStart => exact NS.out
      case round =>
        obtain ⟨k, hk, rfl, hr, hS⟩ := hrel
        have HR := Lib.hid hr
        have HS2 := Lib.hid hS
        by_cases hlt : k < ps.length
        · clear hr hS
          go_wp2_with fail
          refine (number_any (k : Int) wr).mono ?_
          rintro e w6 ⟨rfl, k6⟩
          have hth := Row.there (HR.out.kept k6 (fun e => e)) (i := k) (by rw [HR.out.len]; omega)
          have Fin := Lib.hid (NumsAt.more (w := w) Hxl.out Hgr.out hlt HR.out HS2.out k6)
          clear k6
          go_wp2_with (refine wpList_store_mid rfl 25 _ _ rfl gr (k * 3) _ rfl rfl hth (by kernel_rfl) (part_one _ _ _) ?_)
          go_roundw
          case rel => exact Fin.out
          case measure => simp [intOf]; omega
        · obtain rfl : k = ps.length := by omega
          have Mn := Lib.hid (fun W (k2 : Qt wr W) => show Parts W (.slice (some ⟨gr, 0, none⟩) ps.length capr) gr 0 (numsP ps.length) from by
            have q := Row.parts (hr.kept k2 (fun e => e)) (by omega) (k := ps.length) (by omega) capr
            rwa [List.take_left' (numsP_length _)] at q)
          obtain ⟨wb, rfl⟩ : ∃ x : World, x = wr := ⟨_, rfl⟩
          clear hr hS hlt
          have Oe := Lib.hid (NewParts.own_empty wb)
          have KA := Lib.hid (fun o => (Keeps.refl (fun _ => False) wb).alloc o)
          have N2 := Lib.hid (fun o => (Mn.out _ (KA.out o)).news (a := some ⟨gr, 0, none⟩) (c := capr) (by rw [numsP_length]))
          go_wp2_with (at_builtin; refine wpList_append_rows _ rfl _ _ 22 rfl 25 i0 _ 3 32 Tryd.underlying22 hi hz0 hz1 hz2 rfl (by decide) _ 0 [] rfl Oe.out (some ⟨gr, 0, none⟩) ps.length capr (psCells (numsP ps.length)) rfl (by rw [psCells_length, numsP_length]) (N2.out _) (psCells_one' _) (by unfold maxLen; omega) (by omega) ?_)
          intro v5 W5 hown5 hg5 hlat5
          have K5' := Lib.hid (show Qt wb W5 from Keeps.grown (KA.out (.cells #[] 25)) hg5 (fun j hj e => by simp [Value.ownBlock] at e; omega))
          try simp only [Nat.zero_add, List.nil_append] at hown5
          obtain ⟨g5, hp5⟩ := own_marks hown5 (by omega)
          have P5 := Lib.hid (fun W (k : Qt W5 W) => hp5.qt k)
          have S5 := Lib.hid (Since.step HS2.out K5'.out (fun _ e => e.elim))
          clear hown5 hg5 hlat5 hp5 Oe N2 KA
          go_wp2_with fail
          refine (Jn.out W5 _ gr S5.out (Mn.out _ K5'.out)).mono ?_
          rintro e w6 ⟨rfl, k6⟩
          have K6 := Lib.hid k6
          have S6 := Lib.hid (Since.step S5.out k6 (fun _ e => e.elim))
          clear k6
          go_wp2_with fail
          refine (Jn.out w6 v5 g5 S6.out (P5.out _ K6.out)).mono ?_
          rintro e w7 ⟨rfl, k7⟩
          have S7 := Lib.hid (Since.step S6.out k7 (fun _ e => e.elim))
          have hs7 := S7.out.size
          clear k7 S6 K6 P5 S5 K5' Mn Jn
          go_wp2_with fail
          refine (Sk.out w7 S7.out).mono ?_
          rintro e w8 ⟨xv, rfl, hxn, _, k8⟩
          have S8 := Lib.hid (Since.step S7.out k8 (fun _ e => e.elim))
          clear k8
          go_wp2_with fail
          refine (Sk.out w8 S8.out).mono ?_
          rintro e w9 ⟨yv, rfl, hyn, _, k9⟩
          have S9 := Lib.hid (Since.step S8.out k9 (fun _ e => e.elim))
          obtain ⟨xa, xc, rfl⟩ := slice_of_own hxn.own
          obtain ⟨gy, hyp, hyo⟩ := hyn.parts (by rw [Hx0.out]; omega)
          have hxo := (hxn.qt k9).own
          have hlt8 : ∀ b, (Value.slice xa ((ps.map PD.part).map ofPart).length xc).ownBlock = some b → b < w8.heap.size ∧ w7.heap.size ≤ b := fun b hb => ⟨ownsRow_lt hxn.own hb, hxn.new b hb⟩
          have hynew := hyn.new
          rw [Hx0.out] at hxo hlt8 ⊢
          obtain ⟨gx, hxp⟩ := own_marks hxo (by omega)
          have k9s := k9.size
          clear hxn hyn k9
          go_wp2_with fail
          have q := same_any (.slice xa ps.length xc) (.slice a ps.length cap) gx 0 g off _ ps w9 hxp (HS.out _ S9.out)
          rw [Sb.out] at q
          refine q.mono ?_
          rintro e w10 ⟨rfl, k10⟩
          have S10 := Lib.hid (Since.step S9.out k10 (fun _ e => e.elim))
          have hs10 := k10.size
          have MS := Lib.hid (MarkAt.start (ownsRow_kept hxo k10 (fun _ _ e => e)))
          have HXS := Lib.hid (fun W (hK : Keeps (XS (.slice xa ps.length xc) w10.heap.size) w10 W) => show Since w.heap.size w W from Keeps.trans S10.out hK (fun i _ e => by
            rcases e with e | e
            · have := (hlt8 i e).2; omega
            · have := S10.out.size; omega))
          have HY := Lib.hid (fun W (hK : Keeps (XS (.slice xa ps.length xc) w10.heap.size) w10 W) => show Parts W yv gy 0 ((ps.map PD.part).map ofPart) from (hyp.qt k10).kept hK (fun hne e => by
            have h1 := hyp.lt hne
            have h2 := hynew gy (hyo hne)
            rcases e with e | e
            · have := (hlt8 gy e).1; omega
            · omega))
          clear q k10 hxp hxo hyp hyo hynew hlt8 k9s hs7 S9 S8 S7 hs10
          go_wp2
          go_loopw [114] (fun i wr => MarkAt (.slice xa ps.length xc) ps.length ((ps.map PD.part).map ofPart) w10 i wr) (fun i _ => ps.length - (intOf i).toNat)
          case atStart => exact MS.out
          case round =>
            obtain ⟨k, hk, rfl, ho, hK⟩ := hrel
            by_cases hlt : k < ps.length
            · obtain ⟨gx', cx', hv, hrx⟩ := row_of_own ho (by omega)
              injection hv with hv q1 q2
              subst hv q2
              clear q1
              have hth := Row.there hrx (i := k) (by rw [hrx.len]; omega)
              have Fin := Lib.hid (MarkAt.more Hx0.out hlt ho hK)
              clear ho hK hrx
              go_wp2_with (refine wpList_store_mid rfl 25 _ _ rfl gx' (k * 3) _ rfl rfl hth (by kernel_rfl) (part_one _ _ _) ?_)
              go_roundw
              case rel => exact Fin.out
              case measure => simp [intOf]; omega
            · obtain rfl : k = ps.length := by omega
              have GS := Lib.hid (GrowAt.start (by omega) (MarkAt.done Hx0.out ho) hK)
              clear ho hK hlt
              obtain ⟨wc, rfl⟩ : ∃ x : World, x = wr := ⟨_, rfl⟩
              go_wp2
              go_loopw [17] (fun gv wr => GrowAt (.slice xa ps.length xc) ps.length w10 gv wr) (fun gv _ => ps.length + 70 - lenOf gv)
              case atStart => exact GS.out
              case round =>
                obtain ⟨j, ga, gc, hj, rfl, ho, hP, hK, hb⟩ := hrel
                have hw7 : IntKind.i64.wrap ((ps.length : Int) + 70) = (ps.length : Int) + 70 := IntWalk.i64_in _ (by omega)
                by_cases hlt : j < 70
                · have hd : decide ((ps.length : Int) + (j : Int) < (ps.length : Int) + 70) = true := decide_eq_true (by omega)
                  have hd' : (ps.length : Int) + (j : Int) < (ps.length : Int) + 70 := by omega
                  have hd2 : (j : Int) < 70 := by omega
                  have OwnA := Lib.hid (fun o => ownsRow_kept ho ((Keeps.refl (fun _ => False) wr).alloc o) (fun _ _ e => e))
                  have Fin := Lib.hid (fun w2 v' w' k2 hown hor => GrowAt.more (w2 := w2) (v' := v') (w' := w') (by omega) hlt hP hK hb k2 hown hor)
                  have KA := Lib.hid (fun o => (Keeps.refl (fun _ => False) wr).alloc o)
                  clear ho hP hK hb
                  go_wp2_with (at_builtin; refine wpList_append_cells1 _ rfl _ _ 22 rfl 25 i0 _ 3 32 Tryd.underlying22 hi hz0 hz1 hz2 rfl (by decide) _ (ps.length + j) _ rfl (OwnA.out _) ⟨wr.heap.size, 0, none⟩ 1 1 grownP.list rfl rfl (World.news_of_block (cs := grownP.list.toArray) (heap_alloc_new wr _)) (by intro q hq; simp only [PD.list, List.mem_cons, List.not_mem_nil, or_false] at hq; rcases hq with rfl | rfl | rfl <;> rfl) (by unfold maxLen; omega) (by omega) ?_)
                  intro v' w' hown hor
                  obtain ⟨va, vc, rfl⟩ := slice_of_own hown
                  have fin := Lib.hid (Fin.out _ _ w' (KA.out (.cells #[.bool false, .int .i64 0, .string ⟨#[103, 114, 111, 119, 110]⟩] 25)) hown (hor.imp_right (fun h => by obtain ⟨g', h1, h2, h3⟩ := h; exact ⟨g', h1, by rw [World.size_alloc]; exact h2, h3⟩)))
                  clear hown hor Fin OwnA hd hd' hd2
                  go_wp2
                  go_roundw
                  case rel => exact fin.out
                  case measure => simp [lenOf]; omega
                · obtain rfl : j = 70 := by omega
                  obtain ⟨gx', hxp⟩ := hP
                  have HP := Lib.hid (fun W (k : Qt wr W) => hxp.qt k)
                  have HK := Lib.hid hK
                  clear hxp ho hK hb hlt
                  obtain ⟨wd, rfl⟩ : ∃ x : World, x = wr := ⟨_, rfl⟩
                  go_wp2
                  clear hw7
                  go_loopw [135] (fun i wr => ∃ k : Nat, k ≤ ps.length ∧ i = .int .i64 k ∧ Qt wd wr) (fun i _ => ps.length - (intOf i).toNat)
                  case atStart => exact ⟨0, Nat.zero_le _, rfl, Qt.refl _⟩
                  case round =>
                    obtain ⟨k, hk, rfl, hq⟩ := hrel
                    have HQ2 := Lib.hid hq
                    by_cases hlt : k < ps.length
                    · obtain ⟨p', cp, hpk, hv⟩ := (HP.out _ hq).elem (k := k) (by simpa using hlt)
                      injection hv with hv q1 q2
                      clear q1 q2
                      subst hv
                      obtain ⟨c0, c1, c2⟩ := (HP.out _ hq).cells k markP (by rw [List.getElem?_replicate, if_pos hlt])
                      rw [Nat.zero_add] at c0 c1 c2
                      simp only [markP] at c0 c1 c2
                      have hb1 : (0 : Int) ≤ (k : Int) := by omega
                      have hb2 : (k : Int) < (ps.length : Int) := by omega
                      clear hq hpk
                      go_wp2
                      go_roundw
                      case rel => exact ⟨k + 1, by omega, by simp, HQ2.out⟩
                      case measure => simp [intOf]; omega
                    · obtain rfl : k = ps.length := by omega
                      have KK := Lib.hid (show Keeps (XS (.slice xa ps.length xc) w10.heap.size) w10 wr from Keeps.trans HK.out hq (fun _ _ e => e.elim))
                      clear hq hlt
                      obtain ⟨we, rfl⟩ : ∃ x : World, x = wr := ⟨_, rfl⟩
                      go_wp2_with fail
                      refine (Sk.out we (HXS.out _ KK.out)).mono ?_
                      rintro e w11 ⟨zv, rfl, hzn, _, k11⟩
                      obtain ⟨gz, hzp, _⟩ := hzn.parts (by rw [Hx0.out]; omega)
                      have KL := Lib.hid (Keeps.trans KK.out k11 (fun _ _ e => e.elim))
                      clear hzn k11
                      go_wp2_with fail
                      have q := same_any yv (.slice a ps.length cap) gy 0 g off _ ps w11 (HY.out _ KL.out) (HS.out _ (HXS.out _ KL.out))
                      rw [Sb.out] at q
                      refine q.mono ?_
                      rintro e w12 ⟨rfl, k12⟩
                      have K12 := Lib.hid k12
                      have KM := Lib.hid (Keeps.trans KL.out k12 (fun _ _ e => e.elim))
                      clear q k12
                      go_wp2_with fail
                      have q := same_any zv (.slice a ps.length cap) gz 0 g off _ ps w12 (hzp.qt K12.out) (HS.out _ (HXS.out _ KM.out))
                      rw [Sb.out] at q
                      refine q.mono ?_
                      rintro e w13 ⟨rfl, k13⟩
                      have KN := Lib.hid (Keeps.trans KM.out k13 (fun _ _ e => e.elim))
                      clear q k13
                      go_wp2
                      go_ret
                      exact ⟨rfl, Since.qt (HXS.out _ KN.out)⟩
end Go.Proofs.YtfhfbpjhjigbnaaDoor
