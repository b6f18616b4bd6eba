/-
  The contracts of the reference's Normal, Mask.
-/
import Derived.Test.YtalopcbjcgbdfaaDoorIRefA
import Derived.Test.YtalopcbjcgbdfaaDoorIMask
namespace Go.Proofs.YtalopcbjcgbdfaaDoor
open Go.RowKit Go.WideShapes
set_option maxRecDepth 100000

/-! ### Normal -/
def normN (s : List UInt8) : Value := if I.chk (I.norm s) = 0 then .tuple #[.string ⟨(I.norm s).toArray⟩, .int .i64 0] else .tuple #[.string ⟨#[]⟩, .int .i64 (I.chk (I.norm s) : Nat)]
theorem up_small {c : UInt8} (h1 : 97 ≤ c.toNat) (h2 : c.toNat ≤ 122) : ((I.up c).toNat : Int) = (c.toNat : Int) - 97 + 65 := by
  rw [I.up_toNat, show I.small c = true from decide_eq_true ⟨h1, h2⟩, if_pos rfl]; omega
theorem up_other {c : UInt8} (h : ¬ (97 ≤ c.toNat ∧ c.toNat ≤ 122)) : I.up c = c := by
  unfold I.up; rw [show I.small c = false from decide_eq_false h, if_neg (by decide)]

set_option maxHeartbeats 3200000 in
theorem refNormal_any (s : ByteArray) (w : World) (hs : s.size ≤ 140737488351232) :
    Calls Tryd.prog 11 #[.string s] w fun e w' => e = .returned (normN s.data.toList) ∧ Qt w w' := by
  obtain ⟨i0, hi, hz0, hz1, hz2⟩ := info_parts infoU8
  have HM := Lib.hid (fun (W : World) cap cur (hm : cap ≤ maxLen) (hs : cur.size = cap * 1) => NewB.made W cap cur hm hs)
  go_enter Tryd.func11, Tryd.ntmps11
  go_wp2
  go_loopw [4, 5] (fun v i wr => NormAt s w v i wr) (fun _ i _ => s.size - (intOf i).toNat)
  case atStart => exact ⟨0, Nat.zero_le _, rfl, HM.out w 0 #[] (by decide) rfl⟩
  case round =>
    obtain ⟨k, hk, rfl, hb⟩ := hrel
    have hlen := normK_len s k
    have HA := Lib.hid (fun o => (Qt.refl wr).alloc o)
    by_cases hlt : k < s.size
    · have hc := s[k].toNat_lt
      by_cases h32 : s[k] = 32
      · have ht : ((s[k].toNat : Int) == 32) = true := by rw [h32]; rfl
        have F := Lib.hid (NormAt.blank hlt h32 hb)
        clear hb h32 hlen
        go_wp2
        go_roundw
        case rel => exact F.out
        case measure => simp [intOf]; omega
      · have ht : ((s[k].toNat : Int) == 32) = false := by
          rw [beq_eq_false_iff_ne]; intro e; apply h32; apply UInt8.toNat_inj.1; show s[k].toNat = 32; omega
        have Own := Lib.hid (fun (W : World) (k2 : Qt wr W) => hb.ownA k2)
        have F := Lib.hid (fun (v' : Value) (w2 w3 : World) (k2 : Qt wr w2) (hg : w2.grownBy w3 _) (hl : Later w2 _ v'.ownBlock) (hown : _) => NormAt.more (w2 := w2) (w3 := w3) (v' := v') hlt h32 hb k2 hg hl hown)
        clear hb h32
        generalize (normK s k).length = L at *
        generalize Lib.byteCells (normK s k) = Cs at *
        by_cases g1 : 97 ≤ s[k].toNat
        · by_cases g2 : s[k].toNat ≤ 122
          · have hU := up_small g1 g2
            rw [hU] at F
            go_wp2_with (at_builtin; refine wpList_append_cells0 _ rfl _ _ 47 rfl 5 i0 (.int .u8 0) 1 1 Tryd.underlying47 hi hz0 hz1 hz2 rfl (by decide) _ L Cs rfl (Own.out _ (HA.out _)) ⟨wr.heap.size, 0, none⟩ 1 1 [.int .u8 ((s[k].toNat : Int) - 97 + 65 : Int)] rfl rfl (World.news_of_block (cs := #[.int .u8 ((s[k].toNat : Int) - 97 + 65 : Int)]) (heap_alloc_new wr _)) (by intro u hu; rw [List.mem_singleton.1 hu]; rfl) (by unfold maxLen; omega) (by omega) ?_)
            intro v' w3 hown hg hl _
            have fin := Lib.hid (F.out v' _ w3 (HA.out _) hg hl hown)
            clear hown hg hl Own F
            go_wp2
            go_roundw
            case rel => exact fin.out
            case measure => simp [intOf]; omega
          · have hU := up_other (c := s[k]) (by omega)
            rw [hU] at F
            clear hU
            go_wp2_with (at_builtin; refine wpList_append_cells0 _ rfl _ _ 47 rfl 5 i0 (.int .u8 0) 1 1 Tryd.underlying47 hi hz0 hz1 hz2 rfl (by decide) _ L Cs rfl (Own.out _ (HA.out _)) ⟨wr.heap.size, 0, none⟩ 1 1 [.int .u8 (s[k].toNat : Int)] rfl rfl (World.news_of_block (cs := #[.int .u8 (s[k].toNat : Int)]) (heap_alloc_new wr _)) (by intro u hu; rw [List.mem_singleton.1 hu]; rfl) (by unfold maxLen; omega) (by omega) ?_)
            intro v' w3 hown hg hl _
            have fin := Lib.hid (F.out v' _ w3 (HA.out _) hg hl hown)
            clear hown hg hl Own F
            go_wp2
            go_roundw
            case rel => exact fin.out
            case measure => simp [intOf]; omega
        · have hU := up_other (c := s[k]) (by omega)
          rw [hU] at F
          clear hU
          go_wp2_with (at_builtin; refine wpList_append_cells0 _ rfl _ _ 47 rfl 5 i0 (.int .u8 0) 1 1 Tryd.underlying47 hi hz0 hz1 hz2 rfl (by decide) _ L Cs rfl (Own.out _ (HA.out _)) ⟨wr.heap.size, 0, none⟩ 1 1 [.int .u8 (s[k].toNat : Int)] rfl rfl (World.news_of_block (cs := #[.int .u8 (s[k].toNat : Int)]) (heap_alloc_new wr _)) (by intro u hu; rw [List.mem_singleton.1 hu]; rfl) (by unfold maxLen; omega) (by omega) ?_)
          intro v' w3 hown hg hl _
          have fin := Lib.hid (F.out v' _ w3 (HA.out _) hg hl hown)
          clear hown hg hl Own F
          go_wp2
          go_roundw
          case rel => exact fin.out
          case measure => simp [intOf]; omega
    · obtain rfl : k = s.size := by omega
      have hcv := hb.conv
      have hcv' := fun W (q : Qt wr W) => (hb.quiet q).conv
      have Q := Lib.hid hb.qt
      have hsz : (⟨(normK s s.size).toArray⟩ : ByteArray).size ≤ 140737488351232 := by show (normK s s.size).toArray.size ≤ _; rw [List.size_toArray]; omega
      have HC := Lib.hid (refCheck_any ⟨(normK s s.size).toArray⟩ wr hsz)
      rw [show (⟨(normK s s.size).toArray⟩ : ByteArray).data.toList = normK s s.size from rfl] at HC
      rw [normK_all] at hcv HC
      simp only [normK_all] at hcv'
      have HV := Lib.hid hcv'
      clear hb hlt hsz hlen hcv'
      rcases chk_cases (I.norm s.data.toList) with h0 | h0 | h0
      · have HE := Lib.hid (show normN s.data.toList = .tuple #[.string ⟨(I.norm s.data.toList).toArray⟩, .int .i64 0] from if_pos h0)
        rw [h0, show ((0 : Nat) : Int) = 0 from rfl] at HC
        clear h0
        generalize I.norm s.data.toList = Z at *
        go_wp2_with fail
        refine HC.out.mono ?_
        rintro e w' ⟨rfl, k⟩
        have K := Lib.hid (Qt.trans Q.out k)
        have hv2 := HV.out _ k
        clear k
        go_wp2
        go_ret2
        exact ⟨by rw [HE.out]; rfl, K.out⟩
      · have HE := Lib.hid (show normN s.data.toList = .tuple #[.string ⟨#[]⟩, .int .i64 7] from by unfold normN; rw [if_neg (by rw [h0]; decide), h0]; rfl)
        rw [h0, show ((7 : Nat) : Int) = 7 from rfl] at HC
        clear h0
        generalize I.norm s.data.toList = Z at *
        go_wp2_with fail
        refine HC.out.mono ?_
        rintro e w' ⟨rfl, k⟩
        have K := Lib.hid (Qt.trans Q.out k); clear k
        go_wp2
        go_ret2
        exact ⟨by rw [HE.out]; rfl, K.out⟩
      · have HE := Lib.hid (show normN s.data.toList = .tuple #[.string ⟨#[]⟩, .int .i64 8] from by unfold normN; rw [if_neg (by rw [h0]; decide), h0]; rfl)
        rw [h0, show ((8 : Nat) : Int) = 8 from rfl] at HC
        clear h0
        generalize I.norm s.data.toList = Z at *
        go_wp2_with fail
        refine HC.out.mono ?_
        rintro e w' ⟨rfl, k⟩
        have K := Lib.hid (Qt.trans Q.out k); clear k
        go_wp2
        go_ret2
        exact ⟨by rw [HE.out]; rfl, K.out⟩

/-! ### Mask -/
theorem mask_len (l : List UInt8) : (I.mask l).length = l.length := by
  unfold I.mask
  split
  · simp
  · simp; omega
theorem mask_get (l : List UInt8) (k : Nat) (hk : k < l.length) : (I.mask l)[k]'(by rw [mask_len]; exact hk) = if 8 < l.length ∧ (k < 4 ∨ l.length - 4 ≤ k) then l[k] else 42 := by
  by_cases h8 : l.length ≤ 8
  · rw [if_neg (by omega)]
    have e : I.mask l = List.replicate l.length 42 := if_pos h8
    simp [e]
  · have e : I.mask l = l.take 4 ++ List.replicate (l.length - 8) 42 ++ l.drop (l.length - 4) := if_neg h8
    simp only [e]
    by_cases h4 : k < 4
    · rw [if_pos ⟨by omega, .inl h4⟩, List.getElem_append_left (by simp; omega), List.getElem_append_left (by simp; omega), List.getElem_take]
    · by_cases h5 : l.length - 4 ≤ k
      · rw [if_pos ⟨by omega, .inr h5⟩, List.getElem_append_right (by simp; omega), List.getElem_drop]
        congr 1
        simp; omega
      · rw [if_neg (by omega), List.getElem_append_left (by simp; omega), List.getElem_append_right (by simp; omega), List.getElem_replicate]
def maskK (s : ByteArray) (k : Nat) : List UInt8 := (I.mask s.data.toList).take k
theorem maskK_len (s : ByteArray) {k : Nat} (h : k ≤ s.size) : (maskK s k).length = k := by
  unfold maskK; rw [List.length_take, mask_len, dlen]; omega
theorem maskK_next (s : ByteArray) {k : Nat} (h : k < s.size) : maskK s (k + 1) = maskK s k ++ [if 8 < s.size ∧ (k < 4 ∨ s.size - 4 ≤ k) then s[k] else 42] := by
  have hl : k < s.data.toList.length := h
  unfold maskK
  rw [List.take_succ_eq_append_getElem (by rw [mask_len]; exact hl), mask_get _ _ hl, dlen]; rfl
theorem maskK_all (s : ByteArray) : maskK s s.size = I.mask s.data.toList := by
  unfold maskK; rw [List.take_of_length_le (by rw [mask_len, dlen]; exact Nat.le_refl _)]
def MaskAt (s : ByteArray) (w : World) (v i : Value) (wr : World) : Prop := ∃ k : Nat, k ≤ s.size ∧ i = .int .i64 k ∧ NewB w wr v (maskK s k)
theorem MaskAt.more {s : ByteArray} {k : Nat} {w wr w2 w3 : World} {v v' : Value} {c : UInt8} (h : k < s.size) (hc : (if 8 < s.size ∧ (k < 4 ∨ s.size - 4 ≤ k) then s[k] else 42) = c) (hn : NewB w wr v (maskK s k)) (k2 : Qt wr w2) (hg : w2.grownBy w3 v.ownBlock) (hl : Later w2 v.ownBlock v'.ownBlock)
    (hown : w3.ownsRow 0 5 1 v' ((maskK s k).length + 1) (Lib.byteCells (maskK s k) ++ [.int .u8 (c.toNat : Int)])) : MaskAt s w v' (.int .i64 ((k : Int) + 1)) w3 :=
  ⟨k + 1, h, by push_cast; rfl, by rw [maskK_next s h, hc]; exact hn.more k2 hg hl hown⟩

set_option maxHeartbeats 3200000 in
theorem refMask_any (s : ByteArray) (w : World) (hs : s.size ≤ 140737488351232) :
    Calls Tryd.prog 16 #[.string s] w fun e w' => e = .returned (.string (maskS s)) ∧ Qt w w' := by
  obtain ⟨i0, hi, hz0, hz1, hz2⟩ := info_parts infoU8
  have HM := Lib.hid (fun (W : World) cap cur (hm : cap ≤ maxLen) (hs : cur.size = cap * 1) => NewB.made W cap cur hm hs)
  go_enter Tryd.func16, Tryd.ntmps16
  go_wp2
  go_loopw [3, 4] (fun v i wr => MaskAt s w v i wr) (fun _ i _ => s.size - (intOf i).toNat)
  case atStart => exact ⟨0, Nat.zero_le _, rfl, HM.out w 0 #[] (by decide) rfl⟩
  case round =>
    obtain ⟨k, hk, rfl, hb⟩ := hrel
    have hlen := Nat.le_of_eq (maskK_len s hk)
    have HA := Lib.hid (fun o => (Qt.refl wr).alloc o)
    by_cases hlt : k < s.size
    · have hc := s[k].toNat_lt
      have Own := Lib.hid (fun (W : World) (k2 : Qt wr W) => hb.ownA k2)
      have F := Lib.hid (fun (c : UInt8) hcc (v' : Value) (w2 w3 : World) (k2 : Qt wr w2) (hg : w2.grownBy w3 _) (hl : Later w2 _ v'.ownBlock) (hown : _) => MaskAt.more (c := c) (w2 := w2) (w3 := w3) (v' := v') hlt hcc hb k2 hg hl hown)
      clear hb
      generalize (maskK s k).length = L at *
      generalize Lib.byteCells (maskK s k) = Cs at *
      by_cases h8 : 8 < s.size
      · by_cases h4 : k < 4
        · have F := Lib.hid (F.out s[k] (if_pos ⟨h8, .inl h4⟩))
          go_wp2_with (at_builtin; refine wpList_append_cells0 _ rfl _ _ 47 rfl 5 i0 (.int .u8 0) 1 1 Tryd.underlying47 hi hz0 hz1 hz2 rfl (by decide) _ L Cs rfl (Own.out _ (HA.out _)) ⟨wr.heap.size, 0, none⟩ 1 1 [.int .u8 (s[k].toNat : Int)] rfl rfl (World.news_of_block (cs := #[.int .u8 (s[k].toNat : Int)]) (heap_alloc_new wr _)) (by intro u hu; rw [List.mem_singleton.1 hu]; rfl) (by unfold maxLen; omega) (by omega) ?_)
          intro v' w3 hown hg hl _
          have fin := Lib.hid (F.out v' _ w3 (HA.out _) hg hl hown)
          clear hown hg hl Own F
          go_wp2
          go_roundw
          case rel => exact fin.out
          case measure => simp [intOf]; omega
        · by_cases h5 : s.size - 4 ≤ k
          · have F := Lib.hid (F.out s[k] (if_pos ⟨h8, .inr h5⟩))
            have h5i : (s.size : Int) - 4 ≤ (k : Int) := by omega
            go_wp2_with (at_builtin; refine wpList_append_cells0 _ rfl _ _ 47 rfl 5 i0 (.int .u8 0) 1 1 Tryd.underlying47 hi hz0 hz1 hz2 rfl (by decide) _ L Cs rfl (Own.out _ (HA.out _)) ⟨wr.heap.size, 0, none⟩ 1 1 [.int .u8 (s[k].toNat : Int)] rfl rfl (World.news_of_block (cs := #[.int .u8 (s[k].toNat : Int)]) (heap_alloc_new wr _)) (by intro u hu; rw [List.mem_singleton.1 hu]; rfl) (by unfold maxLen; omega) (by omega) ?_)
            intro v' w3 hown hg hl _
            have fin := Lib.hid (F.out v' _ w3 (HA.out _) hg hl hown)
            clear hown hg hl Own F
            go_wp2
            go_roundw
            case rel => exact fin.out
            case measure => simp [intOf]; omega
          · have F := Lib.hid (F.out 42 (if_neg (by omega)))
            have h5i : (k : Int) < (s.size : Int) - 4 := by omega
            go_wp2_with (at_builtin; refine wpList_append_cells0 _ rfl _ _ 47 rfl 5 i0 (.int .u8 0) 1 1 Tryd.underlying47 hi hz0 hz1 hz2 rfl (by decide) _ L Cs rfl (Own.out _ (HA.out _)) ⟨wr.heap.size, 0, none⟩ 1 1 [.int .u8 (42 : Int)] rfl rfl (World.news_of_block (cs := #[.int .u8 (42 : Int)]) (heap_alloc_new wr _)) (by intro u hu; rw [List.mem_singleton.1 hu]; rfl) (by unfold maxLen; omega) (by omega) ?_)
            intro v' w3 hown hg hl _
            have fin := Lib.hid (F.out v' _ w3 (HA.out _) hg hl hown)
            clear hown hg hl Own F
            go_wp2
            go_roundw
            case rel => exact fin.out
            case measure => simp [intOf]; omega
      · have F := Lib.hid (F.out 42 (if_neg (by omega)))
        go_wp2_with (at_builtin; refine wpList_append_cells0 _ rfl _ _ 47 rfl 5 i0 (.int .u8 0) 1 1 Tryd.underlying47 hi hz0 hz1 hz2 rfl (by decide) _ L Cs rfl (Own.out _ (HA.out _)) ⟨wr.heap.size, 0, none⟩ 1 1 [.int .u8 (42 : Int)] rfl rfl (World.news_of_block (cs := #[.int .u8 (42 : Int)]) (heap_alloc_new wr _)) (by intro u hu; rw [List.mem_singleton.1 hu]; rfl) (by unfold maxLen; omega) (by omega) ?_)
        intro v' w3 hown hg hl _
        have fin := Lib.hid (F.out v' _ w3 (HA.out _) hg hl hown)
        clear hown hg hl Own F
        go_wp2
        go_roundw
        case rel => exact fin.out
        case measure => simp [intOf]; omega
    · obtain rfl : k = s.size := by omega
      have hcv := hb.conv
      rw [maskK_all] at hcv
      have Q := Lib.hid hb.qt
      clear hb hlt hlen
      have HE := Lib.hid (show maskS s = ⟨(I.mask s.data.toList).toArray⟩ from rfl)
      generalize I.mask s.data.toList = Z at *
      go_wp2
      go_ret
      exact ⟨ret_s1 HE.out.symm, Q.out⟩
end Go.Proofs.YtalopcbjcgbdfaaDoor
