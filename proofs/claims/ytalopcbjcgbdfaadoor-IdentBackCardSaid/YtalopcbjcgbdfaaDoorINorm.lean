/-
  The contracts of package ident's Normal, and of the reference's.
-/
import Derived.Test.YtalopcbjcgbdfaaDoorIRow
import Derived.Test.YtalopcbjcgbdfaaDoorICheck
import Derived.Test.YtalopcbjcgbdfaaDoorISys
namespace Go.Proofs.YtalopcbjcgbdfaaDoor
open Go.RowKit Go.WideShapes
set_option maxRecDepth 100000

/-- The normal form of the first k bytes. -/
def normK (s : ByteArray) (k : Nat) : List UInt8 := I.norm (s.data.toList.take k)
theorem normK_len (s : ByteArray) (k : Nat) : (normK s k).length ≤ s.size := by
  unfold normK I.norm
  rw [List.length_map]
  exact Nat.le_trans (List.length_filter_le _ _) (by rw [List.length_take, dlen]; omega)
theorem take_next (s : ByteArray) (k : Nat) (h : k < s.size) : s.data.toList.take (k + 1) = s.data.toList.take k ++ [s[k]] := by
  rw [List.take_succ_eq_append_getElem (by rw [dlen]; exact h)]; rfl
theorem normK_blank {s : ByteArray} {k : Nat} (h : k < s.size) (hb : s[k] = 32) : normK s (k + 1) = normK s k := by
  unfold normK
  rw [take_next s k h, I.norm_append, hb]
  exact List.append_nil _
theorem normK_more {s : ByteArray} {k : Nat} (h : k < s.size) (hb : s[k] ≠ 32) : normK s (k + 1) = normK s k ++ [I.up s[k]] := by
  unfold normK
  rw [take_next s k h, I.norm_append]
  congr 1
  unfold I.norm
  rw [List.filter_cons_of_pos (p := fun c => c != 32) (by rw [bne_iff_ne]; exact hb)]; rfl
theorem normK_all (s : ByteArray) : normK s s.size = I.norm s.data.toList := by
  unfold normK; rw [List.take_of_length_le (by rw [dlen]; exact Nat.le_refl _)]

/-- The loop's state. -/
def NormAt (s : ByteArray) (w : World) (v i : Value) (wr : World) : Prop := ∃ k : Nat, k ≤ s.size ∧ i = .int .i64 k ∧ NewB w wr v (normK s k)
theorem NormAt.blank {s : ByteArray} {k : Nat} {w wr : World} {v : Value} (h : k < s.size) (hb : s[k] = 32) (hn : NewB w wr v (normK s k)) : NormAt s w v (.int .i64 ((k : Int) + 1)) wr :=
  ⟨k + 1, h, by push_cast; rfl, by rw [normK_blank h hb]; exact hn⟩
theorem NormAt.more {s : ByteArray} {k : Nat} {w wr w2 w3 : World} {v v' : Value} (h : k < s.size) (hb : s[k] ≠ 32) (hn : NewB w wr v (normK s k)) (k2 : Qt wr w2) (hg : w2.grownBy w3 v.ownBlock) (hl : Later w2 v.ownBlock v'.ownBlock)
    (hown : w3.ownsRow 0 5 1 v' ((normK s k).length + 1) (Lib.byteCells (normK s k) ++ [.int .u8 ((I.up s[k]).toNat : Int)])) : NormAt s w v' (.int .i64 ((k : Int) + 1)) w3 :=
  ⟨k + 1, h, by push_cast; rfl, by rw [normK_more h hb]; exact hn.more k2 hg hl hown⟩

def normV (ef ed : Addr) (s : List UInt8) : Value := if I.chk (I.norm s) = 0 then .tuple #[.string ⟨(I.norm s).toArray⟩, .nilIface] else .tuple #[.string ⟨#[]⟩, accE ef ed (I.chk (I.norm s))]
theorem chk_cases (s : List UInt8) : I.chk s = 0 ∨ I.chk s = 7 ∨ I.chk s = 8 := by
  unfold I.chk
  split
  · split
    · exact .inl rfl
    · exact .inr (.inr rfl)
  · exact .inr (.inl rfl)
theorem lof (l : List UInt8) : (⟨l.toArray⟩ : ByteArray).data.toList = l := rfl

theorem make_bytes (w : World) (n : Nat) (hn : n ≤ 140737488351232) : (Instr.makeSlice 47 (.int .i64 0) (.int .i64 (n : Int))).run Tryd.prog w = .ok (.slice (some ⟨w.heap.size, 0, none⟩) 0 n) (w.alloc (.cells (madeCells (Value.int .u8 0).cells (n * 1)) 5)) := by
  obtain ⟨i0, hi, hz0, hz1, hz2⟩ := info_parts infoU8
  have h := run_make (P := Tryd.prog) w 47 5 i0 (.int .u8 0) Tryd.underlying47 hi hz0 .i64 .i64 0 n (Int.le_refl _) (by omega) (by rw [hz2]; omega) (by omega)
  rw [hz1] at h
  exact h
set_option maxHeartbeats 3200000 in
theorem iNormal_any (ef ed : Addr) (s : ByteArray) (w : World) (hs : s.size ≤ 140737488351232) (hf : FormAt ef w) (hd : DigAt ed w) :
    Calls Tryd.prog 10 #[.string s] w fun e w' => e = .returned (normV ef ed s.data.toList) ∧ Qt w w' := by
  obtain ⟨i0, hi, hz0, hz1, hz2⟩ := info_parts infoU8
  have HM := Lib.hid (fun (W : World) cap cur (hm : cap ≤ maxLen) (hs : cur.size = cap * 1) => NewB.made W cap cur hm hs)
  have hmk := make_bytes w s.size hs
  generalize hMC : madeCells (Value.int .u8 0).cells (s.size * 1) = MC at hmk
  have hMs : MC.size = s.size * 1 := by rw [← hMC, size_madeCells]
  have HMs := Lib.hid hMs
  clear hMC hMs
  go_enter Tryd.func10, Tryd.ntmps10
  go_wp2
  go_loopw [4, 13] (fun v i wr => NormAt s w v i wr) (fun _ i _ => s.size - (intOf i).toNat)
  case atStart => exact ⟨0, Nat.zero_le _, rfl, HM.out w s.size _ (by unfold maxLen; omega) HMs.out⟩
  case round =>
    obtain ⟨k, hk, rfl, hb⟩ := hrel
    have hlen := normK_len s k
    have HA := Lib.hid (fun o => (Qt.refl wr).alloc o)
    by_cases hlt : k < s.size
    · have hc := s[k].toNat_lt
      by_cases h32 : s[k] = 32
      · have ht : ((s[k].toNat : Int) != 32) = false := by rw [h32]; rfl
        have F := Lib.hid (NormAt.blank hlt h32 hb)
        clear hb h32 hlen
        go_wp2
        go_roundw
        case rel => exact F.out
        case measure => simp [intOf]; omega
      · have ht : ((s[k].toNat : Int) != 32) = true := by
          rw [bne_iff_ne]; intro e; apply h32; apply UInt8.toNat_inj.1; show s[k].toNat = 32; omega
        have Own := Lib.hid (fun (W : World) (k2 : Qt wr W) => hb.ownA k2)
        have F := Lib.hid (fun (v' : Value) (w2 w3 : World) (k2 : Qt wr w2) (hg : w2.grownBy w3 _) (hl : Later w2 _ v'.ownBlock) (hown : _) => NormAt.more (w2 := w2) (w3 := w3) (v' := v') hlt h32 hb k2 hg hl hown)
        clear hb h32
        generalize (normK s k).length = L at *
        generalize Lib.byteCells (normK s k) = Cs at *
        generalize hU : I.up s[k] = U at *
        have HC := Lib.hid (iUp_any s[k])
        rw [hU] at HC
        clear hU
        go_wp2_with fail
        refine (HC.out _).mono ?_
        rintro e w' ⟨rfl, rfl⟩
        go_wp2_with (at_builtin; refine wpList_append_cells0 _ rfl _ _ 47 rfl 5 i0 (.int .u8 0) 1 1 Tryd.underlying47 hi hz0 hz1 hz2 rfl (by decide) _ L Cs rfl (Own.out _ (HA.out _)) ⟨wr.heap.size, 0, none⟩ 1 1 [.int .u8 (U.toNat : Int)] rfl rfl (World.news_of_block (cs := #[.int .u8 (U.toNat : Int)]) (heap_alloc_new wr _)) (by intro u hu; rw [List.mem_singleton.1 hu]; rfl) (by unfold maxLen; omega) (by omega) ?_)
        intro v' w3 hown hg hl _
        have fin := Lib.hid (F.out v' _ w3 (HA.out _) hg hl hown)
        clear hown hg hl Own F
        go_wp2
        go_roundw
        case rel => exact fin.out
        case measure => simp [intOf]; omega
    · obtain rfl : k = s.size := by omega
      have hcv := hb.conv
      have Q := Lib.hid hb.qt
      have hsz : (⟨(normK s s.size).toArray⟩ : ByteArray).size ≤ maxLen := by show (normK s s.size).toArray.size ≤ _; rw [List.size_toArray]; unfold maxLen; omega
      have HC := Lib.hid (iCheck_any ef ed ⟨(normK s s.size).toArray⟩ wr hsz (hf.qt Q.out) (hd.qt Q.out))
      rw [show chkS ⟨(normK s s.size).toArray⟩ = I.chk (normK s s.size) from rfl] at HC
      rw [normK_all] at hcv HC
      clear hb hlt hsz hlen
      rcases chk_cases (I.norm s.data.toList) with h0 | h0 | h0
      · have HE := Lib.hid (show normV ef ed s.data.toList = .tuple #[.string ⟨(I.norm s.data.toList).toArray⟩, .nilIface] from if_pos h0)
        rw [h0, show accE ef ed 0 = .nilIface from rfl] at HC
        clear h0
        generalize I.norm s.data.toList = Z at *
        go_wp2_with fail
        refine HC.out.mono ?_
        rintro e w' ⟨rfl, k⟩
        have K := Lib.hid (Qt.trans Q.out k); clear k
        go_wp2
        go_ret2
        exact ⟨by rw [HE.out]; rfl, K.out⟩
      · have HE := Lib.hid (show normV ef ed s.data.toList = .tuple #[.string ⟨#[]⟩, formV ef] from by unfold normV; rw [if_neg (by rw [h0]; decide), h0]; rfl)
        rw [h0, show accE ef ed 7 = formV ef from rfl] at HC
        clear h0
        generalize I.norm s.data.toList = Z at *
        go_wp2_with fail
        refine HC.out.mono ?_
        rintro e w' ⟨rfl, k⟩
        have K := Lib.hid (Qt.trans Q.out k); clear k
        go_wp2
        go_ret2
        exact ⟨by rw [HE.out]; rfl, K.out⟩
      · have HE := Lib.hid (show normV ef ed s.data.toList = .tuple #[.string ⟨#[]⟩, digE ed] from by unfold normV; rw [if_neg (by rw [h0]; decide), h0]; rfl)
        rw [h0, show accE ef ed 8 = digE ed from rfl] at HC
        clear h0
        generalize I.norm s.data.toList = Z at *
        go_wp2_with fail
        refine HC.out.mono ?_
        rintro e w' ⟨rfl, k⟩
        have K := Lib.hid (Qt.trans Q.out k); clear k
        go_wp2
        go_ret2
        exact ⟨by rw [HE.out]; rfl, K.out⟩
end Go.Proofs.YtalopcbjcgbdfaaDoor
