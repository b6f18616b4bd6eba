/-
  What a store's reading finds, plain: the value of an area is short.
-/
import Derived.Test.YthjjfjhajadimaaGreatDoorP37
namespace Go.Proofs.YthjjfjhajadimaaGreatDoor
namespace So
open Tb
theorem area_len (d:DS) (i n:Int) (st:Nat) (k:Nat):(d.areaR i n st (k:Int)).1.length<=k:=by
 unfold DS.areaR
 split
 ·exact Nat.zero_le _
 ·split
  ·exact Nat.zero_le _
  ·split
   ·exact Nat.zero_le _
   ·split
    ·rename_i out ho
     have h:=V.readTo_length _ (Nat.le_refl _) _ ho
     rw [Int.toNat_natCast] at h
     show out.length<=k
     omega
    ·exact Nat.zero_le _
theorem parse_room {n k:Nat} {t:Txt} (h:parse n t = some k):k<=room n:=by
 unfold parse at h
 split at h
 ·cases h
 ·split at h
  ·cases h
  ·split at h
   ·cases h
   ·split at h
    ·cases h
    ·split at h
     ·injection h with h; omega
     ·cases h
theorem room_most {n:Nat} (h:n<=65536):room n<=8388608:=by unfold room each; omega
theorem applyAll_step {m:List R} {t:Txt} {ts:List Txt} {ops:List Bt.O} (h:Bt.decD t = .inr ops):applyAll m (t :: ts) = applyAll (Bt.apply m ops) ts:=by
 rw [applyAll,h]
theorem applyAll_no {m:List R} {t:Txt} {ts:List Txt} {e:Nat} (h:Bt.decD t = .inl e):applyAll m (t :: ts) = none:=by
 rw [applyAll,h]
end So
section
variable {n0:Nat} {ad:Nat->Addr} {w:World} {b:Nat} {d:DS} {S:Nat->Prop}
theorem read13_ahead (h:Dk n0 ad w b d S) (hno:(d.slotsR 0).2.2 ≠ 0\/So.parse d.dur.length (d.slotsR 0).1 = none\/∃ k,So.parse d.dur.length (d.slotsR 0).1 = some k/\((d.areaR ((So.areaAt d.dur.length (d.slotsR 0).2.1:Nat):Int) ((So.each d.dur.length:Nat):Int) (d.slotsR 0).2.1 (k:Int)).2 ≠ 0\/So.snapD (d.areaR ((So.areaAt d.dur.length (d.slotsR 0).2.1:Nat):Int) ((So.each d.dur.length:Nat):Int) (d.slotsR 0).2.1 (k:Int)).1 = none)) (h64:64<=d.dur.length) :
  Calls Tryz.prog 87 #[layV b d.dur.length] w (ReadTo n0 ad w b d (So.lies d) S):=by
 have hst:=slots_tell (d:=d) (by omega)
 by_cases he:(d.slotsR 0).2.2 = 0
 ·obtain ⟨_,h1,h2,h3⟩:=So.slots_ok he
  rcases hno with x | x | ⟨k,hp,x | x⟩
  ·exact absurd he x
  ·exact read13_parse h h2 he h3 x
  ·exact read13_area h h2 he h3 hp x
  ·by_cases ha:(d.areaR ((So.areaAt d.dur.length (d.slotsR 0).2.1:Nat):Int) ((So.each d.dur.length:Nat):Int) (d.slotsR 0).2.1 (k:Int)).2 = 0
   ·exact read13_snap h h2 he h3 hp ha (Nat.le_trans (So.area_len _ _ _ _ _) (Nat.le_trans (So.parse_room hp) (So.room_most h.len))) x
   ·exact read13_area h h2 he h3 hp ha
 ·have hv:(d.slotsR 0).2.1<=1099511627776:=by
   unfold DS.slotsR at he ⊢
   split
   ·decide
   ·split
    ·decide
    ·rename_i hf ho
     rw [if_neg hf,if_neg ho] at he
     cases hb:G.best (G.slotV (d.read (0:Int).toNat) 0) (G.slotV (d.read ((0:Int).toNat + 1)) 1) with
     | none=>exact Nat.zero_le _
     | some p=>rw [hb] at he; exact absurd rfl he
  exact read13_err h hv he (by rcases hst with x | x | x <;> omega)
end
end Go.Proofs.YthjjfjhajadimaaGreatDoor
