/-
  Joined: GCode, GWrite, EEnds, GCalls, JMay, DLife, JCodeB.
-/
import Derived.BigQuiet
import Derived.Test.YthjjfjhajadimaaGreatDoorP15
namespace Go.Proofs.YthjjfjhajadimaaGreatDoor
open Go.RowKit Go.WideShapes
set_option maxRecDepth 100000
def verS:Option (Nat × List UInt8)->Nat
 | none=>0
 | some (v,_)=>v
def txtS:Option (Nat × List UInt8)->List UInt8
 | none=>[]
 | some (_,p)=>p
def slotT (o:Option (Nat × List UInt8)):Value:=.tuple #[.string ⟨(txtS o).toArray⟩,.int .i64 (verS o)]
theorem fits_d {w:World} {b:Nat} {d:DS} {S:Nat->Prop} (h:DiskAt w b d S) (i:Int) :
  Calls Tryz.prog 109 #[.pointer (some ⟨b,0,none⟩),.int .i64 i] w fun e w'=>e = .returned (.bool (decide (d.fitS i)))/\w' = w:=by
 obtain ⟨gd,mb,uv,h,hS⟩:=h
 have hl:=h.ok.le
 have SZ:=size_p h
 by_cases h0:0<=i
 ·by_cases h1:i<=(d.dur.length:Int) - 2
  ·have FIN:=Lib.hid (show decide (d.fitS i) = true from decide_eq_true ⟨h0,by omega⟩)
   have z0:decide (0<=i) = true:=decide_eq_true h0
   have z1:decide (i<=(d.dur.length:Int) - 2) = true:=decide_eq_true h1
   clear h hS
   generalize d.dur.length = n at *
   go_enter Tryz.func109,Tryz.ntmps109
   go_wp2_with fail
   refine SZ.mono ?_
   rintro e w1 ⟨rfl,rfl⟩
   go_wp2
   go_ret
   exact ⟨by rw [FIN.out]; rfl,rfl⟩
  ·have FIN:=Lib.hid (show decide (d.fitS i) = false from decide_eq_false (fun k=>by have:=k.2; omega))
   have z0:decide (0<=i) = true:=decide_eq_true h0
   have z1:decide (i<=(d.dur.length:Int) - 2) = false:=decide_eq_false h1
   clear h hS
   generalize d.dur.length = n at *
   go_enter Tryz.func109,Tryz.ntmps109
   go_wp2_with fail
   refine SZ.mono ?_
   rintro e w1 ⟨rfl,rfl⟩
   go_wp2
   go_ret
   exact ⟨by rw [FIN.out]; rfl,rfl⟩
 ·have FIN:=Lib.hid (show decide (d.fitS i) = false from decide_eq_false (fun k=>by have:=k.1; omega))
  have z0:decide (0<=i) = false:=decide_eq_false h0
  clear h hS SZ
  go_enter Tryz.func109,Tryz.ntmps109
  go_wp2
  go_ret
  exact ⟨by rw [FIN.out]; rfl,rfl⟩
theorem wrap64_s {n:Nat} (h:n<=1099511627776):wrap64 (n:Int) = (n:Int):=by
 unfold wrap64; omega
def EndsH (w:World) (s:ByteArray) (ef:Addr):Prop:=∀ W,Qt w W->Calls Tryz.prog 169 #[.string s] W fun e w'=>e = .returned (if s.size = 256 then .tuple #[.int .u64 (E.front s.data.toList:Nat),.int .u64 (E.back s.data.toList:Nat),.nilIface] else .tuple #[.int .u64 0,.int .u64 0,.iface 335 (.pointer (some ef))])/\Qt W w'
def openT:Option (List UInt8)->Value
 | none=>.tuple #[.string ⟨#[]⟩,.bool false]
 | some p=>.tuple #[.string ⟨p.toArray⟩,.bool true]
def OpenH (w:World) (s:ByteArray):Prop:=∀ st:Nat,st < 18446744073709551616->∀ W,Qt w W->Calls Tryz.prog 170 #[.int .u64 st,.string s] W fun e w'=>e = .returned (openT (E.openS st s.data.toList))/\Qt W w'
theorem openSlot_h (ef:Addr) (s:ByteArray) (i:Nat) (hi:i < 2) (w:World) (hEn:EndsH w s ef) (hOp:OpenH w s) :
  Calls Tryz.prog 111 #[.string s,.int .i64 i] w fun e w'=>e = .returned (slotT (G.slotV s.data.toList i))/\Qt w w':=by
 have hl:s.data.toList.length = s.size:=by simp
 have fr:=slot_front s.data.toList i
 rw [hl] at fr
 have EN:=hEn w (Qt.refl w)
 by_cases hz:s.size = 256
 ·rw [if_pos hz] at EN
  by_cases hb:1099511627776 < E.front s.data.toList
  ·have FIN:=Lib.hid (show G.slotV s.data.toList i = none from fr ▸ if_neg (fun k=>by have:=k.2.1; omega))
   clear fr hOp hEn hl
   generalize E.front s.data.toList = f at *
   generalize E.back s.data.toList = g at *
   have z0:decide ((1099511627776:Int) < (f:Int)) = true:=decide_eq_true (by omega)
   go_enter Tryz.func111,Tryz.ntmps111
   go_wp2_with fail
   refine EN.mono ?_
   rintro e w1 ⟨rfl,k⟩
   have K:=Lib.hid k; clear k EN
   go_wp2
   go_ret2
   exact ⟨by rw [FIN.out]; rfl,K.out⟩
  ·by_cases hm:E.front s.data.toList % 2 = i
   ·have OP:=Lib.hid (hOp (E.front s.data.toList) (by omega))
    rw [if_pos ⟨hz,by omega,hm⟩] at fr
    cases hq:E.openS (E.front s.data.toList) s.data.toList with
    | none =>
     rw [hq] at fr OP
     have FIN:=Lib.hid fr.symm
     clear fr hOp hEn hl hq
     generalize E.front s.data.toList = f at *
     generalize E.back s.data.toList = g at *
     have z0:decide ((1099511627776:Int) < (f:Int)) = false:=decide_eq_false (by omega)
     have z1:((f:Int) % 2 != (i:Int)) = false:=by simp; omega
     have OP2:=Lib.hid (show ∀ W,Qt w W->Calls Tryz.prog 170 #[.int .u64 f,.string s] W fun e w'=>e = .returned (.tuple #[.string ⟨#[]⟩,.bool false])/\Qt W w' from OP.out)
     clear OP hb hm
     go_enter Tryz.func111,Tryz.ntmps111
     go_wp2_with fail
     refine EN.mono ?_
     rintro e w1 ⟨rfl,k⟩
     have K:=Lib.hid k; clear k EN
     go_wp2_with fail
     refine (OP2.out _ K.out).mono ?_
     rintro e w2 ⟨rfl,k⟩
     have K2:=Lib.hid (Qt.trans K.out k); clear k
     go_wp2
     go_ret2
     exact ⟨by rw [FIN.out]; rfl,K2.out⟩
    | some p =>
     rw [hq] at fr OP
     have FIN:=Lib.hid fr.symm
     clear fr hOp hEn hl hq
     generalize E.front s.data.toList = f at *
     generalize E.back s.data.toList = g at *
     have z0:decide ((1099511627776:Int) < (f:Int)) = false:=decide_eq_false (by omega)
     have z1:((f:Int) % 2 != (i:Int)) = false:=by simp; omega
     have OP2:=Lib.hid (show ∀ W,Qt w W->Calls Tryz.prog 170 #[.int .u64 f,.string s] W fun e w'=>e = .returned (.tuple #[.string ⟨p.toArray⟩,.bool true])/\Qt W w' from OP.out)
     have z2:wrap64 (f:Int) = (f:Int):=wrap64_s (by omega)
     clear OP hb hm
     go_enter Tryz.func111,Tryz.ntmps111
     go_wp2_with fail
     refine EN.mono ?_
     rintro e w1 ⟨rfl,k⟩
     have K:=Lib.hid k; clear k EN
     go_wp2_with fail
     refine (OP2.out _ K.out).mono ?_
     rintro e w2 ⟨rfl,k⟩
     have K2:=Lib.hid (Qt.trans K.out k); clear k
     go_wp2
     go_ret2
     refine ⟨?_,K2.out⟩
     rw [FIN.out]
     show Ending.returned (.tuple #[.string ⟨p.toArray⟩,.int .i64 (wrap64 (f:Int))]) = _
     rw [z2]; rfl
   ·have FIN:=Lib.hid (show G.slotV s.data.toList i = none from fr ▸ if_neg (fun k=>hm k.2.2))
    clear fr hOp hEn hl
    generalize E.front s.data.toList = f at *
    generalize E.back s.data.toList = g at *
    have z0:decide ((1099511627776:Int) < (f:Int)) = false:=decide_eq_false (by omega)
    have z1:((f:Int) % 2 != (i:Int)) = true:=by simp; omega
    clear hb hm
    go_enter Tryz.func111,Tryz.ntmps111
    go_wp2_with fail
    refine EN.mono ?_
    rintro e w1 ⟨rfl,k⟩
    have K:=Lib.hid k; clear k EN
    go_wp2
    go_ret2
    exact ⟨by rw [FIN.out]; rfl,K.out⟩
 ·rw [if_neg hz] at EN
  have FIN:=Lib.hid (show G.slotV s.data.toList i = none from fr ▸ if_neg (fun k=>hz k.1))
  clear fr hOp hEn hl
  go_enter Tryz.func111,Tryz.ntmps111
  go_wp2_with fail
  refine EN.mono ?_
  rintro e w1 ⟨rfl,k⟩
  have K:=Lib.hid k; clear k EN
  go_wp2
  go_ret2
  exact ⟨by rw [FIN.out]; rfl,K.out⟩
theorem best_ver {x y:Option (Nat × List UInt8)} (hy:∀ a,y = some a->1<=a.1):G.best x y = if verS x < verS y then y else x:=by
 cases x with
 | none =>
  cases y with
  | none=>rfl
  | some b =>
   have:=hy b rfl
   rw [if_pos (show verS none < verS (some b) by show 0 < b.1; omega)]; rfl
 | some a =>
  cases y with
  | none=>rw [if_neg (show ¬ verS (some a) < verS none by show ¬ a.1 < 0; omega)]; rfl
  | some b=>rw [G.best_some]; rfl
def DS.part (d:DS) (i:Nat):Nat->Option (Nat × List UInt8)
 | 0=>none
 | k + 1=>G.best (d.part i k) (G.slotV (d.read (i + k)) k)
theorem DS.part_two (d:DS) (i:Nat):d.part i 2 = G.best (G.slotV (d.read i) 0) (G.slotV (d.read (i + 1)) 1):=rfl
theorem slotV_ver {s:List UInt8} {k:Nat}:∀ a,G.slotV s k = some a->1<=a.1:=fun a h=>(G.slotV_some (v:=a.1) (p:=a.2) h).1
theorem DS.part_le (d:DS) (i:Nat):∀ k,verS (d.part i k)<=1099511627776
 | 0=>Nat.zero_le _
 | k + 1=>by
  show verS (G.best (d.part i k) (G.slotV (d.read (i + k)) k))<=1099511627776
  rw [best_ver slotV_ver]
  split
  ·cases h:G.slotV (d.read (i + k)) k with
   | none=>exact Nat.zero_le _
   | some a=>exact (G.slotV_some (v:=a.1) (p:=a.2) h).2.1
  ·exact d.part_le i k
def SlotsAt (w:World) (d:DS) (i:Nat) (tv vv iv:Value) (wr:World):Prop:=∃ k:Nat,k<=2/\iv = .int .i64 k/\tv = .string ⟨(txtS (d.part i k)).toArray⟩/\vv = .int .i64 (verS (d.part i k))/\Qt w wr
def readT (ad:Nat->Addr) (r:List UInt8 × Nat × Nat):Value:=.tuple #[.string ⟨r.1.toArray⟩,.int .i64 r.2.1,errV ad r.2.2]
theorem tellS_some {o:Option (Nat × List UInt8)} (h:verS o ≠ 0):tellS o = (txtS o,verS o,0):=by
 cases o with
 | none=>exact absurd rfl h
 | some a=>rfl
theorem tellS_none {o:Option (Nat × List UInt8)} (h:verS o = 0) (hv:∀ a,o = some a->1<=a.1):tellS o = ([],0,14):=by
 cases o with
 | none=>rfl
 | some a=>have:=hv a rfl; exact absurd h (by show a.1 ≠ 0; omega)
theorem DS.part_pos (d:DS) (i:Nat):∀ k a,d.part i k = some a->1<=a.1
 | 0,a,h=>by cases h
 | k + 1,a,h=>by
  have h:G.best (d.part i k) (G.slotV (d.read (i + k)) k) = some a:=h
  rw [best_ver slotV_ver] at h
  split at h
  ·exact slotV_ver a h
  ·exact d.part_pos i k a h
def SlotH (w:World):Prop:=∀ (s:ByteArray) (i:Nat),i < 2->∀ W,Qt w W->Calls Tryz.prog 111 #[.string s,.int .i64 i] W fun e w'=>e = .returned (slotT (G.slotV s.data.toList i))/\Qt W w'
theorem readS_any (ad:Nat->Addr) {w:World} {b:Nat} {d:DS} {S:Nat->Prop} (hE:Errs ad w) (h:DiskAt w b d S) (i:Int) :
  Calls Tryz.prog 110 #[.pointer (some ⟨b,0,none⟩),.int .i64 i] w fun e w'=>e = .returned (.tuple #[.string ⟨(d.readE i).toArray⟩,errV ad (d.reach i)])/\w = w':=by
 obtain ⟨gd,mb,uv,h,hS⟩:=h
 exact read_p ad hE h i
set_option maxHeartbeats 1600000 in
theorem slotsRead_h (ad:Nat->Addr) {w:World} {b:Nat} {d:DS} {S:Nat->Prop} (hE:Errs ad w) (hO:SlotH w) (h:DiskAt w b d S) (i:Int) :
  Calls Tryz.prog 68 #[.pointer (some ⟨b,0,none⟩),.int .i64 i] w fun e w'=>e = .returned (readT ad (d.slotsR i))/\Qt w w':=by
 have FT:=fits_d h i
 have hl:=h.ok.le
 by_cases hf:d.fitS i
 ·rw [decide_eq_true hf] at FT
  obtain ⟨i,rfl⟩:=Int.eq_ofNat_of_zero_le hf.1
  have hi:i + 2<=d.dur.length:=by have:=hf.2; omega
  cases ho:d.off with
  | true =>
   have hr:d.reach ((i:Int) + ((0:Nat):Int)) = 12:=by unfold DS.reach; rw [if_pos ho]
   have RD:=fun W (q:Qt w W)=>readS_any ad (hE.kept q (OffErrs.none ad)) (h.qt q) ((i:Int) + ((0:Nat):Int))
   rw [hr] at RD
   have he:d.readE ((i:Int) + ((0:Nat):Int)) = []:=by unfold DS.readE; rw [hr]; rfl
   rw [he,errV_pos ad (by omega)] at RD
   have FIN:=Lib.hid (show readT ad (d.slotsR (i:Int)) = .tuple #[.string ⟨#[]⟩,.int .i64 0,.iface 335 (.pointer (some (ad 12)))] by unfold DS.slotsR; rw [if_neg (fun k=>k hf),if_pos ho]; rfl)
   have R0:=Lib.hid RD
   clear hr he ho hf RD h hE hO
   generalize d.dur.length = n at *
   go_enter Tryz.func68,Tryz.ntmps68
   go_wp2_with fail
   refine FT.mono ?_
   rintro e w1 ⟨rfl,rfl⟩
   go_wp2
   go_loopw [7,8,19] (fun tv vv iv wr=>tv = .string ⟨#[]⟩/\vv = .int .i64 0/\iv = .int .i64 0/\Qt w1 wr) (fun _ _ _ _=>0)
   case atStart=>exact ⟨rfl,rfl,rfl,Qt.refl _⟩
   case round =>
    obtain ⟨rfl,rfl,rfl,k⟩:=hrel
    have K:=Lib.hid k; clear k
    have z:((i:Int) + ((0:Nat):Int)) = (i:Int):=by simp
    have R1:=R0.out _ K.out
    rw [z] at R1
    go_wp2_with fail
    refine R1.mono ?_
    rintro e w2 ⟨rfl,rfl⟩
    go_wp2
    go_ret3
    exact ⟨by rw [FIN.out]; rfl,K.out⟩
  | false =>
   have e14:=hE.cells 13 _ rfl
   have RD:∀ k:Nat,k < 2->∀ W,Qt w W->Calls Tryz.prog 110 #[.pointer (some ⟨b,0,none⟩),.int .i64 ((i:Int) + (k:Int))] W fun e w'=>e = .returned (.tuple #[.string ⟨(d.read (i + k)).toArray⟩,.nilIface])/\W = w':=by
    intro k hk W q
    have hR:=readS_any ad (hE.kept q (OffErrs.none ad)) (h.qt q) ((i:Int) + (k:Int))
    have hr:d.reach ((i:Int) + (k:Int)) = 0:=by rw [<- Int.natCast_add]; exact DS.reach_calm ho (by omega)
    have he:d.readE ((i:Int) + (k:Int)) = d.read (i + k):=by unfold DS.readE; rw [if_pos hr,<- Int.natCast_add,Int.toNat_natCast]
    rw [hr,he,errV_zero] at hR
    exact hR
   have OP:∀ k:Nat,k < 2->∀ W,Qt w W->Calls Tryz.prog 111 #[.string ⟨(d.read (i + k)).toArray⟩,.int .i64 (k:Int)] W fun e w'=>e = .returned (.tuple #[.string ⟨(txtS (G.slotV (d.read (i + k)) k)).toArray⟩,.int .i64 (verS (G.slotV (d.read (i + k)) k))])/\Qt W w':=fun k hk W q=>hO _ k hk W q
   have R0:=Lib.hid RD
   have O0:=Lib.hid OP
   have FIN:=Lib.hid (show d.slotsR (i:Int) = tellS (d.part i 2) by unfold DS.slotsR; rw [if_neg (fun k=>k hf),if_neg (by rw [ho]; simp),d.part_two,Int.toNat_natCast])
   have BV:=Lib.hid (fun k:Nat=>best_ver (x:=d.part i k) (y:=G.slotV (d.read (i + k)) k) slotV_ver)
   have PP:=Lib.hid (d.part_pos i 2)
   have E14:=Lib.hid e14
   have PL:=Lib.hid (d.part_le i)
   clear ho hf RD OP h hE hO e14
   generalize d.dur.length = n at *
   go_enter Tryz.func68,Tryz.ntmps68
   go_wp2_with fail
   refine FT.mono ?_
   rintro e w1 ⟨rfl,rfl⟩
   go_wp2
   go_loopw [7,8,19] (fun tv vv iv wr=>SlotsAt w1 d i tv vv iv wr) (fun _ _ iv _=>2 - (intOf iv).toNat)
   case atStart=>exact ⟨0,by omega,rfl,rfl,rfl,Qt.refl _⟩
   case round =>
    obtain ⟨k,hk,rfl,rfl,rfl,q⟩:=hrel
    have K:=Lib.hid q; clear q
    by_cases hlt:k < 2
    ·have R1:=R0.out k hlt _ K.out
     have O1:=Lib.hid (O0.out k hlt)
     have BK:=Lib.hid (show d.part i (k + 1) = _ from BV.out k)
     have z0:decide ((k:Int) < 2) = true:=decide_eq_true (by omega)
     have HK:=Lib.hid hlt
     by_cases hv:verS (d.part i k) < verS (G.slotV (d.read (i + k)) k)
     ·have NX:=Lib.hid (show d.part i (k + 1) = G.slotV (d.read (i + k)) k from BK.out.trans (if_pos hv))
      clear BK
      generalize d.read (i + k) = raw at *
      generalize G.slotV raw k = o at *
      have z1:decide ((verS (d.part i k):Int) < (verS o:Int)) = true:=decide_eq_true (by omega)
      generalize d.part i k = o0 at *
      go_wp2_with fail
      refine R1.mono ?_
      rintro e w2 ⟨rfl,rfl⟩
      go_wp2_with fail
      refine (O1.out _ K.out).mono ?_
      rintro e w3 ⟨rfl,q⟩
      have K3:=Lib.hid (Qt.trans K.out q); clear q
      go_wp2
      exact ⟨⟨k + 1,by have:=HK.out; omega,by push_cast; rfl,by rw [NX.out],by rw [NX.out],K3.out⟩,by have:=HK.out; simp [intOf]; omega⟩
     ·have NX:=Lib.hid (show d.part i (k + 1) = d.part i k from BK.out.trans (if_neg hv))
      clear BK
      generalize d.read (i + k) = raw at *
      generalize G.slotV raw k = o at *
      have z1:decide ((verS (d.part i k):Int) < (verS o:Int)) = false:=decide_eq_false (by omega)
      generalize hp:d.part i k = o0 at *
      go_wp2_with fail
      refine R1.mono ?_
      rintro e w2 ⟨rfl,rfl⟩
      go_wp2_with fail
      refine (O1.out _ K.out).mono ?_
      rintro e w3 ⟨rfl,q⟩
      have K3:=Lib.hid (Qt.trans K.out q); clear q
      go_wp2
      exact ⟨⟨k + 1,by have:=HK.out; omega,by push_cast; rfl,by rw [NX.out],by rw [NX.out],K3.out⟩,by have:=HK.out; simp [intOf]; omega⟩
    ·obtain rfl:k = 2:=by omega
     by_cases hv:verS (d.part i 2) = 0
     ·have T:=Lib.hid (tellS_none hv PP.out)
      rw [hv]
      have c14:wr.cell? ⟨3,0,none⟩ = some (.iface 335 (.pointer (some (ad 14)))):=K.out.cellv E14.out
      go_wp2
      go_quiet (fail)
      go_wp2
      go_ret3
      exact ⟨by rw [FIN.out,T.out]; rfl,(K.out).drewN _⟩
     ·have T:=Lib.hid (tellS_some hv)
      have z2:((verS (d.part i 2):Int) == 0) = false:=by rw [beq_eq_false_iff_ne]; omega
      generalize d.part i 2 = o at *
      go_wp2
      go_ret3
      exact ⟨by rw [FIN.out,T.out]; rfl,K.out⟩
 ·rw [decide_eq_false hf] at FT
  have e6:w.cell? ⟨0,0,none⟩ = some (.iface 335 (.pointer (some (ad 6)))):=hE.cells 5 _ rfl
  have FIN:=Lib.hid (show readT ad (d.slotsR i) = .tuple #[.string ⟨#[]⟩,.int .i64 0,.iface 335 (.pointer (some (ad 6)))] by unfold DS.slotsR; rw [if_pos hf]; rfl)
  clear hf h hE hO
  go_enter Tryz.func68,Tryz.ntmps68
  go_wp2_with fail
  refine FT.mono ?_
  rintro e w1 ⟨rfl,rfl⟩
  go_wp2
  go_quiet (fail)
  go_wp2
  go_ret3
  exact ⟨by rw [FIN.out]; rfl,(Qt.refl _).drewN _⟩
def SealH (ad:Nat->Addr) (w:World):Prop:=∀ (st:Nat) (s:ByteArray),st < 18446744073709551616->∀ W,Qt w W->Calls Tryz.prog 180 #[.int .u64 st,.string s] W fun e w'=>e = .returned (if st = 0 then .tuple #[.string ⟨#[]⟩,errV ad 6] else if 234 < s.size then .tuple #[.string ⟨#[]⟩,errV ad 3] else .tuple #[.string ⟨(E.sct st s.data.toList).toArray⟩,.nilIface])/\Qt W w'
def WriteH (ad:Nat->Addr) (S:Nat->Prop) (w0:World) (b:Nat):Prop:=∀ (W:World) (d:DS),Keeps S w0 W->DiskAt W b d S->d.Few->∀ (i:Int) (s:List UInt8),Calls Tryz.prog 182 #[.pointer (some ⟨b,0,none⟩),.int .i64 i,.string ⟨s.toArray⟩] W fun e w'=>e = .returned (errV ad (d.writeE i s))/\DiskAt w' b (d.writeD i s) S/\Keeps S w0 w'
def FlushH (ad:Nat->Addr) (S:Nat->Prop) (w0:World) (b:Nat):Prop:=∀ (W:World) (d:DS),Keeps S w0 W->DiskAt W b d S->d.Few->Calls Tryz.prog 183 #[.pointer (some ⟨b,0,none⟩)] W fun e w'=>e = .returned (errV ad d.flushE)/\DiskAt w' b d.flushD S/\Keeps S w0 w'
theorem DS.Few.write' {d:DS} (i:Int) (s:List UInt8) (h1:d.ways.length<=1073741823) (h2:d.wr<=1152921504606846975) (h3:d.fl<=1152921504606846976) (h4:d.cr<=1152921504606846976):(d.writeD i s).Few:=by
 unfold DS.writeD
 split
 ·exact ⟨by omega,by omega,h3,h4⟩
 ·split
  ·exact ⟨by omega,by omega,h3,h4⟩
  ·split
   ·exact ⟨by simp; omega,by simp only; omega,h3,h4⟩
   ·exact ⟨by simp; omega,by simp only; omega,h3,h4⟩
structure DS.Fewer (d:DS):Prop where
 ways:d.ways.length<=1073741823
 wr:d.wr<=1152921504606846975
 fl:d.fl<=1152921504606846975
 cr:d.cr<=1152921504606846975
def SlotsP (ad:Nat->Addr) (S:Nat->Prop) (w0:World) (b:Nat) (n:Nat) (d:DS) (e:Ending) (w':World):Prop:=e = .returned (errV ad n)/\DiskAt w' b d S/\Keeps S w0 w'
set_option maxHeartbeats 1600000 in
theorem slotsWrite_h (ad:Nat->Addr) {S:Nat->Prop} {w0 w:World} {b:Nat} {d:DS} (hE:Errs ad w) (hS:Keeps S w0 w) (hSe:SealH ad w) (hW:WriteH ad S w0 b) (hF:FlushH ad S w0 b) (h:DiskAt w b d S) (hf:d.Fewer) (i v:Int) (hv0:-9223372036854775808<=v) (hv1:v<=9223372036854775807) (s:ByteArray) :
  Calls Tryz.prog 123 #[.pointer (some ⟨b,0,none⟩),.int .i64 i,.int .i64 v,.string s] w (SlotsP ad S w0 b (d.slotsE i v s.data.toList) (d.slotsD i v s.data.toList)):=by
 have FT:=fits_d h i
 have hl:=h.ok.le
 have hz:s.data.toList.length = s.size:=by simp
 have e6:w.cell? ⟨0,0,none⟩ = some (.iface 335 (.pointer (some (ad 6)))):=hE.cells 5 _ rfl
 by_cases hin:¬ d.fitS i\/v < 1\/1099511627776 < v
 ·have FIN:=Lib.hid (show SlotsP ad S w0 b (d.slotsE i v s.data.toList) (d.slotsD i v s.data.toList) (.returned (.iface 335 (.pointer (some (ad 6))))) w from by
   unfold DS.slotsE DS.slotsD
   rw [if_pos hin,if_pos hin]
   exact ⟨rfl,h,hS⟩)
  by_cases hf:d.fitS i
  ·rw [decide_eq_true hf] at FT
   by_cases h1:v < 1
   ·have z0:decide (v < 1) = true:=decide_eq_true h1
    clear hin hE hS hSe hW hF h
    go_enter Tryz.func123,Tryz.ntmps123
    go_wp2_with fail
    refine FT.mono ?_
    rintro e w1 ⟨rfl,rfl⟩
    go_wp2
    go_ret
    exact FIN.out
   ·have z0:decide (v < 1) = false:=decide_eq_false h1
    have z1:decide (1099511627776 < v) = true:=decide_eq_true (by rcases hin with k | k | k; exact absurd hf k; omega; exact k)
    clear hin hE hS hSe hW hF h
    go_enter Tryz.func123,Tryz.ntmps123
    go_wp2_with fail
    refine FT.mono ?_
    rintro e w1 ⟨rfl,rfl⟩
    go_wp2
    go_ret
    exact FIN.out
  ·rw [decide_eq_false hf] at FT
   clear hin hE hS hSe hW hF h
   go_enter Tryz.func123,Tryz.ntmps123
   go_wp2_with fail
   refine FT.mono ?_
   rintro e w1 ⟨rfl,rfl⟩
   go_wp2
   go_ret
   exact FIN.out
 ·have hfit:d.fitS i:=Decidable.not_not.1 (fun k=>hin (.inl k))
  rw [decide_eq_true hfit] at FT
  obtain ⟨n,rfl⟩:=Int.eq_ofNat_of_zero_le (show 0<=v by omega)
  have z0:decide ((n:Int) < 1) = false:=decide_eq_false (by omega)
  have z1:decide (1099511627776 < (n:Int)) = false:=decide_eq_false (by omega)
  have SE:=fun W (q:Qt w W)=>hSe n s (by omega) W q
  have zc:IntKind.u64.wrap (n:Int) = (n:Int):=by rw [IntKind.wrap_u64]; omega
  have hn0:n ≠ 0:=by omega
  by_cases hp:234 < s.size
  ·have FIN:=Lib.hid (fun W (q:Qt w W)=>(show SlotsP ad S w0 b (d.slotsE i n s.data.toList) (d.slotsD i n s.data.toList) (.returned (.iface 335 (.pointer (some (ad 3))))) W from by
    unfold DS.slotsE DS.slotsD
    rw [if_neg hin,if_neg hin,if_pos (by omega),if_pos (by omega)]
    exact ⟨rfl,DiskAt.qt h q,keeps_qt hS q⟩))
   rw [if_neg hn0,if_pos hp,errV_pos ad (by omega)] at SE
   have S1:=Lib.hid SE
   clear hin hE hS hSe hW hF h SE
   go_enter Tryz.func123,Tryz.ntmps123
   go_wp2_with fail
   refine FT.mono ?_
   rintro e w1 ⟨rfl,rfl⟩
   go_wp2_with fail
   refine (S1.out _ (Qt.refl _)).mono ?_
   rintro e w2 ⟨rfl,q⟩
   have K:=Lib.hid q; clear q
   go_wp2
   go_ret
   exact FIN.out _ K.out
  ·rw [if_neg hn0,if_neg hp] at SE
   have S1:=Lib.hid SE
   have WR:=Lib.hid (fun W (q:Qt w W)=>hW W d (keeps_qt hS q) (DiskAt.qt h q) ⟨by have:=hf.ways; omega,by have:=hf.wr; omega,by have:=hf.fl; omega,by have:=hf.cr; omega⟩ (i + (n:Int) % 2) (E.sct n s.data.toList))
   have hi0:=hfit.1
   have hi1:=hfit.2
   have zm:wrap64 (i + (n:Int) % 2) = i + (n:Int) % 2:=by unfold wrap64; omega
   have FEW:=Lib.hid (DS.Few.write' (d:=d) (i + (n:Int) % 2) (E.sct n s.data.toList) hf.ways hf.wr (by have:=hf.fl; omega) (by have:=hf.cr; omega))
   by_cases he:d.writeE (i + (n:Int) % 2) (E.sct n s.data.toList) = 0
   ·have FIN:=Lib.hid (fun (W:World) (h:DiskAt W b (d.writeD (i + (n:Int) % 2) (E.sct n s.data.toList)).flushD S/\Keeps S w0 W)=>(show SlotsP ad S w0 b (d.slotsE i n s.data.toList) (d.slotsD i n s.data.toList) (.returned (errV ad (d.writeD (i + (n:Int) % 2) (E.sct n s.data.toList)).flushE)) W from by
     unfold DS.slotsE DS.slotsD
     simp only [Int.toNat_natCast]
     rw [if_neg hin,if_neg hin,if_neg (show ¬ 234 < s.data.toList.length by omega),if_neg (show ¬ 234 < s.data.toList.length by omega),if_neg (fun k=>k he),if_neg (fun k=>k he)]
     exact ⟨rfl,h⟩))
    have HFL:=Lib.hid (fun W (a:DiskAt W b (d.writeD (i + (n:Int) % 2) (E.sct n s.data.toList)) S) (q:Keeps S w0 W)=>hF W _ q a FEW.out)
    rw [he,errV_zero] at WR
    clear hin hE hS hSe hW hF h SE he hi0 hi1 hf
    generalize E.sct n s.data.toList = Z at *
    go_enter Tryz.func123,Tryz.ntmps123
    go_wp2_with fail
    refine FT.mono ?_
    rintro e w1 ⟨rfl,rfl⟩
    go_wp2_with fail
    refine (S1.out _ (Qt.refl _)).mono ?_
    rintro e w2 ⟨rfl,q⟩
    have K:=Lib.hid q; clear q
    go_wp2_with fail
    refine (WR.out _ K.out).mono ?_
    rintro e w3 ⟨rfl,o3,s3⟩
    have F3:=HFL.out _ o3 s3
    clear o3 s3
    go_wp2_with fail
    refine F3.mono ?_
    rintro e w4 ⟨rfl,o4,s4⟩
    have O4:=Lib.hid (FIN.out _ ⟨o4,s4⟩)
    clear o4 s4
    go_wp2
    go_ret
    exact O4.out
   ·have FIN:=Lib.hid (fun (W:World) (h:DiskAt W b (d.writeD (i + (n:Int) % 2) (E.sct n s.data.toList)) S/\Keeps S w0 W)=>(show SlotsP ad S w0 b (d.slotsE i n s.data.toList) (d.slotsD i n s.data.toList) (.returned (.iface 335 (.pointer (some (ad (d.writeE (i + (n:Int) % 2) (E.sct n s.data.toList))))))) W from by
     unfold DS.slotsE DS.slotsD
     simp only [Int.toNat_natCast]
     rw [if_neg hin,if_neg hin,if_neg (show ¬ 234 < s.data.toList.length by omega),if_neg (show ¬ 234 < s.data.toList.length by omega),if_pos he,if_pos he]
     exact ⟨congrArg Ending.returned (errV_pos ad (Nat.pos_of_ne_zero he)).symm,h⟩))
    rw [errV_pos ad (Nat.pos_of_ne_zero he)] at WR
    clear hin hE hS hSe hW hF h SE hi0 hi1 hf
    generalize E.sct n s.data.toList = Z at *
    go_enter Tryz.func123,Tryz.ntmps123
    go_wp2_with fail
    refine FT.mono ?_
    rintro e w1 ⟨rfl,rfl⟩
    go_wp2_with fail
    refine (S1.out _ (Qt.refl _)).mono ?_
    rintro e w2 ⟨rfl,q⟩
    have K:=Lib.hid q; clear q
    go_wp2_with fail
    refine (WR.out _ K.out).mono ?_
    rintro e w3 ⟨rfl,o3,s3⟩
    have O4:=Lib.hid (FIN.out _ ⟨o3,s3⟩)
    clear o3 s3
    go_wp2
    go_ret
    exact O4.out
set_option maxHeartbeats 1600000 in
theorem ends_any (er el ef:Addr) (s:ByteArray) (w:World) (hE:E3 er el ef w) :
  Calls Tryz.prog 169 #[.string s] w fun e w'=>e = .returned (if s.size = 256 then .tuple #[.int .u64 (E.front s.data.toList:Nat),.int .u64 (E.back s.data.toList:Nat),.nilIface] else .tuple #[.int .u64 0,.int .u64 0,e3V er el ef 7])/\Qt w w':=by
 have h3:=hE.f
 have hd:=dlen7 s
 by_cases hz:s.size = 256
 ·have hl1:=fun W=>low_q (s.extract 0 8) W (by rw [ByteArray.size_extract]; omega)
  have hl2:=fun W=>low_q (s.extract 248 256) W (by rw [ByteArray.size_extract]; omega)
  rw [dslice] at hl1 hl2
  have e1:E.num ((s.data.toList.drop 0).take (8 - 0)) = E.front s.data.toList:=rfl
  have e2:E.num ((s.data.toList.drop 248).take (256 - 248)) = E.back s.data.toList:=by
   unfold E.back; rw [List.take_of_length_le (by rw [List.length_drop]; omega)]
  rw [e1] at hl1
  rw [e2] at hl2
  clear e1 e2 hE h3 hd
  have A1:=Lib.hid hl1
  have A2:=Lib.hid hl2
  clear hl1 hl2
  rw [if_pos hz]
  generalize E.front s.data.toList = f at *
  generalize E.back s.data.toList = b at *
  go_enter Tryz.func169,Tryz.ntmps169
  go_wp2
  go_quiet ((first | (go_at_call 218; with_reducible exact Calls.quiet_of_same (A1.out _)) | (go_at_call 218; with_reducible exact Calls.quiet_of_same (A2.out _))))
  go_wp2
  go_ret3
  exact ⟨rfl,Keeps.drewN (Qt.refl w) _⟩
 ·rw [if_neg hz]
  clear hE hd
  go_enter Tryz.func169,Tryz.ntmps169
  go_wp2
  go_quiet (fail)
  go_wp2
  go_ret3
  exact ⟨rfl,Keeps.drewN (Qt.refl w) _⟩
theorem slotH_any {ad:Nat->Addr} {w:World} (hE:Errs ad w) (hT:Tab w):SlotH w:=by
 intro s i hi W q
 refine openSlot_h (ad 7) s i hi W (fun W' q'=>?_) (fun st hst W' q'=>?_)
 ·have h:=ends_any (ad 6) (ad 3) (ad 7) s W' ((hE.kept (Qt.trans q q') (OffErrs.none ad)).e3) 
  exact h
 ·have h:=open_any (ad 6) (ad 3) (ad 7) st s W' hst ((hE.kept (Qt.trans q q') (OffErrs.none ad)).e3) (hT.qt (Qt.trans q q'))
  cases ho:E.openS st s.data.toList with
  | none=>rw [ho] at h; exact h
  | some p=>rw [ho] at h; exact h
theorem sealH_any {ad:Nat->Addr} {w:World} (hE:Errs ad w) (hT:Tab w):SealH ad w:=by
 intro st s hst W q
 have h:=seal_any (ad 6) (ad 3) (ad 7) st s W hst ((hE.kept q (OffErrs.none ad)).e3) (hT.qt q)
 have hz:s.data.toList.length = s.size:=by simp
 unfold E.sealR at h
 rw [hz] at h
 by_cases h0:st = 0
 ·rw [if_pos h0] at h ⊢; exact h
 ·rw [if_neg h0] at h ⊢
  by_cases h1:234 < s.size
  ·rw [if_pos h1] at h ⊢; exact h
  ·rw [if_neg h1] at h ⊢; exact h
section
variable {ad:Nat->Addr} {S:Nat->Prop} {w0 w:World} {b:Nat} {d:DS}
theorem room_slotsWrite (R:Room ad S w0) (hS:Keeps S w0 w) (h:DiskAt w b d S) (hf:d.Fewer) (i v:Int) (hv0:-9223372036854775808<=v) (hv1:v<=9223372036854775807) (s:ByteArray) :
  Calls Tryz.prog 123 #[.pointer (some ⟨b,0,none⟩),.int .i64 i,.int .i64 v,.string s] w fun e w'=>e = .returned (errV ad (d.slotsE i v s.data.toList))/\DiskAt w' b (d.slotsD i v s.data.toList) S/\Keeps S w0 w' :=
 slotsWrite_h ad (R.errs' hS) hS (sealH_any (R.errs' hS) (R.tab' hS)) (fun _ _ hS h hf i s=>room_write R hS h hf i ⟨s.toArray⟩) (fun _ _ hS h hf=>room_flush R hS h hf) h hf i v hv0 hv1 s
end
end Go.Proofs.YthjjfjhajadimaaGreatDoor
namespace Go.Proofs.YthjjfjhajadimaaGreatDoor
open Go.RowKit
set_option maxRecDepth 100000
theorem may_yes {u:DS} {i n v:Int} (h:J.may u i n v):∃ i' n' v':Nat,i = i'/\n = n'/\v = v'/\i' + n'<=u.dur.length/\n'<=65536/\1<=v'/\v'<=1099511627776:=by
 obtain ⟨a1,a2,a3,a4,a5,a6,a7⟩:=h
 exact ⟨i.toNat,n.toNat,v.toNat,by omega,by omega,by omega,by omega,by omega,by omega,by omega⟩
theorem replay_no {u:DS} {i n v:Int} {e:Nat} (h:J.refE u i n v = e) (he:e ≠ 0):J.replay u i n v = ([],e):=by unfold J.replay; rw [h,if_pos he]
theorem refE_yes {u:DS} {i n v:Int} (h:J.may u i n v) (ho:u.off = false):J.refE u i n v = 0:=(if_neg (fun k=>k h)).trans (if_neg (by rw [ho]; simp))
theorem replay_yes {u:DS} {i n v:Nat} (h:J.refE u i n v = 0):J.replay u (i:Int) (n:Int) (v:Int) = (J.logAll (J.secs u i v) n,0):=by
 unfold J.replay; rw [h,if_neg (by decide)]; simp only [Int.toNat_natCast]
end Go.Proofs.YthjjfjhajadimaaGreatDoor
namespace Go.Proofs.YthjjfjhajadimaaGreatDoor
open Go.RowKit Go.WideShapes
set_option maxRecDepth 100000
section
variable {w:World} {b gd mb:Nat} {uv:Value} {d:DS} {S:Nat->Prop}
theorem life_p (h:DiskP w b gd mb uv d):Calls Tryz.prog 88 #[.pointer (some ⟨b,0,none⟩)] w fun e w'=>e = .returned (.int .i64 d.cr)/\w = w':=by
 have c0:=h.cell 7 _ rfl
 clear h
 go_enter Tryz.func88,Tryz.ntmps88
 go_wp2
 go_ret
 exact ⟨rfl,rfl⟩
theorem life_any (h:DiskAt w b d S):Calls Tryz.prog 88 #[.pointer (some ⟨b,0,none⟩)] w fun e w'=>e = .returned (.int .i64 d.cr)/\w = w':=by
 obtain ⟨gd,mb,uv,h,hS⟩:=h; exact life_p h
end
def cjCells (b:Nat) (j:J.JS):Array Value:=#[.pointer (some ⟨b,0,none⟩),.int .i64 (j.pos:Int),.int .i64 (j.n:Int),.int .i64 (j.ver:Int),.int .i64 (j.used:Int),.int .i64 (j.life:Int)]
def CJ (w:World) (q b:Nat) (j:J.JS):Prop:=w.heap[q]? = some (.cells (cjCells b j) 255 (0,0))
theorem CJ.cell {w:World} {q b:Nat} {j:J.JS} (h:CJ w q b j) (i:Nat) (v:Value) (hi:(cjCells b j)[i]? = some v):w.cell? ⟨q,i,none⟩ = some v:=by
 rw [cell_of_row _ _ _ _ _ _ h]; exact hi
theorem CJ.kept {w w':World} {q b:Nat} {j:J.JS} {S:Nat->Prop} (h:CJ w q b j) (K:Keeps S w w') (hS:¬ S q):CJ w' q b j:=(K.block q (lt_of_block h) hS).trans h
theorem CJ.qt {w w':World} {q b:Nat} {j:J.JS} (h:CJ w q b j) (K:Qt w w'):CJ w' q b j:=h.kept K (fun e=>e)
theorem CJ.lt {w:World} {q b:Nat} {j:J.JS} (h:CJ w q b j):q < w.heap.size:=lt_of_block h
theorem CJ.used' {w:World} {q b:Nat} {j:J.JS} (h:CJ w q b j) (m:Nat):CJ (w.setCell ⟨q,4,none⟩ (.int .i64 (m:Int))) q b { j with used:=m }:=by
 unfold CJ at h ⊢
 simp only [World.setCell,Array.getElem?_modify,h,if_true,Option.map_some]
 rfl
section
variable {w:World} {b q:Nat} {d:DS} {j:J.JS} {S:Nat->Prop}
theorem life_same (h:DiskAt w b d S):Calls Tryz.prog 88 #[.pointer (some ⟨b,0,none⟩)] w fun e w'=>e = .returned (.int .i64 d.cr)/\w' = w:=(life_any h).mono fun _ _ ⟨h1,h2⟩=>⟨h1,h2.symm⟩
theorem jdown_any (h:DiskAt w b d S) (hC:CJ w q b j):Calls Tryz.prog 194 #[.pointer (some ⟨q,0,none⟩)] w fun e w'=>e = .returned (.bool (j.gone d))/\Qt w w':=by
 have d0:w.cell? ⟨q,0,none⟩ = some (.pointer (some ⟨b,0,none⟩)):=hC.cell 0 _ rfl
 have d5:w.cell? ⟨q,5,none⟩ = some (.int .i64 (j.life:Int)):=hC.cell 5 _ rfl
 have OF:=Lib.hid (fun W (k:Qt w W)=>off_same (DiskAt.qt h k))
 have LF:=Lib.hid (fun W (k:Qt w W)=>life_same (DiskAt.qt h k))
 clear h hC
 cases ho:d.off with
 | true =>
  have FIN:=Lib.hid (show j.gone d = true by unfold J.JS.gone; rw [ho]; rfl)
  rw [ho] at OF
  clear ho LF d5
  go_enter Tryz.func194,Tryz.ntmps194
  go_wp2
  go_quiet ((go_at_call 43; with_reducible exact Calls.quiet_of_same (OF.out _ (Keeps.drewN (Qt.refl w) _))))
  go_wp2
  go_ret
  exact ⟨by rw [FIN.out]; rfl,Keeps.drewN (Qt.refl w) _⟩
 | false =>
  obtain ⟨B,hB⟩:∃ B,((d.cr:Int) != (j.life:Int)) = B:=⟨_,rfl⟩
  have FIN:=Lib.hid (show j.gone d = B by
   unfold J.JS.gone
   rw [ho,<- hB,Bool.false_or]
   by_cases hc:d.cr = j.life
   ·rw [decide_eq_false (fun k=>k hc),hc]; simp
   ·rw [decide_eq_true hc]
    exact (bne_iff_ne.2 (by omega)).symm)
  rw [ho] at OF
  clear ho
  go_enter Tryz.func194,Tryz.ntmps194
  go_wp2
  go_quiet ((first | (go_at_call 43; with_reducible exact Calls.quiet_of_same (OF.out _ (Keeps.drewN (Qt.refl w) _))) | (go_at_call 88; with_reducible exact Calls.quiet_of_same (LF.out _ (Keeps.drewN (Qt.refl w) _)))))
  go_wp2
  go_ret
  exact ⟨by rw [FIN.out]; rfl,Keeps.drewN (Qt.refl w) _⟩
theorem jfits_any (hC:CJ w q b j) (hu:j.used<=j.n) (hn:j.n<=65536) (z:Int) (hz:z<=9223372036854775807) :
  Calls Tryz.prog 140 #[.pointer (some ⟨q,0,none⟩),.int .i64 z] w fun e w'=>e = .returned (.bool (j.fits z))/\Qt w w':=by
 have d2:w.cell? ⟨q,2,none⟩ = some (.int .i64 (j.n:Int)):=hC.cell 2 _ rfl
 have d4:w.cell? ⟨q,4,none⟩ = some (.int .i64 (j.used:Int)):=hC.cell 4 _ rfl
 clear hC
 by_cases h0:0<=z
 ·obtain ⟨k,rfl⟩:=Int.eq_ofNat_of_zero_le h0
  have y0:decide (0<=(k:Int)) = true:=decide_eq_true h0
  have CO:=fun W=>jcost_nat k (by omega) W
  have wz:wrap64 ((j.n:Int) - (j.used:Int)) = (j.n:Int) - (j.used:Int):=by unfold wrap64; omega
  have FIN:=Lib.hid (show decide (((J.cost k:Nat):Int)<=(j.n:Int) - (j.used:Int)) = j.fits (k:Int) from by
   unfold J.JS.fits
   rw [Int.toNat_natCast]
   by_cases hc:j.used + J.cost k<=j.n
   ·rw [decide_eq_true (show ((J.cost k:Nat):Int)<=(j.n:Int) - (j.used:Int) by omega),decide_eq_true ⟨h0,hc⟩]
   ·rw [decide_eq_false (show ¬ ((J.cost k:Nat):Int)<=(j.n:Int) - (j.used:Int) by omega),decide_eq_false (fun k=>hc k.2)])
  obtain ⟨B,hB⟩:∃ B,decide (((J.cost k:Nat):Int)<=(j.n:Int) - (j.used:Int)) = B:=⟨_,rfl⟩
  rw [hB] at FIN
  generalize J.cost k = C at *
  clear hz hu hn
  go_enter Tryz.func140,Tryz.ntmps140
  go_wp2
  go_quiet ((go_at_call 193; with_reducible exact Calls.quiet_of_same (CO _)))
  go_wp2
  go_ret
  exact ⟨by rw [<- FIN.out]; rfl,Keeps.drewN (Qt.refl w) _⟩
 ·have y0:decide (0<=z) = false:=decide_eq_false h0
  have FIN:=Lib.hid (show j.fits z = false from decide_eq_false (fun k=>h0 k.1))
  clear hz
  go_enter Tryz.func140,Tryz.ntmps140
  go_wp2
  go_quiet (fail)
  go_wp2
  go_ret
  exact ⟨by rw [FIN.out]; rfl,Keeps.drewN (Qt.refl w) _⟩
end
def JP (ad:Nat->Addr) (S:Nat->Prop) (w:World) (b q:Nat) (r:Nat × J.JS × DS) (e:Ending) (w':World):Prop :=
 e = .returned (errV ad r.1)/\DiskAt w' b r.2.2 S/\CJ w' q b r.2.1/\Keeps (fun k=>S k\/k = q) w w'
section
variable {ad:Nat->Addr} {S:Nat->Prop} {w:World} {b q:Nat} {d:DS} {j:J.JS}
theorem Errs.down {ad:Nat->Addr} {w:World} (h:Errs ad w):w.cell? ⟨6,0,none⟩ = some (.iface 335 (.pointer (some (ad 12)))):=h.cells 11 _ rfl
theorem Errs.full {ad:Nat->Addr} {w:World} (h:Errs ad w):w.cell? ⟨4,0,none⟩ = some (.iface 335 (.pointer (some (ad 17)))):=h.cells 16 _ rfl
theorem jsync_any (R:Room ad S w) (h:DiskAt w b d S) (hf:d.Few) (hq:¬ S q) (hC:CJ w q b j) (hF:J.Fine j d) :
  Calls Tryz.prog 142 #[.pointer (some ⟨q,0,none⟩)] w (JP ad S w b q (j.sync d)):=by
 have DN:=jdown_any h hC
 rw [<- hF.down] at DN
 cases hd:j.down d with
 | true =>
  have FIN:=Lib.hid (show j.sync d = (12,{ j with dead:=true },d) from if_pos hd)
  rw [hd] at DN
  have HE:=Lib.hid R.errs
  have HD:=Lib.hid h
  have HC:=Lib.hid hC
  clear R h hf hq hC hF hd
  go_enter Tryz.func142,Tryz.ntmps142
  go_wp2_with fail
  refine DN.mono ?_
  rintro e w1 ⟨rfl,q1⟩
  have e12:=(HE.out.kept q1 (OffErrs.none ad)).down
  have Q1:=Lib.hid q1
  clear q1 DN
  go_wp2
  go_ret
  rw [FIN.out]
  exact ⟨rfl,DiskAt.qt HD.out Q1.out,HC.out.qt Q1.out,Q1.out.mono (fun _ _ e=>e.elim)⟩
 | false =>
  rw [hd] at DN
  have FIN:=Lib.hid (show (j.sync d).1 = d.flushE/\(j.sync d).2.2 = d.flushD/\∀ W,CJ W q b j->CJ W q b (j.sync d).2.1 from by
   unfold J.JS.sync
   rw [if_neg (by rw [hd]; simp)]
   split
   ·exact ⟨rfl,rfl,fun W h=>h⟩
   ·rename_i he
    exact ⟨(Decidable.not_not.1 he).symm,rfl,fun W h=>h⟩)
  have HR:=Lib.hid R
  have HD:=Lib.hid h
  have HF:=Lib.hid hf
  have HQ:=Lib.hid hq
  have HC:=Lib.hid hC
  clear R h hf hq hC hF hd
  go_enter Tryz.func142,Tryz.ntmps142
  go_wp2_with fail
  refine DN.mono ?_
  rintro e w1 ⟨rfl,q1⟩
  have FL:=room_flush HR.out (keeps_qt (Keeps.refl S w) q1) (DiskAt.qt HD.out q1) HF.out
  have C1:=Lib.hid (HC.out.qt q1)
  have HK:=Lib.hid q1
  have d0:w1.cell? ⟨q,0,none⟩ = some (.pointer (some ⟨b,0,none⟩)):=C1.out.cell 0 _ rfl
  clear q1 DN
  go_wp2_with fail
  refine FL.mono ?_
  rintro e w2 ⟨rfl,p2,k2⟩
  have FM:=Lib.hid (show JP ad S w b q (j.sync d) (.returned (errV ad d.flushE)) w2 from ⟨by rw [FIN.out.1],by rw [FIN.out.2.1]; exact p2,FIN.out.2.2 _ (HC.out.kept k2 HQ.out),k2.mono (fun _ _ e=>.inl e)⟩)
  clear p2 k2 FL
  go_wp2
  go_ret
  exact FM.out
def JBeginP (ad:Nat->Addr) (w:World) (b:Nat) (d:DS) (i n v:Int) (e:Ending) (w':World):Prop :=
 Qt w w'/\if J.refE d i n v = 0 then ∃ q,w.heap.size<=q/\e = .returned (.tuple #[.pointer (some ⟨q,0,none⟩),.nilIface])/\CJ w' q b ⟨i.toNat,n.toNat,v.toNat,0,false,d.cr⟩ else e = .returned (.tuple #[.pointer none,errV ad (J.refE d i n v)])
end
end Go.Proofs.YthjjfjhajadimaaGreatDoor
