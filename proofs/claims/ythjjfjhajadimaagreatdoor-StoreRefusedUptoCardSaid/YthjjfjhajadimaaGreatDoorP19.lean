/-
  Joined: BRead, OBk, OB, OC, OCont.
-/
import Derived.Test.YthjjfjhajadimaaGreatDoorP18
import Derived.Laws.ResultCell
import Derived.WalkLawsBesides
import Derived.Test.YthjjfjhajadimaaGreatDoorP17
import Derived.BigQuiet
import Derived.Shelf.SlSortCmp.QuietGrown
import Derived.Deep.RegionHeld3
namespace Go.Proofs.YthjjfjhajadimaaGreatDoor
open Go.RowKit Go.WideShapes
set_option maxRecDepth 100000
theorem or_no12 {x y:Bool} (h:false = (x || y)):x = false/\y = false:=by cases x <;> cases y <;> simp at h ⊢
theorem or_yes12 {x y:Bool} (h:true = (x || y)):¬ (x = false/\y = false):=by cases x <;> cases y <;> simp at h ⊢
theorem results12 {fn:Func} {p u:Tmp} (h:fn.results = #[.cell p 87,.tmp u]) (tmps:Array Value) (w:World) (g:Nat) (a b c:Value) (hp:tmps.getD p undef = .pointer (some ⟨g,0,none⟩)) (hb:w.heap[g]? = some (.cells #[a,b,c] 87 (0,0))) :
  (results fn tmps).run Tryz.prog w = .ok (.tuple #[.agg #[a,b,c],tmps.getD u undef]) w:=by
 have h1:=run_loadVar_row (P:=Tryz.prog) w g 87 87 #[a,b,c] (0,0) _ hb Tryz.underlying87 rfl (by kernel_rfl)
 rw [results_cell_tmp h,hp]
 simp [asAddr,h1,Result.andThen]
structure RbSt (ad:Nat->Addr) (w:World) (b:Nat) (s:ByteArray) (p B:Nat) (W:World):Prop where
 rd:Rd b s p W
 res:OpB W B ⟨false,[],[]⟩
 kp:Keeps (fun k=>k = b) w W
 er:Errs ad W
 hb:b < B
 hw:w.heap.size<=B
section
variable {ad:Nat->Addr} {w W W':World} {b p q B:Nat} {s:ByteArray}
theorem RbSt.moved (h:RbSt ad w b s p B W) (hO:OffErrs ad (fun k=>k = b)) (m:Moved b s q W W'):RbSt ad w b s q B W' :=
 ⟨m.rd,h.res.kept m.keeps (by have:=h.hb; omega),h.kp.trans m.keeps (fun _ _ e=>e),h.er.kept m.keeps hO,h.hb,h.hw⟩
theorem RbSt.drew (h:RbSt ad w b s p B W):RbSt ad w b s p B W.drew:=⟨⟨h.rd.blk,h.rd.le,h.rd.sz⟩,h.res,h.kp.drew,h.er.drew,h.hb,h.hw⟩
theorem RbSt.r6 (h:RbSt ad w b s p B W):W.cell? ⟨B,0,none⟩ = some (.bool false)/\W.cell? ⟨B,1,none⟩ = some (.string ⟨#[]⟩)/\W.cell? ⟨B,2,none⟩ = some (.string ⟨#[]⟩)/\W.frozen? ⟨B,0,none⟩ = false/\W.frozen? ⟨B,1,none⟩ = false/\W.frozen? ⟨B,2,none⟩ = false :=
 ⟨h.res.c0,h.res.c1,h.res.c2,h.res.f 0,h.res.f 1,h.res.f 2⟩
theorem RbSt.fin (h:RbSt ad w b s p B W) (x y z:Value):(((W.setCell ⟨B,0,none⟩ x).setCell ⟨B,1,none⟩ y).setCell ⟨B,2,none⟩ z).heap[B]? = some (.cells #[x,y,z] 87 (0,0)) /\
  Rd b s p (((W.setCell ⟨B,0,none⟩ x).setCell ⟨B,1,none⟩ y).setCell ⟨B,2,none⟩ z)/\Keeps (fun k=>k = b) w (((W.setCell ⟨B,0,none⟩ x).setCell ⟨B,1,none⟩ y).setCell ⟨B,2,none⟩ z):=by
 have k:Keeps (fun k=>k = B) W (((W.setCell ⟨B,0,none⟩ x).setCell ⟨B,1,none⟩ y).setCell ⟨B,2,none⟩ z) :=
  Keeps.setCell (S:=fun k=>k = B) (Keeps.setCell (S:=fun k=>k = B) (Keeps.setCell (S:=fun k=>k = B) (Keeps.refl _ _) (fun _=>rfl) _) (fun _=>rfl) _) (fun _=>rfl) _
 have hw:=h.hw
 exact ⟨h.res.all x y z,h.rd.kept k (by have:=h.hb; omega),Keeps.trans h.kp k (fun i hi e=>by omega)⟩
theorem RbSt.finD (h:RbSt ad w b s p B W) (x y z:Value):(((W.setCell ⟨B,0,none⟩ x).setCell ⟨B,1,none⟩ y).setCell ⟨B,2,none⟩ z).drew.heap[B]? = some (.cells #[x,y,z] 87 (0,0)) /\
  Rd b s p (((W.setCell ⟨B,0,none⟩ x).setCell ⟨B,1,none⟩ y).setCell ⟨B,2,none⟩ z).drew/\Keeps (fun k=>k = b) w (((W.setCell ⟨B,0,none⟩ x).setCell ⟨B,1,none⟩ y).setCell ⟨B,2,none⟩ z).drew :=
 ⟨(h.fin x y z).1,⟨(h.fin x y z).2.1.blk,(h.fin x y z).2.1.le,(h.fin x y z).2.1.sz⟩,(h.fin x y z).2.2.drew⟩
end
def RbP (ad:Nat->Addr) (b:Nat) (s:ByteArray) (p:Nat) (D:Nat ⊕ (Bt.O × Nat)) (w:World) (e:Ending) (w':World):Prop :=
 (match D with
  | .inl er=>e = .returned (.tuple #[opV ⟨false,[],[]⟩,errV ad er])/\∃ q,Rd b s q w'
  | .inr (o,n)=>e = .returned (.tuple #[opV o,.nilIface])/\Rd b s (p + n) w')/\Keeps (fun k=>k = b) w w'
set_option maxHeartbeats 6400000 in
theorem readBehind_any (ad:Nat->Addr) {v:Value} {g o:Nat} {us:List Bt.O} (b:Nat) (s:ByteArray) (p:Nat) (fst:Bool) (before:Tb.Txt) (w:World) (hr:OpsIn w v g o us) (hd:us ≠ []->g ≠ b) (h:Rd b s p w) (hE:Errs ad w) (hO:OffErrs ad (fun k=>k = b)) (hfb:∀ k,Bt.risesB us k = (fst || Tb.lt before k)) :
  Calls Tryz.prog 207 #[v,.pointer (some ⟨b,0,none⟩)] w (RbP ad b s p (Bt.opD fst before (rest s p)) w):=by
 obtain ⟨B,hB⟩:∃ B,w.heap.size = B:=⟨_,rfl⟩
 have HS:=Lib.hid (show RbSt ad w b s p B (w.alloc (.cells #[.bool false,.string ⟨#[]⟩,.string ⟨#[]⟩] 87)) from
  ⟨h.alloc _,hB ▸ opB_new w,(Keeps.refl _ _).alloc _,hE.alloc _,hB ▸ h.lt,Nat.le_of_eq hB⟩)
 have hg4:12 < B:=hB ▸ World.block_lt_of_cell? w _ (hE.cells 3 _ rfl)
 have hg7:1 < B:=hB ▸ World.block_lt_of_cell? w _ (hE.cells 6 _ rfl)
 have HG:=Lib.hid (show (B ≠ 12/\12 ≠ B)/\(B ≠ 1/\1 ≠ B) from ⟨⟨by omega,by omega⟩,⟨by omega,by omega⟩⟩)
 clear hg4 hg7
 have HR:=Lib.hid hr
 have HD:=Lib.hid hd
 have HO:=Lib.hid hO
 have HF:=Lib.hid hfb
 obtain ⟨a,cap,rfl,ha⟩:=hr.val
 have hle:=h.le
 have hsz:=h.sz
 clear hr hd hO hfb ha h hE
 have RI:=fun (K:ByteArray) (W:World) (k:Keeps (fun k=>k = b) w W)=>rises_any K W (recs_kept HR.out k HD.out)
 have HRI:=Lib.hid RI
 clear RI
 by_cases hlt:p < s.size
 ·have HO2:=Lib.hid (rest_cons hlt)
  obtain ⟨bn,hbn⟩:∃ bn,s[p].toNat = bn:=⟨_,rfl⟩
  have hb256:bn < 256:=by rw [<- hbn]; exact s[p].toNat_lt
  have BY:=rbyte_ok b s p _ HS.out.rd (by omega)
  rw [show lowN ((rest s p).take 1) = bn by rw [HO2.out]; simp [lowN,hbn]] at BY
  have HBN:=Lib.hid hbn
  clear hbn
  go_enter Tryz.func207,Tryz.ntmps207
  go_wp2_with fail
  refine BY.mono ?_
  rintro e w1 ⟨rfl,m1⟩
  have H1:=Lib.hid (HS.out.moved HO.out m1)
  clear BY m1 hB
  by_cases h7:1 < bn
  ·have FD:=Lib.hid (show Bt.opD fst before (rest s p) = .inl 7 by rw [HO2.out,opD_cons,if_pos (by rw [HBN.out]; exact h7)])
   have z0:((bn:Int) != 0) = true:=by simp; omega
   have z1:((bn:Int) != 1) = true:=by simp; omega
   have H2:=Lib.hid H1.out.drew
   have c7:=H2.out.er.cells 6 _ rfl
   have c7':=H1.out.er.cells 6 _ rfl
   obtain ⟨s0,s1,s2,t0,t1,t2⟩:=H1.out.r6
   obtain ⟨_,n1,n2⟩:=HG.out
   obtain ⟨r0,r1,r2,g0,g1,g2⟩:=H2.out.r6
   clear h7
   go_wp2_with fail
   go_region
   go_wp2
   refine bodyPost_ret (results12 (p:=4) (u:=5) (by kernel_rfl) _ _ B (.bool false) (.string ⟨#[]⟩) (.string ⟨#[]⟩) rfl (H1.out.finD _ _ _).1) rfl ⟨?_,(H1.out.finD _ _ _).2.2⟩
   rw [FD.out]
   exact ⟨rfl,_,(H1.out.finD _ _ _).2.1⟩
  ·have hb01:bn = 0\/bn = 1:=by omega
   clear h7 hb256
   rcases hb01 with rfl | rfl
   ·cases hD:textD 2147483647 (rest s (p + 1)) with
    | inl er =>
     have FD:=Lib.hid (show Bt.opD fst before (rest s p) = .inl er by rw [HO2.out,opD_cons,if_neg (by rw [HBN.out]; decide),hD])
     have TX:=rtext_err ad b s (p + 1) er 2147483647 w1 H1.out.rd H1.out.er HO.out (by decide) hD
     have her:=textD_err hD
     go_wp2_with fail
     refine TX.mono ?_
     rintro e w2 ⟨rfl,m2⟩
     have H2:=Lib.hid (H1.out.moved HO.out m2)
     obtain ⟨r0,r1,r2,g0,g1,g2⟩:=H2.out.r6
     have EV:=Lib.hid (show errV ad er = .iface 335 (.pointer (some (ad er))) from errV_pos ad (by omega))
     clear TX m2 hD her
     go_wp2
     refine bodyPost_ret (results12 (p:=4) (u:=5) (by kernel_rfl) _ _ B (.bool false) (.string ⟨#[]⟩) (.string ⟨#[]⟩) rfl (H2.out.fin _ _ _).1) rfl ⟨?_,(H2.out.fin _ _ _).2.2⟩
     rw [FD.out]
     exact ⟨by rw [EV.out]; rfl,_,(H2.out.fin _ _ _).2.1⟩
    | inr kn =>
     obtain ⟨k,n⟩:=kn
     have TX:=rtext_ok ad b s (p + 1) n k 2147483647 w1 H1.out.rd H1.out.er (by decide) hD
     obtain ⟨K,hK,hKl⟩:∃ K:ByteArray,strV k = .string K/\K.data.toList = k:=⟨⟨k.toArray⟩,rfl,rfl⟩
     rw [show (Value.string ⟨k.toArray⟩) = .string K from hK] at TX
     have HK:=Lib.hid hK
     have HDD:=Lib.hid hD
     go_wp2_with fail
     refine TX.mono ?_
     rintro e w2 ⟨rfl,m2⟩
     have H2:=Lib.hid (H1.out.moved HO.out m2)
     have RS:=HRI.out K w2 H2.out.kp
     rw [hKl] at RS
     clear TX m2 hD hK hKl
     cases hrb:Bt.risesB us k with
     | false =>
      rw [hrb] at RS
      have FD:=Lib.hid (show Bt.opD fst before (rest s p) = .inl 4 by
       have hf:=HF.out k
       rw [hrb] at hf
       have h1:=or_no12 hf
       rw [HO2.out,opD_cons,if_neg (by rw [HBN.out]; decide),HDD.out]; simp only; rw [if_pos h1])
      have H3:=Lib.hid H2.out.drew
      have c4:=H3.out.er.cells 3 _ rfl
      have c4':=H2.out.er.cells 3 _ rfl
      obtain ⟨s0,s1,s2,t0,t1,t2⟩:=H2.out.r6
      obtain ⟨⟨n1,n2⟩,_⟩:=HG.out
      obtain ⟨r0,r1,r2,g0,g1,g2⟩:=H3.out.r6
      clear hrb
      go_wp2_with fail
      refine RS.mono ?_
      rintro e w3 ⟨rfl,rfl⟩
      go_wp2
      go_region
      go_wp2
      refine bodyPost_ret (results12 (p:=4) (u:=5) (by kernel_rfl) _ _ B (.bool false) (.string ⟨#[]⟩) (.string ⟨#[]⟩) rfl (H2.out.finD _ _ _).1) rfl ⟨?_,(H2.out.finD _ _ _).2.2⟩
      rw [FD.out]
      exact ⟨rfl,_,(H2.out.finD _ _ _).2.1⟩
     | true =>
      rw [hrb] at RS
      have HNO:=Lib.hid (show ¬ (fst = false/\Tb.lt before k = false) by
       have hf:=HF.out k
       rw [hrb] at hf
       exact or_yes12 hf)
      clear hrb
      go_wp2_with fail
      refine RS.mono ?_
      rintro e w3 ⟨rfl,rfl⟩
      clear RS
      cases hD2:textD 2147483647 (rest s (p + 1 + n)) with
      | inl er =>
       have FD:=Lib.hid (show Bt.opD fst before (rest s p) = .inl er by rw [HO2.out,opD_cons,if_neg (by rw [HBN.out]; decide),HDD.out]; simp only; rw [if_neg HNO.out,if_neg (by rw [HBN.out]; decide),rest_drop,hD2])
       have TX:=rtext_err ad b s (p + 1 + n) er 2147483647 _ H2.out.rd H2.out.er HO.out (by decide) hD2
       have her:=textD_err hD2
       have EV:=Lib.hid (show errV ad er = .iface 335 (.pointer (some (ad er))) from errV_pos ad (by omega))
       clear hD2 her
       go_wp2_with fail
       refine TX.mono ?_
       rintro e w4 ⟨rfl,m4⟩
       have H4:=Lib.hid (H2.out.moved HO.out m4)
       obtain ⟨r0,r1,r2,g0,g1,g2⟩:=H4.out.r6
       clear TX m4
       go_wp2
       refine bodyPost_ret (results12 (p:=4) (u:=5) (by kernel_rfl) _ _ B (.bool false) (.string ⟨#[]⟩) (.string ⟨#[]⟩) rfl (H4.out.fin _ _ _).1) rfl ⟨?_,(H4.out.fin _ _ _).2.2⟩
       rw [FD.out]
       exact ⟨by rw [EV.out]; rfl,_,(H4.out.fin _ _ _).2.1⟩
      | inr vm =>
       obtain ⟨v,m⟩:=vm
       have FD:=Lib.hid (show Bt.opD fst before (rest s p) = .inr (⟨false,k,v⟩,1 + n + m) by rw [HO2.out,opD_cons,if_neg (by rw [HBN.out]; decide),HDD.out]; simp only; rw [if_neg HNO.out,if_neg (by rw [HBN.out]; decide),rest_drop,hD2])
       have TX:=rtext_ok ad b s (p + 1 + n) m v 2147483647 _ H2.out.rd H2.out.er (by decide) hD2
       obtain ⟨V,hV⟩:∃ V:ByteArray,strV v = .string V:=⟨_,rfl⟩
       rw [show (Value.string ⟨v.toArray⟩) = .string V from hV] at TX
       have HV:=Lib.hid hV
       clear hD2 hV
       go_wp2_with fail
       refine TX.mono ?_
       rintro e w4 ⟨rfl,m4⟩
       have H4:=Lib.hid (H2.out.moved HO.out m4)
       obtain ⟨r0,r1,r2,g0,g1,g2⟩:=H4.out.r6
       clear TX m4
       go_wp2
       refine bodyPost_ret (results12 (p:=4) (u:=5) (by kernel_rfl) _ _ B (.bool false) (.string K) (.string V) rfl (H4.out.fin _ _ _).1) rfl ⟨?_,(H4.out.fin _ _ _).2.2⟩
       rw [FD.out]
       refine ⟨?_,?_⟩
       ·show Ending.returned (.tuple #[.agg #[.bool false,.string K,.string V],.nilIface]) = .returned (.tuple #[.agg #[.bool false,strV k,strV v],.nilIface])
        rw [HK.out,HV.out]
       ·have hh:=(H4.out.fin (.bool false) (.string K) (.string V)).2.1
        rw [show p + 1 + n + m = p + (1 + n + m) by omega] at hh
        exact hh
   ·cases hD:textD 2147483647 (rest s (p + 1)) with
    | inl er =>
     have FD:=Lib.hid (show Bt.opD fst before (rest s p) = .inl er by rw [HO2.out,opD_cons,if_neg (by rw [HBN.out]; decide),hD])
     have TX:=rtext_err ad b s (p + 1) er 2147483647 w1 H1.out.rd H1.out.er HO.out (by decide) hD
     have her:=textD_err hD
     go_wp2_with fail
     refine TX.mono ?_
     rintro e w2 ⟨rfl,m2⟩
     have H2:=Lib.hid (H1.out.moved HO.out m2)
     obtain ⟨r0,r1,r2,g0,g1,g2⟩:=H2.out.r6
     have EV:=Lib.hid (show errV ad er = .iface 335 (.pointer (some (ad er))) from errV_pos ad (by omega))
     clear TX m2 hD her
     go_wp2
     refine bodyPost_ret (results12 (p:=4) (u:=5) (by kernel_rfl) _ _ B (.bool false) (.string ⟨#[]⟩) (.string ⟨#[]⟩) rfl (H2.out.fin _ _ _).1) rfl ⟨?_,(H2.out.fin _ _ _).2.2⟩
     rw [FD.out]
     exact ⟨by rw [EV.out]; rfl,_,(H2.out.fin _ _ _).2.1⟩
    | inr kn =>
     obtain ⟨k,n⟩:=kn
     have TX:=rtext_ok ad b s (p + 1) n k 2147483647 w1 H1.out.rd H1.out.er (by decide) hD
     obtain ⟨K,hK,hKl⟩:∃ K:ByteArray,strV k = .string K/\K.data.toList = k:=⟨⟨k.toArray⟩,rfl,rfl⟩
     rw [show (Value.string ⟨k.toArray⟩) = .string K from hK] at TX
     have HK:=Lib.hid hK
     have HDD:=Lib.hid hD
     go_wp2_with fail
     refine TX.mono ?_
     rintro e w2 ⟨rfl,m2⟩
     have H2:=Lib.hid (H1.out.moved HO.out m2)
     have RS:=HRI.out K w2 H2.out.kp
     rw [hKl] at RS
     clear TX m2 hD hK hKl
     cases hrb:Bt.risesB us k with
     | false =>
      rw [hrb] at RS
      have FD:=Lib.hid (show Bt.opD fst before (rest s p) = .inl 4 by
       have hf:=HF.out k
       rw [hrb] at hf
       have h1:=or_no12 hf
       rw [HO2.out,opD_cons,if_neg (by rw [HBN.out]; decide),HDD.out]; simp only; rw [if_pos h1])
      have H3:=Lib.hid H2.out.drew
      have c4:=H3.out.er.cells 3 _ rfl
      have c4':=H2.out.er.cells 3 _ rfl
      obtain ⟨s0,s1,s2,t0,t1,t2⟩:=H2.out.r6
      obtain ⟨⟨n1,n2⟩,_⟩:=HG.out
      obtain ⟨r0,r1,r2,g0,g1,g2⟩:=H3.out.r6
      clear hrb
      go_wp2_with fail
      refine RS.mono ?_
      rintro e w3 ⟨rfl,rfl⟩
      go_wp2
      go_region
      go_wp2
      refine bodyPost_ret (results12 (p:=4) (u:=5) (by kernel_rfl) _ _ B (.bool false) (.string ⟨#[]⟩) (.string ⟨#[]⟩) rfl (H2.out.finD _ _ _).1) rfl ⟨?_,(H2.out.finD _ _ _).2.2⟩
      rw [FD.out]
      exact ⟨rfl,_,(H2.out.finD _ _ _).2.1⟩
     | true =>
      rw [hrb] at RS
      have HNO:=Lib.hid (show ¬ (fst = false/\Tb.lt before k = false) by
       have hf:=HF.out k
       rw [hrb] at hf
       exact or_yes12 hf)
      clear hrb
      go_wp2_with fail
      refine RS.mono ?_
      rintro e w3 ⟨rfl,rfl⟩
      clear RS
      have FD:=Lib.hid (show Bt.opD fst before (rest s p) = .inr (⟨true,k,[]⟩,1 + n) by rw [HO2.out,opD_cons,if_neg (by rw [HBN.out]; decide),HDD.out]; simp only; rw [if_neg HNO.out,if_pos HBN.out])
      obtain ⟨r0,r1,r2,g0,g1,g2⟩:=H2.out.r6
      go_wp2
      refine bodyPost_ret (results12 (p:=4) (u:=5) (by kernel_rfl) _ _ B (.bool true) (.string K) (.string ⟨#[]⟩) rfl (H2.out.fin _ _ _).1) rfl ⟨?_,(H2.out.fin _ _ _).2.2⟩
      rw [FD.out]
      refine ⟨?_,?_⟩
      ·show Ending.returned (.tuple #[.agg #[.bool true,.string K,.string ⟨#[]⟩],.nilIface]) = .returned (.tuple #[.agg #[.bool true,strV k,strV []],.nilIface])
       rw [HK.out]; rfl
      ·have hh:=(H2.out.fin (.bool true) (.string K) (.string ⟨#[]⟩)).2.1
       rw [show p + 1 + n = p + (1 + n) by omega] at hh
       exact hh
 ·have BY:=rbyte_short ad b s p _ HS.out.rd HS.out.er (by omega)
  have FD:=Lib.hid (show Bt.opD fst before (rest s p) = .inl 1 by
   have:rest s p = []:=List.drop_eq_nil_of_le (by simp; omega)
   rw [this]; rfl)
  go_enter Tryz.func207,Tryz.ntmps207
  go_wp2_with fail
  refine BY.mono ?_
  rintro e w1 ⟨rfl,m1⟩
  have H1:=Lib.hid (HS.out.moved HO.out m1)
  clear BY m1 hB
  obtain ⟨r0,r1,r2,g0,g1,g2⟩:=H1.out.r6
  go_wp2
  refine bodyPost_ret (results12 (p:=4) (u:=5) (by kernel_rfl) _ _ B (.bool false) (.string ⟨#[]⟩) (.string ⟨#[]⟩) rfl (H1.out.fin _ _ _).1) rfl ⟨?_,(H1.out.fin _ _ _).2.2⟩
  rw [FD.out]
  exact ⟨rfl,_,(H1.out.fin _ _ _).2.1⟩
def Bk (W:World) (B:Nat) (ty:TypeId) (xs:List Value):Prop:=W.heap[B]? = some (.cells xs.toArray ty (0,0))
section
variable {W W':World} {B g:Nat} {ty:TypeId} {xs:List Value}
theorem Bk.cell (h:Bk W B ty xs) (i:Nat) (v:Value) (hi:xs[i]? = some v):W.cell? ⟨B,i,none⟩ = some v:=by
 rw [cell_of_row _ _ _ _ _ _ h,List.getElem?_toArray]; exact hi
theorem Bk.frozen (h:Bk W B ty xs) (i:Nat):W.frozen? ⟨B,i,none⟩ = false:=by
 unfold World.frozen?
 rw [h]
 simp
theorem Bk.lt (h:Bk W B ty xs):B < W.heap.size:=lt_of_block h
theorem Bk.set (h:Bk W B ty xs) (i:Nat) (v:Value):Bk (W.setCell ⟨B,i,none⟩ v) B ty (xs.set i v):=by
 unfold Bk at h ⊢
 simp only [World.setCell,Array.getElem?_modify,h,if_true,Option.map_some]
 simp
theorem Bk.other (h:Bk W B ty xs) {i:Nat} (hg:g ≠ B) (v:Value):Bk (W.setCell ⟨g,i,none⟩ v) B ty xs:=by
 unfold Bk at h ⊢
 rw [heap_setCell_other _ _ _ _ (by simpa using hg.symm)]
 exact h
theorem Bk.kept {S:Nat->Prop} (h:Bk W B ty xs) (K:Keeps S W W') (hS:¬ S B):Bk W' B ty xs:=(K.block B h.lt hS).trans h
theorem Bk.qt (h:Bk W B ty xs) (q:Qt W W'):Bk W' B ty xs:=h.kept q (fun e=>e)
theorem Bk.new (W:World) (ty:TypeId) (xs:Array Value):Bk (W.alloc (.cells xs ty)) W.heap.size ty xs.toList:=by
 unfold Bk
 exact heap_alloc_new W _
theorem Bk.drewN (h:Bk W B ty xs) (n:Nat):Bk (W.drewN n) B ty xs:=h
theorem Bk.drew (h:Bk W B ty xs):Bk W.drew B ty xs:=h
theorem Bk.alloc (h:Bk W B ty xs) (o:Obj):Bk (W.alloc o) B ty xs:=h.qt ((Qt.refl W).alloc o)
theorem Keeps.qtL {S:Nat->Prop} {a w w2:World} (h:Keeps S a w) (q:Qt w w2):Keeps S a w2:=Keeps.trans h q (fun _ _ e=>e.elim)
theorem keeps_set (W:World) (B i:Nat) (v:Value):Keeps (fun k=>k = B) W (W.setCell ⟨B,i,none⟩ v) :=
 Keeps.setCell (S:=fun k=>k = B) (p:=⟨B,i,none⟩) (Keeps.refl _ W) (fun _=>rfl) v
theorem qt_set {w:World} (q:Qt w W) (hB:w.heap.size<=B) (i:Nat) (v:Value):Qt w (W.setCell ⟨B,i,none⟩ v) :=
 Keeps.trans (S:=fun _=>False) (T:=fun k=>k = B) q (keeps_set W B i v) (fun i hi e=>by subst e; omega)
end
theorem wp_lastO {P:Program} {c:Code} {Q:Exit->Act->World->Prop} {a:Act} {w:World} (h:∀ K:Act->World->Prop,(∀ a w,Q .normal a w->K a w)->c.wp P (Exit.then K Q) a w):c.wp P Q a w:=by
 have h1:=h (Q .normal) (fun _ _ h=>h)
 have e:Exit.then (Q .normal) Q = Q:=by funext x a w; cases x <;> rfl
 rwa [e] at h1
def contV (t:Nat) (k:Nat):Value:=.agg #[ptrV t,.int .i64 (k:Int)]
set_option maxHeartbeats 800000 in
theorem noCont_any (w:World):Calls Tryz.prog 69 #[] w fun e w'=>∃ t,e = .returned (contV t 0)/\Tbl w' t [] (fun k=>k = t)/\w.heap.size<=t/\Qt w w':=by
 have NW:=fun o=>new11_any (w.alloc o)
 have bx:=Bk.new w 132 #[.pointer none,.int .i64 0]
 go_enter Tryz.func69,Tryz.ntmps69
 go_wp2_with fail
 refine (NW _).mono ?_
 rintro e w1 ⟨t,rfl,T,ht,q⟩
 have HT:=Lib.hid T
 have HQ:=Lib.hid q
 have hb:=bx.qt q
 have HB:=Lib.hid hb
 have c0:=hb.cell 0 _ rfl
 have c1:=hb.cell 1 _ rfl
 have f0:=hb.frozen 0
 have f1:=hb.frozen 1
 clear T hb NW bx
 go_wp2
 have b2:=(HB.out.set 0 (ptrV t)).set 1 (.int .i64 0)
 have q2:=qt_set (qt_set (B:=w.heap.size) (Qt.trans ((Qt.refl w).alloc _) HQ.out) (Nat.le_refl _) 0 (ptrV t)) (Nat.le_refl _) 1 (.int .i64 0)
 have hz:t ≠ w.heap.size:=by rw [World.size_alloc] at ht; omega
 have t2:=(HT.out.kept (keeps_set w1 w.heap.size 0 (ptrV t)) (fun j e k=>hz (e.symm.trans k))).kept (keeps_set _ w.heap.size 1 (.int .i64 0)) (fun j e k=>hz (e.symm.trans k))
 refine bodyPost_ret (results_cell_row (p:=0) (ty:=132) (by kernel_rfl) _ _ w.heap.size 132 #[ptrV t,.int .i64 0] (0,0) _ rfl b2 Tryz.underlying132 rfl (by kernel_rfl)) rfl ⟨t,rfl,t2,by rw [World.size_alloc] at ht; omega,q2⟩
end Go.Proofs.YthjjfjhajadimaaGreatDoor
namespace Go.Proofs.YthjjfjhajadimaaGreatDoor
open Go.RowKit Go.WideShapes Go.Sort
set_option maxRecDepth 100000
theorem room13_any (b n:Nat) (hn:So.each n<=65536) (w:World) :
  Calls Tryz.prog 73 #[layV b n] w fun e w'=>e = .returned (.int .i64 ((So.room n:Nat):Int))/\w' = w.alloc (.cells (layCells b n) 135):=by
 have RM:=aroom_any ((So.each n:Nat):Int)
 have hr:roomZ ((So.each n:Nat):Int) = ((So.room n:Nat):Int):=by
  rw [roomZ_nat,Int.toNat_natCast,Nat.min_eq_left hn]
  rfl
 rw [hr] at RM
 have bx:=Bk.new w 135 (layCells b n)
 have c2:=bx.cell 3 _ rfl
 unfold layV
 unfold layCells at *
 clear bx hr
 generalize So.each n = a at *
 generalize So.logAt n = c at *
 generalize So.many n = d at *
 generalize So.room n = r at *
 go_enter Tryz.func73,Tryz.ntmps73
 go_wp2_with fail
 refine (RM _).mono ?_
 rintro e w1 ⟨rfl,rfl⟩
 go_wp2
 go_ret
 exact ⟨rfl,rfl⟩
theorem areaOf13_any (b n v:Nat) (hv:v<=1099511627776) (w:World) :
  Calls Tryz.prog 122 #[layV b n,.int .i64 (v:Int)] w fun e w'=>e = .returned (.int .i64 ((So.areaAt n v:Nat):Int))/\w' = w.alloc (.cells (layCells b n) 135):=by
 have bx:=Bk.new w 135 (layCells b n)
 have hm:((v:Int)).tmod 2 = ((v % 2:Nat):Int):=by rw [Int.tmod_eq_emod_of_nonneg (by omega)]; omega
 rcases Nat.mod_two_eq_zero_or_one v with h | h
 ·have FA:=Lib.hid (show So.areaAt n v = 2 from by unfold So.areaAt; rw [if_pos h])
  have c1:=bx.cell 1 _ rfl
  rw [h] at hm
  unfold layV
  unfold layCells at *
  clear bx h hv
  go_enter Tryz.func122,Tryz.ntmps122
  go_wp2
  go_ret
  exact ⟨by rw [FA.out]; rfl,rfl⟩
 ·have FA:=Lib.hid (show So.areaAt n v = 2 + So.each n from by unfold So.areaAt; rw [if_neg (by omega)])
  have c1:=bx.cell 2 _ rfl
  rw [h] at hm
  unfold layV
  unfold layCells at *
  clear bx h hv
  generalize So.each n = a at *
  go_enter Tryz.func122,Tryz.ntmps122
  go_wp2
  go_ret
  exact ⟨by rw [FA.out]; rfl,rfl⟩
set_option maxHeartbeats 800000 in
theorem slotValue13_any {b:Nat} {d:DS} {S:Nat->Prop} (k:Nat) (hk:k < 9223372036854775808) (w:World) (h:DiskAt w b d S) :
  Calls Tryz.prog 124 #[layV b d.dur.length,.int .i64 (k:Int)] w fun e w'=>e = .returned (.string ⟨(So.slotVal d.dur.length k).toArray⟩)/\Qt w w':=by
 have hdl:d.dur.length<=65536:=by obtain ⟨gd,mb,uv,P,_⟩:=h; exact P.ok.le
 have SZ:=Lib.hid (fun W (q:Qt w W)=>size_same (DiskAt.qt h q))
 have FV:=Lib.hid (show So.slotVal d.dur.length k = ([] ++ Lib.uvarint d.dur.length) ++ Lib.uvarint k from by rw [List.nil_append]; rfl)
 obtain ⟨W,hW,q0,bx⟩:=lay_new w b d.dur.length
 have c0:=Bk.cell (xs:=(layCells b d.dur.length).toList) bx 0 _ rfl
 have hl1:=Lib.uvarint_length64 (x:=d.dur.length) (by omega)
 have wx:IntKind.u64.wrap (d.dur.length:Int) = (d.dur.length:Int):=by rw [IntKind.wrap_u64]; omega
 have wk:IntKind.u64.wrap (k:Int) = (k:Int):=by rw [IntKind.wrap_u64]; omega
 have hn:d.dur.length < 18446744073709551616:=by omega
 have Q0:=Lib.hid q0
 unfold layV
 unfold layCells at *
 clear h bx q0 hdl
 generalize d.dur.length = n at *
 generalize So.each n = a at *
 generalize So.logAt n = c at *
 generalize So.many n = f at *
 have NEW:=wnew_any W
 go_enter Tryz.func124,Tryz.ntmps124
 go_wp2_with fail
 refine NEW.mono ?_
 rintro e w1 ⟨rfl,r1,k1,s1⟩
 have hc:=k1.cellv c0 (fun e=>e)
 have K1:=Lib.hid k1
 clear NEW k1 s1
 go_wp2_with fail
 refine (SZ.out _ (Qt.trans Q0.out K1.out)).mono ?_
 rintro e w1' ⟨rfl,rfl⟩
 have U1:=wuint_any W.heap.size none [] n w1' r1 (by decide) hn
 clear r1
 go_wp2_with fail
 refine U1.mono ?_
 rintro e w2 ⟨rfl,r,r2,k2⟩
 have U2:=wuint_any W.heap.size r _ k w2 r2 (by rw [List.nil_append]; omega) (by omega)
 have K2:=Lib.hid k2
 clear U1 r2 k2
 go_wp2_with fail
 refine U2.mono ?_
 rintro e w3 ⟨rfl,r',r3,k3⟩
 have OU:=wout_any W.heap.size r' _ w3 r3
 have K3:=Lib.hid (K2.out.trans k3)
 clear U2 r3 k3
 go_wp2_with fail
 refine OU.mono ?_
 rintro e w4 ⟨rfl,_,k4⟩
 have FIN:=Lib.hid (Qt.trans Q0.out (out_new K1.out K3.out k4))
 clear OU k4
 go_wp2
 go_ret
 exact ⟨by rw [FV.out]; rfl,FIN.out⟩
theorem results_lay {fn:Func} {p u:Tmp} (h:fn.results = #[.cell p 135,.tmp u]) (tmps:Array Value) (w:World) (g:Nat) (a b c d e f:Value) (hp:tmps.getD p undef = .pointer (some ⟨g,0,none⟩)) (hb:Bk w g 135 [a,b,c,d,e,f]) :
  (results fn tmps).run Tryz.prog w = .ok (.tuple #[.agg #[a,b,c,d,e,f],tmps.getD u undef]) w:=by
 have h1:=run_loadVar_row (P:=Tryz.prog) w g 135 135 #[a,b,c,d,e,f] (0,0) _ hb Tryz.underlying135 rfl (by kernel_rfl)
 rw [results_cell_tmp h,hp]
 simp [asAddr,h1,Result.andThen]
theorem results_log {fn:Func} {p u:Tmp} (h:fn.results = #[.cell p 138,.tmp u]) (tmps:Array Value) (w:World) (g:Nat) (a b:Value) (hp:tmps.getD p undef = .pointer (some ⟨g,0,none⟩)) (hb:Bk w g 138 [a,b]) :
  (results fn tmps).run Tryz.prog w = .ok (.tuple #[.agg #[a,b],tmps.getD u undef]) w:=by
 have h1:=run_loadVar_row (P:=Tryz.prog) w g 138 138 #[a,b] (0,0) _ hb Tryz.underlying138 rfl (by kernel_rfl)
 rw [results_cell_tmp h,hp]
 simp [asAddr,h1,Result.andThen]
theorem results_read {fn:Func} {u p v:Tmp} (h:fn.results = #[.tmp u,.cell p 132,.tmp v]) (tmps:Array Value) (w:World) (g:Nat) (a b:Value) (hp:tmps.getD p undef = .pointer (some ⟨g,0,none⟩)) (hb:Bk w g 132 [a,b]) :
  (results fn tmps).run Tryz.prog w = .ok (.tuple #[tmps.getD u undef,.agg #[a,b],tmps.getD v undef]) w:=by
 have h1:=run_loadVar_row (P:=Tryz.prog) w g 132 132 #[a,b] (0,0) _ hb Tryz.underlying132 rfl (by kernel_rfl)
 have hp':tmps[p]?.getD undef = .pointer (some ⟨g,0,none⟩):=by simpa using hp
 simp [results,h,hp',asAddr,h1,Result.andThen]
def layZ:Value:=.agg #[.pointer none,.int .i64 0,.int .i64 0,.int .i64 0,.int .i64 0,.int .i64 0]
set_option maxHeartbeats 1600000 in
theorem layoutOf13_any (ad:Nat->Addr) {b:Nat} {d:DS} {S:Nat->Prop} (w:World) (hE:Errs ad w) (h:DiskAt w b d S) :
  Calls Tryz.prog 67 #[.pointer (some ⟨b,0,none⟩)] w fun e w'=>e = .returned (if So.layE d.dur.length = 0 then .tuple #[layV b d.dur.length,.nilIface] else .tuple #[layZ,errV ad (So.layE d.dur.length)])/\Qt w w':=by
 have SZ:=Lib.hid (fun W (q:Qt w W)=>size_same (DiskAt.qt h q))
 have LY:=Lib.hid (fun W (q:Qt w W)=>layout13_any ad (d.dur.length:Int) W (hE.kept q (OffErrs.none ad)))
 clear hE h
 generalize d.dur.length = n at *
 obtain ⟨W,hW,q0,bx⟩:∃ W,w.alloc (.cells #[.pointer none,.int .i64 0,.int .i64 0,.int .i64 0,.int .i64 0,.int .i64 0] 135) = W/\Qt w W/\Bk W w.heap.size 135 [.pointer none,.int .i64 0,.int .i64 0,.int .i64 0,.int .i64 0,.int .i64 0]:=⟨_,rfl,(Qt.refl w).alloc _,Bk.new w _ _⟩
 have Q0:=Lib.hid q0
 obtain ⟨B,hB⟩:∃ B,w.heap.size = B:=⟨_,rfl⟩
 have HB:=Lib.hid hB
 rw [hB] at bx
 have BX:=Lib.hid bx
 have c0:=bx.cell 0 _ rfl
 have c1:=bx.cell 1 _ rfl
 have c2:=bx.cell 2 _ rfl
 have c3:=bx.cell 3 _ rfl
 have c4:=bx.cell 4 _ rfl
 have c5:=bx.cell 5 _ rfl
 have f0:=bx.frozen 0
 have f1:=bx.frozen 1
 have f2:=bx.frozen 2
 have f3:=bx.frozen 3
 have f4:=bx.frozen 4
 have f5:=bx.frozen 5
 clear bx q0
 by_cases hz:So.layE n = 0
 ·have LYR:=Lib.hid (show layR ad (n:Int) = layT n from if_pos hz)
  rw [if_pos hz]
  have L1:=Lib.hid (fun W (q:Qt w W)=>by
   have k:=LY.out W q
   rw [LYR.out] at k
   unfold layT at k
   exact k)
  unfold layV
  generalize So.each n = a at *
  generalize So.logAt n = c at *
  generalize So.many n = f at *
  clear hz LY LYR
  go_enter Tryz.func67,Tryz.ntmps67
  go_wp2_with fail
  refine (SZ.out _ Q0.out).mono ?_
  rintro e w1 ⟨rfl,rfl⟩
  go_wp2_with fail
  refine (L1.out _ Q0.out).mono ?_
  rintro e w1 ⟨rfl,m,rfl⟩
  go_wp2
  have b2:=((((((BX.out.drewN m).set 0 (.pointer (some ⟨b,0,none⟩))).set 1 (.int .i64 2)).set 2 (.int .i64 (2 + (a:Int)))).set 3 (.int .i64 (a:Int))).set 4 (.int .i64 (c:Int))).set 5 (.int .i64 (f:Int))
  have q2:=qt_set (qt_set (qt_set (qt_set (qt_set (qt_set (Keeps.drewN Q0.out m) (Nat.le_of_eq HB.out) 0 (.pointer (some ⟨b,0,none⟩))) (Nat.le_of_eq HB.out) 1 (.int .i64 2)) (Nat.le_of_eq HB.out) 2 (.int .i64 (2 + (a:Int)))) (Nat.le_of_eq HB.out) 3 (.int .i64 (a:Int))) (Nat.le_of_eq HB.out) 4 (.int .i64 (c:Int))) (Nat.le_of_eq HB.out) 5 (.int .i64 (f:Int))
  refine bodyPost_ret (results_lay (p:=2) (u:=3) (by kernel_rfl) _ _ B _ _ _ _ _ _ rfl b2) rfl ⟨rfl,q2⟩
 ·have he:0 < So.layE n:=by omega
  have LYR:=Lib.hid (show layR ad (n:Int) = .tuple #[.int .i64 0,.int .i64 0,.int .i64 0,.int .i64 0,.int .i64 0,.iface 335 (.pointer (some (ad (So.layE n))))] from by
   unfold layR
   rw [if_neg hz]
   unfold layN
   rw [errV_pos ad he])
  rw [if_neg hz,errV_pos ad he]
  generalize So.layE n = er at *
  clear hz he
  go_enter Tryz.func67,Tryz.ntmps67
  go_wp2_with fail
  refine (SZ.out _ Q0.out).mono ?_
  rintro e w1 ⟨rfl,rfl⟩
  have L1:=LY.out _ Q0.out
  rw [LYR.out] at L1
  go_wp2_with fail
  refine L1.mono ?_
  rintro e w1 ⟨rfl,m,rfl⟩
  go_wp2
  have b2:=((((((BX.out.drewN m).set 0 (.pointer none)).set 1 (.int .i64 0)).set 2 (.int .i64 0)).set 3 (.int .i64 0)).set 4 (.int .i64 0)).set 5 (.int .i64 0)
  have q2:=qt_set (qt_set (qt_set (qt_set (qt_set (qt_set (Keeps.drewN Q0.out m) (Nat.le_of_eq HB.out) 0 (.pointer none)) (Nat.le_of_eq HB.out) 1 (.int .i64 0)) (Nat.le_of_eq HB.out) 2 (.int .i64 0)) (Nat.le_of_eq HB.out) 3 (.int .i64 0)) (Nat.le_of_eq HB.out) 4 (.int .i64 0)) (Nat.le_of_eq HB.out) 5 (.int .i64 0)
  refine bodyPost_ret (results_lay (p:=2) (u:=3) (by kernel_rfl) _ _ B _ _ _ _ _ _ rfl b2) rfl ⟨rfl,q2⟩
theorem size13_any {t:Nat} {l:List Tb.R} {A:Nat->Prop} (w:World) (hT:Tbl w t l A) (hk:(So.rowsB l).length<=4611686018427387904) :
  Calls Tryz.prog 72 #[contV t (So.rowsB l).length] w fun e w'=>e = .returned (.int .i64 ((So.size l:Nat):Int))/\Qt w w':=by
 have LN:=Lib.hid (fun W (q:Qt w W)=>len11_any (hT.qt q))
 have hl:=hT.len
 have NB:=Lib.hid (fun W=>number13_any l.length (by omega) W)
 have HS:=Lib.hid (So.size_eq l)
 have hu:=Lib.uvarint_length64 (x:=l.length) (by omega)
 obtain ⟨W,hW,q0,bx⟩:∃ W,w.alloc (.cells #[ptrV t,.int .i64 ((So.rowsB l).length:Int)] 132) = W/\Qt w W/\Bk W w.heap.size 132 [ptrV t,.int .i64 ((So.rowsB l).length:Int)]:=⟨_,rfl,(Qt.refl w).alloc _,Bk.new w _ _⟩
 have Q0:=Lib.hid q0
 have BX:=Lib.hid bx
 unfold contV
 clear hT bx
 generalize (Lib.uvarint l.length).length = L at *
 generalize (So.rowsB l).length = k at *
 go_enter Tryz.func72,Tryz.ntmps72
 have KP:=Lib.hid (fun W' (q:Qt W W')=>(show W'.cell? ⟨w.heap.size,0,none⟩ = some (ptrV t)/\W'.cell? ⟨w.heap.size,1,none⟩ = some (.int .i64 (k:Int)) from ⟨(BX.out.qt q).cell 0 _ rfl,(BX.out.qt q).cell 1 _ rfl⟩))
 obtain ⟨c0,c1⟩:=KP.out W (Qt.refl W)
 have HW:=Lib.hid (show IntKind.i64.wrap ((L:Int) + (k:Int)) = ((L + k:Nat):Int) by rw [IntKind.wrap_i64]; omega)
 go_wp2_with fail
 go_region_held3 (fun W'=>W'.cell? ⟨w.heap.size,0,none⟩ = some (ptrV t)/\W'.cell? ⟨w.heap.size,1,none⟩ = some (.int .i64 (k:Int)))
  (first | go_keep | exact KP.out _ (Keeps.drew (Qt.refl W)) | exact KP.out _ q2)
  (first
   | (go_at_call 106; refine (LN.out _ (Keeps.drew Q0.out)).mono ?_; rintro e w1 ⟨rfl,rfl⟩)
   | (go_at_call 118; refine (NB.out _).mono ?_; rintro e w2 ⟨rfl,q⟩; have q2:Qt W w2:=Qt.trans (Keeps.drew (Qt.refl W)) q))
 go_wp2
 go_ret
 exact ⟨by rw [HS.out]; exact congrArg (fun x=>Ending.returned (.int .i64 x)) HW.out,Qt.trans Q0.out q2⟩
end Go.Proofs.YthjjfjhajadimaaGreatDoor
namespace Go.Proofs.YthjjfjhajadimaaGreatDoor.So
open Go.Proofs.YthjjfjhajadimaaGreatDoor.Tb
set_option maxRecDepth 100000
def oldB (l:List R) (k:Txt):Nat:=match Tb.get l k with
 | none=>0
 | some v=>(rowB (k,v)).length
theorem get_cons (r:R) (l:List R) (k:Txt):Tb.get (r :: l) k = if r.1 = k then some r.2 else Tb.get l k:=by
 unfold Tb.get
 rw [List.find?_cons]
 by_cases h:r.1 = k
 ·rw [if_pos h,show (r.1 == k) = true by simpa using h]
  rfl
 ·rw [if_neg h,show (r.1 == k) = false by simpa using h]
theorem del_rowsB (k:Txt):∀ {l:List R},Sorted l->(rowsB (del l k)).length + oldB l k = (rowsB l).length
 | [],_=>rfl
 | r :: l,h=>by
  obtain ⟨h1,h2⟩:=Bt.sorted_head h
  by_cases hk:r.1 = k
  ·subst hk
   have e1:del (r :: l) r.1 = l:=by
    have e:del (r :: l) r.1 = del l r.1:=by simp [del]
    rw [e]
    exact del_none (fun x hx=>fun e=>by have:=h1 x hx; rw [e,lt_irrefl] at this; cases this)
   have e2:oldB (r :: l) r.1 = (rowB r).length:=by
    unfold oldB
    rw [get_cons,if_pos rfl]
   rw [e1,e2,rowsB_cons,List.length_append]
   omega
  ·have e1:del (r :: l) k = r :: del l k:=by simp [del,hk]
   have e2:oldB (r :: l) k = oldB l k:=by
    unfold oldB
    rw [get_cons,if_neg hk]
   have:=del_rowsB k h2
   rw [e1,e2,rowsB_cons,rowsB_cons,List.length_append,List.length_append]
   omega
theorem ins_rowsB (l:List R) (r:R):(rowsB (ins l r)).length = (rowB r).length + (rowsB l).length:=by
 have h:rowsB l = rowsB (l.take (place l r.1)) ++ rowsB (l.drop (place l r.1)):=by rw [<- rowsB_append,List.take_append_drop]
 unfold ins
 rw [rowsB_append,rowsB_cons,h,List.length_append,List.length_append,List.length_append]
 omega
theorem put_rowsB {l:List R} (h:Sorted l) (k v:Txt):(rowsB (put l k v)).length + oldB l k = (rowsB l).length + (rowB (k,v)).length:=by
 have h1:=del_rowsB k h
 have h2:=ins_rowsB (del l k) (k,v)
 have e:put l k v = ins (del l k) (k,v):=rfl
 rw [e]
 omega
def newB (o:Bt.O):Nat:=if o.del then 0 else (rowB (o.key,o.val)).length
theorem op_rowsB {l:List R} (h:Sorted l) (o:Bt.O):(rowsB (Bt.doOp l o)).length + oldB l o.key = (rowsB l).length + newB o:=by
 unfold Bt.doOp newB
 cases o.del with
 | true =>
  have:=del_rowsB o.key h
  simp only [if_true]
  omega
 | false =>
  have:=put_rowsB h o.key o.val
  simp only [Bool.false_eq_true,if_false]
  exact this
theorem old_le {l:List R} (h:Sorted l) (k:Txt):oldB l k<=(rowsB l).length:=by
 have:=del_rowsB k h
 omega
theorem norm_old {ops:List Bt.O} (hn:Bt.Norm ops) {l:List R} (h:Sorted l) {i:Nat} {o:Bt.O} (ho:ops[i]? = some o):Tb.get (Bt.apply l (ops.take i)) o.key = Tb.get l o.key:=by
 rw [Bt.get_apply h]
 have e:lastOf (Bt.codes (ops.take i)) o.key = none:=by
  unfold lastOf
  rw [get_none]
  intro x hx
  rw [List.mem_reverse] at hx
  obtain ⟨p,hp,rfl⟩:=List.mem_map.1 hx
  obtain ⟨j,hj,hpj⟩:=List.mem_iff_getElem.1 hp
  rw [List.length_take] at hj
  have hpj2:ops[j]? = some p:=by
   rw [List.getElem_take] at hpj
   rw [<- hpj]
   exact List.getElem?_eq_getElem (by omega)
  have hlt:lt p.key o.key = true:=by
   have hs:=hn.rise
   obtain ⟨hil,rfl⟩:=List.getElem?_eq_some_iff.1 ho
   obtain ⟨hjl,rfl⟩:=List.getElem?_eq_some_iff.1 hpj2
   have h1:=List.pairwise_iff_getElem.1 hs j i (by simp [Bt.codes]; omega) (by simp [Bt.codes]; omega) (by omega)
   simpa [Bt.codes,Bt.code] using h1
  exact lt_ne hlt
 rw [e]
 rfl
theorem norm_oldB {ops:List Bt.O} (hn:Bt.Norm ops) {l:List R} (h:Sorted l) {i:Nat} {o:Bt.O} (ho:ops[i]? = some o):oldB (Bt.apply l (ops.take i)) o.key = oldB l o.key:=by
 unfold oldB
 rw [norm_old hn h ho]
theorem norm_step {ops:List Bt.O} (hn:Bt.Norm ops) {l:List R} (h:Sorted l) {i:Nat} {o:Bt.O} (ho:ops[i]? = some o) :
  oldB l o.key<=(rowsB (Bt.apply l (ops.take i))).length/\(rowsB (Bt.apply l (ops.take (i + 1)))).length + oldB l o.key = (rowsB (Bt.apply l (ops.take i))).length + newB o:=by
 have hs:=Bt.apply_sorted (ops.take i) h
 have h1:=op_rowsB hs o
 have h2:=old_le hs o.key
 rw [norm_oldB hn h ho] at h1 h2
 refine ⟨h2,?_⟩
 rw [List.take_add_one,ho]
 show (rowsB (Bt.apply l (ops.take i ++ [o]))).length + _ = _
 rw [Bt.apply_snoc]
 exact h1
theorem row_rowsB {l:List R} {r:R} (h:r ∈ l):(rowB r).length<=(rowsB l).length:=by
 obtain ⟨a,b,rfl⟩:=List.append_of_mem h
 rw [rowsB_append,rowsB_cons,List.length_append,List.length_append]
 omega
def opsN (ops:List Bt.O):Nat:=(ops.map newB).sum
theorem opsN_take (ops:List Bt.O) (i:Nat):opsN (ops.take i)<=opsN ops:=by
 have h:opsN ops = opsN (ops.take i) + opsN (ops.drop i):=by
  unfold opsN
  rw [<- List.sum_append,<- List.map_append,List.take_append_drop]
 omega
theorem apply_rowsB {l:List R} (h:Sorted l):∀ (ops:List Bt.O),(rowsB (Bt.apply l ops)).length<=(rowsB l).length + opsN ops:=by
 intro ops
 induction hz:ops.length generalizing ops with
 | zero =>
  obtain rfl:=List.length_eq_zero_iff.1 hz
  exact Nat.le_refl _
 | succ n ih =>
  obtain ⟨pre,o,rfl⟩:∃ pre o,ops = pre ++ [o]:=by
   have hne:ops ≠ []:=by rintro rfl; simp at hz
   exact ⟨ops.dropLast,ops.getLast hne,(List.dropLast_concat_getLast hne).symm⟩
  have h1:=ih pre (by simpa using hz)
  have h2:=op_rowsB (Bt.apply_sorted pre h) o
  have h3:opsN (pre ++ [o]) = opsN pre + newB o:=by simp [opsN]
  rw [Bt.apply_snoc,h3]
  omega
end Go.Proofs.YthjjfjhajadimaaGreatDoor.So
