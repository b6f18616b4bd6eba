/-
  Joined: SCrash, SNew, DOwn, SPair, SSize, VRef, VCrashP, VTear, CBase.
-/
import Derived.Test.YthjjfjhajadimaaGreatDoorP12
import Derived.Laws.BitsAllLaws
import Derived.LoopTactic
import Derived.WalkLawsBesides
import Derived.Outline
namespace Go.Proofs.YthjjfjhajadimaaGreatDoor
open Go.RowKit Go.WideShapes
set_option maxRecDepth 100000
end Go.Proofs.YthjjfjhajadimaaGreatDoor
namespace Go.Proofs.YthjjfjhajadimaaGreatDoor
open Go.RowKit
set_option maxRecDepth 100000
end Go.Proofs.YthjjfjhajadimaaGreatDoor
namespace Go.Proofs.YthjjfjhajadimaaGreatDoor
open Go.RowKit Go.WideShapes
set_option maxRecDepth 100000
def roomZ (n:Int):Int:=234 * min (max n 0) 65536
def secsZ (x:Int):Int:=if x<=0 then 0 else (x - 1) / 234 + 1
theorem roomZ_nat (n:Int):roomZ n = ((234 * min n.toNat 65536:Nat):Int):=by unfold roomZ; omega
theorem secsZ_nat (n:Nat):secsZ (n:Int) = ((V.nsec n:Nat):Int):=by unfold secsZ V.nsec; split <;> omega
end Go.Proofs.YthjjfjhajadimaaGreatDoor
namespace Go.Proofs.YthjjfjhajadimaaGreatDoor
set_option maxRecDepth 100000
def V.waysA (i st:Nat) (v:List UInt8) (j:Nat):List (Nat × List UInt8):=(List.range j).map fun k=>(i + k,E.sct st (V.piece v k))
theorem V.waysA_succ (i st:Nat) (v:List UInt8) (j:Nat):V.waysA i st v (j + 1) = V.waysA i st v j ++ [(i + j,E.sct st (V.piece v j))]:=by
 unfold V.waysA; rw [List.range_succ,List.map_append]; rfl
theorem V.waysA_get (i st:Nat) (v:List UInt8) {j k:Nat} (h:k < j):(V.waysA i st v j)[k]? = some (i + k,E.sct st (V.piece v k)):=by
 unfold V.waysA; simp [h]
theorem V.waysA_length (i st:Nat) (v:List UInt8) (j:Nat):(V.waysA i st v j).length = j:=by simp [V.waysA]
theorem area_go {i st:Nat} {v:List UInt8}:∀ (m k:Nat) (d:DS),d.off = false->d.ways = V.waysA i st v k->k + m = V.nsec v.length->i + (k + m)<=d.dur.length->-1<=d.armed ->
  ((0<=d.armed/\d.armed<=m)/\∃ d2,DS.areaGo i st v m k d = (12,d2)/\d2.off = true/\d2.dur = d.dur/\d2.ways = V.waysA i st v (min (k + d.armed.toNat + 1) (k + m))/\d2.cr = d.cr/\d2.fl = d.fl/\d2.wr<=d.wr + m) \/
  (¬ (0<=d.armed/\d.armed<=m)/\∃ d2,DS.areaGo i st v m k d = (0,d2)/\d2.off = false/\d2.dur = flushTo d.dur (V.waysA i st v (k + m)) (k + m)/\d2.ways = []/\d2.cr = d.cr/\d2.fl = d.fl + 1/\d2.wr = d.wr + m/\-1<=d2.armed/\d2.armed<=d.armed)
 | 0,k,d,ho,hw,hk,hl,ha=>by
  rw [DS.areaGo]
  unfold DS.flushE DS.flushD
  rw [ho]
  by_cases h0:d.armed = 0
  ·left
   refine ⟨by omega,{ d with off:=true },by rw [if_neg (by simp),if_pos h0,if_neg (by simp),if_pos h0],rfl,rfl,?_,rfl,rfl,by simp⟩
   show d.ways = _
   rw [hw,h0]
   congr 1
   omega
  ·right
   have hd:=dec_le ha
   refine ⟨by omega,{ d with dur:=flushTo d.dur d.ways d.ways.length,ways:=[],armed:=dec d.armed,fl:=d.fl + 1 },by rw [if_neg (by simp),if_neg h0,if_neg (by simp),if_neg h0,<- ho],ho,?_,rfl,rfl,rfl,rfl,hd.1,hd.2⟩
   show flushTo d.dur d.ways d.ways.length = _
   rw [hw,V.waysA_length]
   rfl
 | m + 1,k,d,ho,hw,hk,hl,ha=>by
  have hr:d.reach ((i + k:Nat):Int) = 0:=DS.reach_calm ho (by omega)
  have hlen:=E.sct_length st (V.piece_le v k)
  rw [DS.areaGo]
  by_cases h0:d.armed = 0
  ·have hE:d.writeE ((i + k:Nat):Int) (E.sct st (V.piece v k)) = 12:=by unfold DS.writeE; rw [if_neg (by rw [hr]; simp),if_neg (by rw [hlen]; simp),if_pos h0]
   have hD:d.writeD ((i + k:Nat):Int) (E.sct st (V.piece v k)) = { d with ways:=d.ways ++ [(i + k,E.sct st (V.piece v k))],off:=true }:=by
    unfold DS.writeD; rw [if_neg (by rw [hr]; simp),if_neg (by rw [hlen]; simp),if_pos h0]; rfl
   left
   refine ⟨by omega,{ d with ways:=d.ways ++ [(i + k,E.sct st (V.piece v k))],off:=true },by rw [if_pos (by rw [hE]; decide),hE,hD],rfl,rfl,?_,rfl,rfl,by simp⟩
   show d.ways ++ _ = _
   rw [hw,<- V.waysA_succ,h0]
   congr 1
   omega
  ·have hE:d.writeE ((i + k:Nat):Int) (E.sct st (V.piece v k)) = 0:=by unfold DS.writeE; rw [if_neg (by rw [hr]; simp),if_neg (by rw [hlen]; simp),if_neg h0]
   have hD:d.writeD ((i + k:Nat):Int) (E.sct st (V.piece v k)) = { d with ways:=d.ways ++ [(i + k,E.sct st (V.piece v k))],armed:=dec d.armed,wr:=d.wr + 1 }:=by
    unfold DS.writeD; rw [if_neg (by rw [hr]; simp),if_neg (by rw [hlen]; simp),if_neg h0]; rfl
   rw [if_neg (by rw [hE]; simp),hD]
   have hd:=dec_le ha
   have hds:dec d.armed = if 0 < d.armed then d.armed - 1 else d.armed:=rfl
   rcases area_go m (k + 1) { d with ways:=d.ways ++ [(i + k,E.sct st (V.piece v k))],armed:=dec d.armed,wr:=d.wr + 1 } ho (by show d.ways ++ _ = _; rw [hw,<- V.waysA_succ]) (by omega) (show i + (k + 1 + m)<=d.dur.length by omega) hd.1 with ⟨⟨b1,b2⟩,d2,e1,e2,e3,e4,e5,e6,e7⟩ | ⟨b,d2,e1,e2,e3,e4,e5,e6,e7,e8,e9⟩
   ·have b1:0<=dec d.armed:=b1
    have b2:dec d.armed<=m:=b2
    left
    refine ⟨by split at hds <;> omega,d2,e1,e2,e3,?_,e5,e6,?_⟩
    ·rw [e4]
     congr 1
     show min (k + 1 + (dec d.armed).toNat + 1) (k + 1 + m) = _
     split at hds <;> omega
    ·have:d2.wr<=d.wr + 1 + m:=e7
     omega
   ·have b:¬ (0<=dec d.armed/\dec d.armed<=m):=b
    right
    have e9:d2.armed<=dec d.armed:=e9
    have e7:d2.wr = d.wr + 1 + m:=e7
    refine ⟨by split at hds <;> omega,d2,e1,e2,?_,e4,e5,e6,by omega,e8,by omega⟩
    rw [e3,show k + 1 + m = k + (m + 1) by omega]
namespace V
theorem set_other {D:List (List UInt8)} {p q:Nat} (s:List UInt8) (h:p ≠ q):(D.set p s).getD q [] = D.getD q []:=by simp [List.getD,h]
theorem set_same {D:List (List UInt8)} {p:Nat} (s:List UInt8) (h:p < D.length):(D.set p s).getD p [] = s:=by simp [List.getD,h]
theorem flush_in (D:List (List UInt8)) (i st:Nat) (v:List UInt8) (K:Nat):∀ k,k<=K->i + k<=D.length->∀ j,j < k->(flushTo D (waysA i st v K) k).getD (i + j) [] = E.sct st (piece v j)
 | 0,_,_,j,hj=>by omega
 | k + 1,hk,hD,j,hj=>by
  rw [flushTo,waysA_get i st v (show k < K by omega)]
  by_cases h:j = k
  ·subst h
   exact set_same _ (by rw [flushTo_length]; omega)
  ·exact (set_other _ (show i + k ≠ i + j by omega)).trans (flush_in D i st v K k (by omega) (by omega) j (by omega))
theorem flush_out (D:List (List UInt8)) (i st:Nat) (v:List UInt8) (K:Nat):∀ k,k<=K->∀ q,(q < i\/i + k<=q)->(flushTo D (waysA i st v K) k).getD q [] = D.getD q []
 | 0,_,_,_=>rfl
 | k + 1,hk,q,hq=>by
  rw [flushTo,waysA_get i st v (show k < K by omega)]
  exact (set_other _ (show i + k ≠ q by omega)).trans (flush_out D i st v K k (by omega) q (by omega))
theorem crash_out (f:FT) (D:List (List UInt8)) (i st:Nat) (v:List UInt8) (K:Nat):∀ k,k<=K->∀ q,(q < i\/i + k<=q)->(crashTo f D (waysA i st v K) k).getD q [] = D.getD q []
 | 0,_,_,_=>rfl
 | k + 1,hk,q,hq=>by
  rw [crashTo,waysA_get i st v (show k < K by omega)]
  exact (set_other _ (show i + k ≠ q by omega)).trans (crash_out f D i st v K k (by omega) q (by omega))
theorem crash_in (f:FT) (D:List (List UInt8)) (i st:Nat) (v:List UInt8) (K:Nat):∀ k,k<=K->i + k<=D.length->∀ j,j < k->(crashTo f D (waysA i st v K) k).getD (i + j) [] = E.tear (D.getD (i + j) []) (E.sct st (piece v j)) (f.done j)
 | 0,_,_,j,hj=>by omega
 | k + 1,hk,hD,j,hj=>by
  rw [crashTo,waysA_get i st v (show k < K by omega)]
  by_cases h:j = k
  ·subst h
   refine (set_same _ (by rw [crashTo_length]; omega)).trans ?_
   rw [crash_out f D i st v K j (by omega) (i + j) (by omega)]
   rfl
  ·exact (set_other _ (show i + k ≠ i + j by omega)).trans (crash_in f D i st v K k (by omega) (by omega) j (by omega))
structure Below (D:List (List UInt8)) (i n o:Nat):Prop where
 len:∀ j,j < n->(D.getD (i + j) []).length = 256
 back:∀ j,j < n->E.back (D.getD (i + j) [])<=o
end V
end Go.Proofs.YthjjfjhajadimaaGreatDoor
namespace Go.Proofs.YthjjfjhajadimaaGreatDoor
open Go.RowKit Go.WideShapes
set_option maxRecDepth 100000
theorem ret_i {k:IntKind} {a b:Int} (h:a = b):Ending.returned (.int k a) = .returned (.int k b):=by rw [h]
end Go.Proofs.YthjjfjhajadimaaGreatDoor
