/-
  Joined: ORan, VRefR, BWriteS, ARead.
-/
import Derived.Test.YthjjfjhajadimaaGreatDoorP14
import Derived.Deep.DeepCutAuto
import Derived.Outline
import Derived.WalkLawsBesides
import Derived.BigQuiet
namespace Go.Proofs.YthjjfjhajadimaaGreatDoor.So
open Go.Proofs.YthjjfjhajadimaaGreatDoor.Tb
set_option maxRecDepth 100000
structure Ran (a b:Nat) (d d2:DS):Prop where
 ways:d2.ways.length<=d.ways.length + a
 wr:d2.wr<=d.wr + a
 fl:d2.fl<=d.fl + b
 cr:d2.cr = d.cr
 len:d2.dur.length = d.dur.length
 armed:-1<=d.armed->-1<=d2.armed
 still:d.off = false->d.armed = -1->d2.off = false/\d2.armed = -1
section
variable {a b a' b':Nat} {d d1 d2:DS}
theorem Ran.refl (d:DS):Ran 0 0 d d:=⟨Nat.le_refl _,Nat.le_refl _,Nat.le_refl _,rfl,rfl,id,fun h1 h2=>⟨h1,h2⟩⟩
theorem Ran.trans (h:Ran a b d d1) (k:Ran a' b' d1 d2):Ran (a + a') (b + b') d d2 :=
 ⟨by have:=h.ways; have:=k.ways; omega,by have:=h.wr; have:=k.wr; omega,by have:=h.fl; have:=k.fl; omega,k.cr.trans h.cr,k.len.trans h.len,fun e=>k.armed (h.armed e),fun e1 e2=>by obtain ⟨e3,e4⟩:=h.still e1 e2; exact k.still e3 e4⟩
theorem Ran.mono (h:Ran a b d d1) (ha:a<=a') (hb:b<=b'):Ran a' b' d d1 :=
 ⟨by have:=h.ways; omega,by have:=h.wr; omega,by have:=h.fl; omega,h.cr,h.len,h.armed,h.still⟩
theorem Ran.write (d:DS) (i:Int) (s:Txt):Ran 1 0 d (d.writeD i s):=by
 unfold DS.writeD
 split
 ·exact (Ran.refl d).mono (by omega) (by omega)
 ·split
  ·exact (Ran.refl d).mono (by omega) (by omega)
  ·split
   ·rename_i h
    exact ⟨by simp,by simp,by simp,rfl,rfl,id,fun _ e=>by rw [h] at e; omega⟩
   ·refine ⟨by simp,by simp,by simp,rfl,rfl,fun e=>(dec_le e).1,fun h1 h2=>⟨h1,?_⟩⟩
    show dec d.armed = -1
    rw [h2]
    rfl
theorem Ran.flush (d:DS):Ran 0 1 d d.flushD:=by
 unfold DS.flushD
 split
 ·exact (Ran.refl d).mono (by omega) (by omega)
 ·split
  ·rename_i h
   exact ⟨by simp,by simp,by simp,rfl,rfl,id,fun _ e=>by rw [h] at e; omega⟩
  ·refine ⟨by simp,by simp,by simp,rfl,flushTo_length _ _ _,fun e=>(dec_le e).1,fun h1 h2=>⟨h1,?_⟩⟩
   show dec d.armed = -1
   rw [h2]
   rfl
theorem Ran.areaGo {i st:Nat} {v:Txt}:∀ (m k:Nat) (d:DS),Ran m 1 d (DS.areaGo i st v m k d).2
 | 0,k,d=>Ran.flush d
 | m + 1,k,d=>by
  rw [DS.areaGo]
  split
  ·exact (Ran.write d _ _).mono (by omega) (by omega)
  ·exact ((Ran.write d _ _).trans (Ran.areaGo m (k + 1) _)).mono (by omega) (by omega)
theorem Ran.areaW (d:DS) (i n:Int) (st:Nat) (v:Txt):Ran 65536 1 d (d.areaW i n st v).2:=by
 unfold DS.areaW
 split
 ·exact (Ran.refl d).mono (by omega) (by omega)
 ·split
  ·exact (Ran.refl d).mono (by omega) (by omega)
  ·rename_i h
   have h2:=(V.nsec_le (n:=v.length) (m:=min n.toNat 65536)).1 (by omega)
   exact (Ran.areaGo _ _ _).mono (by omega) (by omega)
theorem Ran.slotsD (d:DS) (i v:Int) (p:Txt):Ran 1 1 d (d.slotsD i v p):=by
 unfold DS.slotsD
 split
 ·exact (Ran.refl d).mono (by omega) (by omega)
 ·split
  ·exact (Ran.refl d).mono (by omega) (by omega)
  ·split
   ·exact (Ran.write d _ _).mono (by omega) (by omega)
   ·exact ((Ran.write d _ _).trans (Ran.flush _)).mono (by omega) (by omega)
theorem Ran.make (d:DS) (rows:List R) (v:Nat):Ran 65537 2 d (make d rows v).2:=by
 unfold So.make
 simp only
 split
 ·exact (Ran.areaW d _ _ _ _).mono (by omega) (by omega)
 ·exact ((Ran.areaW d _ _ _ _).trans (Ran.slotsD _ _ _ _)).mono (by omega) (by omega)
theorem Ran.go {j:J.JS} {v:Txt}:∀ (m k:Nat) (d:DS),Ran m 0 d (j.go v m k d).2
 | 0,k,d=>Ran.refl d
 | m + 1,k,d=>by
  rw [J.JS.go]
  split
  ·exact (Ran.write d _ _).mono (by omega) (by omega)
  ·exact ((Ran.write d _ _).trans (Ran.go m (k + 1) _)).mono (by omega) (by omega)
theorem Ran.append (j:J.JS) (d:DS) (v:Txt):Ran j.n 0 d (j.append d v).2.2:=by
 unfold J.JS.append
 split
 ·exact (Ran.refl d).mono (by omega) (by omega)
 ·split
  ·exact (Ran.refl d).mono (by omega) (by omega)
  ·split
   ·exact (Ran.go _ _ _).mono (by omega) (by omega)
   ·exact (Ran.go _ _ _).mono (by omega) (by omega)
theorem append_n (j:J.JS) (d:DS) (v:Txt):(j.append d v).2.1.n = j.n/\(j.append d v).2.1.life = j.life:=by
 unfold J.JS.append
 split
 ·exact ⟨rfl,rfl⟩
 ·split
  ·exact ⟨rfl,rfl⟩
  ·split <;> exact ⟨rfl,rfl⟩
theorem Ran.sync (j:J.JS) (d:DS):Ran 0 1 d (j.sync d).2.2:=by
 unfold J.JS.sync
 split
 ·exact (Ran.refl d).mono (by omega) (by omega)
 ·split <;> exact Ran.flush d
theorem Ran.next (s:St) (d:DS):Ran 65537 2 d (s.next d).2.2:=by
 unfold St.next
 split
 ·exact (Ran.refl d).mono (by omega) (by omega)
 ·split <;> exact Ran.make d _ _
theorem Ran.compact (s:St) (d:DS):Ran 65537 2 d (s.compact d).2.2:=by
 unfold St.compact
 split
 ·exact (Ran.refl d).mono (by omega) (by omega)
 ·exact Ran.next s d
theorem Ran.log (s:St) (d:DS) (t:Txt) (rows:List R) (was:Nat):Ran s.j.n 1 d (s.log d t rows was).2.2:=by
 unfold St.log
 simp only
 split
 ·exact (Ran.append s.j d t).mono (by omega) (by omega)
 ·split
  ·exact ((Ran.append s.j d t).trans (Ran.sync _ _)).mono (by omega) (by omega)
  ·exact ((Ran.append s.j d t).trans (Ran.sync _ _)).mono (by omega) (by omega)
theorem next_n (s:St) (d:DS) (h:d.dur.length<=65536) (hn:s.j.n<=65536):(s.next d).2.1.j.n<=65536:=by
 unfold St.next
 split
 ·exact hn
 ·split
  ·exact hn
  ·show many (make d s.rows (s.ver + 1)).2.dur.length<=65536
   rw [(Ran.make d s.rows (s.ver + 1)).len]
   unfold many
   omega
theorem Ran.commit (s:St) (d:DS) (most:Nat) (ops:List Bt.O) (h:d.dur.length<=65536) (hn:s.j.n<=65536):Ran 131073 3 d (s.commit d most ops).2.2:=by
 unfold St.commit
 split
 ·exact (Ran.refl d).mono (by omega) (by omega)
 ·split
  ·exact (Ran.refl d).mono (by omega) (by omega)
  ·split
   ·exact (Ran.refl d).mono (by omega) (by omega)
   ·split
    ·exact (Ran.refl d).mono (by omega) (by omega)
    ·split
     ·exact (Ran.log s d _ _ _).mono (by omega) (by omega)
     ·simp only
      split
      ·exact (Ran.next s d).mono (by omega) (by omega)
      ·have:=next_n s d h hn
       exact ((Ran.next s d).trans (Ran.log _ _ _ _ _)).mono (by omega) (by omega)
theorem Ran.format (d:DS) (ops:List Bt.O):Ran 65537 2 d (format d ops).2:=by
 unfold So.format
 repeat' split
 all_goals first
  | exact (Ran.refl d).mono (by omega) (by omega)
  | exact Ran.make d _ _
theorem Ran.opens (d:DS):Ran 65537 2 d (opens d).2:=by
 unfold So.opens
 split
 ·exact (Ran.refl d).mono (by omega) (by omega)
 ·split
  ·exact (Ran.refl d).mono (by omega) (by omega)
  ·split
   ·exact (Ran.refl d).mono (by omega) (by omega)
   ·simp only
    split
    ·exact Ran.next _ d
    ·exact Ran.next _ d
theorem write_ends {i:Int} {s:Txt} (hi:0<=i/\i < d.dur.length) (hs:s.length = 256):(d.writeE i s = 0/\(d.writeD i s).off = d.off/\d.off = false)\/(d.writeE i s = 12/\(d.writeD i s).off = true):=by
 cases ho:d.off with
 | true =>
  have hr:d.reach i = 12:=by unfold DS.reach; rw [if_pos ho]
  have e1:d.writeE i s = 12:=by unfold DS.writeE; rw [hr,if_pos (by simp)]
  have e2:d.writeD i s = d:=by unfold DS.writeD; rw [hr,if_pos (by simp)]
  exact .inr ⟨e1,by rw [e2]; exact ho⟩
 | false =>
  have hr:d.reach i = 0:=by unfold DS.reach; rw [if_neg (by rw [ho]; simp),if_neg (by omega)]
  by_cases ha:d.armed = 0
  ·have e1:d.writeE i s = 12:=by unfold DS.writeE; rw [hr,if_neg (by simp),if_neg (by omega),if_pos ha]
   have e2:(d.writeD i s).off = true:=by unfold DS.writeD; rw [hr,if_neg (by simp),if_neg (by omega),if_pos ha]
   exact .inr ⟨e1,e2⟩
  ·have e1:d.writeE i s = 0:=by unfold DS.writeE; rw [hr,if_neg (by simp),if_neg (by omega),if_neg ha]
   have e2:(d.writeD i s).off = d.off:=by unfold DS.writeD; rw [hr,if_neg (by simp),if_neg (by omega),if_neg ha]
   exact .inl ⟨e1,e2.trans ho,rfl⟩
theorem flush_ends (d:DS):(d.flushE = 0/\d.flushD.off = false)\/(d.flushE = 12/\d.flushD.off = true):=by
 unfold DS.flushE DS.flushD
 cases ho:d.off with
 | true=>exact .inr ⟨by simp,by simp [ho]⟩
 | false =>
  by_cases ha:d.armed = 0
  ·rw [if_neg (by simp),if_pos ha,if_neg (by simp),if_pos ha]; exact .inr ⟨rfl,rfl⟩
  ·rw [if_neg (by simp),if_neg ha,if_neg (by simp),if_neg ha]; exact .inl ⟨rfl,rfl⟩
theorem areaGo_ends {i st:Nat} {v:Txt}:∀ (m k:Nat) (d:DS),i + (k + m)<=d.dur.length->((DS.areaGo i st v m k d).1 = 0/\(DS.areaGo i st v m k d).2.off = false)\/((DS.areaGo i st v m k d).1 = 12/\(DS.areaGo i st v m k d).2.off = true)
 | 0,k,d,h=>flush_ends d
 | m + 1,k,d,h=>by
  rw [DS.areaGo]
  rcases write_ends (d:=d) (i:=((i + k:Nat):Int)) (s:=E.sct st (V.piece v k)) ⟨by omega,by omega⟩ (E.sct_length _ (V.piece_le _ _)) with ⟨e,_⟩ | ⟨e,o⟩
  ·rw [e,if_neg (by simp)]
   exact areaGo_ends m (k + 1) _ (by rw [writeD_size]; omega)
  ·rw [e,if_pos (by simp)]
   exact .inr ⟨rfl,o⟩
theorem slots_ends {v:Nat} {p:Txt} (h:2<=d.dur.length) (h1:1<=v) (h2:v<=1099511627776) (hp:p.length<=234):(d.slotsE 0 v p = 0/\(d.slotsD 0 v p).off = false)\/(d.slotsE 0 v p = 12/\(d.slotsD 0 v p).off = true):=by
 have hin:¬ (¬ d.fitS 0\/(v:Int) < 1\/1099511627776 < (v:Int)):=DS.slots_in (i:=0) (by omega) h1 h2
 have hp2:¬ 234 < p.length:=by omega
 unfold DS.slotsE DS.slotsD
 simp only [if_neg hin,if_neg hp2]
 rcases write_ends (d:=d) (i:=(0:Int) + (v:Int) % 2) (s:=E.sct (v:Int).toNat p) ⟨by omega,by omega⟩ (E.sct_length _ hp) with ⟨e,_⟩ | ⟨e,o⟩
 ·rw [e,if_neg (by simp),if_neg (by simp)]
  exact flush_ends _
 ·rw [e,if_pos (by simp),if_pos (by simp)]
  exact .inr ⟨rfl,o⟩
theorem make_ends {rows:List R} {v:Nat} (h64:64<=d.dur.length) (hmax:d.dur.length<=65536) (hs:size rows<=room d.dur.length) (hv:1<=v) (hv2:v<=1099511627776) :
  ((make d rows v).1 = 0/\(make d rows v).2.off = false)\/((make d rows v).1 = 12/\(make d rows v).2.off = true):=by
 have hin:=area_in d.dur.length v
 have hlog:=log_in h64
 have hK:V.nsec (size rows)<=each d.dur.length:=V.nsec_le.1 hs
 have hmay:d.mayA (areaAt d.dur.length v) (each d.dur.length) v:=⟨by omega,by omega,by omega,by omega,by omega⟩
 have hea:each d.dur.length<=65536:=by unfold each; omega
 have hW:d.areaW (areaAt d.dur.length v) (each d.dur.length) v (snapB rows) = DS.areaGo (areaAt d.dur.length v) v (snapB rows) (V.nsec (size rows)) 0 d:=by
  unfold DS.areaW
  rw [if_neg (fun h=>h hmay),if_neg (by simp only [Int.toNat_natCast,Nat.min_eq_left hea]; unfold room at hs; unfold size at hs; omega)]
  simp only [Int.toNat_natCast]
  rfl
 have hsl:(slotVal d.dur.length (size rows)).length<=234:=by
  have:=slotVal_length (n:=d.dur.length) (k:=size rows) (by omega) (by unfold room at hs; omega)
  omega
 unfold make
 simp only
 rw [hW]
 have hl:(DS.areaGo (areaAt d.dur.length v) v (snapB rows) (V.nsec (size rows)) 0 d).2.dur.length = d.dur.length:=(Ran.areaGo _ _ _).len
 rcases areaGo_ends (i:=areaAt d.dur.length v) (st:=v) (v:=snapB rows) (V.nsec (size rows)) 0 d (by omega) with ⟨e,o⟩ | ⟨e,o⟩
 ·rw [e,if_neg (by simp)]
  exact slots_ends (by omega) hv hv2 hsl
 ·rw [e,if_pos (by simp)]
  exact .inr ⟨e,o⟩
end
end Go.Proofs.YthjjfjhajadimaaGreatDoor.So
namespace Go.Proofs.YthjjfjhajadimaaGreatDoor
open Go.RowKit Go.WideShapes
set_option maxRecDepth 100000
theorem nsec_bound {n:Nat} (h:n<=15335424):V.nsec n<=65536:=by unfold V.nsec; omega
theorem builder_qt {T e:TypeId} {B b:Nat} {p:Value} {bs:List Value} {w w':World} (h:Lib.BuilderAt T e B b p bs w) (q:Qt w w'):Lib.BuilderAt T e B b p bs w':=by
 obtain ⟨hB,v,hbk,hown,hne⟩:=h
 exact ⟨hB,v,(q.block b (lt_of_block hbk) (fun e=>e)).trans hbk,ownsRow_kept hown q (fun _ _ e=>e),hne⟩
theorem bwriteS_any (B b:Nat) (bs:List Value) (s:ByteArray) (w:World) (h:Lib.BuilderAt 121 5 B b (.pointer (some ⟨b,0,none⟩)) bs w) (hlen:bs.length + s.size<=140737488355328) (hBw:B<=w.heap.size) :
  Calls Tryz.prog 198 #[.pointer (some ⟨b,0,none⟩),.string s] w fun e w'=>e = .returned (.tuple #[.int .i64 s.size,.nilIface])/\Lib.BuilderAt 121 5 B b (.pointer (some ⟨b,0,none⟩)) (bs ++ Lib.strCells s) w'/\Below B w w':=by
 obtain ⟨i0,hi,hz0,hz1,hz2⟩:=info_parts infoByte3
 obtain ⟨hB,v,hbk,hown,hne⟩:=h
 have c0:w.cell? ⟨b,0,none⟩ = some (.pointer (some ⟨b,0,none⟩)):=by rw [Lib.cell_of_heap hbk]; rfl
 have c1:w.cell? ⟨b,1,none⟩ = some v:=by rw [Lib.cell_of_heap hbk]; rfl
 go_enter Tryz.func198,Tryz.ntmps198
 go_wp2_with fail
 refine (bcheck_used b w c0).mono ?_
 rintro e w1 ⟨rfl,rfl⟩
 go_wp2_with (at_builtin; refine Lib.wpList_append_own_string _ rfl _ _ 111 9 rfl B 5 i0 Tryz.underlying111 Tryz.underlying9 hi hz0 hz1 hz2 _ _ _ rfl hown s rfl ?c3 ?c4 ?c5 ?_)
 case c3=>unfold maxLen; omega
 case c4=>omega
 case c5=>omega
 intro v' w2 hown' hgrow _
 have hlt:=lt_of_block hbk
 have hb2:w2.heap[b]? = some (.cells #[.pointer (some ⟨b,0,none⟩),v] 121 (0,0)):=by
  rw [hgrow.block b hlt (fun e=>hne e.symm)]
  exact hbk
 have d0:w2.cell? ⟨b,0,none⟩ = some (.pointer (some ⟨b,0,none⟩)):=by rw [Lib.cell_of_heap hb2]; rfl
 have d1:w2.cell? ⟨b,1,none⟩ = some v:=by rw [Lib.cell_of_heap hb2]; rfl
 have f1:w2.frozen? ⟨b,1,none⟩ = false:=Lib.frozen_of_heap hb2 1
 obtain ⟨ao,n',cap,rfl⟩:∃ ao n' cap,v' = .slice ao n' cap:=by
  rcases hown'.2 with ⟨hv,_⟩ | ⟨g,cap,cur,hv,_⟩
  ·exact ⟨_,_,_,hv⟩
  ·exact ⟨_,_,_,hv⟩
 go_wp2
 go_ret2
 refine ⟨rfl,?_,?_⟩
 ·exact Lib.BuilderAt.put (T:=121) (e:=5) hB hb2 (bs':=bs ++ Lib.strCells s) (by simpa [Lib.strCells_length] using hown') neBuilder
 ·exact ((Below.refl B w).grown hgrow hBw (fun k hk=>(hown.lt k hk).1)).setCell (p:=⟨b,1,none⟩) hB _
def ARAt (w:World) (D:Nat->List UInt8) (st z:Nat) (iv:Value) (wr:World):Prop :=
 ∃ (k:Nat) (out:List UInt8),k<=V.nsec z/\iv = .int .i64 k/\V.readTo D st z k = some out/\Lib.BuilderAt 121 5 w.heap.size w.heap.size (.pointer (some ⟨w.heap.size,0,none⟩)) (Lib.byteCells out) wr/\Below w.heap.size w wr
def ReadP9 (ad:Nat->Addr) (S:Nat->Prop) (w0:World) (b:Nat) (d:DS) (r:List UInt8 × Nat) (e:Ending) (w':World):Prop:=e = .returned (readE9 ad r)/\DiskAt w' b d S/\Keeps S w0 w'
theorem area_noR {d:DS} {i n:Int} {st:Nat} {z:Int} (h:d.refN i n st z ≠ 0):d.areaR i n st z = ([],d.refN i n st z):=by
 unfold DS.refN at h ⊢
 unfold DS.areaR
 split
 ·rfl
 ·rename_i h1
  rw [if_neg h1] at h
  split
  ·rfl
  ·rename_i h2
   rw [if_neg h2] at h
   split
   ·rfl
   ·rename_i h3
    rw [if_neg h3] at h
    exact absurd rfl h
set_option maxHeartbeats 3200000 in
theorem aread_any (ad:Nat->Addr):AReadH ad:=by
 intro S w0 w b d R hS h i n st z hst hn
 have RF:=arefuse_any ad (R.errs' hS) h i n st z hn
 have PST:=Lib.hid (fun W (q:Qt w W) (r:List UInt8 × Nat)=>(show ReadP9 ad S w0 b d r (.returned (readE9 ad r)) W from ⟨rfl,DiskAt.qt h q,keeps_qt hS q⟩))
 show Calls _ _ _ w (ReadP9 ad S w0 b d (d.areaR i n st z))
 by_cases hz:d.refN i n st z = 0
 ·obtain ⟨hm,hz0,hr,ho⟩:=area_yes hz
  rw [hz,errV_zero] at RF
  obtain ⟨z,rfl⟩:=Int.eq_ofNat_of_zero_le hz0
  rw [Int.toNat_natCast] at hr
  obtain ⟨i,rfl⟩:=Int.eq_ofNat_of_zero_le hm.1
  have FIN:=Lib.hid (show d.areaR (i:Int) n st (z:Int) = match V.readA (fun k=>d.read (i + k)) st z with | some out=>(out,0) | none=>([],15) by
   unfold DS.areaR
   rw [if_neg (by rintro (k | k); exact k hm; omega),if_neg (by rw [Int.toNat_natCast]; omega),if_neg (by rw [ho]; simp),Int.toNat_natCast,Int.toNat_natCast]
   rfl)
  have hz2:z<=15335424:=by omega
  have hK:=nsec_bound hz2
  have hdl:d.dur.length<=65536:=by obtain ⟨gd,mb,uv,P,_⟩:=h; exact P.ok.le
  have hik:i + V.nsec z<=d.dur.length:=by
   have h1:=hm.2.2.2.1
   have h3:=hm.2.1
   have h4:=hm.2.2.1
   have h2:V.nsec z<=n.toNat:=V.nsec_le.1 (by omega)
   omega
  have h0:=hm.2.2.2.2
  have SC:=asecs_any (z:Int)
  rw [secsZ_nat] at SC
  have RD:=Lib.hid (fun (k:Nat) (hk:k < V.nsec z) (W:World) (q:Qt w W)=>(show Calls Tryz.prog 110 #[.pointer (some ⟨b,0,none⟩),.int .i64 ((i:Int) + (k:Int))] W fun e w'=>e = .returned (.tuple #[.string ⟨(d.read (i + k)).toArray⟩,.nilIface])/\W = w' from by
   have h1:=room_read R (keeps_qt hS q) (DiskAt.qt h q) ((i + k:Nat):Int)
   have hr:d.reach ((i + k:Nat):Int) = 0:=DS.reach_calm ho (by omega)
   have he:d.readE ((i + k:Nat):Int) = d.read (i + k):=by unfold DS.readE; rw [if_pos hr,Int.toNat_natCast]
   rw [hr,he,Int.natCast_add,errV_zero] at h1
   exact h1))
  have OP:=Lib.hid (fun (s:ByteArray) (W:World) (q:Qt w W)=>open_any (ad 6) (ad 3) (ad 7) st s W hst (R.errs' (keeps_qt hS q)).e3 (R.tab' (keeps_qt hS q)))
  have EC:=Lib.hid (fun (W:World) (q:Qt w W)=>(show W.cell? ⟨8,0,none⟩ = some (.iface 335 (.pointer (some (ad 15)))) from (R.errs' (keeps_qt hS q)).cells 14 _ rfl))
  have HZ:=Lib.hid hz2
  have HKB:=Lib.hid hK
  have HI:=Lib.hid (show i<=65536 by omega)
  have HBK:=Lib.hid (heap_alloc_new w (.cells #[.pointer none,.slice none 0 0] 121))
  have B0:=Lib.hid ((Below.refl w.heap.size w).alloc (Nat.le_refl _) (.cells #[.pointer none,.slice none 0 0] 121))
  have SC2:=Lib.hid (fun W=>SC W (by have:=HZ.out; omega))
  clear hm h hr hst h0 hz R hS ho hn hz0 hz2 hdl hik hK SC
  go_enter Tryz.func144,Tryz.ntmps144
  go_wp2_with fail
  refine RF.mono ?_
  rintro e w1 ⟨rfl,rfl⟩
  go_wp2_with fail
  refine (Tryz.Builder_Grow_fresh w1.heap.size w1.heap.size z _ (Nat.le_refl _) HBK.out (by simp) (by have:=HZ.out; omega)).mono ?_
  rintro e w2 ⟨rfl,hb1,hB1⟩
  have HB1:=Lib.hid hb1
  have HB2:=Lib.hid (B0.out.trans hB1)
  clear hb1 hB1
  go_wp2_with fail
  refine (SC2.out _).mono ?_
  rintro e w3 ⟨rfl,rfl⟩
  go_wp2
  go_loopw [32] (fun iv wr=>ARAt w1 (fun k=>d.read (i + k)) st z iv wr) (fun iv _=>V.nsec z - (intOf iv).toNat)
  case atStart=>exact ⟨0,[],Nat.zero_le _,rfl,rfl,HB1.out,HB2.out⟩
  case round =>
   obtain ⟨k,out,hk,rfl,hrd,hbr,hBr⟩:=hrel
   have hol:=V.readTo_length k hk out hrd
   have HQ:=Lib.hid (Qt.of_below hBr)
   by_cases hlt:k < V.nsec z
   ·have h234:=V.nsec_lt hlt
    have R1:=RD.out k hlt wr HQ.out
    have RT:V.readTo (fun k=>d.read (i + k)) st z (k + 1) = (E.openS st (d.read (i + k))).bind fun p=>if p.length = min 234 (z - out.length) then some (out ++ p) else none:=by rw [V.readTo,hrd]; rfl
    have hk65:k<=65536:=by have:=HKB.out; omega
    have hki:wrap64 ((i:Int) + (k:Int)) = (i:Int) + (k:Int):=by have:=HI.out; unfold wrap64; omega
    have hk1:wrap64 ((k:Int) + 1) = (k:Int) + 1:=by unfold wrap64; omega
    have zlt:decide ((k:Int) < (V.nsec z:Int)) = true:=decide_eq_true (by omega)
    have zlt':decide (k < V.nsec z) = true:=decide_eq_true hlt
    have PS:=Lib.hid (apiece_any z k h234 HZ.out)
    have O1:=OP.out ⟨(d.read (i + k)).toArray⟩ wr HQ.out
    rw [show (⟨(d.read (i + k)).toArray⟩:ByteArray).data.toList = d.read (i + k) from rfl] at O1
    have FNO:=Lib.hid (fun (hn:V.readTo (fun k=>d.read (i + k)) st z (k + 1) = none)=>(show d.areaR (i:Int) n st (z:Int) = ([],15) from by
     have:V.readA (fun k=>d.read (i + k)) st z = none:=V.readTo_none hn _ hlt
     rw [FIN.out,this]))
    have HLT:=Lib.hid hlt
    obtain ⟨m,hm⟩:∃ m,min 234 (z - k * 234) = m:=⟨_,rfl⟩
    have hm2:min 234 (z - out.length) = m:=by rw [hol,<- hm]; omega
    rw [hm] at PS
    rw [hm2] at RT
    cases hq:E.openS st (d.read (i + k)) with
    | none =>
     rw [hq] at RT O1
     have FN:=Lib.hid (FNO.out RT)
     have O2:=Lib.hid (show Calls Tryz.prog 170 #[.int .u64 st,.string ⟨(d.read (i + k)).toArray⟩] wr fun e w'=>e = .returned (.tuple #[.string ⟨#[]⟩,.bool false])/\Qt wr w' from O1)
     clear RT O1 hq hrd hol h234 hlt hbr hBr PS hm hm2 hk
     generalize (⟨(d.read (i + k)).toArray⟩:ByteArray) = X at *
     go_wp2_with fail
     refine R1.mono ?_
     rintro e3 w5 ⟨rfl,rfl⟩
     go_wp2_with fail
     refine O2.out.mono ?_
     rintro e4 w6 ⟨rfl,q6⟩
     have Q6:=Lib.hid (Qt.trans HQ.out q6)
     have e15:=EC.out _ Q6.out
     clear q6
     go_wp2
     go_quiet (fail)
     go_wp2
     go_ret2
     rw [FN.out]
     exact PST.out _ (Keeps.drewN Q6.out _) ([],15)
    | some p =>
     rw [hq] at RT O1
     rw [Option.bind_some] at RT
     have O2:=Lib.hid (show Calls Tryz.prog 170 #[.int .u64 st,.string ⟨(d.read (i + k)).toArray⟩] wr fun e w'=>e = .returned (.tuple #[.string ⟨p.toArray⟩,.bool true])/\Qt wr w' from O1)
     obtain ⟨Y,hY⟩:∃ Y:ByteArray,Y = ⟨p.toArray⟩:=⟨_,rfl⟩
     have hYl:Y.data.toList = p:=by rw [hY]
     have hYz:Y.size = p.length:=by rw [<- dlen7,hYl]
     rw [<- hY] at O2
     by_cases hp:p.length = m
     ·rw [if_pos hp] at RT
      have zp:((Y.size:Int) != (m:Int)) = false:=by rw [bne_eq_false_iff_eq,hYz,hp]
      have hbd:out.length + Y.size<=140737488355328:=by have:=HZ.out; omega
      have hol2:(Lib.byteCells out).length + Y.size<=140737488355328:=by rw [Lib.byteCells_length]; exact hbd
      have HBT:=Lib.hid hbr
      have HBW:=Lib.hid hBr
      have HY:=Lib.hid (show Lib.byteCells out ++ Lib.strCells Y = Lib.byteCells (out ++ p) by rw [Lib.byteCells_append,<- hYl]; rfl)
      have HRT:=Lib.hid RT
      clear RT O1 hq hrd hol h234 hlt hbr hBr hm hm2 hk hYl hYz hY hp hbd
      generalize (⟨(d.read (i + k)).toArray⟩:ByteArray) = X at *
      go_wp2_with fail
      refine R1.mono ?_
      rintro e3 w5 ⟨rfl,rfl⟩
      go_wp2_with fail
      refine O2.out.mono ?_
      rintro e4 w6 ⟨rfl,q6⟩
      have B6:=Lib.hid (HBW.out.trans (Keeps.below q6 HBW.out.size (fun _ _ e=>e.elim)))
      have T6:=Lib.hid (builder_qt HBT.out q6)
      clear q6
      go_wp2_with fail
      refine (PS.out _).mono ?_
      rintro e5 w7 ⟨rfl,rfl⟩
      go_wp2_with fail
      refine (bwriteS_any w1.heap.size w1.heap.size (Lib.byteCells out) Y _ T6.out hol2 B6.out.size).mono ?_
      rintro e6 w8 ⟨rfl,hb8,hB8⟩
      rw [HY.out] at hb8
      have FN:=Lib.hid (show ARAt w1 (fun k=>d.read (i + k)) st z (.int .i64 ((k:Int) + 1)) w8 from ⟨k + 1,_,HLT.out,by push_cast; rfl,HRT.out,hb8,B6.out.trans hB8⟩)
      clear hb8 hB8
      go_wp2
      exact ⟨FN.out,by have:=HLT.out; simp [intOf]; omega⟩
     ·rw [if_neg hp] at RT
      have FN:=Lib.hid (FNO.out RT)
      have zp:((Y.size:Int) != (m:Int)) = true:=by rw [bne_iff_ne,hYz]; omega
      clear RT O1 hq hrd hol h234 hlt hbr hBr hm hm2 hk hYl hYz hY hp
      generalize (⟨(d.read (i + k)).toArray⟩:ByteArray) = X at *
      go_wp2_with fail
      refine R1.mono ?_
      rintro e3 w5 ⟨rfl,rfl⟩
      go_wp2_with fail
      refine O2.out.mono ?_
      rintro e4 w6 ⟨rfl,q6⟩
      have Q6:=Lib.hid (Qt.trans HQ.out q6)
      have e15:=EC.out _ Q6.out
      clear q6
      go_wp2_with fail
      refine (PS.out _).mono ?_
      rintro e5 w7 ⟨rfl,rfl⟩
      go_wp2
      go_quiet (fail)
      go_wp2
      go_ret2
      rw [FN.out]
      exact PST.out _ (Keeps.drewN Q6.out _) ([],15)
   ·obtain rfl:k = V.nsec z:=by omega
    have hfull:out.length = z:=by rw [hol]; have:=V.nsec_end z; omega
    have zlt:decide ((V.nsec z:Int) < (V.nsec z:Int)) = false:=decide_eq_false (by omega)
    have FN:=Lib.hid (show d.areaR (i:Int) n st (z:Int) = (out,0) from by
     have:V.readA (fun k=>d.read (i + k)) st z = some out:=hrd
     rw [FIN.out,this])
    have HS:=Lib.hid (Tryz.Builder_String_any w1.heap.size w1.heap.size _ wr (.inr hbr) hBr.size)
    have HBR:=Lib.hid hBr
    clear hbr hBr hlt hrd hol hfull hk
    go_wp2_with fail
    refine HS.out.mono ?_
    rintro e w2 ⟨rfl,hB2⟩
    have Q2:=Lib.hid (Qt.of_below (HBR.out.trans hB2))
    clear hB2
    go_wp2
    go_ret2
    rw [FN.out]
    exact PST.out _ Q2.out (out,0)
 ·have FIN:=Lib.hid (area_noR hz)
  have hp:=Nat.pos_of_ne_zero hz
  have FM:=Lib.hid (PST.out w (Qt.refl w) (d.areaR i n st z))
  have HV:=Lib.hid (show readE9 ad (d.areaR i n st z) = .tuple #[.string ⟨#[]⟩,.iface 335 (.pointer (some (ad (d.refN i n st z))))] by rw [FIN.out]; unfold readE9; rw [errV_pos ad hp])
  rw [errV_pos ad hp] at RF
  rw [HV.out] at FM
  clear hz h hS hp HV FIN PST
  generalize d.refN i n st z = x at *
  generalize d.areaR i n st z = y at *
  go_enter Tryz.func144,Tryz.ntmps144
  go_wp2_with fail
  refine RF.mono ?_
  rintro e w1 ⟨rfl,rfl⟩
  go_wp2
  go_ret2
  exact FM.out
end Go.Proofs.YthjjfjhajadimaaGreatDoor
