/-
  Joined: OCommit, OBlank, OFixP, OSvR, OLit, OSameR.
-/
import Derived.Test.YthjjfjhajadimaaGreatDoorP41
import Derived.BigQuiet
import Derived.LoopTactic
namespace Go.Proofs.YthjjfjhajadimaaGreatDoor.So
open Go.Proofs.YthjjfjhajadimaaGreatDoor.Tb
set_option maxRecDepth 100000
section
variable {D:List Txt} {d:DS} {snap:List R} {recs:List Txt} {s:St}
theorem Live.calm (h:Live D s d snap recs):d.Calm:=by
 refine ⟨?_,h.alive.on⟩
 rw [h.alive.life.ways,List.take_length,J.stream_length,Nat.sub_self]
 rfl
theorem Live.len (h:Live D s d snap recs):d.dur.length = D.length:=h.alive.life.len
theorem Live.rest (h:Live D s d snap recs):Rest d.dur s.ver snap s.rows recs:=by
 have e:(d.crashD ⟨[],0,0⟩).dur = d.dur:=by
  show crashTo _ d.dur d.ways d.ways.length = _
  rw [h.calm.ways]
  rfl
 rw [<- e]
 exact h.crash _
theorem Live.sorted (h:Live D s d snap recs):Sorted s.rows:=applyAll_sorted h.fresh.sorted h.rows
theorem Live.up (h:Live D s d snap recs):s.down d = false:=by
 unfold St.down
 rw [h.dead,h.alive.on,h.life]
 simp
def LeftBy (d2:DS) (rows rows2:List R):Prop:=∀ f:FT,∃ v' snap' r recs',(r = rows\/r = rows2)/\Rest (d2.crashD f).dur v' snap' r recs'
theorem Live.commit (h:Live D s d snap recs) {most:Nat} (hm:most<=229 + 233 * (many D.length - 1)) (hm2:most < 4294967296) (hv:s.ver + 2<=1099511627776) (ha:-1<=d.armed) (ops:List Bt.O) (hfit:∀ o ∈ Bt.normal ops,Bt.Fit o) (hlen:(Bt.normal ops).length < 18446744073709551616) :
  (Bt.normal ops = []/\s.commit d most ops = (0,s,d)) \/
  (most < (Bt.encB (Bt.normal ops)).length/\s.commit d most ops = (18,s,d)) \/
  (room D.length < s.after ops/\s.commit d most ops = (17,s,d)) \/
  (∃ D2 s' d2 snap2 recs2,s.commit d most ops = (0,s',d2)/\Live D2 s' d2 snap2 recs2/\D2.length = D.length/\s'.rows = Bt.apply s.rows ops/\s.ver<=s'.ver/\s'.ver<=s.ver + 1) \/
  (∃ s' d2,s.commit d most ops = (12,s',d2)/\d2.off = true/\s'.rows = s.rows/\s'.ver = s.ver/\s'.dead = true/\LeftBy d2 s.rows (Bt.apply s.rows ops)):=by
 have hl:=h.len
 have h2:=log_in h.fresh.low
 have hmg:=many_ge h.fresh.low
 have hlo:=h.fresh.low
 have heg:=each_ge h.fresh.low
 unfold St.commit
 rw [if_neg (by rw [h.up]; simp)]
 by_cases h0:Bt.normal ops = []
 ·exact .inl ⟨h0,by rw [if_pos h0]⟩
 rw [if_neg h0]
 by_cases h1:most < (Bt.encB (Bt.normal ops)).length
 ·exact .inr (.inl ⟨h1,by rw [if_pos h1]⟩)
 rw [if_neg h1,hl]
 by_cases h3:room D.length < s.after ops
 ·exact .inr (.inr (.inl ⟨h3,by rw [if_pos h3]⟩))
 rw [if_neg h3]
 have hap:Bt.apply s.rows (Bt.normal ops) = Bt.apply s.rows ops:=Bt.apply_normal h.sorted ops
 have hD:=Bt.decD_enc (Bt.normal_norm ops) hfit hlen []
 rw [List.append_nil,if_pos rfl] at hD
 have hsz:size (Bt.apply s.rows (Bt.normal ops))<=room D.length:=by
  rw [hap]
  unfold St.after at h3
  omega
 by_cases h4:s.j.fits ((Bt.encB (Bt.normal ops)).length) = true
 ·rw [if_pos h4]
  rcases h.log (was:=s.ver) (b:=Bt.encB (Bt.normal ops)) (by omega) h4 hD hsz with ⟨s',d2,e,L,er,ev⟩ | ⟨s',d2,e,o,er,ev,ed,X⟩
  ·rw [hap] at e er
   exact .inr (.inr (.inr (.inl ⟨D,s',d2,snap,_,e,L,rfl,er,by omega,by omega⟩)))
  ·rw [hap] at e
   refine .inr (.inr (.inr (.inr ⟨s',d2,e,o,er,ev,ed,fun f=>?_⟩)))
   obtain ⟨r,recs',hr,R1⟩:=X f
   rw [hap] at hr
   exact ⟨_,_,r,recs',hr,R1⟩
 ·rw [if_neg h4]
  have hN:∀ r,make d s.rows (s.ver + 1) = r->s.next d = if r.1 ≠ 0 then (r.1,{ s with dead:=true },r.2) else (0,{ s with ver:=s.ver + 1,j:=logOf r.2 (s.ver + 1) },r.2):=by
   intro r hr
   unfold St.next
   rw [if_neg (by omega)]
   simp only [hr]
  rcases rest_begins h.calm h.rest hv ha with ⟨d2,e,o,c,l,L⟩ | ⟨d2,e,C2,c,l,L,a⟩
  ·have e2:s.next d = (12,{ s with dead:=true },d2):=by rw [hN _ e]; simp
   simp only [e2]
   rw [if_pos (by simp)]
   refine .inr (.inr (.inr (.inr ⟨_,d2,rfl,o,rfl,rfl,rfl,fun f=>?_⟩)))
   obtain ⟨v',snap',recs',_,_,R1⟩:=L f
   exact ⟨v',snap',s.rows,recs',.inl rfl,R1⟩
  ·have e2:s.next d = (0,⟨s.rows,s.ver + 1,logOf d2 (s.ver + 1),d2.cr,false⟩,d2):=by
    rw [hN _ e]
    simp [h.dead,h.life,c]
   simp only [e2]
   rw [if_neg (by simp)]
   have hl2:d2.dur.length = D.length:=l.trans hl
   have hfits:(logOf d2 (s.ver + 1)).fits ((Bt.encB (Bt.normal ops)).length) = true:=by
    refine decide_eq_true ⟨by omega,?_⟩
    simp only [Int.toNat_natCast]
    show 0 + J.cost _<=many d2.dur.length
    rw [hl2,Nat.zero_add]
    exact (J.cost_iff (by omega)).2 (by omega)
   rcases L.log (was:=s.ver) (b:=Bt.encB (Bt.normal ops)) (by omega) hfits hD (by rw [hl2]; exact hsz) with ⟨s',d3,e3,L3,er,ev⟩ | ⟨s',d3,e3,o,er,ev,ed,X⟩
   ·have er2:s'.rows = Bt.apply s.rows (Bt.normal ops):=er
    have ev2:s'.ver = s.ver + 1:=ev
    rw [hap] at er2
    have e4:St.log ⟨s.rows,s.ver + 1,logOf d2 (s.ver + 1),d2.cr,false⟩ d2 (Bt.encB (Bt.normal ops)) (Bt.apply s.rows (Bt.normal ops)) s.ver = (0,s',d3):=e3
    rw [hap] at e4
    exact .inr (.inr (.inr (.inl ⟨d2.dur,s',d3,_,_,e4,L3,hl2,er2,by omega,by omega⟩)))
   ·have er2:s'.rows = s.rows:=er
    have e4:St.log ⟨s.rows,s.ver + 1,logOf d2 (s.ver + 1),d2.cr,false⟩ d2 (Bt.encB (Bt.normal ops)) (Bt.apply s.rows (Bt.normal ops)) s.ver = (12,s',d3):=e3
    rw [hap] at e4
    refine .inr (.inr (.inr (.inr ⟨s',d3,e4,o,er2,ev,ed,fun f=>?_⟩)))
    obtain ⟨r,recs',hr,R1⟩:=X f
    have hr2:r = s.rows\/r = Bt.apply s.rows (Bt.normal ops):=hr
    rw [hap] at hr2
    exact ⟨_,_,r,recs',hr2,R1⟩
end
structure Blank (D:List Txt):Prop where
 sec:∀ q,q < D.length->(D.getD q []).length = 256
 low:64<=D.length
 high:D.length<=65536
 s0:D.getD 0 [] = G.zeros
 s1:E.back (D.getD 1 []) = 0
 area:∀ k,k < each D.length->E.back (D.getD (areaAt D.length 1 + k) [])<=1
 other:∀ k,k < each D.length->E.back (D.getD (areaAt D.length 2 + k) [])<=1
 log:J.Backs D (logAt D.length) (many D.length) 0
section
variable {D D2:List Txt} {d:DS} {rows:List R}
theorem blank_new {n:Nat} (h1:64<=n) (h2:n<=65536):Blank (DS.newD n).dur:=by
 have hl:(DS.newD n).dur.length = n:=List.length_replicate
 have hz:∀ q,q < n->(DS.newD n).dur.getD q [] = G.zeros:=by
  intro q hq
  show (List.replicate n zeros).getD q [] = _
  rw [List.getD_eq_getElem?_getD,List.getElem?_replicate_of_lt hq]
  rfl
 have h0:=area_in n 1
 have h3:=area_in n 2
 have h4:=log_in h1
 have hb:∀ q,q < n->E.back ((DS.newD n).dur.getD q []) = 0:=fun q hq=>by rw [hz q hq]; exact G.zeros_back
 refine ⟨fun q hq=>?_,by rw [hl]; exact h1,by rw [hl]; exact h2,hz 0 (by omega),hb 1 (by omega),fun k hk=>?_,fun k hk=>?_,⟨?_,fun k hk=>?_,fun k hk=>?_⟩⟩
 ·rw [hl] at hq; rw [hz q hq]; exact G.zeros_length
 ·rw [hl] at hk ⊢; rw [hb _ (by omega)]; omega
 ·rw [hl] at hk ⊢; rw [hb _ (by omega)]; omega
 ·rw [hl]; omega
 ·rw [hl] at hk ⊢; rw [hz _ (by omega)]; exact G.zeros_length
 ·rw [hl] at hk ⊢; rw [hb _ (by omega)]; omega
theorem slotV_back {raw:Txt} {i:Nat} (h:E.back raw = 0):G.slotV raw i = none:=by
 unfold G.slotV
 exact if_neg (fun ⟨_,h2,h3,_⟩=>by omega)
theorem Blank.none (h:Blank D):G.readS (fun j=>D.getD j []) = none:=by
 unfold G.readS
 simp only
 rw [h.s0,G.slotV_zeros,slotV_back h.s1]
 rfl
theorem Blank.tells (h:Blank d.dur) (hC:d.Calm):d.slotsR 0 = ([],0,14):=by
 have hl:=h.low
 have e:=hC.tells (i:=0) (by omega)
 simp only [Nat.zero_add] at e
 rw [h.none] at e
 exact e
theorem lay_ok {n:Nat} (h1:64<=n) (h2:n<=65536):layE n = 0:=by
 unfold layE
 rw [if_neg (by omega),if_neg (by omega)]
theorem Blank.opens (h:Blank d.dur) (hC:d.Calm):opens d = (.inl 14,d):=by
 unfold So.opens
 rw [if_neg (by rw [lay_ok h.low h.high]; simp),if_neg (by rw [hC.off]; simp)]
 have e:lies d = .inl 14:=by
  unfold lies
  rw [if_pos (by rw [h.tells hC]; simp),h.tells hC]
 rw [e]
theorem Blank.turn (h:Blank D) (hl:D2.length = D.length) (hout:∀ q,(q < areaAt D.length 1\/areaAt D.length 1 + each D.length<=q)->D2.getD q [] = D.getD q [])
  (harea:∀ k,k < each D.length->(D2.getD (areaAt D.length 1 + k) []).length = 256/\E.back (D2.getD (areaAt D.length 1 + k) [])<=1):Blank D2:=by
 have h0:=area_in D.length 1
 have h1:=area_in D.length 2
 have h2:=log_in h.low
 have hlo:=h.low
 refine ⟨fun q hq=>?_,by rw [hl]; exact h.low,by rw [hl]; exact h.high,by rw [hout 0 (by omega)]; exact h.s0,by rw [hout 1 (by omega)]; exact h.s1,fun k hk=>?_,fun k hk=>?_,⟨by rw [hl]; exact h.log.fit,fun k hk=>?_,fun k hk=>?_⟩⟩
 ·rw [hl] at hq
  by_cases hq2:areaAt D.length 1<=q/\q < areaAt D.length 1 + each D.length
  ·obtain ⟨k,rfl⟩:∃ k,q = areaAt D.length 1 + k:=⟨q - areaAt D.length 1,by omega⟩
   exact (harea k (by omega)).1
  ·rw [hout q (by omega)]; exact h.sec q hq
 ·rw [hl] at hk ⊢; exact (harea k hk).2
 ·rw [hl] at hk ⊢
  rw [hout _ (by have:=area_off (v:=1) hk; have e:areaAt D.length (1 + 1) = areaAt D.length 2:=rfl; rw [show areaAt D.length 1 = areaAt D.length (2 + 1) by rfl]; have:=area_off (v:=2) hk; omega)]
  exact h.other k hk
 ·rw [hl] at hk ⊢; rw [hout _ (by omega)]; exact h.log.len k hk
 ·rw [hl] at hk ⊢; rw [hout _ (by omega)]; exact h.log.back k hk
theorem Blank.crash_area (h:Blank D) (hz:size rows<=room D.length) (f:FT) {j:Nat} (hj:j<=V.nsec (size rows)) :
  Blank (crashTo f D (V.waysA (areaAt D.length 1) 1 (snapB rows) j) j):=by
 have h1:=area_in D.length 1
 have h2:=log_in h.low
 have hje:j<=each D.length:=Nat.le_trans hj (V.nsec_le.1 hz)
 have hin:=V.crash_in f D (areaAt D.length 1) 1 (snapB rows) j j (Nat.le_refl _) (by omega)
 have hou:=V.crash_out f D (areaAt D.length 1) 1 (snapB rows) j j (Nat.le_refl _)
 have hsl:∀ k,(E.sct 1 (V.piece (snapB rows) k)).length = 256:=fun k=>E.sct_length _ (V.piece_le _ _)
 refine h.turn (crashTo_length f D _ j) (fun q hq=>hou q (by omega)) fun k hk=>?_
 have hs:=h.sec (areaAt D.length 1 + k) (by omega)
 by_cases hk2:k < j
 ·rw [hin k hk2]
  refine ⟨E.tear_length hs (hsl k) (f.done_le k),?_⟩
  have hb:=E.sct_back (st:=1) (by decide) (V.piece_le (snapB rows) k)
  have:=E.tear_back_le hs (hsl k) (f.done_le k) (by rw [hb]; exact h.area k hk)
  rw [hb] at this
  exact this
 ·rw [hou _ (by omega)]
  exact ⟨hs,h.area k hk⟩
theorem Blank.slot (h:Blank D) (hs:Sorted rows) (hz:size rows<=room D.length) {c:Nat} (hc:c<=256) :
  (c ≠ 256/\Blank (slotted D 0 rows c))\/Fresh (slotted D 0 rows c) 1 rows:=by
 have h0:=area_in D.length 1
 have h1:=area_in D.length 2
 have h2:=log_in h.low
 have hlo:=h.low
 have hhi:=h.high
 have hr:=room_lt h.high
 have hK:V.nsec (size rows)<=each D.length:=V.nsec_le.1 hz
 have hin:=V.flush_in D (areaAt D.length 1) 1 (snapB rows) (V.nsec (size rows)) (V.nsec (size rows)) (Nat.le_refl _) (by omega)
 have hO:=slotted_out (D:=D) (v:=0) (rows:=rows) hK (c:=c)
 simp only [Nat.zero_add] at hO
 have hl:(slotted D 0 rows c).length = D.length:=by unfold slotted; rw [List.length_set,flushTo_length]
 have hsame:(slotted D 0 rows c).getD 1 [] = E.tear (D.getD 1 []) (E.sct 1 (slotVal D.length (size rows))) c:=by
  unfold slotted; exact V.set_same _ (by rw [flushTo_length]; omega)
 have hA:∀ k,k < V.nsec (size rows)->(slotted D 0 rows c).getD (areaAt D.length 1 + k) [] = E.sct 1 (V.piece (snapB rows) k):=fun k hk=>by
  have e:=hin k hk
  unfold slotted
  rw [V.set_other _ (by omega)]
  exact e
 have hR:∀ k,k < each D.length->V.nsec (size rows)<=k->(slotted D 0 rows c).getD (areaAt D.length 1 + k) [] = D.getD (areaAt D.length 1 + k) []:=fun k hk hk2=>by
  unfold slotted
  rw [V.set_other _ (by omega)]
  exact V.flush_out D (areaAt D.length 1) 1 (snapB rows) _ _ (Nat.le_refl _) _ (by omega)
 have hsl:(slotVal D.length (size rows)).length<=234:=by
  have:=slotVal_length (n:=D.length) (k:=size rows) (by omega) (by omega)
  omega
 have hval:=E.sct_length 1 hsl
 have hb1:=E.sct_back (st:=1) (by decide) hsl
 have hle:E.back (E.tear (D.getD 1 []) (E.sct 1 (slotVal D.length (size rows))) c)<=1:=by
  have:=E.tear_back_le (h.sec 1 (by omega)) hval hc (by rw [h.s1]; omega)
  rw [hb1] at this
  exact this
 have harea:∀ k,k < each D.length->((slotted D 0 rows c).getD (areaAt D.length 1 + k) []).length = 256/\E.back ((slotted D 0 rows c).getD (areaAt D.length 1 + k) [])<=1:=fun k hk=>by
  by_cases hk2:k < V.nsec (size rows)
  ·rw [hA k hk2]
   exact ⟨E.sct_length _ (V.piece_le _ _),by rw [E.sct_back (st:=1) (by decide) (V.piece_le _ _)]; omega⟩
  ·rw [hR k hk (by omega)]
   exact ⟨h.sec _ (by omega),h.area k hk⟩
 have hoth:∀ k,k < each D.length->(slotted D 0 rows c).getD (areaAt D.length 2 + k) [] = D.getD (areaAt D.length 2 + k) []:=fun k hk =>
  hO _ (by omega) (by rw [show areaAt D.length 1 = areaAt D.length (2 + 1) by rfl]; have:=area_off (v:=2) hk; omega)
 have hsec:∀ q,q < D.length->((slotted D 0 rows c).getD q []).length = 256:=by
  intro q hq
  by_cases hp:q = 1
  ·subst hp
   rw [hsame]
   exact E.tear_length (h.sec _ hq) hval hc
  ·by_cases ha:areaAt D.length 1<=q/\q < areaAt D.length 1 + each D.length
   ·obtain ⟨k,rfl⟩:∃ k,q = areaAt D.length 1 + k:=⟨q - areaAt D.length 1,by omega⟩
    exact (harea k (by omega)).1
   ·rw [hO q (by omega) (by omega)]; exact h.sec q hq
 have hB:J.Backs (slotted D 0 rows c) (logAt D.length) (many D.length) 0 :=
  ⟨by rw [hl]; exact h.log.fit,fun k hk=>by rw [hO _ (by omega) (by omega)]; exact h.log.len k hk,fun k hk=>by rw [hO _ (by omega) (by omega)]; exact h.log.back k hk⟩
 by_cases hb:E.back (E.tear (D.getD 1 []) (E.sct 1 (slotVal D.length (size rows))) c) = 0
 ·refine .inl ⟨?_,?_⟩
  ·rintro rfl
   rw [G.tear_all _ _ (h.sec _ (by omega)) hval,hb1] at hb
   omega
  ·exact ⟨fun q hq=>hsec q (by rw [hl] at hq; exact hq),by rw [hl]; exact h.low,by rw [hl]; exact h.high,by rw [hO 0 (by omega) (by omega)]; exact h.s0,by rw [hsame]; exact hb,fun k hk=>by rw [hl] at hk ⊢; exact (harea k hk).2,fun k hk=>by rw [hl] at hk ⊢; rw [hoth k hk]; exact h.other k hk,by rw [hl]; exact hB⟩
 ·refine .inr ?_
  have h248:248<=c:=by
   refine Classical.byContradiction fun hn=>hb ?_
   rw [E.tear_back hval (by omega)]
   exact h.s1
  have hst:(slotted D 0 rows c).getD 1 [] = E.sct 1 (slotVal D.length (size rows)):=by
   rw [hsame]
   exact E.tear_new (h.sec _ (by omega)) hval hc h248 (by rw [hb1]; omega)
  have hz0:(slotted D 0 rows c).getD 0 [] = G.zeros:=by rw [hO 0 (by omega) (by omega)]; exact h.s0
  refine ⟨fun q hq=>hsec q (by rw [hl] at hq; exact hq),by rw [hl]; exact h.low,by rw [hl]; exact h.high,hs,by rw [hl]; exact hz,by omega,?_,?_,?_,?_,?_,⟨0,by omega,by rw [hl]; exact hB⟩⟩
  ·rw [hl]
   refine ⟨0,[],?_,?_,.inl rfl,by omega,hsl,by simp,hsl,by omega⟩
   ·show (slotted D 0 rows c).getD 1 [] = _
    rw [hst]
    rfl
   ·show (slotted D 0 rows c).getD 0 [] = _
    rw [hz0,G.tear_none]
    rfl
  ·rw [hl]
   unfold G.readS
   simp only
   rw [hz0,hst,G.slotV_zeros,G.slotV_sct (by omega) (by omega) rfl hsl]
   rfl
  ·rw [hl]; exact hA
  ·rw [hl]; exact fun k hk=>(harea k hk).2
  ·rw [hl]
   intro k hk
   show E.back ((slotted D 0 rows c).getD (areaAt D.length 2 + k) [])<=1
   rw [hoth k hk]
   exact h.other k hk
theorem blank_make (hC:d.Calm) (h:Blank d.dur) (hs:Sorted rows) (hz:size rows<=room d.dur.length) (ha:-1<=d.armed) :
  (∃ d2,make d rows 1 = (12,d2)/\d2.off = true/\d2.cr = d.cr/\d2.dur.length = d.dur.length/\(∀ f:FT,Blank (d2.crashD f).dur\/Fresh (d2.crashD f).dur 1 rows)/\d2.fl<=d.fl + 1/\d2.wr<=d.wr + V.nsec (size rows) + 1) \/
  (∃ d2,make d rows 1 = (0,d2)/\d2.Calm/\d2.cr = d.cr/\d2.dur.length = d.dur.length/\Fresh d2.dur 1 rows/\d2.fl = d.fl + 2/\d2.wr = d.wr + V.nsec (size rows) + 1/\-1<=d2.armed):=by
 have h1:=area_in d.dur.length 1
 have h2:=log_in h.low
 have hlo:=h.low
 have hhi:=h.high
 have hr:=room_lt h.high
 have hsl:(slotVal d.dur.length (size rows)).length<=234:=by
  have:=slotVal_length (n:=d.dur.length) (k:=size rows) (by omega) (by omega)
  omega
 have hK:V.nsec (size rows)<=each d.dur.length:=V.nsec_le.1 hz
 rcases make_go (v:=1) hC h.low h.high hz (by omega) (by omega) ha with ⟨d2,j,e,o,u,hj,w,c,fl,wr⟩ | ⟨d2,e,o,u,w,c,fl,wr⟩ | ⟨d2,e,o,u,w,c,fl,wr,a⟩
 ·refine .inl ⟨d2,e,o,c,by rw [u],fun f=>.inl ?_,by omega,by omega⟩
  show Blank (crashTo f d2.dur d2.ways d2.ways.length)
  rw [u,w,V.waysA_length]
  exact h.crash_area hz f hj
 ·refine .inl ⟨d2,e,o,c,by rw [u,flushTo_length],fun f=>?_,by omega,by omega⟩
  have hd:(d2.crashD f).dur = slotted d.dur 0 rows (f.done 0):=by
   show crashTo f d2.dur d2.ways d2.ways.length = _
   rw [w]
   show crashTo f d2.dur [(1,E.sct 1 (slotVal d.dur.length (size rows)))] 1 = _
   rw [crashTo]
   show d2.dur.set 1 (tornBy (d2.dur.getD 1 []) _ (f.done 0)) = _
   rw [u,V.flush_out d.dur (areaAt d.dur.length 1) 1 (snapB rows) _ _ (Nat.le_refl _) 1 (by omega)]
   rfl
  rw [hd]
  rcases h.slot hs hz (f.done_le 0) with ⟨_,r⟩ | r
  ·exact .inl r
  ·exact .inr r
 ·refine .inr ⟨d2,e,⟨w,o⟩,c,by rw [u,List.length_set,flushTo_length],?_,by omega,wr,a⟩
  have hfull:slotted d.dur 0 rows 256 = d2.dur:=by
   rw [u]
   unfold slotted
   rw [G.tear_all _ _ (h.sec _ (by omega)) (E.sct_length _ hsl)]
  rw [<- hfull]
  rcases h.slot hs hz (c:=256) (by omega) with ⟨n,_⟩ | r
  ·exact absurd rfl n
  ·exact r
theorem blank_format (hC:d.Calm) (h:Blank d.dur) (ha:-1<=d.armed) (ops:List Bt.O) :
  (room d.dur.length < size (Bt.apply [] ops)/\format d ops = (17,d)) \/
  (∃ d2,format d ops = (12,d2)/\d2.off = true/\d2.cr = d.cr/\d2.dur.length = d.dur.length/\(∀ f:FT,Blank (d2.crashD f).dur\/Fresh (d2.crashD f).dur 1 (Bt.apply [] ops))/\d2.fl<=d.fl + 1/\d2.wr<=d.wr + 65536) \/
  (∃ d2,format d ops = (0,d2)/\d2.Calm/\d2.cr = d.cr/\d2.dur.length = d.dur.length/\Fresh d2.dur 1 (Bt.apply [] ops)/\d2.fl = d.fl + 2/\d2.wr<=d.wr + 65536/\-1<=d2.armed):=by
 have hlo:=h.low
 have hhi:=h.high
 unfold format
 rw [if_neg (by rw [lay_ok h.low h.high]; simp),if_neg (by rw [hC.off]; simp),if_neg (by rw [h.tells hC]; simp)]
 by_cases hz:room d.dur.length < size (Bt.apply [] ops)
 ·exact .inl ⟨hz,by rw [if_pos hz]⟩
 rw [if_neg hz]
 have hK:V.nsec (size (Bt.apply [] ops))<=each d.dur.length:=V.nsec_le.1 (by unfold room at hz; omega)
 have he:each d.dur.length + 1<=65536:=by unfold each; omega
 rcases blank_make hC h (Bt.apply_sorted ops List.Pairwise.nil) (by omega) ha with ⟨d2,e,o,c,l,L,f,w⟩ | ⟨d2,e,C2,c,l,F,f,w,a⟩
 ·exact .inr (.inl ⟨d2,e,o,c,l,L,f,by omega⟩)
 ·exact .inr (.inr ⟨d2,e,C2,c,l,F,f,by omega,a⟩)
end
section
variable {d:DS} {v:Nat} {snap rows:List R} {recs:List Txt}
theorem rest_opened (hC:d.Calm) (h:Rest d.dur v snap rows recs) (hv:v + 2<=1099511627776) (ha:-1<=d.armed) :
  (∃ d2,opens d = (.inl 12,d2)/\d2.off = true/\d2.cr = d.cr/\d2.dur.length = d.dur.length/\Left d2 rows v) \/
  (∃ d2,opens d = (.inr ⟨rows,v + 1,logOf d2 (v + 1),d2.cr,false⟩,d2)/\d2.Calm/\d2.cr = d.cr/\d2.dur.length = d.dur.length/\Live d2.dur ⟨rows,v + 1,logOf d2 (v + 1),d2.cr,false⟩ d2 rows []/\-1<=d2.armed):=by
 have hL:=rest_lies hC h
 have hz:=lay_ok h.low h.high
 have hn:St.next ⟨rows,v,logOf d v,d.cr,false⟩ d = if (make d rows (v + 1)).1 ≠ 0 then ((make d rows (v + 1)).1,⟨rows,v,logOf d v,d.cr,true⟩,(make d rows (v + 1)).2) else (0,⟨rows,v + 1,logOf (make d rows (v + 1)).2 (v + 1),d.cr,false⟩,(make d rows (v + 1)).2):=by
  unfold St.next
  rw [if_neg (by show ¬ 1099511627776<=v; omega)]
 rcases rest_begins hC h hv ha with ⟨d2,e,o,c,l,L⟩ | ⟨d2,e,C2,c,l,L,a⟩
 ·refine .inl ⟨d2,?_,o,c,l,L⟩
  unfold opens
  rw [if_neg (by rw [hz]; simp),if_neg (by rw [hC.off]; simp),hL]
  simp only
  rw [hn,e]
  simp
 ·refine .inr ⟨d2,?_,C2,c,l,L,a⟩
  unfold opens
  rw [if_neg (by rw [hz]; simp),if_neg (by rw [hC.off]; simp),hL]
  simp only
  rw [hn,e,<- c]
  simp
theorem rest_opens_on (hC:d.Calm) (h:Rest d.dur v snap rows recs) (hv:v + 2<=1099511627776) (ha:d.armed = -1) :
  ∃ d2,opens d = (.inr ⟨rows,v + 1,logOf d2 (v + 1),d2.cr,false⟩,d2)/\d2.Calm/\d2.cr = d.cr/\d2.dur.length = d.dur.length/\Live d2.dur ⟨rows,v + 1,logOf d2 (v + 1),d2.cr,false⟩ d2 rows []/\d2.armed = -1:=by
 have R:=Ran.opens d
 rcases rest_opened hC h hv (by omega) with ⟨d2,e,o,_⟩ | ⟨d2,e,C2,c,l,L,a⟩
 ·rw [e] at R
  obtain ⟨k,_⟩:=R.still hC.off ha
  simp only at k
  rw [k] at o
  cases o
 ·rw [e] at R
  exact ⟨d2,e,C2,c,l,L,(R.still hC.off ha).2⟩
theorem Fresh.rest13 (h:Fresh d.dur v rows) (hC:d.Calm) (hv:v<=1099511627776):Rest d.dur v rows rows []:=(h.live hC hv).rest
theorem format_on (hC:d.Calm) (h:Blank d.dur) (ha:d.armed = -1) (ops:List Bt.O) (hz:size (Bt.apply [] ops)<=room d.dur.length) :
  ∃ d2,format d ops = (0,d2)/\d2.Calm/\d2.cr = d.cr/\d2.dur.length = d.dur.length/\Fresh d2.dur 1 (Bt.apply [] ops)/\d2.fl = d.fl + 2/\d2.armed = -1:=by
 have R:=Ran.format d ops
 rcases blank_format hC h (by omega) ops with ⟨x,_⟩ | ⟨d2,e,o,_⟩ | ⟨d2,e,C2,c,l,F,f,_,_⟩
 ·omega
 ·rw [e] at R
  obtain ⟨k,_⟩:=R.still hC.off ha
  simp only at k
  rw [k] at o
  cases o
 ·rw [e] at R
  exact ⟨d2,e,C2,c,l,F,f,(R.still hC.off ha).2⟩
theorem format_there (h64:64<=d.dur.length) (hmax:d.dur.length<=65536) (hoff:d.off = false) {m:List R} (h:lies d = .inr (m,v)) (ops:List Bt.O):format d ops = (21,d):=by
 unfold format
 rw [if_neg (by rw [lay_ok h64 hmax]; simp),if_neg (by rw [hoff]; simp),if_pos (lies_yes h).1]
end
theorem newD_calm (n:Nat):(DS.newD n).Calm:=⟨rfl,rfl⟩
theorem newD_len (n:Nat):(DS.newD n).dur.length = n:=List.length_replicate
def fixA:List Bt.O:=[⟨false,[98],[50]⟩,⟨false,[97],[49]⟩]
def fixB:List Bt.O:=[⟨true,[97],[]⟩,⟨false,[99],[]⟩]
def fixR:List R:=[([97],[49]),([98],[50])]
def fixR2:List R:=[([98],[50]),([99],[])]
theorem fix_apply:Bt.apply [] fixA = fixR/\Bt.apply fixR fixB = fixR2/\size fixR = 9/\size fixR2 = 8:=by
 refine ⟨by decide,by decide,?_,?_⟩
 ·have e:size fixR = (Lib.uvarint 2 ++ (Lib.uvarint 1 ++ [97] ++ (Lib.uvarint 1 ++ [49]) ++ (Lib.uvarint 1 ++ [98] ++ (Lib.uvarint 1 ++ [50]) ++ []))).length:=rfl
  rw [e,Lib.uvarint_small (by decide),Lib.uvarint_small (by decide)]
  rfl
 ·have e:size fixR2 = (Lib.uvarint 2 ++ (Lib.uvarint 1 ++ [98] ++ (Lib.uvarint 1 ++ [50]) ++ (Lib.uvarint 1 ++ [99] ++ (Lib.uvarint 0 ++ []) ++ []))).length:=rfl
  rw [e,Lib.uvarint_small (by decide),Lib.uvarint_small (by decide),Lib.uvarint_small (by decide)]
  rfl
theorem fix_normal:Bt.normal fixB = fixB:=by decide
theorem fix_norm:Bt.normal fixB ≠ []/\(Bt.encB (Bt.normal fixB)).length<=5000/\(Bt.normal fixB).length<=100/\∀ o ∈ Bt.normal fixB,o.key.length<=100/\o.val.length<=100:=by
 rw [fix_normal]
 have h:∀ o ∈ fixB,o.key.length<=100/\o.val.length<=100:=by
  intro o ho
  simp only [fixB,List.mem_cons,List.not_mem_nil,or_false] at ho
  rcases ho with rfl | rfl <;> decide
 refine ⟨by simp [fixB],?_,by decide,h⟩
 have e:(Bt.encB fixB).length = (Lib.uvarint 2 ++ ((1 :: (Lib.uvarint 1 ++ [97])) ++ ((0 :: ((Lib.uvarint 1 ++ [99]) ++ (Lib.uvarint 0 ++ []))) ++ []))).length:=rfl
 rw [e,Lib.uvarint_small (by decide),Lib.uvarint_small (by decide),Lib.uvarint_small (by decide)]
 decide
theorem most64:most 64 = 5122/\room 64 = 4680:=by decide
theorem fixed_plain:∃ d1 d2 s2 d3 s3,opens (DS.newD 64) = (.inl 14,DS.newD 64)/\format (DS.newD 64) fixA = (0,d1)/\opens d1 = (.inr s2,d2)/\s2.ver = 2/\s2.rows = fixR/\s2.commit d2 (most d2.dur.length) fixB = (0,s3,d3)/\s3.rows = fixR2/\format d3 [] = (21,d3)/\d1.FewC/\d2.FewC/\d3.FewC:=by
 have hl:=newD_len 64
 have C0:=newD_calm 64
 have B0:Blank (DS.newD 64).dur:=blank_new (by decide) (by decide)
 obtain ⟨a1,a2,a3,a4⟩:=fix_apply
 obtain ⟨b1,b2,b3,b4⟩:=fix_norm
 obtain ⟨m1,m2⟩:=most64
 obtain ⟨d1,e1,C1,c1,l1,F1,f1,g1⟩:=format_on C0 B0 rfl fixA (by rw [hl,a1,a3,m2]; decide)
 have R1:=Ran.format (DS.newD 64) fixA
 rw [e1] at R1
 rw [a1] at F1
 obtain ⟨d2,e2,C2,c2,l2,L2,g2⟩:=rest_opens_on C1 (F1.rest13 C1 (by decide)) (by decide) g1
 have R2:=Ran.opens d1
 rw [e2] at R2
 have hl2:d2.dur.length = 64:=by rw [l2,l1,hl]
 have hn:(logOf d2 (1 + 1)).n<=65536:=by
  show many d2.dur.length<=65536
  rw [hl2]
  decide
 have R3:=Ran.commit ⟨fixR,1 + 1,logOf d2 (1 + 1),d2.cr,false⟩ d2 (most d2.dur.length) fixB (by omega) hn
 have w0:(DS.newD 64).wr = 0/\(DS.newD 64).fl = 0/\(DS.newD 64).cr = 0/\(DS.newD 64).ways.length = 0:=⟨rfl,rfl,rfl,rfl⟩
 obtain ⟨w1,w2,w3,w4⟩:=w0
 have k1:=R1.ways
 have k2:=R1.wr
 have k3:=R1.fl
 have k4:=R2.ways
 have k5:=R2.wr
 have k6:=R2.fl
 have k7:=R3.ways
 have k8:=R3.wr
 have k9:=R3.fl
 have k10:=R3.cr
 simp only at k1 k2 k3 k4 k5 k6
 have F1c:d1.FewC:=⟨by omega,by omega,by omega,by omega⟩
 have F2c:d2.FewC:=⟨by omega,by omega,by omega,by omega⟩
 rcases L2.commit (most:=most d2.dur.length) (Nat.le_refl _) (by rw [hl2,m1]; decide) (by show 1 + 1 + 2<=_; decide) (by omega) fixB (fun o ho=>⟨by have:=b4 o ho; omega,by have:=b4 o ho; omega⟩) (by omega) with ⟨x,_⟩ | ⟨x,_⟩ | ⟨x,_⟩ | ⟨D3,s3,d3,snap3,recs3,e3,L3,l3,r3,_⟩ | ⟨s3,d3,e3,o3,_⟩
 ·exact absurd x b1
 ·rw [hl2,m1] at x
  omega
 ·rw [hl2,m2] at x
  have:(⟨fixR,1 + 1,logOf d2 (1 + 1),d2.cr,false⟩:St).after fixB = size (Bt.apply fixR fixB):=rfl
  rw [this,a2,a4] at x
  omega
 ·rw [e3] at R3 k7 k8 k9 k10
  simp only at k7 k8 k9 k10
  have l3':d3.dur.length = 64:=by rw [R3.len,hl2]
  refine ⟨d1,d2,_,d3,s3,B0.opens C0,e1,e2,rfl,rfl,e3,?_,format_there (by omega) (by omega) L3.calm.off (rest_lies L3.calm L3.rest) [],F1c,F2c,⟨by omega,by omega,by omega,by omega⟩⟩
  rw [r3]
  exact a2
 ·rw [e3] at R3
  obtain ⟨k,_⟩:=R3.still C2.off g2
  simp only at k
  rw [k] at o3
  cases o3
end Go.Proofs.YthjjfjhajadimaaGreatDoor.So
namespace Go.Proofs.YthjjfjhajadimaaGreatDoor
open Go.RowKit Go.WideShapes
set_option maxRecDepth 100000
section
variable {n0:Nat} {ad:Nat->Addr} {w:World} {p b g o:Nat} {s:So.St} {d:DS} {O H:Nat->Prop} {ov:Value} {ops:List Bt.O}
theorem version_sto (h:Sto n0 ad w p b s d O H):Calls Tryz.prog 25 #[.pointer (some ⟨p,0,none⟩)] w fun e w'=>e = .returned (.int .i64 (s.ver:Int))/\w' = w:=by
 obtain ⟨q,t,S,A,hv,hO,hH⟩:=h
 exact version_st hv.sm
theorem room_sto (h:Sto n0 ad w p b s d O H):Calls Tryz.prog 41 #[.pointer (some ⟨p,0,none⟩)] w fun e w'=>e = .returned (.int .i64 ((So.room d.dur.length:Nat):Int))/\Qt w w':=by
 obtain ⟨q,t,S,A,hv,hO,hH⟩:=h
 exact room_st hv.dk.len hv.sm
theorem size_sto (h:Sto n0 ad w p b s d O H):Calls Tryz.prog 40 #[.pointer (some ⟨p,0,none⟩)] w fun e w'=>e = .returned (.int .i64 ((So.size s.rows:Nat):Int))/\Qt w w':=by
 obtain ⟨q,t,S,A,hv,hO,hH⟩:=h
 have:=rows_le hv.dk.len hv.fit
 exact size_st hv.tbl (by omega) hv.sm
theorem get_sto (h:Sto n0 ad w p b s d O H) (key:ByteArray):Calls Tryz.prog 47 #[.pointer (some ⟨p,0,none⟩),.string key] w fun e w'=>e = .returned (GotV (Tb.get s.rows key.data.toList))/\w' = w:=by
 obtain ⟨q,t,S,A,hv,hO,hH⟩:=h
 exact get_st hv.tbl hv.sm key
theorem rows_sto (h:Sto n0 ad w p b s d O H):Calls Tryz.prog 24 #[.pointer (some ⟨p,0,none⟩)] w fun e w'=>∃ v,e = .returned v/\NewR w w' v s.rows:=by
 obtain ⟨q,t,S,A,hv,hO,hH⟩:=h
 exact rows_st hv.tbl hv.sm
theorem after_sto (h:Sto n0 ad w p b s d O H) (hi:OpsIn w ov g o ops) (hs:Bt.Small ops):Calls Tryz.prog 39 #[.pointer (some ⟨p,0,none⟩),ov] w fun e w'=>e = .returned (.int .i64 ((s.after ops:Nat):Int))/\Qt w w':=by
 obtain ⟨q,t,S,A,hv,hO,hH⟩:=h
 exact after_st hv.tbl (rows_le hv.dk.len hv.fit) hi hs hv.sm
end
theorem recs_block {α:Type} {n:Nat} {f:α->List Value} (hf:∀ x,(f x).length = n) {W:World} {g c:Nat} {ty:TypeId} {l:List α} (h:Bk W g ty (cellsG f l)) (hl:l.length<=17592186044416):Recs n f W (.slice (some ⟨g,0,none⟩) l.length c) g 0 l :=
 ⟨⟨_,_,rfl,fun _=>rfl⟩,hl,fun k o hk j u hj=>by
  rw [Nat.zero_add]
  exact h.cell _ _ (cellsG_get hf hk hj)⟩
theorem recs_none {α:Type} {n:Nat} {f:α->List Value} {W:World}:Recs n f W (.slice none 0 0) 0 0 ([]:List α) :=
 ⟨⟨_,_,rfl,fun h=>absurd rfl h⟩,Nat.zero_le _,fun k o hk=>by simp at hk⟩
theorem rowC_len (r:Tb.R):(rowC r).length = 2:=rfl
theorem newR_in {w w':World} {v:Value} {l:List Tb.R} (h:NewR w w' v l) (hl:l.length<=17592186044416):∃ g,RowsIn w' v g 0 l/\(l ≠ []->w.heap.size<=g/\g < w'.heap.size):=by
 obtain ⟨g,h1,h2⟩:=ownG_in (f:=rowC) rowC_len h.own hl
 refine ⟨g,h1,fun hne=>?_⟩
 rcases h.own.2 with ⟨e,h0⟩ | ⟨g',cap,cur,e,_⟩
 ·exact absurd (List.length_eq_zero_iff.1 h0) hne
 ·have e1:v.ownBlock = some g':=by rw [e]; rfl
  have e2:=h2 g' e1
  subst e2
  exact ⟨h.new _ e1,ownsRow_lt h.own e1⟩
theorem dk_start {ad:Nat->Addr} {w w':World} {b:Nat} {d:DS} (hE:Errs ad w) (hT:Tab w) (h:DiskAt w' b d (Grow (fun _=>False) w w')) (Q:Qt w w'):Dk w.heap.size ad w' b d (Grow (fun _=>False) w w'):=by
 refine ⟨hE.qt Q,hT.qt Q,fun g hg=>?_,fun i hi=>?_,?_,fun k e=>?_,fun k e=>?_,Q.size,h⟩
 ·obtain ⟨i,hi⟩:=List.getElem?_of_mem hg
  exact World.block_lt_of_cell? w _ (hE.cells i g hi)
 ·obtain ⟨c,t,e⟩:=hE.blk i hi
  exact lt_of_block e
 ·exact World.block_lt_of_cell? w _ (hT 0 (by decide))
 ·rcases e with e | e
  ·exact e.elim
  ·exact e.1
 ·rcases e with e | e
  ·exact e.elim
  ·exact e.2
theorem rows_most {l:List Tb.R} {n:Nat} (hn:n<=65536) (hs:So.size l<=So.room n):l.length<=5111574:=by
 have h1:=So.size_len l
 have h3:So.room n<=5111574:=by unfold So.room So.each; omega
 omega
theorem Sto.most {n0:Nat} {ad:Nat->Addr} {w:World} {p b:Nat} {s:So.St} {d:DS} {O H:Nat->Prop} (h:Sto n0 ad w p b s d O H):s.rows.length<=5111574/\So.size s.rows<=So.room d.dur.length:=by
 obtain ⟨q,t,S,A,hv,hO,hH⟩:=h
 exact ⟨rows_most hv.dk.len hv.fit,hv.fit⟩
theorem same_rowsL {l m:List Tb.R} (hl:l.length = m.length) (h:∀ j,j < l.length->l[j]? = m[j]?):l = m:=by
 apply List.ext_getElem?
 intro j
 rcases Nat.lt_or_ge j l.length with k | k
 ·exact h j k
 ·rw [List.getElem?_eq_none k,List.getElem?_eq_none (by omega)]
def SameRAt (w:World) (l m:List Tb.R) (iv:Value) (wr:World):Prop:=∃ k,k<=l.length/\iv = .int .i64 k/\(∀ j,j < k->l[j]? = m[j]?)/\Qt w wr
set_option maxHeartbeats 1600000 in
theorem sameR12_any (a b:Value) (g1 o1 g2 o2:Nat) (l m:List Tb.R) (w:World) (hl:RowsIn w a g1 o1 l) (hm:RowsIn w b g2 o2 m) :
  Calls Tryz.prog 23 #[a,b] w fun e w'=>e = .returned (.bool (decide (l = m)))/\Qt w w':=by
 obtain ⟨aa,ac,rfl,haa⟩:=hl.val
 obtain ⟨ba,bc,rfl,hba⟩:=hm.val
 by_cases hlen:l.length = m.length
 ·have zl:((l.length:Int) != (m.length:Int)) = false:=by rw [bne_eq_false_iff_eq]; omega
  have HLN:=Lib.hid hlen
  have HLB:=Lib.hid hl.le
  have HA:=Lib.hid hl
  have HB:=Lib.hid hm
  have START:=Lib.hid (show SameRAt w l m (.int .i64 0) w from ⟨0,Nat.zero_le _,rfl,fun j hj=>absurd hj (Nat.not_lt_zero j),Qt.refl _⟩)
  clear hl hm hlen haa hba
  go_enter Tryz.func23,Tryz.ntmps23
  go_wp2
  go_loopw [13] (fun iv wr=>SameRAt w l m iv wr) (fun iv _=>l.length - (intOf iv).toNat)
  case atStart=>exact START.out
  case round =>
   obtain ⟨k,hk,rfl,heq,q⟩:=hrel
   have HQ:=Lib.hid q
   have HEQ:=Lib.hid heq
   have hkb:(k:Int)<=140737488355328:=by have:=HLB.out; omega
   by_cases hlt:k < l.length
   ·have zlt:decide ((k:Int) < (l.length:Int)) = true:=decide_eq_true (by omega)
    have zlt':decide (k < l.length) = true:=decide_eq_true hlt
    have hltm:k < m.length:=by rw [<- HLN.out]; exact hlt
    obtain ⟨t,ct,ht,e1⟩:=HA.out.elem hlt
    obtain ⟨u,cu,hu,e2⟩:=HB.out.elem hltm
    injection e1 with e1 q1 q2
    injection e2 with e2 q3 q4
    clear q1 q2 q3 q4
    subst e1 e2
    obtain ⟨t1,t2⟩:=HA.out.cell ht
    obtain ⟨u1,u2⟩:=HB.out.cell hu
    have c1:=q.cellv t1
    have c2:=q.cellv t2
    have d1:=q.cellv u1
    have d2:=q.cellv u2
    have k0:(0:Int)<=(k:Int):=by omega
    have k1:(k:Int) < (l.length:Int):=by omega
    have k2:(k:Int) < (m.length:Int):=by omega
    have HLT:=Lib.hid hlt
    have HME:=Lib.hid (show l.length - (intOf (.int .i64 ((k:Int) + 1))).toNat < l.length - (intOf (.int .i64 (k:Int))).toNat by simp [intOf]; omega)
    by_cases he:t = u
    ·have n1:∀ W,(binOp .neq 101 (.agg #[strV t.1,strV t.2]) (.agg #[strV u.1,strV u.2])).run Tryz.prog W = .ok (.bool false) W:=fun W=>by rw [run_neq_row t u W,decide_eq_true he]; rfl
     have FN:=Lib.hid (fun (W:World) (q2:Qt w W)=>(show SameRAt w l m (.int .i64 ((k:Int) + 1)) W from ⟨k + 1,HLT.out,by push_cast; rfl,fun j hj=>by
      rcases Nat.lt_or_ge j k with h | h
      ·exact HEQ.out j h
      ·obtain rfl:j = k:=by omega
       rw [ht,hu,he],q2⟩))
     clear t1 t2 u1 u2 ht hu he heq q hk hlt hltm
     go_wp2
     go_quiet (fail)
     have FN2:=Lib.hid (FN.out _ (Keeps.drewN HQ.out nq))
     go_wp2
     exact ⟨FN2.out,HME.out⟩
    ·have n1:∀ W,(binOp .neq 101 (.agg #[strV t.1,strV t.2]) (.agg #[strV u.1,strV u.2])).run Tryz.prog W = .ok (.bool true) W:=fun W=>by rw [run_neq_row t u W,decide_eq_false he]; rfl
     have FIN:=Lib.hid (show decide (l = m) = false from decide_eq_false (fun e=>he (by rw [e,hu] at ht; exact (Option.some.inj ht).symm)))
     clear t1 t2 u1 u2 ht hu he heq q hk hlt hltm
     go_wp2
     go_quiet (fail)
     have QN:=Lib.hid (Keeps.drewN HQ.out nq)
     go_wp2
     go_ret
     exact ⟨by rw [FIN.out]; rfl,QN.out⟩
   ·obtain rfl:k = l.length:=by omega
    have zlt:decide ((l.length:Int) < (l.length:Int)) = false:=decide_eq_false (by omega)
    have FIN:=Lib.hid (show decide (l = m) = true from decide_eq_true (same_rowsL HLN.out heq))
    clear heq q hk hlt
    go_wp2
    go_ret
    exact ⟨by rw [FIN.out]; rfl,HQ.out⟩
 ·have zl:((l.length:Int) != (m.length:Int)) = true:=by rw [bne_iff_ne]; omega
  have FIN:=Lib.hid (show decide (l = m) = false from decide_eq_false (fun e=>hlen (by rw [e])))
  clear hl hm hlen haa hba
  go_enter Tryz.func23,Tryz.ntmps23
  go_wp2
  go_ret
  exact ⟨by rw [FIN.out]; rfl,Qt.refl _⟩
theorem sameR12_yes {a b:Value} {g1 o1 g2 o2:Nat} {l:List Tb.R} {w:World} (hl:RowsIn w a g1 o1 l) (hm:RowsIn w b g2 o2 l) :
  Calls Tryz.prog 23 #[a,b] w fun e w'=>e = .returned (.bool true)/\Qt w w' :=
 (sameR12_any a b g1 o1 g2 o2 l l w hl hm).mono fun _ _ h=>by
  rw [decide_eq_true rfl] at h
  exact h
end Go.Proofs.YthjjfjhajadimaaGreatDoor
