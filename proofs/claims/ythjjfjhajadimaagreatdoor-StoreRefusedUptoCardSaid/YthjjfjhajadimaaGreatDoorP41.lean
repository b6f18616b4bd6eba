/-
  Joined: JLeavesP, ORest, OCrash, OOpenP, OFresh, OLive, OBegin.
-/
import Derived.Test.YthjjfjhajadimaaGreatDoorP40
namespace Go.Proofs.YthjjfjhajadimaaGreatDoor
set_option maxRecDepth 100000
namespace J
theorem whole_congr {s t:Nat->Option (List UInt8)} {n i:Nat} {v:List UInt8} (h:∀ k,k < n->s k = t k) (w:Whole s n i v):Whole t n i v :=
 ⟨w.small,w.room,fun k hk=>(h (i + k) (by have:=w.room; omega)).symm.trans (w.each k hk)⟩
theorem rec_congr {s t:Nat->Option (List UInt8)} {n i:Nat} (h:∀ k,k < n->s k = t k):rec s n i = rec t n i:=by
 cases e:rec s n i with
 | some v=>exact (rec_some (whole_congr h (rec_whole e))).symm
 | none =>
  refine (rec_none fun v w=>?_).symm
  rw [rec_some (whole_congr (fun k hk=>(h k hk).symm) w)] at e
  cases e
theorem log_congr {s t:Nat->Option (List UInt8)} {n:Nat} (h:∀ k,k < n->s k = t k):∀ (f i:Nat),log s n f i = log t n f i
 | 0,_=>rfl
 | f + 1,i=>by
  rw [log,log,rec_congr h]
  cases rec t n i with
  | none=>rfl
  | some v=>simp only; rw [log_congr h f]
def cutS (s:Nat->Option (List UInt8)) (n k:Nat):Option (List UInt8):=if k < n then s k else none
theorem logAll_cut (s:Nat->Option (List UInt8)) (n:Nat):logAll s n = logAll (cutS s n) n:=log_congr (fun _ hk=>(if_pos hk).symm) n 0
theorem cut_some {s:Nat->Option (List UInt8)} {n k:Nat} {p:List UInt8} (h:cutS s n k = some p):k < n/\s k = some p:=by
 unfold cutS at h
 split at h
 ·exact ⟨by assumption,h⟩
 ·cases h
section
variable {D:List (List UInt8)} {d:DS} {j:JS} {all:List (List UInt8)} {s:Nat}
theorem alive_fit (h:Alive D all s j d):total all<=j.n:=by have:=h.life.fit; rwa [stream_length] at this
structure Ended (D:List (List UInt8)) (all:List (List UInt8)) (s:Nat) (j:JS) (d:DS):Prop where
 life:∃ U,Life D j.pos j.n j.ver (total (all.take s)) U d/\∀ (k:Nat) (p:List UInt8),U[k]? = some p->(stream all)[k]? = some p
 le:s<=all.length
 room:total all<=j.n
 small:∀ v ∈ all,v.length < 4294967296
theorem Alive.ended (h:Alive D all s j d):Ended D all s j d:=⟨⟨_,h.life,fun _ _ e=>e⟩,h.le,alive_fit h,h.small⟩
theorem Gone.ended (h:Gone D all s j d):Ended D all s j d:=⟨h.life,h.le,h.room,h.small⟩
theorem ended_crash (h:Ended D all s j d) {o:Nat} (hB:Backs D j.pos j.n o) (ho:o < j.ver) (hv:j.ver<=1099511627776) (hn:j.n < 65536) (t:FT) :
  Backs (d.crashD t).dur j.pos j.n j.ver/\∃ m,s<=m/\m<=all.length/\logAll (secs (d.crashD t) j.pos j.ver) j.n = all.take m:=by
 obtain ⟨U,hL,hU⟩:=h.life
 obtain ⟨c1,c2,c3⟩:=hL.crash hB ho hv hn t
 have hr:∀ k,secs (d.crashD t) j.pos j.ver k = E.openS (stamp j.ver k) ((d.crashD t).dur.getD (j.pos + k) []):=fun k=>rfl
 obtain ⟨m,m1,m2,m3⟩:=log_prefix (s:=cutS (secs (d.crashD t) j.pos j.ver) j.n) (n:=j.n) all 0 h.small (by have:=h.room; omega) (fun k p hp=>by
  rw [Nat.zero_add] at hp
  obtain ⟨hk,hp⟩:=cut_some hp
  rw [hr k] at hp
  exact hU k p (c2 k p hk hp))
 refine ⟨c1,m,m3 s h.le (fun k hk=>?_),m1,?_⟩
 ·have hlt:k < j.n:=by have:=total_take_le all s; have:=h.room; omega
  rw [Nat.zero_add]
  unfold cutS
  rw [if_pos hlt,hr k]
  exact c3 k hk
 ·rw [logAll_cut]
  exact m2 j.n (by omega)
theorem later_none {d:DS} {i n v u:Nat} (hB:Backs d.dur i n v) (hw:d.ways = []) (hu:v < u) (hv:u<=1099511627776) (hn:n < 65536):logAll (secs d i u) n = []:=by
 rw [logAll_cut]
 refine log_stop (rec_none fun w ww=>?_)
 have h0:=ww.each 0 (cost_pos _)
 obtain ⟨hk,hp⟩:=cut_some h0
 have hr:secs d i u 0 = E.openS (stamp u 0) (d.dur.getD (i + 0) []):=by
  unfold secs DS.read
  rw [hw]
  rfl
 rw [Nat.add_zero,hr,hB.none hu hv hn (by rw [Nat.add_zero] at hk; exact hk)] at hp
 cases hp
end
theorem cost_iff {b m:Nat} (hm:1<=m):cost b<=m ↔ b<=229 + 233 * (m - 1):=by
 obtain ⟨k,rfl⟩:∃ k,m = k + 1:=⟨m - 1,by omega⟩
 rw [Nat.add_sub_cancel]
 unfold cost
 split <;> omega
end J
end Go.Proofs.YthjjfjhajadimaaGreatDoor
namespace Go.Proofs.YthjjfjhajadimaaGreatDoor.So
open Go.Proofs.YthjjfjhajadimaaGreatDoor.Tb
set_option maxRecDepth 100000
def secsD (D:List Txt) (i v:Nat) (k:Nat):Option Txt:=E.openS (J.stamp v k) (D.getD (i + k) [])
structure Rest (D:List Txt) (v:Nat) (snap rows:List R) (recs:List Txt):Prop where
 sec:∀ q,q < D.length->(D.getD q []).length = 256
 low:64<=D.length
 high:D.length<=65536
 sorted:Sorted snap
 fitS:size snap<=room D.length
 fitR:size rows<=room D.length
 ver:1<=v
 slots:∃ o old m,G.Keeps (fun j=>D.getD j []) v (slotVal D.length (size snap)) o old (slotVal D.length (size rows)) m/\(m ≠ 0->∀ k,k < V.nsec (size rows)->D.getD (areaAt D.length (v + 1) + k) [] = E.sct (v + 1) (V.piece (snapB rows) k))
 now:G.readS (fun j=>D.getD j []) = some (v,slotVal D.length (size snap))
 area:∀ k,k < V.nsec (size snap)->D.getD (areaAt D.length v + k) [] = E.sct v (V.piece (snapB snap) k)
 back:∀ k,k < each D.length->E.back (D.getD (areaAt D.length v + k) [])<=v
 other:∃ (X:Nat->Txt) (m:Nat->Nat),∀ k,k < each D.length->(X k).length = 256/\E.back (X k)<=v/\m k<=256/\D.getD (areaAt D.length (v + 1) + k) [] = E.tear (X k) (E.sct (v + 1) (V.piece (snapB rows) k)) (m k)
 log:J.Backs D (logAt D.length) (many D.length) v
 told:J.logAll (secsD D (logAt D.length) v) (many D.length) = recs
 rows:applyAll snap recs = some rows
theorem room_lt {n:Nat} (h:n<=65536):room n < 9223372036854775808:=by unfold room each; omega
theorem Rest.top {D:List Txt} {v:Nat} {snap rows:List R} {recs:List Txt} (h:Rest D v snap rows recs):v + 1<=1099511627776:=by
 obtain ⟨_,_,_,hK,_⟩:=h.slots
 exact hK.n
theorem rest_lies {d:DS} {v:Nat} {snap rows:List R} {recs:List Txt} (hC:d.Calm) (h:Rest d.dur v snap rows recs):lies d = .inr (rows,v):=by
 have hl:=h.low
 have hh:=h.high
 have hin:=area_in d.dur.length v
 have hlog:=log_in h.low
 have htop:=h.top
 have hver:=h.ver
 have hr:=room_lt h.high
 have hS:d.slotsR 0 = (slotVal d.dur.length (size snap),v,0):=by
  have e:=hC.tells (i:=0) (by omega)
  have e2:(fun j=>d.dur.getD (0 + j) []) = fun j=>d.dur.getD j []:=by funext j; rw [Nat.zero_add]
  rw [show ((0:Nat):Int) = 0 from rfl,e2,h.now] at e
  exact e
 have hmay:d.mayA (areaAt d.dur.length v) (each d.dur.length) v:=⟨by omega,by omega,by omega,by omega,by omega⟩
 have hea:each d.dur.length<=65536:=by unfold each; omega
 have hA:d.areaR (areaAt d.dur.length v) (each d.dur.length) v (size snap) = (snapB snap,0):=by
  unfold DS.areaR
  rw [if_neg (by rintro (k | k); exact k hmay; omega),if_neg (by simp only [Int.toNat_natCast,Nat.min_eq_left hea]; have:=h.fitS; unfold room at this; omega),if_neg (by rw [hC.off]; simp)]
  simp only [Int.toNat_natCast]
  have e:V.readA (fun k=>d.read (areaAt d.dur.length v + k)) v (size snap) = some (snapB snap) :=
   V.readA_all (by omega) (snapB snap) (fun k hk=>by rw [hC.read]; exact h.area k hk)
  rw [e]
 have hR:(J.replay d (logAt d.dur.length) (many d.dur.length) v).1 = recs:=by
  have hm:J.may d (logAt d.dur.length) (many d.dur.length) v:=⟨by omega,by omega,by omega,by omega,by omega,by omega,by omega⟩
  have he:J.refE d (logAt d.dur.length) (many d.dur.length) v = 0:=by
   unfold J.refE
   rw [if_neg (fun k=>k hm),if_neg (by rw [hC.off]; simp)]
  unfold J.replay
  rw [if_neg (by rw [he]; simp)]
  simp only [Int.toNat_natCast]
  rw [<- h.told]
  have e:J.secs d (logAt d.dur.length) v = secsD d.dur (logAt d.dur.length) v:=by
   funext k
   unfold J.secs secsD
   rw [hC.read]
  rw [e]
 unfold lies
 simp only [hS]
 rw [if_neg (by simp),parse_val (by omega) h.fitS (by omega)]
 simp only [hA]
 rw [if_neg (by simp),snapD_enc h.sorted (by have:=h.fitS; omega)]
 simp only [hR,h.rows]
 rw [if_neg (by have:=h.fitR; omega)]
theorem tear_self (b:Txt) (n:Nat):E.tear b b n = b:=by unfold E.tear; exact List.take_append_drop n b
theorem area_off {n v k:Nat} (h:k < each n):areaAt n v + k < areaAt n (v + 1)\/areaAt n (v + 1) + each n<=areaAt n v + k:=by unfold areaAt; split <;> split <;> omega
section
variable {D D2:List Txt} {v:Nat} {snap rows:List R} {recs:List Txt}
theorem Rest.turn (h:Rest D v snap rows recs) (hl:D2.length = D.length) (hsec:∀ q,q < D.length->(D2.getD q []).length = 256)
  (hout:∀ q,q ≠ (v + 1) % 2->(q < areaAt D.length (v + 1)\/areaAt D.length (v + 1) + each D.length<=q)->D2.getD q [] = D.getD q [])
  (hslots:∃ o old m,G.Keeps (fun j=>D2.getD j []) v (slotVal D.length (size snap)) o old (slotVal D.length (size rows)) m/\(m ≠ 0->∀ k,k < V.nsec (size rows)->D2.getD (areaAt D.length (v + 1) + k) [] = E.sct (v + 1) (V.piece (snapB rows) k)))
  (hnow:G.readS (fun j=>D2.getD j []) = some (v,slotVal D.length (size snap)))
  (hother:∃ (X:Nat->Txt) (m:Nat->Nat),∀ k,k < each D.length->(X k).length = 256/\E.back (X k)<=v/\m k<=256/\D2.getD (areaAt D.length (v + 1) + k) [] = E.tear (X k) (E.sct (v + 1) (V.piece (snapB rows) k)) (m k)) :
  Rest D2 v snap rows recs:=by
 have h0:=area_in D.length v
 have h1:=area_in D.length (v + 1)
 have h2:=log_in h.low
 have hlog:∀ k,k < many D.length->D2.getD (logAt D.length + k) [] = D.getD (logAt D.length + k) []:=fun k hk=>hout _ (by omega) (by omega)
 refine ⟨by rw [hl]; exact hsec,by rw [hl]; exact h.low,by rw [hl]; exact h.high,h.sorted,by rw [hl]; exact h.fitS,by rw [hl]; exact h.fitR,h.ver,by rw [hl]; exact hslots,by rw [hl]; exact hnow,?_,?_,by rw [hl]; exact hother,?_,?_,h.rows⟩
 ·rw [hl]
  intro k hk
  have hke:k < each D.length:=Nat.lt_of_lt_of_le hk (V.nsec_le.1 h.fitS)
  rw [hout _ (by omega) (area_off hke)]
  exact h.area k hk
 ·rw [hl]
  intro k hk
  rw [hout _ (by omega) (area_off hk)]
  exact h.back k hk
 ·rw [hl]
  refine ⟨by rw [hl]; exact h.log.fit,fun k hk=>?_,fun k hk=>?_⟩
  ·rw [hlog k hk]; exact h.log.len k hk
  ·rw [hlog k hk]; exact h.log.back k hk
 ·rw [hl,<- h.told]
  refine J.log_congr (fun k hk=>?_) _ _
  unfold secsD
  rw [hlog k hk]
theorem Rest.crash_area (h:Rest D v snap rows recs) (f:FT) {j:Nat} (hj:j<=V.nsec (size rows)) :
  Rest (crashTo f D (V.waysA (areaAt D.length (v + 1)) (v + 1) (snapB rows) j) j) v snap rows recs:=by
 have h1:=area_in D.length (v + 1)
 have h2:=log_in h.low
 have hje:j<=each D.length:=Nat.le_trans hj (V.nsec_le.1 h.fitR)
 have hin:=V.crash_in f D (areaAt D.length (v + 1)) (v + 1) (snapB rows) j j (Nat.le_refl _) (by omega)
 have hou:=V.crash_out f D (areaAt D.length (v + 1)) (v + 1) (snapB rows) j j (Nat.le_refl _)
 have hsl:∀ k,(E.sct (v + 1) (V.piece (snapB rows) k)).length = 256:=fun k=>E.sct_length _ (V.piece_le _ _)
 have at_:∀ k,k < each D.length->(crashTo f D (V.waysA (areaAt D.length (v + 1)) (v + 1) (snapB rows) j) j).getD (areaAt D.length (v + 1) + k) [] = E.tear (D.getD (areaAt D.length (v + 1) + k) []) (E.sct (v + 1) (V.piece (snapB rows) k)) (if k < j then f.done k else 0):=by
  intro k _
  by_cases hk:k < j
  ·rw [if_pos hk,hin k hk]
  ·rw [if_neg hk,hou _ (by omega),G.tear_none]
 obtain ⟨o,old,m,hK,hM⟩:=h.slots
 have z0:(crashTo f D (V.waysA (areaAt D.length (v + 1)) (v + 1) (snapB rows) j) j).getD 0 [] = D.getD 0 []:=hou 0 (by omega)
 have z1:(crashTo f D (V.waysA (areaAt D.length (v + 1)) (v + 1) (snapB rows) j) j).getD 1 [] = D.getD 1 []:=hou 1 (by omega)
 have zz:∀ q,q < 2->(crashTo f D (V.waysA (areaAt D.length (v + 1)) (v + 1) (snapB rows) j) j).getD q [] = D.getD q []:=fun q hq=>hou q (by omega)
 refine h.turn (crashTo_length f D _ j) (fun q hq=>?_) (fun q _ hq=>hou q (by omega)) ⟨o,old,m,⟨?_,?_,hK.o,hK.n,hK.val,hK.old,hK.next,hK.m⟩,fun hm k hk=>?_⟩ ?_ ?_
 ·by_cases hq2:areaAt D.length (v + 1)<=q/\q < areaAt D.length (v + 1) + each D.length
  ·obtain ⟨k,rfl⟩:∃ k,q = areaAt D.length (v + 1) + k:=⟨q - areaAt D.length (v + 1),by omega⟩
   rw [at_ k (by omega)]
   exact E.tear_length (h.sec _ hq) (hsl k) (by split; exact f.done_le k; omega)
  ·rw [hou q (by omega)]; exact h.sec q hq
 ·show (crashTo f D _ j).getD (v % 2) [] = _
  rw [zz _ (by omega)]; exact hK.own
 ·show (crashTo f D _ j).getD ((v + 1) % 2) [] = _
  rw [zz _ (by omega)]; exact hK.other
 ·rw [at_ k (Nat.lt_of_lt_of_le hk (V.nsec_le.1 h.fitR)),hM hm k hk,tear_self]
 ·have e:=h.now
  unfold G.readS at e ⊢
  simp only at e ⊢
  rw [z0,z1]
  exact e
 ·obtain ⟨X,m',hX⟩:=h.other
  refine ⟨X,fun k=>max (m' k) (if k < j then f.done k else 0),fun k hk=>?_⟩
  obtain ⟨x1,x2,x3,x4⟩:=hX k hk
  have hd:(if k < j then f.done k else 0)<=256:=by split; exact f.done_le k; omega
  exact ⟨x1,x2,by show max (m' k) _<=256; omega,by rw [at_ k hk,x4,G.tear_again _ _ _ _ (hsl k) x3 hd]⟩
def slotted (D:List Txt) (v:Nat) (rows:List R) (c:Nat):List Txt :=
 (flushTo D (V.waysA (areaAt D.length (v + 1)) (v + 1) (snapB rows) (V.nsec (size rows))) (V.nsec (size rows))).set ((v + 1) % 2) (E.tear (D.getD ((v + 1) % 2) []) (E.sct (v + 1) (slotVal D.length (size rows))) c)
theorem Rest.slot (h:Rest D v snap rows recs) (hv:v + 2<=1099511627776) {c:Nat} (hc:c<=256) :
  (c ≠ 256/\Rest (slotted D v rows c) v snap rows recs)\/Rest (slotted D v rows c) (v + 1) rows rows []:=by
 have h0:=area_in D.length v
 have h1:=area_in D.length (v + 1)
 have h2:=log_in h.low
 have hlo:=h.low
 have hK:V.nsec (size rows)<=each D.length:=V.nsec_le.1 h.fitR
 have hin:=V.flush_in D (areaAt D.length (v + 1)) (v + 1) (snapB rows) (V.nsec (size rows)) (V.nsec (size rows)) (Nat.le_refl _) (by omega)
 have hou:=V.flush_out D (areaAt D.length (v + 1)) (v + 1) (snapB rows) (V.nsec (size rows)) (V.nsec (size rows)) (Nat.le_refl _)
 have hl:(slotted D v rows c).length = D.length:=by unfold slotted; rw [List.length_set,flushTo_length]
 have hne:∀ q,q ≠ (v + 1) % 2->(slotted D v rows c).getD q [] = (flushTo D (V.waysA (areaAt D.length (v + 1)) (v + 1) (snapB rows) (V.nsec (size rows))) (V.nsec (size rows))).getD q []:=fun q hq=>by
  unfold slotted; exact V.set_other _ (Ne.symm hq)
 have hsame:(slotted D v rows c).getD ((v + 1) % 2) [] = E.tear (D.getD ((v + 1) % 2) []) (E.sct (v + 1) (slotVal D.length (size rows))) c:=by
  unfold slotted; exact V.set_same _ (by rw [flushTo_length]; omega)
 have hA:∀ k,k < V.nsec (size rows)->(slotted D v rows c).getD (areaAt D.length (v + 1) + k) [] = E.sct (v + 1) (V.piece (snapB rows) k):=fun k hk=>by
  rw [hne _ (by omega),hin k hk]
 have hO:∀ q,q ≠ (v + 1) % 2->(q < areaAt D.length (v + 1)\/areaAt D.length (v + 1) + V.nsec (size rows)<=q)->(slotted D v rows c).getD q [] = D.getD q []:=fun q hq h=>by
  rw [hne q hq,hou q h]
 have hsl:∀ k,(E.sct (v + 1) (V.piece (snapB rows) k)).length = 256:=fun k=>E.sct_length _ (V.piece_le _ _)
 obtain ⟨o,old,m,hKp,hM⟩:=h.slots
 have hval:(E.sct (v + 1) (slotVal D.length (size rows))).length = 256:=E.sct_length _ hKp.next
 have hsec:∀ q,q < D.length->((slotted D v rows c).getD q []).length = 256:=by
  intro q hq
  by_cases hp:q = (v + 1) % 2
  ·subst hp
   rw [hsame]
   exact E.tear_length (h.sec _ hq) hval hc
  ·by_cases ha:areaAt D.length (v + 1)<=q/\q < areaAt D.length (v + 1) + V.nsec (size rows)
   ·obtain ⟨k,rfl⟩:∃ k,q = areaAt D.length (v + 1) + k:=⟨q - areaAt D.length (v + 1),by omega⟩
    rw [hA k (by omega)]; exact hsl k
   ·rw [hO q hp (by omega)]; exact h.sec q hq
 have hK2:G.Keeps (fun j=>(slotted D v rows c).getD j []) v (slotVal D.length (size snap)) o old (slotVal D.length (size rows)) (max m c) :=
  hKp.again hc (t:=fun j=>(slotted D v rows c).getD j []) (hO (v % 2) (by omega) (by omega)) hsame
 have next:G.readS (fun j=>(slotted D v rows c).getD j []) = some (v + 1,slotVal D.length (size rows))->Rest (slotted D v rows c) (v + 1) rows rows []:=by
  intro hr
  have hst:=hK2.next_there hr
  have hKs:=hK2.step hst (after:=slotVal D.length (size rows)) hKp.next (by omega)
  have ea:areaAt D.length (v + 1 + 1) = areaAt D.length v:=by unfold areaAt; rw [show (v + 1 + 1) % 2 = v % 2 by omega]
  have hav:∀ k,k < each D.length->(slotted D v rows c).getD (areaAt D.length v + k) [] = D.getD (areaAt D.length v + k) []:=fun k hk=>hO _ (by omega) (by have:=area_off (v:=v) hk; omega)
  have hlog:∀ k,k < many D.length->(slotted D v rows c).getD (logAt D.length + k) [] = D.getD (logAt D.length + k) []:=fun k hk=>hO _ (by omega) (by omega)
  have hB:J.Backs (slotted D v rows c) (logAt D.length) (many D.length) v:=⟨by rw [hl]; exact h.log.fit,fun k hk=>by rw [hlog k hk]; exact h.log.len k hk,fun k hk=>by rw [hlog k hk]; exact h.log.back k hk⟩
  have hhi:=h.high
  have hmany:many D.length < 65536:=by unfold many each; omega
  refine ⟨by rw [hl]; exact hsec,by rw [hl]; exact h.low,by rw [hl]; exact h.high,applyAll_sorted h.sorted h.rows,by rw [hl]; exact h.fitR,by rw [hl]; exact h.fitR,by omega,?_,by rw [hl]; exact hr,by rw [hl]; exact hA,?_,?_,?_,?_,rfl⟩
  ·rw [hl]; exact ⟨v,slotVal D.length (size snap),0,hKs,fun e=>absurd rfl e⟩
  ·rw [hl]
   intro k hk
   obtain ⟨X,m',hX⟩:=h.other
   obtain ⟨x1,x2,x3,x4⟩:=hX k hk
   by_cases hkk:k < V.nsec (size rows)
   ·rw [hA k hkk,E.sct_back (by omega) (V.piece_le _ _)]; omega
   ·rw [hO _ (by omega) (by omega),x4]
    have hb:=E.sct_back (st:=v + 1) (by omega) (V.piece_le (snapB rows) k)
    have:=E.tear_back_le x1 (hsl k) x3 (by rw [hb]; omega)
    rw [hb] at this
    exact this
  ·rw [hl,ea]
   refine ⟨fun k=>D.getD (areaAt D.length v + k) [],fun _=>0,fun k hk=>⟨h.sec _ (by omega),by have:=h.back k hk; show E.back (D.getD (areaAt D.length v + k) [])<=v + 1; omega,by show 0<=256; omega,?_⟩⟩
   rw [hav k hk,G.tear_none]
  ·rw [hl]
   exact ⟨hB.fit,hB.len,fun k hk=>Nat.le_of_lt (Nat.lt_of_le_of_lt (hB.back k hk) (J.stamp_mono (by omega) k))⟩
  ·rw [hl]
   exact J.later_none (d:=⟨slotted D v rows c,[],-1,false,0,0,0⟩) hB rfl (by omega) (by omega) hmany
 rcases hK2.read with hr | hr
 ·exact .inr (next hr)
 ·rw [if_neg (by have:=h.ver; omega)] at hr
  refine .inl ⟨fun e=>?_,h.turn hl hsec (fun q hq hq2=>hO q hq (by omega)) ⟨o,old,max m c,hK2,fun _ k hk=>hA k hk⟩ hr ?_⟩
  ·subst e
   have hs:(slotted D v rows 256).getD ((v + 1) % 2) [] = E.sct (v + 1) (slotVal D.length (size rows)):=by
    rw [hsame]; exact G.tear_all _ _ (h.sec _ (by omega)) hval
   have e1:=G.readS_own (fun j=>(slotted D v rows 256).getD j []) v
   have o1:=G.slotV_stand (n:=v) (p:=slotVal D.length (size snap)) (by omega) hKp.val
   rw [<- hK2.own,if_neg (by have:=h.ver; omega)] at o1
   have o2:=G.slotV_sct (v:=v + 1) (i:=(v + 1) % 2) (p:=slotVal D.length (size rows)) (by omega) (by omega) rfl hKp.next
   rw [o1] at e1
   simp only [hs,o2,G.best_some] at e1
   rw [if_pos (by omega),hr] at e1
   simp at e1
  ·obtain ⟨X,m',hX⟩:=h.other
   refine ⟨X,fun k=>if k < V.nsec (size rows) then 256 else m' k,fun k hk=>?_⟩
   obtain ⟨x1,x2,x3,x4⟩:=hX k hk
   by_cases hkk:k < V.nsec (size rows)
   ·exact ⟨x1,x2,by show (if k < V.nsec (size rows) then 256 else m' k)<=256; rw [if_pos hkk]; exact Nat.le_refl _,by show _ = E.tear (X k) _ (if k < V.nsec (size rows) then 256 else m' k); rw [hA k hkk,if_pos hkk,G.tear_all _ _ x1 (hsl k)]⟩
   ·exact ⟨x1,x2,by show (if k < V.nsec (size rows) then 256 else m' k)<=256; rw [if_neg hkk]; exact x3,by show _ = E.tear (X k) _ (if k < V.nsec (size rows) then 256 else m' k); rw [hO _ (by omega) (by omega),x4,if_neg hkk]⟩
end
section
variable {d:DS} {v:Nat} {snap rows:List R} {recs:List Txt}
def Left (d:DS) (rows:List R) (v:Nat):Prop:=∀ f:FT,∃ v' snap' recs',v<=v'/\v'<=v + 1/\Rest (d.crashD f).dur v' snap' rows recs'
theorem slotted_full (h:Rest d.dur v snap rows recs):slotted d.dur v rows 256 = (flushTo d.dur (V.waysA (areaAt d.dur.length (v + 1)) (v + 1) (snapB rows) (V.nsec (size rows))) (V.nsec (size rows))).set ((v + 1) % 2) (E.sct (v + 1) (slotVal d.dur.length (size rows))):=by
 obtain ⟨_,_,_,hK,_⟩:=h.slots
 have hlo:=h.low
 unfold slotted
 rw [G.tear_all _ _ (h.sec _ (by omega)) (E.sct_length _ hK.next)]
theorem rest_make (hC:d.Calm) (h:Rest d.dur v snap rows recs) (hv:v + 2<=1099511627776) (ha:-1<=d.armed) :
  (∃ d2,make d rows (v + 1) = (12,d2)/\d2.off = true/\d2.cr = d.cr/\d2.dur.length = d.dur.length/\Left d2 rows v/\d2.fl<=d.fl + 1/\d2.wr<=d.wr + V.nsec (size rows) + 1) \/
  (∃ d2,make d rows (v + 1) = (0,d2)/\d2.Calm/\d2.cr = d.cr/\d2.dur.length = d.dur.length/\Rest d2.dur (v + 1) rows rows []/\d2.fl = d.fl + 2/\d2.wr = d.wr + V.nsec (size rows) + 1/\-1<=d2.armed):=by
 have h1:=area_in d.dur.length (v + 1)
 have h2:=log_in h.low
 have hlo:=h.low
 have hK:V.nsec (size rows)<=each d.dur.length:=V.nsec_le.1 h.fitR
 rcases make_go (v:=v + 1) hC h.low h.high h.fitR (by omega) (by omega) ha with ⟨d2,j,e,o,u,hj,w,c,fl,wr⟩ | ⟨d2,e,o,u,w,c,fl,wr⟩ | ⟨d2,e,o,u,w,c,fl,wr,a⟩
 ·refine .inl ⟨d2,e,o,c,by rw [u],fun f=>⟨v,snap,recs,Nat.le_refl _,by omega,?_⟩,by omega,by omega⟩
  show Rest (crashTo f d2.dur d2.ways d2.ways.length) v snap rows recs
  rw [u,w,V.waysA_length]
  exact h.crash_area f hj
 ·refine .inl ⟨d2,e,o,c,by rw [u,flushTo_length],fun f=>?_,by omega,by omega⟩
  have hd:(d2.crashD f).dur = slotted d.dur v rows (f.done 0):=by
   show crashTo f d2.dur d2.ways d2.ways.length = _
   rw [w]
   show crashTo f d2.dur [((v + 1) % 2,E.sct (v + 1) (slotVal d.dur.length (size rows)))] 1 = _
   rw [crashTo]
   show d2.dur.set ((v + 1) % 2) (tornBy (d2.dur.getD ((v + 1) % 2) []) _ (f.done 0)) = _
   rw [u,V.flush_out d.dur (areaAt d.dur.length (v + 1)) (v + 1) (snapB rows) _ _ (Nat.le_refl _) ((v + 1) % 2) (by omega)]
   rfl
  rw [hd]
  rcases h.slot hv (f.done_le 0) with ⟨_,r⟩ | r
  ·exact ⟨v,snap,recs,Nat.le_refl _,by omega,r⟩
  ·exact ⟨v + 1,rows,[],by omega,Nat.le_refl _,r⟩
 ·refine .inr ⟨d2,e,⟨w,o⟩,c,by rw [u,List.length_set,flushTo_length],?_,by omega,wr,a⟩
  rw [u,<- slotted_full h]
  rcases h.slot hv (c:=256) (by omega) with ⟨n,_⟩ | r
  ·exact absurd rfl n
  ·exact r
end
structure Fresh (D:List Txt) (v:Nat) (snap:List R):Prop where
 sec:∀ q,q < D.length->(D.getD q []).length = 256
 low:64<=D.length
 high:D.length<=65536
 sorted:Sorted snap
 fitS:size snap<=room D.length
 ver:1<=v
 slots:∃ o old,G.Keeps (fun j=>D.getD j []) v (slotVal D.length (size snap)) o old (slotVal D.length (size snap)) 0
 now:G.readS (fun j=>D.getD j []) = some (v,slotVal D.length (size snap))
 area:∀ k,k < V.nsec (size snap)->D.getD (areaAt D.length v + k) [] = E.sct v (V.piece (snapB snap) k)
 back:∀ k,k < each D.length->E.back (D.getD (areaAt D.length v + k) [])<=v
 other:∀ k,k < each D.length->E.back (D.getD (areaAt D.length (v + 1) + k) [])<=v
 log:∃ o,o < v/\J.Backs D (logAt D.length) (many D.length) o
section
variable {D D2:List Txt} {v:Nat} {snap rows:List R} {recs:List Txt}
theorem Fresh.rest (h:Fresh D v snap) (hl:D2.length = D.length) (hout:∀ q,(q < logAt D.length\/logAt D.length + many D.length<=q)->D2.getD q [] = D.getD q [])
  (hlog:J.Backs D2 (logAt D.length) (many D.length) v) (htold:J.logAll (secsD D2 (logAt D.length) v) (many D.length) = recs) (hrows:applyAll snap recs = some rows) (hfit:size rows<=room D.length) :
  Rest D2 v snap rows recs:=by
 have h0:=area_in D.length v
 have h1:=area_in D.length (v + 1)
 have h2:=log_in h.low
 have hlo:=h.low
 have hhi:=h.high
 obtain ⟨o,old,hK⟩:=h.slots
 have hr:=room_lt h.high
 have hsl:(slotVal D.length (size rows)).length<=234:=by
  have:=slotVal_length (n:=D.length) (k:=size rows) (by omega) (by omega)
  omega
 have zz:∀ q,q < 2->D2.getD q [] = D.getD q []:=fun q hq=>hout q (by omega)
 have hK2:=hK.other_next hsl
 refine ⟨fun q hq=>?_,by rw [hl]; exact h.low,by rw [hl]; exact h.high,h.sorted,by rw [hl]; exact h.fitS,by rw [hl]; exact hfit,h.ver,?_,?_,?_,?_,?_,by rw [hl]; exact hlog,by rw [hl]; exact htold,hrows⟩
 ·rw [hl] at hq
  by_cases hq2:logAt D.length<=q/\q < logAt D.length + many D.length
  ·obtain ⟨k,rfl⟩:∃ k,q = logAt D.length + k:=⟨q - logAt D.length,by omega⟩
   exact hlog.len k (by omega)
  ·rw [hout q (by omega)]; exact h.sec q hq
 ·rw [hl]
  refine ⟨o,old,0,⟨?_,?_,hK2.o,hK2.n,hK2.val,hK2.old,hK2.next,hK2.m⟩,fun e=>absurd rfl e⟩
  ·show D2.getD (v % 2) [] = _
   rw [zz _ (by omega)]; exact hK2.own
  ·show D2.getD ((v + 1) % 2) [] = _
   rw [zz _ (by omega)]; exact hK2.other
 ·rw [hl]
  have e:=h.now
  unfold G.readS at e ⊢
  simp only at e ⊢
  rw [zz 0 (by omega),zz 1 (by omega)]
  exact e
 ·rw [hl]
  intro k hk
  have hke:k < each D.length:=Nat.lt_of_lt_of_le hk (V.nsec_le.1 h.fitS)
  rw [hout _ (by omega)]
  exact h.area k hk
 ·rw [hl]
  intro k hk
  rw [hout _ (by omega)]
  exact h.back k hk
 ·rw [hl]
  refine ⟨fun k=>D.getD (areaAt D.length (v + 1) + k) [],fun _=>0,fun k hk=>⟨h.sec _ (by omega),h.other k hk,by show 0<=256; omega,?_⟩⟩
  rw [hout _ (by omega),G.tear_none]
theorem life_out {i n F:Nat} {U:List Txt} {d:DS} (h:J.Life D i n v F U d) (f:FT) (hD:i + n<=D.length):∀ q,(q < i\/i + n<=q)->d.dur.getD q [] = D.getD q []/\(d.crashD f).dur.getD q [] = D.getD q []:=by
 intro q hq
 have hle:=h.le
 have hfit:=h.fit
 have e1:d.dur.getD q [] = D.getD q []:=by rw [h.dur q,if_neg (by omega)]
 refine ⟨e1,?_⟩
 show (crashTo f d.dur d.ways d.ways.length).getD q [] = _
 rw [h.ways,J.waysF_length,J.crashF f d.dur (i + F) _ _ _ (Nat.le_refl _) (by rw [h.len]; omega) q,if_neg (by omega)]
 exact e1
end
section
variable {D:List Txt} {d:DS} {v:Nat} {snap:List R} {all recs:List Txt} {j:J.JS}
theorem ended_rest {k:Nat} (hF:Fresh D v snap) (hE:J.Ended D all k j d) (hp:j.pos = logAt D.length) (hn:j.n = many D.length) (hjv:j.ver = v) (hv:v<=1099511627776)
  (hrows:∀ m,k<=m->m<=all.length->∃ r,applyAll snap (all.take m) = some r/\size r<=room D.length) (f:FT) :
  ∃ m r,k<=m/\m<=all.length/\applyAll snap (all.take m) = some r/\Rest (d.crashD f).dur v snap r (all.take m):=by
 obtain ⟨o,ho,hB⟩:=hF.log
 have h2:=log_in hF.low
 have hlo:=hF.low
 have hhi:=hF.high
 have hmany:many D.length < 65536:=by unfold many each; omega
 obtain ⟨c1,m,m1,m2,m3⟩:=J.ended_crash hE (o:=o) (by rw [hp,hn]; exact hB) (by omega) (by omega) (by omega) f
 obtain ⟨r,r1,r2⟩:=hrows m m1 m2
 obtain ⟨U,hL,_⟩:=hE.life
 rw [hp,hn,hjv] at c1 m3
 have hl:(d.crashD f).dur.length = D.length:=by
  show (crashTo f d.dur d.ways d.ways.length).length = _
  rw [crashTo_length]; exact hL.len
 refine ⟨m,r,m1,m2,r1,hF.rest hl (fun q hq=>(life_out hL f (by omega) q (by omega)).2) c1 ?_ r1 r2⟩
 rw [<- m3]
 rfl
structure Live (D:List Txt) (s:St) (d:DS) (snap:List R) (recs:List Txt):Prop where
 fresh:Fresh D s.ver snap
 alive:J.Alive D recs recs.length s.j d
 pos:s.j.pos = logAt D.length
 n:s.j.n = many D.length
 jver:s.j.ver = s.ver
 rows:applyAll snap recs = some s.rows
 fit:size s.rows<=room D.length
 life:s.life = d.cr
 dead:s.dead = false
 top:s.ver<=1099511627776
theorem take_last (recs:List Txt) (b:Txt) {m:Nat} (h1:recs.length<=m) (h2:m<=(recs ++ [b]).length):(recs ++ [b]).take m = recs\/(recs ++ [b]).take m = recs ++ [b]:=by
 rw [List.length_append,List.length_singleton] at h2
 by_cases h:m = recs.length
 ·subst h; exact .inl (by simp)
 ·have:m = recs.length + 1:=by omega
  subst this
  exact .inr (List.take_of_length_le (by simp))
variable {s:St}
theorem Live.crash (h:Live D s d snap recs) (f:FT):Rest (d.crashD f).dur s.ver snap s.rows recs:=by
 obtain ⟨m,r,m1,m2,r1,hr⟩:=ended_rest h.fresh h.alive.ended h.pos h.n h.jver h.top (fun m m1 m2=>⟨s.rows,by rw [List.take_of_length_le m1]; exact h.rows,h.fit⟩) f
 rw [List.take_of_length_le m1] at r1 hr
 rw [h.rows] at r1
 obtain rfl:=Option.some.inj r1
 exact hr
theorem Live.log (h:Live D s d snap recs) {b:Txt} {ops:List Bt.O} {was:Nat} (hb:b.length < 4294967296) (hf:s.j.fits b.length = true) (ho:Bt.decD b = .inr ops) (hfit:size (Bt.apply s.rows ops)<=room D.length) :
  (∃ s' d2,s.log d b (Bt.apply s.rows ops) was = (0,s',d2)/\Live D s' d2 snap (recs ++ [b])/\s'.rows = Bt.apply s.rows ops/\s'.ver = s.ver) \/
  (∃ s' d2,s.log d b (Bt.apply s.rows ops) was = (12,s',d2)/\d2.off = true/\s'.rows = s.rows/\s'.ver = was/\s'.dead = true/\∀ f,∃ r recs',(r = s.rows\/r = Bt.apply s.rows ops)/\Rest (d2.crashD f).dur s.ver snap r recs'):=by
 have hone:applyAll snap (recs ++ [b]) = some (Bt.apply s.rows ops):=by
  rw [applyAll_append,h.rows]
  show applyAll s.rows [b] = _
  rw [applyAll,ho]
  rfl
 have hrows:∀ m,recs.length<=m->m<=(recs ++ [b]).length->∃ r,applyAll snap ((recs ++ [b]).take m) = some r/\size r<=room D.length:=by
  intro m m1 m2
  rcases take_last recs b m1 m2 with e | e
  ·exact ⟨s.rows,by rw [e]; exact h.rows,h.fit⟩
  ·exact ⟨Bt.apply s.rows ops,by rw [e]; exact hone,hfit⟩
 have gone:∀ (j2:J.JS) (d2:DS),J.Ended D (recs ++ [b]) recs.length j2 d2->j2.pos = s.j.pos->j2.n = s.j.n->j2.ver = s.j.ver->∀ f,∃ r recs',(r = s.rows\/r = Bt.apply s.rows ops)/\Rest (d2.crashD f).dur s.ver snap r recs':=by
  intro j2 d2 hE e1 e2 e3 f
  obtain ⟨m,r,m1,m2,r1,hr⟩:=ended_rest h.fresh hE (e1.trans h.pos) (e2.trans h.n) (e3.trans h.jver) h.top hrows f
  refine ⟨r,_,?_,hr⟩
  rcases take_last recs b m1 m2 with e | e
  ·rw [e,h.rows] at r1; exact .inl (Option.some.inj r1).symm
  ·rw [e,hone] at r1; exact .inr (Option.some.inj r1).symm
 have hfl:s.j.used + J.cost b.length<=s.j.n:=by
  have e:=of_decide_eq_true hf
  simp only [Int.toNat_natCast] at e
  exact e.2
 unfold St.log
 rcases J.alive_append h.alive b hb with ⟨_,hx⟩ | ⟨d2,e,A,_,_,_⟩ | ⟨d2,e,G,_,_,_,_⟩
 ·omega
 ·simp only [e]
  rw [if_neg (by simp)]
  rcases J.alive_sync A with ⟨d3,e3,A3,_,_⟩ | ⟨d3,e3,G3,_,_,_,_⟩
  ·simp only [e3]
   rw [if_neg (by simp)]
   refine .inl ⟨_,d3,rfl,⟨h.fresh,A3,h.pos,h.n,h.jver,hone,hfit,?_,h.dead,h.top⟩,rfl,rfl⟩
   show s.life = d3.cr
   rw [h.life,h.alive.same,A3.same]
  ·simp only [e3]
   rw [if_pos (by simp)]
   exact .inr ⟨_,d3,rfl,G3.off,rfl,rfl,rfl,gone _ d3 G3.ended rfl rfl rfl⟩
 ·simp only [e]
  rw [if_pos (by simp)]
  exact .inr ⟨_,d2,rfl,G.off,rfl,rfl,rfl,gone _ d2 G.ended rfl rfl rfl⟩
end
section
variable {D:List Txt} {d:DS} {v:Nat} {snap rows:List R} {recs:List Txt}
theorem slotted_out (hK:V.nsec (size rows)<=each D.length) {c:Nat}:∀ q,q ≠ (v + 1) % 2->(q < areaAt D.length (v + 1)\/areaAt D.length (v + 1) + each D.length<=q)->(slotted D v rows c).getD q [] = D.getD q []:=by
 intro q hq h
 unfold slotted
 rw [V.set_other _ (Ne.symm hq),V.flush_out D _ _ _ _ _ (Nat.le_refl _) q (by omega)]
theorem Rest.begun (h:Rest D v snap rows recs) (hv:v + 2<=1099511627776):Fresh (slotted D v rows 256) (v + 1) rows:=by
 have h0:=area_in D.length v
 have h1:=area_in D.length (v + 1)
 have h2:=log_in h.low
 have hlo:=h.low
 have hK:V.nsec (size rows)<=each D.length:=V.nsec_le.1 h.fitR
 have hO:=slotted_out (D:=D) (v:=v) (rows:=rows) hK (c:=256)
 have hl:(slotted D v rows 256).length = D.length:=by unfold slotted; rw [List.length_set,flushTo_length]
 rcases h.slot hv (c:=256) (by omega) with ⟨n,_⟩ | r
 ·exact absurd rfl n
 obtain ⟨o,old,m,hKp,_⟩:=h.slots
 have hval:(E.sct (v + 1) (slotVal D.length (size rows))).length = 256:=E.sct_length _ hKp.next
 have hsame:(slotted D v rows 256).getD ((v + 1) % 2) [] = E.tear (D.getD ((v + 1) % 2) []) (E.sct (v + 1) (slotVal D.length (size rows))) 256:=by
  unfold slotted; exact V.set_same _ (by rw [flushTo_length]; omega)
 have hK2:G.Keeps (fun j=>(slotted D v rows 256).getD j []) v (slotVal D.length (size snap)) o old (slotVal D.length (size rows)) (max m 256) :=
  hKp.again (by omega) (t:=fun j=>(slotted D v rows 256).getD j []) (hO (v % 2) (by omega) (by omega)) hsame
 have hst:(slotted D v rows 256).getD ((v + 1) % 2) [] = E.sct (v + 1) (slotVal D.length (size rows)):=by
  rw [hsame]; exact G.tear_all _ _ (h.sec _ (by omega)) hval
 have hKs:=hK2.step hst (after:=slotVal D.length (size rows)) hKp.next (by omega)
 have ea:areaAt D.length (v + 1 + 1) = areaAt D.length v:=by unfold areaAt; rw [show (v + 1 + 1) % 2 = v % 2 by omega]
 refine ⟨r.sec,r.low,r.high,r.sorted,r.fitS,r.ver,?_,r.now,r.area,r.back,?_,⟨v,by omega,?_⟩⟩
 ·rw [hl]; exact ⟨v,slotVal D.length (size snap),hKs⟩
 ·rw [hl,ea]
  intro k hk
  rw [hO _ (by omega) (by have:=area_off (v:=v) hk; omega)]
  have:=h.back k hk
  omega
 ·rw [hl]
  refine ⟨by rw [hl]; exact h.log.fit,fun k hk=>?_,fun k hk=>?_⟩
  ·rw [hO _ (by omega) (by omega)]; exact h.log.len k hk
  ·rw [hO _ (by omega) (by omega)]; exact h.log.back k hk
theorem Fresh.live (h:Fresh d.dur v snap) (hC:d.Calm) (hv:v<=1099511627776):Live d.dur ⟨snap,v,logOf d v,d.cr,false⟩ d snap [] :=
 ⟨h,⟨J.Life.start hC.ways,rfl,Nat.le_refl _,hC.off,rfl,rfl,by have:=log_in h.low; show logAt d.dur.length + many d.dur.length<=_; omega,fun _ hx=>by cases hx⟩,rfl,rfl,rfl,rfl,h.fitS,rfl,rfl,hv⟩
theorem rest_begins (hC:d.Calm) (h:Rest d.dur v snap rows recs) (hv:v + 2<=1099511627776) (ha:-1<=d.armed) :
  (∃ d2,make d rows (v + 1) = (12,d2)/\d2.off = true/\d2.cr = d.cr/\d2.dur.length = d.dur.length/\Left d2 rows v) \/
  (∃ d2,make d rows (v + 1) = (0,d2)/\d2.Calm/\d2.cr = d.cr/\d2.dur.length = d.dur.length/\Live d2.dur ⟨rows,v + 1,logOf d2 (v + 1),d2.cr,false⟩ d2 rows []/\-1<=d2.armed):=by
 rcases rest_make hC h hv ha with ⟨d2,e,o,c,l,L,_,_⟩ | ⟨d2,e,C2,c,l,r,_,_,a⟩
 ·exact .inl ⟨d2,e,o,c,l,L⟩
 ·rcases make_go (v:=v + 1) hC h.low h.high h.fitR (by omega) (by omega) ha with ⟨d3,_,e3,_⟩ | ⟨d3,e3,_⟩ | ⟨d3,e3,_,u3,_⟩
  ·rw [e] at e3; cases e3
  ·rw [e] at e3; cases e3
  ·rw [e] at e3
   obtain rfl:d2 = d3:=by injection e3
   rw [<- slotted_full h] at u3
   have F:Fresh d2.dur (v + 1) rows:=by rw [u3]; exact h.begun hv
   exact .inr ⟨d2,e,C2,c,l,F.live C2 (by omega),a⟩
end
end Go.Proofs.YthjjfjhajadimaaGreatDoor.So
