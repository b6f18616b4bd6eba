/-
  Joined: OSv, OSvC, OMake.
-/
import Derived.Test.YthjjfjhajadimaaGreatDoorP39
namespace Go.Proofs.YthjjfjhajadimaaGreatDoor
open Go.RowKit Go.WideShapes
set_option maxRecDepth 100000
theorem So.log_fine {d:DS} {v:Nat} (h64:64<=d.dur.length) (hmax:d.dur.length<=65536) (ho:d.off = false) (h1:1<=v) (h2:v<=1099511627776):J.Fine (So.logOf d v) d:=by
 have hm:J.may d (So.logAt d.dur.length:Nat) (So.many d.dur.length:Nat) v:=may_log h64 rfl hmax h1 h2
 have hr:J.refE d (So.logAt d.dur.length:Nat) (So.many d.dur.length:Nat) v = 0:=by
  unfold J.refE
  rw [if_neg (fun k=>k hm),if_neg (by rw [ho]; simp)]
 exact J.Fine.begin hr
theorem So.lies_no {d:DS} {er:Nat} (h:So.lies d = .inl er):er ≠ 0:=by
 unfold So.lies at h
 split at h
 ·rename_i hne
  injection h with h
  rw [<- h]
  exact hne
 ·have h15:∀ x:Nat ⊕ (List Tb.R × Nat),x = .inl 15->x = .inl er->er ≠ 0:=fun x e1 e2=>by
   rw [e1] at e2
   injection e2 with e2
   omega
  split at h
  ·exact h15 _ rfl h
  ·split at h
   ·exact h15 _ rfl h
   ·split at h
    ·exact h15 _ rfl h
    ·split at h
     ·exact h15 _ rfl h
     ·split at h
      ·exact h15 _ rfl h
      ·cases h
theorem So.lies_yes {d:DS} {m:List Tb.R} {v:Nat} (h:So.lies d = .inr (m,v)):(d.slotsR 0).2.2 = 0/\(d.slotsR 0).2.1 = v:=by
 unfold So.lies at h
 split at h
 ·cases h
 ·rename_i hne
  have h0:(d.slotsR 0).2.2 = 0:=Classical.byContradiction hne
  split at h
  ·cases h
  ·split at h
   ·cases h
   ·split at h
    ·cases h
    ·split at h
     ·cases h
     ·split at h
      ·cases h
      ·injection h with h
       injection h with _ h
       exact ⟨h0,h⟩
theorem So.lies_off {d:DS} (h:2<=d.dur.length) (ho:d.off = true):So.lies d = .inl 12:=by
 have k:(d.slotsR 0).2.2 = 12:=by
  rcases slots_tell (d:=d) h with ⟨x,_⟩ | ⟨_,x⟩ | ⟨_,x⟩
  ·exact x
  ·rw [ho] at x; cases x
  ·rw [ho] at x; cases x
 unfold So.lies
 rw [if_pos (by rw [k]; decide),k]
theorem So.lay_zero {n:Nat} (h:So.layE n = 0):64<=n/\n<=65536:=by
 unfold So.layE at h
 split at h
 ·cases h
 ·split at h
  ·cases h
  ·omega
theorem So.next_R (s:So.St) (d:DS):(s.next d).1 = (So.nextR d s.rows s.ver).1/\(s.next d).2.2 = (So.nextR d s.rows s.ver).2/\(s.next d).2.1.rows = s.rows/\(s.next d).2.1.life = s.life/\((So.nextR d s.rows s.ver).1 ≠ 0->(s.next d).2.1.ver = s.ver/\(s.next d).2.1.j = s.j)/\((So.nextR d s.rows s.ver).1 = 0->(s.next d).2.1 = { s with ver:=s.ver + 1,j:=So.logOf (So.nextR d s.rows s.ver).2 (s.ver + 1) }):=by
 unfold So.St.next So.nextR
 split
 ·exact ⟨rfl,rfl,rfl,rfl,fun _=>⟨rfl,rfl⟩,fun h=>by cases h⟩
 ·split
  ·rename_i h
   exact ⟨rfl,rfl,rfl,rfl,fun _=>⟨rfl,rfl⟩,fun k=>absurd k h⟩
  ·rename_i h
   have h0:=Classical.byContradiction h
   exact ⟨h0.symm,rfl,rfl,rfl,fun k=>absurd h0 k,fun _=>rfl⟩
theorem So.nextR_ends {d:DS} {l:List Tb.R} {v:Nat} (h64:64<=d.dur.length) (hmax:d.dur.length<=65536) (hs:So.size l<=So.room d.dur.length) (hv:v<=1099511627776) :
  ((So.nextR d l v).1 = 0/\(So.nextR d l v).2.off = false/\v + 1<=1099511627776)\/((So.nextR d l v).1 = 12/\(So.nextR d l v).2.off = true/\v < 1099511627776)\/(So.nextR d l v = (16,d)/\v = 1099511627776):=by
 unfold So.nextR
 split
 ·exact .inr (.inr ⟨rfl,by omega⟩)
 ·rcases So.make_ends (rows:=l) (v:=v + 1) h64 hmax hs (by omega) (by omega) with ⟨x,y⟩ | ⟨x,y⟩
  ·exact .inl ⟨x,y,by omega⟩
  ·exact .inr (.inl ⟨x,y,by omega⟩)
theorem So.Ran.nextR (d:DS) (l:List Tb.R) (v:Nat):So.Ran 65537 2 d (So.nextR d l v).2:=by
 unfold So.nextR
 split
 ·exact (So.Ran.refl d).mono (by omega) (by omega)
 ·exact So.Ran.make d l (v + 1)
structure Sv (n0:Nat) (ad:Nat->Addr) (w:World) (p b q t:Nat) (s:So.St) (d:DS) (S A:Nat->Prop):Prop where
 dk:Dk n0 ad w b d S
 sm:Sm w p b d.dur.length s.life t (So.rowsB s.rows).length s.ver q
 tbl:Tbl w t s.rows A
 low:64<=d.dur.length
 fit:So.size s.rows<=So.room d.dur.length
 ver1:1<=s.ver
 ver2:s.ver<=1099511627776
 life:s.life<=d.cr
 dead:s.dead = true->(d.off || decide (d.cr ≠ s.life)) = true
 log:s.down d = false->CJ w q b s.j/\J.Fine s.j d/\s.j.life = s.life
 p0:n0<=p
 q0:n0<=q
 ql:q < w.heap.size
 pS:¬ S p
 qS:¬ S q
 pq:p ≠ q
 aS:∀ k,A k->¬ S k/\k ≠ p/\k ≠ q
def Sto (n0:Nat) (ad:Nat->Addr) (w:World) (p b:Nat) (s:So.St) (d:DS) (O H:Nat->Prop):Prop :=
 ∃ q t S A,Sv n0 ad w p b q t s d S A/\(∀ k,O k ↔ (S k\/k = p\/k = q))/\(∀ k,H k ↔ (O k\/A k))
def StoTo (n0:Nat) (ad:Nat->Addr) (w:World) (p b:Nat) (s:So.St) (d:DS) (O H:Nat->Prop) (w':World):Prop :=
 ∃ O' H',Sto n0 ad w' p b s d O' H'/\(∀ k,O' k->O k\/w.heap.size<=k)/\(∀ k,H' k->H k\/w.heap.size<=k)/\Keeps O w w'
def SvTo (n0:Nat) (ad:Nat->Addr) (w:World) (p b:Nat) (r:Nat × So.St × DS) (O H:Nat->Prop) (e:Ending) (w':World):Prop :=
 e = .returned (errV ad r.1)/\StoTo n0 ad w p b r.2.1 r.2.2 O H w'
section
variable {n0:Nat} {ad:Nat->Addr} {w w' w2:World} {p b q t:Nat} {s s':So.St} {d d':DS} {S S' A O H T:Nat->Prop}
theorem Sv.down (h:Sv n0 ad w p b q t s d S A):s.down d = (d.off || decide (d.cr ≠ s.life)):=by
 unfold So.St.down
 cases hd:s.dead with
 | false=>simp
 | true =>
  have:=h.dead hd
  simp only [Bool.true_or]
  exact this.symm
theorem Sv.turn (h:Sv n0 ad w p b q t s d S A) (hD:Dk n0 ad w' b d' S') (hS:∀ k,S' k->S k\/w.heap.size<=k) (hK:Keeps (fun k=>S k\/k = q) w w') (hlen:d'.dur.length = d.dur.length) (hcr:d.cr<=d'.cr)
  (hr:s'.rows = s.rows) (hv:s'.ver = s.ver) (hl:s'.life = s.life) (hdead:s'.dead = true->(d'.off || decide (d'.cr ≠ s.life)) = true) (hlog:s'.down d' = false->CJ w' q b s'.j/\J.Fine s'.j d'/\s'.j.life = s.life) :
  Sv n0 ad w' p b q t s' d' S' A:=by
 have hpl:=h.sm.lt
 have hql:=h.ql
 have hz:=hK.size
 refine ⟨hD,?_,?_,by rw [hlen]; exact h.low,by rw [hr,hlen]; exact h.fit,by rw [hv]; exact h.ver1,by rw [hv]; exact h.ver2,by rw [hl]; have:=h.life; omega,by rw [hl]; exact hdead,by rw [hl]; exact hlog,h.p0,h.q0,by omega,fun e=>?_,fun e=>?_,h.pq,fun k hk=>⟨fun e=>?_,(h.aS k hk).2⟩⟩
 ·rw [hlen,hr,hv,hl]
  exact h.sm.kept hK (fun e=>by
   rcases e with e | e
   ·exact h.pS e
   ·exact h.pq e)
 ·rw [hr]
  exact h.tbl.kept hK (fun k hk e=>by
   rcases e with e | e
   ·exact (h.aS k hk).1 e
   ·exact (h.aS k hk).2.2 e)
 ·rcases hS _ e with e | e
  ·exact h.pS e
  ·omega
 ·rcases hS _ e with e | e
  ·exact h.qS e
  ·omega
 ·rcases hS _ e with e | e
  ·exact (h.aS k hk).1 e
  ·have:=h.tbl.lt k hk; omega
theorem Sv.to (_h:Sv n0 ad w p b q t s d S A) (hO:∀ k,O k ↔ (S k\/k = p\/k = q)) (hH:∀ k,H k ↔ (O k\/A k)) {q' t':Nat} {A':Nat->Prop} (k:Sv n0 ad w' p b q' t' s' d' S' A') (hS:∀ i,S' i->S i\/w.heap.size<=i) (hq:q' = q\/w.heap.size<=q') (hA:∀ i,A' i->A i\/w.heap.size<=i) (hK:Keeps O w w'):StoTo n0 ad w p b s' d' O H w':=by
 refine ⟨fun i=>S' i\/i = p\/i = q',fun i=>(S' i\/i = p\/i = q')\/A' i,⟨q',t',S',A',k,fun i=>Iff.rfl,fun i=>Iff.rfl⟩,fun i e=>?_,fun i e=>?_,hK⟩
 ·rcases e with e | e | e
  ·rcases hS i e with x | x
   ·exact .inl ((hO i).2 (.inl x))
   ·exact .inr x
  ·exact .inl ((hO i).2 (.inr (.inl e)))
  ·rcases hq with x | x
   ·exact .inl ((hO i).2 (.inr (.inr (e.trans x))))
   ·exact .inr (by omega)
 ·rcases e with (e | e | e) | e
  ·rcases hS i e with x | x
   ·exact .inl ((hH i).2 (.inl ((hO i).2 (.inl x))))
   ·exact .inr x
  ·exact .inl ((hH i).2 (.inl ((hO i).2 (.inr (.inl e)))))
  ·rcases hq with x | x
   ·exact .inl ((hH i).2 (.inl ((hO i).2 (.inr (.inr (e.trans x))))))
   ·exact .inr (by omega)
  ·rcases hA i e with x | x
   ·exact .inl ((hH i).2 (.inr x))
   ·exact .inr x
theorem Sv.quiet (h:Sv n0 ad w p b q t s d S A) (Q:Qt w w'):Sv n0 ad w' p b q t s d S A :=
 ⟨h.dk.qt Q,h.sm.qt Q,h.tbl.qt Q,h.low,h.fit,h.ver1,h.ver2,h.life,h.dead,fun e=>⟨(h.log e).1.qt Q,(h.log e).2⟩,h.p0,h.q0,Nat.lt_of_lt_of_le h.ql Q.size,h.pS,h.qS,h.pq,h.aS⟩
theorem Sto.qt (h:Sto n0 ad w p b s d O H) (Q:Qt w w'):Sto n0 ad w' p b s d O H:=by
 obtain ⟨q,t,S,A,hv,hO,hH⟩:=h
 exact ⟨q,t,S,A,hv.quiet Q,hO,hH⟩
theorem Sto.sub (h:Sto n0 ad w p b s d O H):(∀ k,O k->H k)/\(∀ k,O k->n0<=k)/\(∀ k,H k->k < w.heap.size):=by
 obtain ⟨q,t,S,A,hv,hO,hH⟩:=h
 have lO:∀ k,O k->k < w.heap.size:=fun k e=>by
  rcases (hO k).1 e with x | x | x
  ·exact hv.dk.lt k x
  ·have:=hv.sm.lt; omega
  ·have:=hv.ql; omega
 refine ⟨fun k e=>(hH k).2 (.inl e),fun k e=>?_,fun k e=>?_⟩
 ·rcases (hO k).1 e with x | x | x
  ·exact hv.dk.low k x
  ·have:=hv.p0; omega
  ·have:=hv.q0; omega
 ·rcases (hH k).1 e with x | x
  ·exact lO k x
  ·exact hv.tbl.lt k x
theorem Sto.disk (h:Sto n0 ad w p b s d O H):∃ S,Dk n0 ad w b d S/\(∀ k,S k->O k)/\∀ w' d' S',DkTo n0 ad w b d' S w' S'->d'.dur.length = d.dur.length->d.cr<=d'.cr->((d.off || decide (d.cr ≠ s.life)) = true->(d'.off || decide (d'.cr ≠ s.life)) = true)->(∀ j,J.Fine j d->J.Fine j d')->StoTo n0 ad w p b s d' O H w':=by
 obtain ⟨q,t,S,A,hv,hO,hH⟩:=h
 refine ⟨S,hv.dk,fun k e=>(hO k).2 (.inl e),fun w' d' S' hd hlen hcr hdn hfine=>?_⟩
 have hdn2:=hv.down
 refine hv.to hO hH (hv.turn hd.dk hd.all (hd.keeps.mono (fun _ _ e=>.inl e)) hlen hcr (s':=s) rfl rfl rfl (fun e=>hdn (hv.dead e)) (fun e=>?_)) hd.all (.inl rfl) (fun _ e=>.inl e) (hd.keeps.mono (fun k _ e=>(hO k).2 (.inl e)))
 have hu:s.down d = false:=by
  rw [hdn2]
  cases hx:(d.off || decide (d.cr ≠ s.life)) with
  | false=>rfl
  | true =>
   have k:=hdn hx
   unfold So.St.down at e
   rw [Bool.or_assoc,k,Bool.or_true] at e
   cases e
 obtain ⟨c1,c2,c3⟩:=hv.log hu
 exact ⟨c1.kept hd.keeps hv.qS,hfine _ c2,c3⟩
end
def OpnTo (n0:Nat) (ad:Nat->Addr) (w:World) (b:Nat) (r:(Nat ⊕ So.St) × DS) (S:Nat->Prop) (e:Ending) (w':World):Prop:=match r.1 with
 | .inl er=>OpnNo n0 ad w b er r.2 S e w'
 | .inr s=>∃ p O H,e = .returned (.tuple #[.pointer (some ⟨p,0,none⟩),.nilIface])/\Sto n0 ad w' p b s r.2 O H/\(∀ k,O k->S k\/w.heap.size<=k)/\(∀ k,H k->S k\/w.heap.size<=k)/\Keeps S w w'
section
variable {n0:Nat} {ad:Nat->Addr} {w:World} {b:Nat} {d:DS} {S:Nat->Prop}
theorem read13_any (h:Dk n0 ad w b d S) (h64:64<=d.dur.length):Calls Tryz.prog 87 #[layV b d.dur.length] w (ReadTo n0 ad w b d (So.lies d) S):=by
 by_cases he:(d.slotsR 0).2.2 = 0
 ·obtain ⟨_,_,h2,h3⟩:=So.slots_ok he
  cases hp:So.parse d.dur.length (d.slotsR 0).1 with
  | none=>exact read13_ahead h (.inr (.inl hp)) h64
  | some k =>
   by_cases ha:(d.areaR ((So.areaAt d.dur.length (d.slotsR 0).2.1:Nat):Int) ((So.each d.dur.length:Nat):Int) (d.slotsR 0).2.1 (k:Int)).2 = 0
   ·cases hs:So.snapD (d.areaR ((So.areaAt d.dur.length (d.slotsR 0).2.1:Nat):Int) ((So.each d.dur.length:Nat):Int) (d.slotsR 0).2.1 (k:Int)).1 with
    | none=>exact read13_ahead h (.inr (.inr ⟨k,hp,.inr hs⟩)) h64
    | some rows=>exact read13_log h h2 he h3 hp ha hs h64
   ·exact read13_ahead h (.inr (.inr ⟨k,hp,.inl ha⟩)) h64
 ·exact read13_ahead h (.inl he) h64
theorem open13_any (h:Dk n0 ad w b d S) (hf:d.FewS):Calls Tryz.prog 38 #[.pointer (some ⟨b,0,none⟩)] w (OpnTo n0 ad w b (So.opens d) S):=by
 by_cases hz:So.layE d.dur.length = 0
 ·obtain ⟨h64,hmax⟩:=So.lay_zero hz
  have hRD:∀ W,Qt w W->Calls Tryz.prog 87 #[layV b d.dur.length] W (ReadTo n0 ad W b d (So.lies d) S):=fun W x=>read13_any (h.qt x) h64
  cases hl:So.lies d with
  | inl er =>
   have e0:=So.lies_no hl
   have ho:So.opens d = (.inl er,d):=by
    unfold So.opens
    rw [if_neg (fun k=>k hz)]
    split
    ·rename_i x
     have k:=So.lies_off (by omega) x
     rw [hl] at k
     injection k with k
     rw [k]
    ·rw [hl]
   rw [hl] at hRD
   rw [ho]
   by_cases e15:er = 15
   ·subst e15
    exact open13_bad h hz hRD
   ·exact open13_no h hz e0 e15 hRD
  | inr mv =>
   obtain ⟨m,v⟩:=mv
   rw [hl] at hRD
   obtain ⟨hso,hsz⟩:=So.lies_sorted hl
   obtain ⟨hy,hyv⟩:=So.lies_yes hl
   obtain ⟨hoff,hv1,hv2,_⟩:=So.slots_ok hy
   rw [hyv] at hv1 hv2
   obtain ⟨n1,n2,n3,n4,_,n6⟩:=So.next_R ⟨m,v,So.logOf d v,d.cr,false⟩ d
   have ho:So.opens d = (if (So.nextR d m v).1 ≠ 0 then (.inl (So.nextR d m v).1,(So.nextR d m v).2) else (.inr (So.St.next ⟨m,v,So.logOf d v,d.cr,false⟩ d).2.1,(So.nextR d m v).2)):=by
    unfold So.opens
    rw [if_neg (fun k=>k hz),if_neg (by rw [hoff]; simp),hl]
    simp only
    rw [n1,n2]
   rw [ho]
   by_cases hn:(So.nextR d m v).1 = 0
   ·rw [if_neg (fun k=>k hn),n6 hn]
    refine (open13_ok h hz hf hsz hv2 hRD hn).mono ?_
    rintro e w' ⟨p,t,q,A,S',rfl,hd,hsm,htb,hcj,hp,hq,hA,hpS,hqS,hpq⟩
    have R:=So.Ran.nextR d m v
    have hb:=h.base
    obtain ⟨_,y,z⟩ | ⟨x,_,_⟩ | ⟨x,_⟩:=So.nextR_ends (l:=m) h64 hmax hsz hv2
    ·have hV:Sv n0 ad w' p b q t ⟨m,v + 1,So.logOf (So.nextR d m v).2 (v + 1),d.cr,false⟩ (So.nextR d m v).2 S' A :=
      ⟨hd.dk,by rw [R.len]; rw [<- R.cr]; exact hsm,htb,by rw [R.len]; exact h64,by rw [R.len]; exact hsz,Nat.le_add_left 1 v,z,by rw [R.cr]; exact Nat.le_refl _,fun k=>(by cases k),fun _=>⟨hcj,So.log_fine (by rw [R.len]; exact h64) (by rw [R.len]; exact hmax) y (Nat.le_add_left 1 v) z,R.cr⟩,by omega,by omega,hcj.lt,hpS,hqS,hpq,fun k hk=>⟨(hA k hk).2.1,(hA k hk).2.2.2,(hA k hk).2.2.1⟩⟩
     refine ⟨p,fun k=>S' k\/k = p\/k = q,fun k=>(S' k\/k = p\/k = q)\/A k,rfl,⟨q,t,S',A,hV,fun k=>Iff.rfl,fun k=>Iff.rfl⟩,fun k x=>?_,fun k x=>?_,hd.keeps⟩
     ·rcases x with x | x | x
      ·exact hd.all k x
      ·exact .inr (by omega)
      ·exact .inr (by omega)
     ·rcases x with (x | x | x) | x
      ·exact hd.all k x
      ·exact .inr (by omega)
      ·exact .inr (by omega)
      ·exact .inr (hA k x).1
    ·rw [hn] at x; cases x
    ·rw [x] at hn; cases hn
   ·rw [if_pos hn]
    exact open13_next h hz hf hsz hv2 hRD hn
 ·have ho:So.opens d = (.inl (So.layE d.dur.length),d):=by
   unfold So.opens
   rw [if_pos hz]
  rw [ho]
  exact open13_lay h hz
end
def So.most (n:Nat):Nat:=229 + 233 * (So.many n - 1)
theorem So.most_Z {n:Nat} (h64:64<=n) (hmax:n<=65536):largestZ ((So.many n:Nat):Int) = ((So.most n:Nat):Int):=by
 have h:=So.many_ge h64
 have h2:=So.each_ge h64
 have h3:So.many n<=65536:=by unfold So.many; omega
 unfold largestZ So.most
 rw [if_neg (by omega)]
 unfold wrap64
 omega
structure DS.FewC (d:DS):Prop where
 ways:d.ways.length<=1071000000
 wr:d.wr<=288230376150000000
 fl:d.fl<=288230376150000000
 cr:d.cr<=288230376150000000
theorem So.Ran.fewS {x y:Nat} {d d2:DS} (h:So.Ran x y d d2) (hf:d.FewC) (hx:x<=400000) (hy:y<=400000):d2.FewS :=
 ⟨by have:=h.ways; have:=hf.ways; omega,by have:=h.wr; have:=hf.wr; omega,by have:=h.fl; have:=hf.fl; omega,by have:=h.cr; have:=hf.cr; omega⟩
theorem DS.FewC.s {d:DS} (h:d.FewC):d.FewS:=(So.Ran.refl d).fewS h (by omega) (by omega)
theorem So.append_ends {j:J.JS} {d:DS} {t:Tb.Txt} (hF:J.Fine j d) (hc:d.cr = j.life) (hfit:j.fits (t.length:Int) = true):(j.append d t).1 = 0\/(j.append d t).2.2.off = true:=by
 unfold J.JS.append
 split
 ·rename_i hd
  rw [hF.down] at hd
  rcases J.gone_dead hd with e | e
  ·exact .inr e
  ·exact absurd hc e
 ·rename_i hd
  have hg:=J.gone_not (by rw [<- hF.down]; simpa using hd)
  have hn:¬ j.n < j.used + J.cost t.length:=by
   unfold J.JS.fits at hfit
   have:=of_decide_eq_true hfit
   rw [Int.toNat_natCast] at this
   omega
  rw [if_neg hn]
  obtain ⟨r1,_,_⟩:=J.go_fine (j:=j) (v:=t) (J.cost t.length) 0 d hg.1 (by omega) hF.fit
  split
  ·rename_i he
   rcases r1 with r1 | ⟨_,r1⟩
   ·exact absurd r1 he
   ·exact .inr r1
  ·exact .inl rfl
theorem So.sync_ends {j:J.JS} {d:DS} (hF:J.Fine j d) (hc:d.cr = j.life):((j.sync d).1 = 0\/(j.sync d).2.2.off = true)/\(j.sync d).2.1.life = j.life:=by
 unfold J.JS.sync
 split
 ·rename_i hd
  rw [hF.down] at hd
  rcases J.gone_dead hd with e | e
  ·exact ⟨.inr e,rfl⟩
  ·exact absurd hc e
 ·split
  ·rename_i he
   rcases So.flush_ends d with ⟨x,_⟩ | ⟨_,x⟩
   ·exact absurd x he
   ·exact ⟨.inr x,rfl⟩
  ·exact ⟨.inl rfl,rfl⟩
theorem So.add_ends {j:J.JS} {d:DS} {t:Tb.Txt} (hF:J.Fine j d) (hc:d.cr = j.life) (hfit:j.fits (t.length:Int) = true) :
  (((So.addJ j d t).1 = 0/\J.Fine (So.addJ j d t).2.1 (So.addJ j d t).2.2/\(So.addJ j d t).2.1.life = j.life)\/((So.addJ j d t).1 ≠ 0/\(So.addJ j d t).2.2.off = true))/\So.Ran j.n 1 d (So.addJ j d t).2.2:=by
 have a1:=So.append_ends hF hc hfit
 have a2:=So.Ran.append j d t
 have a3:=So.append_n j d t
 have a4:=(hF.append t).1
 unfold So.addJ
 split
 ·rename_i h0
  rcases a1 with x | x
  ·exact absurd x h0
  ·exact ⟨.inr ⟨h0,x⟩,a2.mono (Nat.le_refl _) (by omega)⟩
 ·obtain ⟨s1,s2⟩:=So.sync_ends a4 (by rw [a2.cr,a3.2]; exact hc)
  have s3:=So.Ran.sync (j.append d t).2.1 (j.append d t).2.2
  refine ⟨?_,(a2.trans s3).mono (by omega) (by omega)⟩
  by_cases h1:((j.append d t).2.1.sync (j.append d t).2.2).1 = 0
  ·exact .inl ⟨h1,a4.sync.1,by rw [s2,a3.2]⟩
  ·rcases s1 with x | x
   ·exact absurd x h1
   ·exact .inr ⟨h1,x⟩
theorem So.log_add (s:So.St) (d:DS) (t:Tb.Txt) (rows:List Tb.R) (was:Nat):s.log d t rows was = ((So.addJ s.j d t).1,(if (So.addJ s.j d t).1 = 0 then { s with j:=(So.addJ s.j d t).2.1,rows:=rows } else { s with j:=(So.addJ s.j d t).2.1,dead:=true,ver:=was }),(So.addJ s.j d t).2.2):=by
 by_cases h:(s.j.append d t).1 = 0
 ·have e:So.addJ s.j d t = (s.j.append d t).2.1.sync (s.j.append d t).2.2:=if_neg (fun x=>x h)
  rw [e]
  unfold So.St.log
  simp only
  rw [if_neg (fun x=>x h)]
  by_cases k:((s.j.append d t).2.1.sync (s.j.append d t).2.2).1 = 0
  ·rw [if_neg (fun x=>x k),if_pos k,k]
  ·rw [if_pos k,if_neg k]
 ·have e:So.addJ s.j d t = s.j.append d t:=if_pos h
  rw [e]
  unfold So.St.log
  simp only
  rw [if_pos h,if_neg h]
theorem So.fits_new {d:DS} {v:Nat} {z:Nat} (h64:64<=d.dur.length) (h:z<=So.most d.dur.length):(So.logOf d v).fits (z:Int) = true:=by
 have h2:=So.many_ge h64
 have h3:=So.each_ge h64
 unfold J.JS.fits
 refine decide_eq_true ⟨by omega,?_⟩
 rw [Int.toNat_natCast]
 show 0 + J.cost z<=So.many d.dur.length
 unfold So.most at h
 unfold J.cost
 split <;> omega
section
variable {n0:Nat} {ad:Nat->Addr} {w:World} {p b g o:Nat} {s:So.St} {d:DS} {O H:Nat->Prop} {ov:Value} {ops:List Bt.O}
theorem compact_sto (h:Sto n0 ad w p b s d O H) (hf:d.FewC):Calls Tryz.prog 37 #[.pointer (some ⟨p,0,none⟩)] w (SvTo n0 ad w p b (s.compact d) O H):=by
 obtain ⟨q,t,S,A,hv,hO,hH⟩:=h
 have hdn:=hv.down
 have hmax:=hv.dk.len
 have hb:=hv.dk.base
 have hpl:=hv.sm.lt
 have hql:=hv.ql
 refine (compact13_any hv.dk hf.s hv.low hv.tbl hv.fit hv.ver2 hv.sm hv.pS hv.p0).mono ?_
 intro e w' hc
 obtain ⟨n1,n2,n3,n4,n5,n6⟩:=So.next_R s d
 have R:=So.Ran.nextR d s.rows s.ver
 have KO:∀ k,(S k\/k = p)->O k:=fun k e=>(hO k).2 (by
  rcases e with e | e
  ·exact .inl e
  ·exact .inr (.inl e))
 unfold CmpTo at hc
 cases hd:(d.off || decide (d.cr ≠ s.life)) with
 | true =>
  rw [if_pos hd] at hc
  obtain ⟨rfl,Q⟩:=hc
  have e:s.compact d = (12,{ s with dead:=true },d):=by unfold So.St.compact; rw [if_pos (hdn.trans hd)]
  rw [e]
  refine ⟨rfl,hv.to hO hH (hv.turn (hv.dk.qt Q) (fun _ e=>.inl e) (Q.mono (fun _ _ e=>e.elim)) rfl (Nat.le_refl _) (s':={ s with dead:=true }) rfl rfl rfl (fun _=>hd) (fun e=>by cases e)) (fun _ e=>.inl e) (.inl rfl) (fun _ e=>.inl e) (Q.mono (fun _ _ e=>e.elim))⟩
 | false =>
  rw [if_neg (by rw [hd]; simp)] at hc
  have e:s.compact d = s.next d:=by unfold So.St.compact; rw [if_neg (by rw [hdn,hd]; simp)]
  rw [e]
  unfold SvTo
  rw [n1,n2]
  by_cases hz:(So.nextR d s.rows s.ver).1 = 0
  ·rw [if_pos hz] at hc
   obtain ⟨S',q',rfl,hD,hS,hK,hM,hC,hq,hqS,hpS⟩:=hc
   have hz2:=hK.size
   rw [hz,n6 hz]
   obtain ⟨_,y,z⟩ | ⟨x,_,_⟩ | ⟨x,_⟩:=So.nextR_ends (l:=s.rows) hv.low hmax hv.fit hv.ver2
   ·refine ⟨rfl,hv.to hO hH (q':=q') (t':=t) (A':=A) (S':=S') ⟨hD,by rw [R.len]; exact hM,hv.tbl.kept hK (fun k hk e=>by
     rcases e with e | e
     ·exact (hv.aS k hk).1 e
     ·exact (hv.aS k hk).2.1 e),by rw [R.len]; exact hv.low,by rw [R.len]; exact hv.fit,Nat.le_add_left 1 _,z,by rw [R.cr]; exact hv.life,?_,fun _=>⟨hC,So.log_fine (by rw [R.len]; exact hv.low) (by rw [R.len]; exact hmax) y (Nat.le_add_left 1 _) z,?_⟩,hv.p0,by omega,hC.lt,hpS,hqS,by omega,fun k hk=>⟨fun e=>?_,(hv.aS k hk).2.1,by have:=hv.tbl.lt k hk; omega⟩⟩ hS (.inr hq) (fun _ e=>.inl e) (hK.mono (fun k _ e=>KO k e))⟩
    ·intro k
     have:=hv.dead k
     rw [hd] at this
     cases this
    ·show (So.nextR d s.rows s.ver).2.cr = s.life
     rw [R.cr]
     simp only [Bool.or_eq_false_iff] at hd
     exact Classical.byContradiction fun k=>by simp [k] at hd
    ·rcases hS k e with x | x
     ·exact (hv.aS k hk).1 x
     ·have:=hv.tbl.lt k hk; omega
   ·rw [hz] at x; cases x
   ·rw [x] at hz; cases hz
  ·rw [if_neg hz] at hc
   obtain ⟨S',rfl,hD⟩:=hc
   obtain ⟨n7,n8⟩:=n5 hz
   refine ⟨rfl,hv.to hO hH (hv.turn hD.dk hD.all (hD.keeps.mono (fun _ _ e=>.inl e)) R.len (by rw [R.cr]; exact Nat.le_refl _) n3 n7 n4 ?_ ?_) hD.all (.inl rfl) (fun _ e=>.inl e) (hD.keeps.mono (fun k _ e=>KO k (.inl e)))⟩
   ·intro k
    obtain ⟨x,_,_⟩ | ⟨_,x,_⟩ | ⟨x,y⟩:=So.nextR_ends (l:=s.rows) hv.low hmax hv.fit hv.ver2
    ·exact absurd x hz
    ·rw [x]; rfl
    ·have e2:s.next d = (16,s,d):=by unfold So.St.next; rw [if_pos (by omega)]
     rw [e2] at k
     have:=hv.dead k
     rw [hd] at this
     cases this
   ·intro k
    obtain ⟨x,_,_⟩ | ⟨_,x,_⟩ | ⟨x,y⟩:=So.nextR_ends (l:=s.rows) hv.low hmax hv.fit hv.ver2
    ·exact absurd x hz
    ·unfold So.St.down at k
     rw [x] at k
     simp at k
    ·have e2:s.next d = (16,s,d):=by unfold So.St.next; rw [if_pos (by omega)]
     rw [e2] at k ⊢
     rw [x] at k ⊢
     obtain ⟨c1,c2,c3⟩:=hv.log k
     exact ⟨c1.kept hD.keeps hv.qS,c2,c3⟩
theorem commit_sto (h:Sto n0 ad w p b s d O H) (hf:d.FewC) (hi:OpsIn w ov g o ops) (hl:ops.length<=262144) (ht:∀ z ∈ ops,z.key.length<=1048576/\z.val.length<=1048576) :
  Calls Tryz.prog 36 #[.pointer (some ⟨p,0,none⟩),ov] w (SvTo n0 ad w p b (s.commit d (So.most d.dur.length) ops) O H):=by
 obtain ⟨q,t,S,A,hv,hO,hH⟩:=h
 have hdn:=hv.down
 have hmax:=hv.dk.len
 have hb:=hv.dk.base
 have hpl:=hv.sm.lt
 have hql:=hv.ql
 have hmz:=So.most_Z hv.low hmax
 have quiet:∀ {w':World},Qt w w'->StoTo n0 ad w p b s d O H w':=fun Q=>hv.to hO hH (hv.quiet Q) (fun _ e=>.inl e) (.inl rfl) (fun _ e=>.inl e) (Q.mono (fun _ _ e=>e.elim))
 have KO:∀ k,(S k\/k = q\/k = p)->O k:=fun k e=>(hO k).2 (by
  rcases e with e | e | e
  ·exact .inl e
  ·exact .inr (.inr e)
  ·exact .inr (.inl e))
 cases hd:(d.off || decide (d.cr ≠ s.life)) with
 | true =>
  have e:s.commit d (So.most d.dur.length) ops = (12,{ s with dead:=true },d):=by unfold So.St.commit; rw [if_pos (hdn.trans hd)]
  rw [e]
  refine (commit_down hv.dk hv.tbl hv.fit hv.sm hi hl ht hd).mono ?_
  rintro e w' ⟨rfl,Q⟩
  exact ⟨rfl,hv.to hO hH (hv.turn (hv.dk.qt Q) (fun _ e=>.inl e) (Q.mono (fun _ _ e=>e.elim)) rfl (Nat.le_refl _) (s':={ s with dead:=true }) rfl rfl rfl (fun _=>hd) (fun e=>by cases e)) (fun _ e=>.inl e) (.inl rfl) (fun _ e=>.inl e) (Q.mono (fun _ _ e=>e.elim))⟩
 | false =>
  obtain ⟨hC,hF,hjl⟩:=hv.log (hdn.trans hd)
  have hu:¬ s.down d = true:=by rw [hdn,hd]; simp
  have hcr:d.cr = s.life:=by
   simp only [Bool.or_eq_false_iff] at hd
   exact Classical.byContradiction fun k=>by simp [k] at hd
  by_cases hne:Bt.normal ops = []
  ·have e:s.commit d (So.most d.dur.length) ops = (0,s,d):=by unfold So.St.commit; rw [if_neg hu,if_pos hne]
   rw [e]
   exact (commit_none hv.dk hv.tbl hv.fit hv.sm hi hl ht hd hne).mono fun _ _ ⟨x,Q⟩=>⟨x,quiet Q⟩
  by_cases hlg:So.most d.dur.length < (Bt.encB (Bt.normal ops)).length
  ·have e:s.commit d (So.most d.dur.length) ops = (18,s,d):=by unfold So.St.commit; rw [if_neg hu,if_neg hne,if_pos hlg]
   rw [e]
   exact (commit_large hv.dk hv.tbl hv.fit hv.sm hi hl ht hd hne (by rw [hmz]; omega)).mono fun _ _ ⟨x,Q⟩=>⟨x,quiet Q⟩
  have hlgz:¬ largestZ ((So.many d.dur.length:Nat):Int) < ((Bt.encB (Bt.normal ops)).length:Int):=by rw [hmz]; omega
  have hap:s.after ops = So.size (Bt.apply s.rows ops):=rfl
  by_cases hfl:So.room d.dur.length < So.size (Bt.apply s.rows ops)
  ·have e:s.commit d (So.most d.dur.length) ops = (17,s,d):=by unfold So.St.commit; rw [if_neg hu,if_neg hne,if_neg hlg,if_pos (by rw [hap]; exact hfl)]
   rw [e]
   exact (commit_full hv.dk hv.tbl hv.fit hv.sm hi hl ht hd hne hlgz hfl).mono fun _ _ ⟨x,Q⟩=>⟨x,quiet Q⟩
  cases hfit:s.j.fits ((Bt.encB (Bt.normal ops)).length:Int) with
  | true =>
   have e:s.commit d (So.most d.dur.length) ops = s.log d (Bt.encB (Bt.normal ops)) (Bt.apply s.rows ops) s.ver:=by
    unfold So.St.commit
    rw [if_neg hu,if_neg hne,if_neg hlg,if_neg (by rw [hap]; exact hfl),if_pos hfit]
   obtain ⟨ends,R⟩:=So.add_ends (t:=Bt.encB (Bt.normal ops)) hF (hcr.trans hjl.symm) hfit
   rw [e,So.log_add]
   refine (commit_log hv.dk hv.tbl hv.fit hv.sm hi hl ht hd hne hlgz hfl hf.s hv.low hv.ver2 hv.pS hv.p0 hv.q0 hv.qS hC hF hfit (fun k hk=>⟨(hv.aS k hk).1,(hv.aS k hk).2.2,(hv.aS k hk).2.1⟩) hv.pq).mono ?_
   intro e w' hc
   unfold CmtTo at hc
   generalize hr:So.addJ s.j d (Bt.encB (Bt.normal ops)) = r at hc ends R ⊢
   by_cases hz:r.1 = 0
   ·rw [if_pos hz] at hc ⊢
    obtain ⟨S',t',A',rfl,hD,hS,hqS,hpS,hCJ,hM,hT,hA,hAS,hK⟩:=hc
    have hz2:=hK.size
    rcases ends with ⟨_,hFi,hli⟩ | ⟨x,_⟩
    ·refine ⟨by rw [hz]; rfl,hv.to hO hH (q':=q) (t':=t') (A':=A') (S':=S') ⟨hD,by rw [R.len]; exact hM,hT,by rw [R.len]; exact hv.low,by rw [R.len]; show So.size (Bt.apply s.rows ops)<=_; omega,hv.ver1,hv.ver2,by rw [R.cr]; exact hv.life,?_,fun _=>⟨hCJ,hFi,hli.trans hjl⟩,hv.p0,hv.q0,hCJ.lt,hpS,hqS,hv.pq,fun k hk=>⟨(hAS k hk).1,(hAS k hk).2.2,(hAS k hk).2.1⟩⟩ hS (.inl rfl) hA (hK.mono (fun k _ e=>KO k e))⟩
     intro k
     have:=hv.dead k
     rw [hd] at this
     cases this
    ·exact absurd hz x
   ·rw [if_neg hz] at hc ⊢
    obtain ⟨S',rfl,hD,hS,hqS,hCJ,hK⟩:=hc
    rcases ends with ⟨x,_⟩ | ⟨_,ho⟩
    ·exact absurd x hz
    ·exact ⟨rfl,hv.to hO hH (hv.turn (s':={ s with j:=r.2.1,dead:=true,ver:=s.ver }) hD hS hK R.len (by rw [R.cr]; exact Nat.le_refl _) rfl rfl rfl (fun _=>by rw [ho]; rfl) (fun e=>by cases e)) hS (.inl rfl) (fun _ e=>.inl e) (hK.mono (fun k _ e=>KO k (by
      rcases e with e | e
      ·exact .inl e
      ·exact .inr (.inl e))))⟩
  | false =>
   have e:s.commit d (So.most d.dur.length) ops = (if (s.next d).1 ≠ 0 then s.next d else (s.next d).2.1.log (s.next d).2.2 (Bt.encB (Bt.normal ops)) (Bt.apply s.rows ops) s.ver):=by
    unfold So.St.commit
    rw [if_neg hu,if_neg hne,if_neg hlg,if_neg (by rw [hap]; exact hfl),if_neg (by rw [hfit]; simp)]
   obtain ⟨n1,n2,n3,n4,n5,n6⟩:=So.next_R s d
   have R:=So.Ran.nextR d s.rows s.ver
   have EN:=So.nextR_ends (l:=s.rows) hv.low hmax hv.fit hv.ver2
   have hF2:(So.nextR d s.rows s.ver).1 = 0->J.Fine (So.logOf (So.nextR d s.rows s.ver).2 (s.ver + 1)) (So.nextR d s.rows s.ver).2:=fun hz=>by
    obtain ⟨_,y,z⟩ | ⟨x,_,_⟩ | ⟨x,_⟩:=EN
    ·exact So.log_fine (by rw [R.len]; exact hv.low) (by rw [R.len]; exact hmax) y (Nat.le_add_left 1 _) z
    ·rw [hz] at x; cases x
    ·rw [x] at hz; cases hz
   rw [e]
   refine (commit_snap hv.dk hv.tbl hv.fit hv.sm hi hl ht hd hne hlgz hfl hf.s hv.low hv.ver2 hv.pS hv.p0 hC hF hfit (R.fewS hf (by omega) (by omega)) hF2 (fun k hk=>⟨(hv.aS k hk).1,(hv.aS k hk).2.1⟩)).mono ?_
   intro e w' hc
   unfold SnpTo at hc
   by_cases hz:(So.nextR d s.rows s.ver).1 = 0
   ·rw [if_neg (fun k=>k hz)] at hc
    rw [if_neg (by rw [n1,hz]; simp),n6 hz,n2,So.log_add]
    have hfn:(So.logOf (So.nextR d s.rows s.ver).2 (s.ver + 1)).fits (((Bt.encB (Bt.normal ops)).length:Nat):Int) = true:=So.fits_new (by rw [R.len]; exact hv.low) (by rw [R.len]; omega)
    obtain ⟨ends,R2⟩:=So.add_ends (t:=Bt.encB (Bt.normal ops)) (hF2 hz) rfl hfn
    have ha:So.addJ ({ s with ver:=s.ver + 1,j:=So.logOf (So.nextR d s.rows s.ver).2 (s.ver + 1) }:So.St).j (So.nextR d s.rows s.ver).2 (Bt.encB (Bt.normal ops)) = So.addJ (So.logOf (So.nextR d s.rows s.ver).2 (s.ver + 1)) (So.nextR d s.rows s.ver).2 (Bt.encB (Bt.normal ops)):=rfl
    rw [ha]
    have hlf:(So.logOf (So.nextR d s.rows s.ver).2 (s.ver + 1)).life = s.life:=by
     show (So.nextR d s.rows s.ver).2.cr = s.life
     rw [R.cr]
     exact hcr
    have hv1:s.ver + 1<=1099511627776:=by
     obtain ⟨_,_,z⟩ | ⟨x,_,_⟩ | ⟨x,_⟩:=EN
     ·exact z
     ·rw [hz] at x; cases x
     ·rw [x] at hz; cases hz
    generalize hr:So.addJ (So.logOf (So.nextR d s.rows s.ver).2 (s.ver + 1)) (So.nextR d s.rows s.ver).2 (Bt.encB (Bt.normal ops)) = r at hc ends R2 ⊢
    have hlen:r.2.2.dur.length = d.dur.length:=R2.len.trans R.len
    have hcr2:r.2.2.cr = d.cr:=R2.cr.trans R.cr
    by_cases hz1:r.1 = 0
    ·rw [if_neg (fun k=>k hz1)] at hc
     rw [if_pos hz1]
     obtain ⟨q',hq',S',t',A',rfl,hD,hS,hqS,hpS,hCJ,hM,hT,hA,hAS,hK⟩:=hc
     have hz2:=hK.size
     rcases ends with ⟨_,hFi,hli⟩ | ⟨x,_⟩
     ·refine ⟨by rw [hz1]; rfl,hv.to hO hH (q':=q') (t':=t') (A':=A') (S':=S') ⟨hD,by rw [hlen]; exact hM,hT,by rw [hlen]; exact hv.low,by rw [hlen]; show So.size (Bt.apply s.rows ops)<=_; omega,Nat.le_add_left 1 _,hv1,by rw [hcr2]; exact hv.life,?_,fun _=>⟨hCJ,hFi,hli.trans hlf⟩,hv.p0,by omega,hCJ.lt,hpS,hqS,by omega,fun k hk=>⟨(hAS k hk).1,(hAS k hk).2.2,(hAS k hk).2.1⟩⟩ hS (.inr hq') hA (hK.mono (fun k _ e=>KO k (by
       rcases e with e | e | e
       ·exact .inl e
       ·exact .inr (.inr e)
       ·exact .inr (.inr e))))⟩
      intro k
      have:=hv.dead k
      rw [hd] at this
      cases this
     ·exact absurd hz1 x
    ·rw [if_pos hz1] at hc
     rw [if_neg hz1]
     obtain ⟨S',rfl,hD⟩:=hc
     rcases ends with ⟨x,_⟩ | ⟨_,ho⟩
     ·exact absurd x hz1
     ·exact ⟨rfl,hv.to hO hH (hv.turn (s':={ ({ s with ver:=s.ver + 1,j:=So.logOf (So.nextR d s.rows s.ver).2 (s.ver + 1) }:So.St) with j:=r.2.1,dead:=true,ver:=s.ver }) hD.dk hD.all (hD.keeps.mono (fun _ _ e=>.inl e)) hlen (by rw [hcr2]; exact Nat.le_refl _) rfl rfl rfl (fun _=>by rw [ho]; rfl) (fun e=>by cases e)) hD.all (.inl rfl) (fun _ e=>.inl e) (hD.keeps.mono (fun k _ e=>KO k (.inl e)))⟩
   ·rw [if_pos hz] at hc
    rw [if_pos (by rw [n1]; exact hz)]
    obtain ⟨S',rfl,hD⟩:=hc
    obtain ⟨n7,n8⟩:=n5 hz
    unfold SvTo
    rw [n1,n2]
    refine ⟨rfl,hv.to hO hH (hv.turn hD.dk hD.all (hD.keeps.mono (fun _ _ e=>.inl e)) R.len (by rw [R.cr]; exact Nat.le_refl _) n3 n7 n4 ?_ ?_) hD.all (.inl rfl) (fun _ e=>.inl e) (hD.keeps.mono (fun k _ e=>KO k (.inl e)))⟩
    ·intro k
     obtain ⟨x,_,_⟩ | ⟨_,x,_⟩ | ⟨x,y⟩:=EN
     ·exact absurd x hz
     ·rw [x]; rfl
     ·have e2:s.next d = (16,s,d):=by unfold So.St.next; rw [if_pos (by omega)]
      rw [e2] at k
      have:=hv.dead k
      rw [hd] at this
      cases this
    ·intro k
     obtain ⟨x,_,_⟩ | ⟨_,x,_⟩ | ⟨x,y⟩:=EN
     ·exact absurd x hz
     ·unfold So.St.down at k
      rw [x] at k
      simp at k
     ·have e2:s.next d = (16,s,d):=by unfold So.St.next; rw [if_pos (by omega)]
      rw [e2] at k ⊢
      rw [x] at k ⊢
      obtain ⟨c1,c2,c3⟩:=hv.log k
      exact ⟨c1.kept hD.keeps hv.qS,c2,c3⟩
end
end Go.Proofs.YthjjfjhajadimaaGreatDoor
namespace Go.Proofs.YthjjfjhajadimaaGreatDoor.So
open Go.Proofs.YthjjfjhajadimaaGreatDoor.Tb
set_option maxRecDepth 100000
section
variable {d:DS} {rows:List R} {v:Nat}
theorem make_go (hC:d.Calm) (h64:64<=d.dur.length) (hmax:d.dur.length<=65536) (hs:size rows<=room d.dur.length) (hv:1<=v) (hv2:v<=1099511627776) (ha:-1<=d.armed) :
  (∃ d2 j,make d rows v = (12,d2)/\d2.off = true/\d2.dur = d.dur/\j<=V.nsec (size rows)/\d2.ways = V.waysA (areaAt d.dur.length v) v (snapB rows) j/\d2.cr = d.cr/\d2.fl = d.fl/\d2.wr<=d.wr + V.nsec (size rows)) \/
  (∃ d2,make d rows v = (12,d2)/\d2.off = true/\d2.dur = flushTo d.dur (V.waysA (areaAt d.dur.length v) v (snapB rows) (V.nsec (size rows))) (V.nsec (size rows))/\d2.ways = [(v % 2,E.sct v (slotVal d.dur.length (size rows)))]/\d2.cr = d.cr/\d2.fl = d.fl + 1/\d2.wr<=d.wr + V.nsec (size rows) + 1) \/
  (∃ d2,make d rows v = (0,d2)/\d2.off = false/\d2.dur = (flushTo d.dur (V.waysA (areaAt d.dur.length v) v (snapB rows) (V.nsec (size rows))) (V.nsec (size rows))).set (v % 2) (E.sct v (slotVal d.dur.length (size rows)))/\d2.ways = []/\d2.cr = d.cr/\d2.fl = d.fl + 2/\d2.wr = d.wr + V.nsec (size rows) + 1/\-1<=d2.armed):=by
 have hin:=area_in d.dur.length v
 have hlog:=log_in h64
 have hK:V.nsec (size rows)<=each d.dur.length:=V.nsec_le.1 hs
 have hmay:d.mayA (areaAt d.dur.length v) (each d.dur.length) v:=⟨by omega,by omega,by omega,by omega,by omega⟩
 have hea:each d.dur.length<=65536:=by unfold each; omega
 have hW:d.areaW (areaAt d.dur.length v) (each d.dur.length) v (snapB rows) = DS.areaGo (areaAt d.dur.length v) v (snapB rows) (V.nsec (size rows)) 0 d:=by
  unfold DS.areaW
  rw [if_neg (fun h=>h hmay),if_neg (by simp only [Int.toNat_natCast,Nat.min_eq_left hea]; unfold room at hs; unfold size at hs; omega)]
  simp only [Int.toNat_natCast]
  rfl
 have hsl:(slotVal d.dur.length (size rows)).length<=234:=by
  have:=slotVal_length (n:=d.dur.length) (k:=size rows) (by omega) (by unfold room at hs; omega)
  omega
 rcases area_go (i:=areaAt d.dur.length v) (st:=v) (v:=snapB rows) (V.nsec (size rows)) 0 d hC.off (by rw [hC.ways]; rfl) (by rw [Nat.zero_add]; rfl) (by omega) ha with ⟨_,d2,e,o2,u2,w2,c2,f2,r2⟩ | ⟨_,d2,e,o2,u2,w2,c2,f2,r2,a2,_⟩
 ·refine .inl ⟨d2,min (0 + d.armed.toNat + 1) (0 + V.nsec (size rows)),?_,o2,u2,by omega,w2,c2,f2,r2⟩
  unfold make
  simp only
  rw [hW,e,if_pos (show (12:Nat) ≠ 0 by decide)]
 ·rw [Nat.zero_add] at u2
  have hC2:d2.Calm:=⟨w2,o2⟩
  have hl2:d2.dur.length = d.dur.length:=by rw [u2,flushTo_length]
  have hM:make d rows v = (d2.slotsE 0 v (slotVal d.dur.length (size rows)),d2.slotsD 0 v (slotVal d.dur.length (size rows))):=by
   unfold make
   simp only
   rw [hW,e,if_neg (by simp)]
  have h2:0 + 2<=d2.dur.length:=by omega
  by_cases a0:d2.armed = 0
  ·obtain ⟨x1,x2⟩:=hC2.slots0 (i:=0) (v:=v) (p:=slotVal d.dur.length (size rows)) h2 hv hv2 hsl a0
   rw [show ((0:Nat):Int) = 0 from rfl] at x1 x2
   rw [Nat.zero_add] at x2
   exact .inr (.inl ⟨d2.slotsD 0 v (slotVal d.dur.length (size rows)),by rw [hM,x1],by rw [x2],by rw [x2]; exact u2,by rw [x2],by rw [x2]; exact c2,by rw [x2]; exact f2,by rw [x2]; show d2.wr<=_; omega⟩)
  ·by_cases a1:d2.armed = 1
   ·obtain ⟨x1,x2⟩:=hC2.slots1 (i:=0) (v:=v) (p:=slotVal d.dur.length (size rows)) h2 hv hv2 hsl a1
    rw [show ((0:Nat):Int) = 0 from rfl] at x1 x2
    rw [Nat.zero_add] at x2
    exact .inr (.inl ⟨d2.slotsD 0 v (slotVal d.dur.length (size rows)),by rw [hM,x1],by rw [x2],by rw [x2]; exact u2,by rw [x2],by rw [x2]; exact c2,by rw [x2]; exact f2,by rw [x2]; show d2.wr + 1<=_; omega⟩)
   ·obtain ⟨x1,x2⟩:=hC2.slots2 (i:=0) (v:=v) (p:=slotVal d.dur.length (size rows)) h2 hv hv2 hsl a0 a1
    rw [show ((0:Nat):Int) = 0 from rfl] at x1 x2
    rw [Nat.zero_add] at x2
    refine .inr (.inr ⟨d2.slotsD 0 v (slotVal d.dur.length (size rows)),by rw [hM,x1],by rw [x2]; exact o2,by rw [x2]; show d2.dur.set _ _ = _; rw [u2],by rw [x2],by rw [x2]; exact c2,by rw [x2]; show d2.fl + 1 = _; omega,by rw [x2]; show d2.wr + 1 = _; omega,?_⟩)
    rw [x2]
    show -1<=dec (dec d2.armed)
    exact (dec_le (dec_le a2).1).1
end
end Go.Proofs.YthjjfjhajadimaaGreatDoor.So
