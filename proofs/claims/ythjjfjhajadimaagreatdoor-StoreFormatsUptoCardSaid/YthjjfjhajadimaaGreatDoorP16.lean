/-
  Joined: ERefO, ELogL, ERefG, JRefA, JRecP, JCodeP, JFine, JCodeA, WireL.
-/
import Derived.Test.YthjjfjhajadimaaGreatDoorP15
import Derived.BigQuiet
namespace Go.Proofs.YthjjfjhajadimaaGreatDoor
open Go.RowKit Go.WideShapes
set_option maxRecDepth 100000
namespace E
def logOk (v i:Int):Prop:=1<=v/\v<=1099511627776/\0<=i/\i < 65536
instance (v i:Int):Decidable (logOk v i):=inferInstanceAs (Decidable (_/\_))
def logR (v i:Int):Int × Nat:=if logOk v i then (v * 1048576 + i + 1,0) else (0,6)
end E
set_option maxHeartbeats 1600000 in
theorem log_any (er el ef:Addr) (v i:Int) (w:World) (hv0:-9223372036854775808<=v) (hv1:v<=9223372036854775807) (hi0:-9223372036854775808<=i) (hi1:i<=9223372036854775807) (hE:E3 er el ef w) :
  Calls Tryz.prog 235 #[.int .i64 v,.int .i64 i] w fun e w'=>e = .returned (.tuple #[.int .u64 (E.logR v i).1,e3V er el ef (E.logR v i).2])/\Qt w w':=by
 have h1:=hE.r
 clear hE
 by_cases hk:E.logOk v i
 ·have HV:=Lib.hid (show E.logR v i = (v * 1048576 + i + 1,0) from if_pos hk)
  obtain ⟨a1,a2,a3,a4⟩:=hk
  go_enter Tryz.func235,Tryz.ntmps235
  go_wp2
  go_ret2
  exact ⟨by rw [HV.out]; rfl,Qt.refl _⟩
 ·have HV:=Lib.hid (show E.logR v i = (0,6) from if_neg hk)
  have hk2:v < 1\/1099511627776 < v\/i < 0\/65536<=i:=by unfold E.logOk at hk; omega
  clear hk
  by_cases b1:v < 1
  ·clear hk2
   go_enter Tryz.func235,Tryz.ntmps235
   go_wp2
   go_quiet (fail)
   go_wp2
   go_ret2
   exact ⟨by rw [HV.out]; rfl,Keeps.drewN (Qt.refl w) _⟩
  ·by_cases b2:1099511627776 < v
   ·clear hk2
    go_enter Tryz.func235,Tryz.ntmps235
    go_wp2
    go_quiet (fail)
    go_wp2
    go_ret2
    exact ⟨by rw [HV.out]; rfl,Keeps.drewN (Qt.refl w) _⟩
   ·by_cases b3:i < 0
    ·clear hk2
     go_enter Tryz.func235,Tryz.ntmps235
     go_wp2
     go_quiet (fail)
     go_wp2
     go_ret2
     exact ⟨by rw [HV.out]; rfl,Keeps.drewN (Qt.refl w) _⟩
    ·have b4:65536<=i:=by omega
     clear hk2
     go_enter Tryz.func235,Tryz.ntmps235
     go_wp2
     go_quiet (fail)
     go_wp2
     go_ret2
     exact ⟨by rw [HV.out]; rfl,Keeps.drewN (Qt.refl w) _⟩
def costZ (z:Int):Int:=if z < 0 then 0 else (J.cost z.toNat:Nat)
def largestZ (n:Int):Int:=if n < 1 then -1 else wrap64 (229 + 233 * (n - 1))
theorem costZ_nat (n:Nat):costZ (n:Int) = ((J.cost n:Nat):Int):=by unfold costZ; rw [if_neg (by omega),Int.toNat_natCast]
theorem costZ_one {z:Int} (h0:0<=z) (h1:z<=229):costZ z = 1:=by
 unfold costZ J.cost; rw [if_neg (by omega),if_pos (by omega)]; rfl
theorem costZ_more {z:Int} (h1:¬ z<=229):costZ z = 2 + (z - 230) / 233:=by
 unfold costZ J.cost; rw [if_neg (by omega),if_neg (by omega)]; omega
theorem wrap_wrap (a b:Int):wrap64 (a + wrap64 b) = wrap64 (a + b):=by unfold wrap64; omega
end Go.Proofs.YthjjfjhajadimaaGreatDoor
namespace Go.Proofs.YthjjfjhajadimaaGreatDoor.J
set_option maxRecDepth 100000
theorem rec_no1 {s:Nat->Option (List UInt8)} {n p:Nat} (h:s p = none):rec s n p = none:=rec_none fun v k=>by
 have:=k.each 0 (cost_pos _)
 rw [Nat.add_zero,h] at this
 cases this
theorem rec_room {s:Nat->Option (List UInt8)} {n p:Nat} {q:List UInt8} (h:s p = some q) (hn:n < p + cost (sizeOf q)):rec s n p = none:=rec_none fun v k=>by
 have e:=k.each 0 (cost_pos _)
 rw [Nat.add_zero,h] at e
 injection e with e
 rw [e,size_pay k.small] at hn
 have:=k.room
 omega
def headZ (z:Nat):Nat->List UInt8
 | 0=>1 :: E.low 4 z
 | _ + 1=>[0]
def upto (z k:Nat):Nat:=min (ends (k + 1)) z
theorem ends_leZ {z k:Nat} (h:k < cost z):ends k<=z:=by
 cases k with
 | zero=>exact Nat.zero_le _
 | succ k=>exact Nat.le_of_lt (ends_lt h)
theorem ends_mono:∀ {a b:Nat},a<=b->ends a<=ends b
 | 0,b,_=>Nat.zero_le _
 | a + 1,0,h=>by omega
 | a + 1,b + 1,h=>by show 229 + 233 * a<=229 + 233 * b; omega
theorem upto_ge {z k:Nat} (h:k < cost z):ends k<=upto z k:=by
 have h1:=ends_leZ h
 have h2:=ends_mono (show k<=k + 1 by omega)
 unfold upto; omega
theorem upto_le (z k:Nat):upto z k<=z:=by unfold upto; omega
theorem pay_eq (v:List UInt8) (k:Nat):pay v k = headZ v.length k ++ (v.drop (ends k)).take (upto v.length k - ends k):=by
 cases k with
 | zero =>
  show 1 :: (E.low 4 v.length ++ v.take 229) = 1 :: E.low 4 v.length ++ (v.drop 0).take (min (229 + 233 * 0) v.length - 0)
  rw [List.drop_zero,List.cons_append,Nat.sub_zero]
  congr 2
  rcases Nat.le_total v.length 229 with h | h
  ·rw [List.take_of_length_le h,List.take_of_length_le (by omega)]
  ·rw [show min (229 + 233 * 0) v.length = 229 by omega]
 | succ k =>
  show 0 :: (v.drop (229 + 233 * k)).take 233 = [0] ++ (v.drop (229 + 233 * k)).take (min (229 + 233 * (k + 1)) v.length - (229 + 233 * k))
  rw [List.singleton_append]
  congr 1
  rcases Nat.le_total v.length (229 + 233 * (k + 1)) with h | h
  ·rw [List.take_of_length_le (by rw [List.length_drop]; omega),List.take_of_length_le (by rw [List.length_drop]; omega)]
  ·rw [show min (229 + 233 * (k + 1)) v.length - (229 + 233 * k) = 233 by omega]
theorem piece_length {v:List UInt8} {k:Nat}:((v.drop (ends k)).take (upto v.length k - ends k)).length = upto v.length k - ends k:=by
 have:=upto_le v.length k
 rw [List.length_take,List.length_drop]; omega
structure Got (s:Nat->Option (List UInt8)) (i z k:Nat) (o:List UInt8):Prop where
 len:o.length = min (ends k) z
 each:∀ j,j < k->s (i + j) = some (headZ z j ++ (o.drop (ends j)).take (upto z j - ends j))
theorem Got.none (s:Nat->Option (List UInt8)) (i z:Nat):Got s i z 0 []:=⟨by simp [ends],fun j hj=>absurd hj (Nat.not_lt_zero j)⟩
theorem Got.more {s:Nat->Option (List UInt8)} {i z k:Nat} {o t:List UInt8} (h:Got s i z k o) (hk:k < cost z) (hs:s (i + k) = some (headZ z k ++ t)) (ht:t.length = upto z k - ends k):Got s i z (k + 1) (o ++ t):=by
 have he:=ends_leZ hk
 have hu:=upto_ge hk
 have hl:o.length = ends k:=by rw [h.len]; omega
 refine ⟨?_,fun j hj=>?_⟩
 ·rw [List.length_append,hl,ht]
  show ends k + (min (ends (k + 1)) z - ends k) = _
  unfold upto at hu
  omega
 ·rcases Nat.lt_or_ge j k with hjk | hjk
  ·rw [h.each j hjk]
   have hje:upto z j<=ends k:=by have:=ends_mono (show j + 1<=k by omega); unfold upto; omega
   have hjs:ends j<=ends k:=ends_mono (by omega)
   rw [List.drop_append_of_le_length (by omega),List.take_append_of_le_length (by rw [List.length_drop]; omega)]
  ·obtain rfl:j = k:=by omega
   rw [hs]
   congr 2
   rw [<- hl,List.drop_left,hl,List.take_of_length_le (by omega)]
theorem Got.all {s:Nat->Option (List UInt8)} {n i z:Nat} {o:List UInt8} (h:Got s i z (cost z) o) (hz:z < 4294967296) (hn:i + cost z<=n):o.length = z/\J.rec s n i = some o:=by
 have hl:o.length = z:=by rw [h.len]; have:=cost_le z; omega
 refine ⟨hl,rec_some ⟨by omega,by rw [hl]; exact hn,fun k hk=>?_⟩⟩
 rw [hl] at hk
 rw [h.each k hk,pay_eq,hl]
theorem got_no {s:Nat->Option (List UInt8)} {n i z k:Nat} {q:List UInt8} (h0:s i = some q) (hz:sizeOf q = z) (hk:k < cost z) (hbad:∀ t,t.length = upto z k - ends k->s (i + k) ≠ some (headZ z k ++ t)):rec s n i = none:=rec_none fun v w=>by
 have e:=w.each 0 (cost_pos _)
 rw [Nat.add_zero,h0] at e
 injection e with e
 have ev:v.length = z:=by rw [<- hz,e,size_pay w.small]
 have:=w.each k (by rw [ev]; exact hk)
 rw [pay_eq,ev] at this
 exact hbad _ (by rw [<- ev]; exact piece_length) this
def payN (s:Nat->Option (List UInt8)) (k:Nat):List UInt8:=(s k).getD []
theorem pay_some {s:Nat->Option (List UInt8)} {k:Nat} {p:List UInt8} (h:payN s k = p) (hp:p ≠ []):s k = some p:=by
 unfold payN at h
 cases hq:s k with
 | none=>rw [hq] at h; exact absurd h.symm hp
 | some q=>rw [hq] at h; exact congrArg some h
theorem payN_of {s:Nat->Option (List UInt8)} {k:Nat} {p:List UInt8} (h:s k = some p):payN s k = p:=by unfold payN; rw [h]; rfl
theorem headZ_ne (z k:Nat):headZ z k ≠ []:=by cases k <;> simp [headZ]
theorem got_first {s:Nat->Option (List UInt8)} {i z k:Nat} {t:List UInt8} (h:payN s (i + k) = headZ z k ++ t):s (i + k) = some (headZ z k ++ t):=pay_some h (by have:=headZ_ne z k; simp [this])
theorem rec_few {s:Nat->Option (List UInt8)} {n i:Nat} (h:(payN s i).length < 5):rec s n i = none:=rec_none fun v w=>by
 have e:=w.each 0 (cost_pos _)
 rw [Nat.add_zero] at e
 rw [payN_of e] at h
 have:=pay0_length v
 omega
theorem rec_wide {s:Nat->Option (List UInt8)} {n i:Nat} (hn:n < i + cost (sizeOf (payN s i))):rec s n i = none:=by
 cases hq:s i with
 | none=>exact rec_no1 hq
 | some q=>rw [payN_of hq] at hn; exact rec_room hq hn
theorem rec_other {s:Nat->Option (List UInt8)} {n i z k:Nat} (hz:sizeOf (payN s i) = z) (hk:k < cost z) (hbad:∀ t,t.length = upto z k - ends k->payN s (i + k) ≠ headZ z k ++ t):rec s n i = none:=by
 cases hq:s i with
 | none=>exact rec_no1 hq
 | some q =>
  rw [payN_of hq] at hz
  exact got_no hq hz hk (fun t ht e=>hbad t ht (payN_of e))
end Go.Proofs.YthjjfjhajadimaaGreatDoor.J
namespace Go.Proofs.YthjjfjhajadimaaGreatDoor
set_option maxRecDepth 100000
namespace J
structure Fine (j:JS) (d:DS):Prop where
 used:j.used<=j.n
 fit:j.pos + j.n<=d.dur.length
 v1:1<=j.ver
 v2:j.ver<=1099511627776
 dead:j.dead = true->d.off = true\/d.cr ≠ j.life
 life:j.life<=d.cr
section
variable {j:JS} {d:DS}
def JS.gone (j:JS) (d:DS):Bool:=d.off || decide (d.cr ≠ j.life)
theorem Fine.down (h:Fine j d):j.down d = j.gone d:=by
 unfold JS.down JS.gone
 cases hd:j.dead with
 | false=>simp
 | true =>
  rcases h.dead hd with e | e
  ·rw [e]; simp
  ·rw [decide_eq_true e]; simp
theorem gone_dead (h:j.gone d = true):d.off = true\/d.cr ≠ j.life:=by
 unfold JS.gone at h
 cases ho:d.off with
 | true=>exact .inl rfl
 | false=>rw [ho] at h; exact .inr (by simpa using h)
theorem gone_not (h:j.gone d = false):d.off = false/\d.cr = j.life:=by
 unfold JS.gone at h
 simp only [Bool.or_eq_false_iff] at h
 exact ⟨h.1,by simpa using h.2⟩
theorem Fine.kill (h:Fine j d) (hd:d.off = true\/d.cr ≠ j.life):Fine { j with dead:=true } d:=⟨h.used,h.fit,h.v1,h.v2,fun _=>hd,h.life⟩
theorem flushD_off (d:DS) (h:d.off = true):d.flushD.off = true:=by
 unfold DS.flushD
 rw [h]; exact h
theorem flushD_cr (d:DS):d.flushD.cr = d.cr:=by
 unfold DS.flushD
 repeat' split
 all_goals rfl
theorem Fine.flush (h:Fine j d):Fine j d.flushD :=
 ⟨h.used,by rw [flushD_size]; exact h.fit,h.v1,h.v2,fun k=>by rw [flushD_cr]; exact (h.dead k).imp (flushD_off d) id,by rw [flushD_cr]; exact h.life⟩
theorem go_fine {v:List UInt8}:∀ (m k:Nat) (d:DS),d.off = false->j.used + (k + m)<=j.n->j.pos + j.n<=d.dur.length ->
  ((j.go v m k d).1 = 0\/((j.go v m k d).1 = 12/\(j.go v m k d).2.off = true))/\(j.go v m k d).2.dur = d.dur/\(j.go v m k d).2.cr = d.cr
 | 0,k,d,ho,hn,hD=>⟨.inl rfl,rfl,rfl⟩
 | m + 1,k,d,ho,hn,hD=>by
  have hr:d.reach ((j.pos + (j.used + k):Nat):Int) = 0:=DS.reach_calm ho (by omega)
  have hlen:=E.sct_length (stamp j.ver (j.used + k)) (pay_le v k)
  rw [JS.go]
  by_cases h0:d.armed = 0
  ·have hE:j.putE v k d = 12:=by unfold JS.putE DS.writeE; rw [if_neg (by rw [hr]; simp),if_neg (by rw [hlen]; simp),if_pos h0]
   have hW:j.put v k d = { d with ways:=d.ways ++ [(j.pos + (j.used + k),E.sct (stamp j.ver (j.used + k)) (pay v k))],off:=true }:=by
    unfold JS.put DS.writeD; rw [if_neg (by rw [hr]; simp),if_neg (by rw [hlen]; simp),if_pos h0]; rfl
   rw [if_pos (by rw [hE]; decide)]
   exact ⟨.inr ⟨hE,by rw [hW]⟩,by rw [hW],by rw [hW]⟩
  ·have hE:j.putE v k d = 0:=by unfold JS.putE DS.writeE; rw [if_neg (by rw [hr]; simp),if_neg (by rw [hlen]; simp),if_neg h0]
   have hW:j.put v k d = { d with ways:=d.ways ++ [(j.pos + (j.used + k),E.sct (stamp j.ver (j.used + k)) (pay v k))],armed:=dec d.armed,wr:=d.wr + 1 }:=by
    unfold JS.put DS.writeD; rw [if_neg (by rw [hr]; simp),if_neg (by rw [hlen]; simp),if_neg h0]; rfl
   rw [if_neg (by rw [hE]; simp)]
   obtain ⟨r1,r2,r3⟩:=go_fine (v:=v) m (k + 1) (j.put v k d) (by rw [hW]; exact ho) (by omega) (by rw [hW]; exact hD)
   exact ⟨r1,r2.trans (by rw [hW]),r3.trans (by rw [hW])⟩
theorem Fine.append (h:Fine j d) (v:List UInt8):Fine (j.append d v).2.1 (j.append d v).2.2/\(j.append d v).1<=37:=by
 unfold JS.append
 split
 ·rename_i hd
  rw [h.down] at hd
  exact ⟨h.kill (gone_dead hd),(by decide:(12:Nat)<=37)⟩
 ·rename_i hd
  split
  ·exact ⟨h,(by decide:(17:Nat)<=37)⟩
  ·rename_i hf
   have hg:=gone_not (by rw [<- h.down]; simpa using hd)
   obtain ⟨r1,r2,r3⟩:=go_fine (j:=j) (v:=v) (cost v.length) 0 d hg.1 (by omega) h.fit
   split
   ·rename_i he
    rcases r1 with r1 | ⟨r1,ro⟩
    ·exact absurd r1 he
    ·exact ⟨⟨h.used,by rw [r2]; exact h.fit,h.v1,h.v2,fun _=>.inl ro,by rw [r3]; exact h.life⟩,by simp only [r1]; decide⟩
   ·refine ⟨⟨?_,by rw [r2]; exact h.fit,h.v1,h.v2,fun k=>?_,by rw [r3]; exact h.life⟩,(by decide:(0:Nat)<=37)⟩
    ·show j.used + cost v.length<=j.n
     omega
    ·rcases h.dead k with e | e
     ·rw [hg.1] at e; cases e
     ·exact absurd hg.2 e
theorem Fine.sync (h:Fine j d):Fine (j.sync d).2.1 (j.sync d).2.2/\(j.sync d).1<=37:=by
 unfold JS.sync
 split
 ·rename_i hd
  rw [h.down] at hd
  exact ⟨h.kill (gone_dead hd),(by decide:(12:Nat)<=37)⟩
 ·rename_i hd
  have hg:=gone_not (by rw [<- h.down]; simpa using hd)
  split
  ·rename_i he
   have h0:d.armed = 0:=by
    unfold DS.flushE at he
    rw [hg.1,if_neg (by simp)] at he
    split at he
    ·assumption
    ·exact absurd rfl he
   have hF:d.flushD = { d with off:=true }:=by unfold DS.flushD; rw [hg.1,if_neg (by simp),if_pos h0]
   refine ⟨⟨h.used,by rw [flushD_size]; exact h.fit,h.v1,h.v2,fun _=>.inl (by rw [hF]),by rw [flushD_cr]; exact h.life⟩,?_⟩
   have hE:d.flushE<=37:=by
    unfold DS.flushE
    repeat' split
    all_goals decide
   exact hE
  ·exact ⟨h.flush,(by decide:(0:Nat)<=37)⟩
theorem Fine.begin {i n v:Int} (h:refE d i n v = 0):Fine ⟨i.toNat,n.toNat,v.toNat,0,false,d.cr⟩ d:=by
 unfold refE at h
 split at h
 ·cases h
 ·rename_i hm
  obtain ⟨a1,a2,a3,a4,a5,a6,a7⟩:=Decidable.not_not.1 hm
  exact ⟨Nat.zero_le _,by show i.toNat + n.toNat<=_; omega,by show 1<=v.toNat; omega,by show v.toNat<=_; omega,fun k=>(by cases k),Nat.le_refl _⟩
theorem replay_len (d:DS) (i n v:Int):(replay d i n v).1.length<=65536:=by
 unfold replay
 split
 ·exact Nat.zero_le _
 ·rename_i h
  have h:refE d i n v = 0:=Decidable.not_not.1 h
  unfold refE at h
  split at h
  ·cases h
  ·rename_i hm
   obtain ⟨a1,a2,a3,a4,a5,a6,a7⟩:=Decidable.not_not.1 hm
   exact Nat.le_trans (log_length _ _) (by omega)
end
end J
end Go.Proofs.YthjjfjhajadimaaGreatDoor
namespace Go.Proofs.YthjjfjhajadimaaGreatDoor
open Go.RowKit Go.WideShapes
set_option maxRecDepth 100000
theorem jcost_any (z:Int) (hz:z<=9223372036854775807) (w:World):Calls Tryz.prog 193 #[.int .i64 z] w fun e w'=>e = .returned (.int .i64 (costZ z))/\w' = w:=by
 by_cases h0:z < 0
 ·have FIN:=Lib.hid (show costZ z = 0 from if_pos h0)
  go_enter Tryz.func193,Tryz.ntmps193
  go_wp2
  go_ret
  exact ⟨by rw [FIN.out]; rfl,rfl⟩
 ·have z0:decide (z < 0) = false:=decide_eq_false h0
  by_cases h1:z<=229
  ·have FIN:=Lib.hid (costZ_one (z:=z) (by omega) h1)
   go_enter Tryz.func193,Tryz.ntmps193
   go_wp2
   go_ret
   exact ⟨by rw [FIN.out]; rfl,rfl⟩
  ·have FIN:=Lib.hid (show costZ z = 2 + (z - 229 - 1) / 233 by rw [costZ_more h1,show z - 229 - 1 = z - 230 by omega])
   have z1:decide (z<=229) = false:=decide_eq_false h1
   have w0:wrap64 (z - 229) = z - 229:=by unfold wrap64; omega
   have w1:wrap64 (z - 229 - 1) = z - 229 - 1:=by unfold wrap64; omega
   have w2:(z - 229 - 1).tdiv 233 = (z - 229 - 1) / 233:=Int.tdiv_eq_ediv_of_nonneg (by omega)
   have w3:wrap64 (2 + (z - 229 - 1) / 233) = 2 + (z - 229 - 1) / 233:=by unfold wrap64; omega
   go_enter Tryz.func193,Tryz.ntmps193
   go_wp2
   go_ret
   exact ⟨by rw [FIN.out]; rfl,rfl⟩
theorem jcost_nat (z:Nat) (hz:z<=9223372036854775807) (w:World):Calls Tryz.prog 193 #[.int .i64 z] w fun e w'=>e = .returned (.int .i64 ((J.cost z:Nat):Int))/\w' = w:=by
 have h:=jcost_any (z:Int) (by omega) w
 rw [costZ_nat] at h
 exact h
theorem jlargest_any (n:Int) (hn:n<=9223372036854775807) (w:World):Calls Tryz.prog 101 #[.int .i64 n] w fun e w'=>e = .returned (.int .i64 (largestZ n))/\w' = w:=by
 by_cases h0:n < 1
 ·have FIN:=Lib.hid (show largestZ n = -1 from if_pos h0)
  go_enter Tryz.func101,Tryz.ntmps101
  go_wp2
  go_ret
  exact ⟨by rw [FIN.out]; rfl,rfl⟩
 ·have z0:decide (n < 1) = false:=decide_eq_false h0
  have w1:wrap64 (n - 1) = n - 1:=by unfold wrap64; omega
  have w2:=wrap_wrap 229 (233 * (n - 1))
  have FIN:=Lib.hid (show largestZ n = wrap64 (229 + 233 * (n - 1)) from if_neg h0)
  go_enter Tryz.func101,Tryz.ntmps101
  go_wp2
  go_ret
  exact ⟨by rw [FIN.out]; rfl,rfl⟩
theorem largest_ends (k:Nat) (hk:k<=65536):max (largestZ (k:Int)) 0 = ((J.ends k:Nat):Int)/\largestZ ((k:Int) + 1) = ((J.ends (k + 1):Nat):Int):=by
 refine ⟨?_,?_⟩
 ·cases k with
  | zero=>rfl
  | succ k =>
   have e:largestZ ((k + 1:Nat):Int) = 229 + 233 * (k:Int):=by
    unfold largestZ
    rw [if_neg (by omega),show 229 + 233 * (((k + 1:Nat):Int) - 1) = 229 + 233 * (k:Int) by omega]
    unfold wrap64
    omega
   rw [e]
   show _ = ((229 + 233 * k:Nat):Int)
   omega
 ·have e:largestZ ((k:Int) + 1) = 229 + 233 * (k:Int):=by
   unfold largestZ
   rw [if_neg (by omega),show 229 + 233 * ((k:Int) + 1 - 1) = 229 + 233 * (k:Int) by omega]
   unfold wrap64
   omega
  rw [e]
  show _ = ((229 + 233 * k:Nat):Int)
  omega
theorem jbounds_any (z k:Nat) (hk:k<=65536) (w:World):Calls Tryz.prog 195 #[.int .i64 z,.int .i64 k] w fun e w'=>e = .returned (.tuple #[.int .i64 ((J.ends k:Nat):Int),.int .i64 ((J.upto z k:Nat):Int)])/\w' = w:=by
 have L1:=jlargest_any (k:Int) (by omega)
 have L2:=jlargest_any ((k:Int) + 1) (by omega)
 obtain ⟨e1,e2⟩:=largest_ends k hk
 rw [e2] at L2
 have e3:min ((J.ends (k + 1):Nat):Int) (z:Int) = ((J.upto z k:Nat):Int):=by unfold J.upto; omega
 have wk:wrap64 ((k:Int) + 1) = (k:Int) + 1:=by unfold wrap64; omega
 have F1:=Lib.hid e1
 have F3:=Lib.hid e3
 generalize largestZ (k:Int) = x at *
 generalize J.ends (k + 1) = y at *
 clear e1 e2 e3 hk
 go_enter Tryz.func195,Tryz.ntmps195
 go_wp2_with fail
 refine (L1 _).mono ?_
 rintro e w1 ⟨rfl,rfl⟩
 go_wp2_with fail
 refine (L2 _).mono ?_
 rintro e w2 ⟨rfl,rfl⟩
 go_wp2
 go_ret2
 refine ⟨?_,rfl⟩
 rw [<- F1.out,<- F3.out]
 rfl
section
variable {w:World} {b:Nat} {d:DS} {S:Nat->Prop}
theorem size_same (h:DiskAt w b d S):Calls Tryz.prog 108 #[.pointer (some ⟨b,0,none⟩)] w fun e w'=>e = .returned (.int .i64 d.dur.length)/\w' = w:=(size_any h).mono fun _ _ ⟨h1,h2⟩=>⟨h1,h2.symm⟩
theorem off_same (h:DiskAt w b d S):Calls Tryz.prog 43 #[.pointer (some ⟨b,0,none⟩)] w fun e w'=>e = .returned (.bool d.off)/\w' = w:=(off_any h).mono fun _ _ ⟨h1,h2⟩=>⟨h1,h2.symm⟩
end
def placeV (b:Nat) (i n v:Int):Value:=.agg #[.pointer (some ⟨b,0,none⟩),.int .i64 i,.int .i64 n,.int .i64 v]
def placeCells (b:Nat) (i n v:Int):Array Value:=#[.pointer (some ⟨b,0,none⟩),.int .i64 i,.int .i64 n,.int .i64 v]
theorem place_new (w:World) (b:Nat) (i n v:Int):∃ W,w.alloc (.cells #[.pointer (some ⟨b,0,none⟩),.int .i64 i,.int .i64 n,.int .i64 v] 253) = W/\Qt w W/\W.heap[w.heap.size]? = some (.cells (placeCells b i n v) 253 (0,0)):=⟨_,rfl,(Qt.refl w).alloc _,heap_alloc_new w _⟩
theorem place_cells {W:World} {g b:Nat} {i n v:Int} (h:W.heap[g]? = some (.cells (placeCells b i n v) 253 (0,0))):W.cell? ⟨g,0,none⟩ = some (.pointer (some ⟨b,0,none⟩))/\W.cell? ⟨g,1,none⟩ = some (.int .i64 i)/\W.cell? ⟨g,2,none⟩ = some (.int .i64 n)/\W.cell? ⟨g,3,none⟩ = some (.int .i64 v):=by
 have hc:∀ (k:Nat) (x:Value),(placeCells b i n v)[k]? = some x->W.cell? ⟨g,k,none⟩ = some x:=fun k x hx=>by rw [cell_of_row _ _ _ _ _ _ h]; exact hx
 exact ⟨hc 0 _ rfl,hc 1 _ rfl,hc 2 _ rfl,hc 3 _ rfl⟩
theorem place_kept {W W':World} {g b:Nat} {i n v:Int} {S:Nat->Prop} (h:W.heap[g]? = some (.cells (placeCells b i n v) 253 (0,0))) (K:Keeps S W W') (hS:¬ S g):W'.heap[g]? = some (.cells (placeCells b i n v) 253 (0,0)):=(K.block g (lt_of_block h) hS).trans h
theorem place_qt {W W':World} {g b:Nat} {i n v:Int} (h:W.heap[g]? = some (.cells (placeCells b i n v) 253 (0,0))) (K:Qt W W'):W'.heap[g]? = some (.cells (placeCells b i n v) 253 (0,0)):=place_kept h K (fun e=>e)
set_option maxHeartbeats 800000 in
theorem jrefuse_any (ad:Nat->Addr) {w:World} {b:Nat} {d:DS} {S:Nat->Prop} (hE:Errs ad w) (h:DiskAt w b d S) (i n v:Int) (hn:n<=9223372036854775807) :
  Calls Tryz.prog 184 #[placeV b i n v] w fun e w'=>e = .returned (errV ad (J.refE d i n v))/\Qt w w':=by
 obtain ⟨WA,hWA,QA,hb⟩:=place_new w b i n v
 have HWA:=Lib.hid hWA
 have HQA:=Lib.hid QA
 have SZ:=Lib.hid (fun W (q:Qt WA W)=>size_same (DiskAt.qt h (Qt.trans QA q)))
 have OF:=Lib.hid (fun W (q:Qt WA W)=>off_same (DiskAt.qt h (Qt.trans QA q)))
 have hl:d.dur.length<=65536:=by obtain ⟨gd,mb,uv,P,_⟩:=h; exact P.ok.le
 have HB:=Lib.hid (fun W (q:Qt WA W)=>place_cells (place_qt hb q))
 have HE6:=Lib.hid (fun W (q:Qt WA W)=>(show W.cell? ⟨0,0,none⟩ = some (.iface 335 (.pointer (some (ad 6)))) from (hE.kept (Qt.trans QA q) (OffErrs.none ad)).cells 5 _ rfl))
 have HE12:=Lib.hid (fun W (q:Qt WA W)=>(show W.cell? ⟨6,0,none⟩ = some (.iface 335 (.pointer (some (ad 12)))) from (hE.kept (Qt.trans QA q) (OffErrs.none ad)).cells 11 _ rfl))
 obtain ⟨d0,d1,d2,d3⟩:=place_cells hb
 clear h hE hWA QA hb
 unfold placeV
 by_cases c0:i < 0
 ·have FIN:=Lib.hid (show J.refE d i n v = 6 from if_pos (fun k=>by have q:=k.1; omega))
  have y0:decide (i < 0) = true:=decide_eq_true c0
  clear hl hn
  have SZ1:=SZ.out WA (Qt.refl WA)
  generalize d.dur.length = L at *
  go_enter Tryz.func184,Tryz.ntmps184
  go_wp2
  rw [HWA.out]
  go_quiet ((go_at_call 108; with_reducible exact Calls.quiet_of_same (SZ.out _ (Keeps.drewN (Qt.refl WA) _))))
  have QN:=Keeps.drewN (Qt.refl WA) nq
  have e6:=HE6.out _ QN
  have FQ:=Lib.hid (Qt.trans HQA.out QN)
  clear QN
  go_wp2
  go_ret
  exact ⟨by rw [FIN.out]; rfl,FQ.out⟩
 ·skip
  have y0:decide (i < 0) = false:=decide_eq_false c0
  by_cases c1:n < 0
  ·have FIN:=Lib.hid (show J.refE d i n v = 6 from if_pos (fun k=>by have q:=k.2.1; omega))
   have y1:decide (n < 0) = true:=decide_eq_true c1
   clear hl hn
   have SZ1:=SZ.out WA (Qt.refl WA)
   generalize d.dur.length = L at *
   go_enter Tryz.func184,Tryz.ntmps184
   go_wp2
   rw [HWA.out]
   go_quiet ((go_at_call 108; with_reducible exact Calls.quiet_of_same (SZ.out _ (Keeps.drewN (Qt.refl WA) _))))
   have QN:=Keeps.drewN (Qt.refl WA) nq
   have e6:=HE6.out _ QN
   have FQ:=Lib.hid (Qt.trans HQA.out QN)
   clear QN
   go_wp2
   go_ret
   exact ⟨by rw [FIN.out]; rfl,FQ.out⟩
  ·skip
   have y1:decide (n < 0) = false:=decide_eq_false c1
   have w2:wrap64 ((d.dur.length:Int) - n) = (d.dur.length:Int) - n:=by unfold wrap64; omega
   by_cases c2:(d.dur.length:Int) - n < i
   ·have FIN:=Lib.hid (show J.refE d i n v = 6 from if_pos (fun k=>by have q:=k.2.2.2.1; omega))
    have y2:decide ((d.dur.length:Int) - n < i) = true:=decide_eq_true c2
    clear hl hn
    have SZ1:=SZ.out WA (Qt.refl WA)
    generalize d.dur.length = L at *
    go_enter Tryz.func184,Tryz.ntmps184
    go_wp2
    rw [HWA.out]
    go_quiet ((go_at_call 108; with_reducible exact Calls.quiet_of_same (SZ.out _ (Keeps.drewN (Qt.refl WA) _))))
    have QN:=Keeps.drewN (Qt.refl WA) nq
    have e6:=HE6.out _ QN
    have FQ:=Lib.hid (Qt.trans HQA.out QN)
    clear QN
    go_wp2
    go_ret
    exact ⟨by rw [FIN.out]; rfl,FQ.out⟩
   ·skip
    have y2:decide ((d.dur.length:Int) - n < i) = false:=decide_eq_false c2
    by_cases c3:v < 1
    ·have FIN:=Lib.hid (show J.refE d i n v = 6 from if_pos (fun k=>by have q:=k.2.2.2.2.2.1; omega))
     have y3:decide (v < 1) = true:=decide_eq_true c3
     clear hl hn
     have SZ1:=SZ.out WA (Qt.refl WA)
     generalize d.dur.length = L at *
     go_enter Tryz.func184,Tryz.ntmps184
     go_wp2
     rw [HWA.out]
     go_quiet ((go_at_call 108; with_reducible exact Calls.quiet_of_same (SZ.out _ (Keeps.drewN (Qt.refl WA) _))))
     have QN:=Keeps.drewN (Qt.refl WA) nq
     have e6:=HE6.out _ QN
     have FQ:=Lib.hid (Qt.trans HQA.out QN)
     clear QN
     go_wp2
     go_ret
     exact ⟨by rw [FIN.out]; rfl,FQ.out⟩
    ·skip
     have y3:decide (v < 1) = false:=decide_eq_false c3
     by_cases c4:1099511627776 < v
     ·have FIN:=Lib.hid (show J.refE d i n v = 6 from if_pos (fun k=>by have q:=k.2.2.2.2.2.2; omega))
      have y4:decide (1099511627776 < v) = true:=decide_eq_true c4
      clear hl hn
      have SZ1:=SZ.out WA (Qt.refl WA)
      generalize d.dur.length = L at *
      go_enter Tryz.func184,Tryz.ntmps184
      go_wp2
      rw [HWA.out]
      go_quiet ((go_at_call 108; with_reducible exact Calls.quiet_of_same (SZ.out _ (Keeps.drewN (Qt.refl WA) _))))
      have QN:=Keeps.drewN (Qt.refl WA) nq
      have e6:=HE6.out _ QN
      have FQ:=Lib.hid (Qt.trans HQA.out QN)
      clear QN
      go_wp2
      go_ret
      exact ⟨by rw [FIN.out]; rfl,FQ.out⟩
     ·skip
      have y4:decide (1099511627776 < v) = false:=decide_eq_false c4
      have hm:J.may d i n v:=⟨by omega,by omega,by omega,by omega,by omega,by omega,by omega⟩
      cases c6:d.off with
      | true =>
       have FIN:=Lib.hid (show J.refE d i n v = 12 from (if_neg (fun k=>k hm)).trans (if_pos c6))
       rw [c6] at OF
       clear hl hn hm c6
       generalize d.dur.length = L at *
       go_enter Tryz.func184,Tryz.ntmps184
       go_wp2
       rw [HWA.out]
       go_quiet ((go_at_call 108; with_reducible exact Calls.quiet_of_same (SZ.out _ (Keeps.drewN (Qt.refl WA) _))))
       have QN:=Keeps.drewN (Qt.refl WA) nq
       obtain ⟨x0,x1,x2,x3⟩:=HB.out _ QN
       have e12:=HE12.out _ QN
       have OF1:=Lib.hid (OF.out _ QN)
       have FQ:=Lib.hid (Qt.trans HQA.out QN)
       clear QN d0 d1 d2 d3
       go_wp2_with fail
       refine OF1.out.mono ?_
       rintro e w1 ⟨rfl,rfl⟩
       go_wp2
       go_ret
       exact ⟨by rw [FIN.out]; rfl,FQ.out⟩
      | false =>
       have FIN:=Lib.hid (show J.refE d i n v = 0 from (if_neg (fun k=>k hm)).trans (if_neg (by rw [c6]; simp)))
       rw [c6] at OF
       clear hl hn hm c6
       generalize d.dur.length = L at *
       go_enter Tryz.func184,Tryz.ntmps184
       go_wp2
       rw [HWA.out]
       go_quiet ((go_at_call 108; with_reducible exact Calls.quiet_of_same (SZ.out _ (Keeps.drewN (Qt.refl WA) _))))
       have QN:=Keeps.drewN (Qt.refl WA) nq
       obtain ⟨x0,x1,x2,x3⟩:=HB.out _ QN
       have OF1:=Lib.hid (OF.out _ QN)
       have FQ:=Lib.hid (Qt.trans HQA.out QN)
       clear QN d0 d1 d2 d3
       go_wp2_with fail
       refine OF1.out.mono ?_
       rintro e w1 ⟨rfl,rfl⟩
       go_wp2
       go_ret
       exact ⟨by rw [FIN.out]; rfl,FQ.out⟩
end Go.Proofs.YthjjfjhajadimaaGreatDoor
namespace Go.Proofs.YthjjfjhajadimaaGreatDoor
open Go.RowKit
set_option maxRecDepth 100000
theorem blen_any (b:Nat) (r:Option Nat) (l:List UInt8) (w:World) (h:Wr b r l w) :
  Calls Tryz.prog 225 #[.pointer (some ⟨b,0,none⟩)] w fun e w'=>e = .returned (.int .i64 l.length)/\w = w':=by
 obtain ⟨p,v,_,hbk,hown,hv,hne⟩:=h
 obtain ⟨ao,cap,rfl⟩:∃ ao cap,v = .slice ao l.length cap:=by
  rcases hown.2 with ⟨hv,h0⟩ | ⟨g,cap,cur,fz,hv,_⟩
  ·exact ⟨none,0,by rw [hv,h0]⟩
  ·exact ⟨_,_,hv⟩
 have c1:w.cell? ⟨b,1,none⟩ = some (.slice ao l.length cap):=by rw [Lib.cell_of_heap hbk]; rfl
 clear hv hbk hown
 go_enter Tryz.func225,Tryz.ntmps225
 go_wp2
 go_ret
 exact ⟨rfl,rfl⟩
theorem wlen_any (b:Nat) (r:Option Nat) (l:List UInt8) (w:World) (h:Wr b r l w) :
  Calls Tryz.prog 176 #[.pointer (some ⟨b,0,none⟩)] w fun e w'=>e = .returned (.int .i64 l.length)/\w = w':=by
 go_enter Tryz.func176,Tryz.ntmps176
 go_wp2_with fail
 refine (blen_any b r l _ h).mono ?_
 rintro e w' ⟨rfl,rfl⟩
 go_wp2
 go_ret
 exact ⟨rfl,rfl⟩
end Go.Proofs.YthjjfjhajadimaaGreatDoor
