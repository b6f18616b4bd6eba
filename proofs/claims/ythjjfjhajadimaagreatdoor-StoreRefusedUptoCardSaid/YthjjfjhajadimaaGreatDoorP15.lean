/-
  Joined: JFine, JCodeA, WireL, OA, TTree, TMem.
-/
import Derived.Test.YthjjfjhajadimaaGreatDoorP14
import Derived.BigQuiet
import Derived.Deep.RegionHeld3
namespace Go.Proofs.YthjjfjhajadimaaGreatDoor
set_option maxRecDepth 100000
namespace J
structure Fine (j:JS) (d:DS):Prop where
 used:j.used<=j.n
 fit:j.pos + j.n<=d.dur.length
 v1:1<=j.ver
 v2:j.ver<=1099511627776
 dead:j.dead = true->d.off = true\/d.cr ≠ j.life
 life:j.life<=d.cr
section
variable {j:JS} {d:DS}
def JS.gone (j:JS) (d:DS):Bool:=d.off || decide (d.cr ≠ j.life)
theorem Fine.down (h:Fine j d):j.down d = j.gone d:=by
 unfold JS.down JS.gone
 cases hd:j.dead with
 | false=>simp
 | true =>
  rcases h.dead hd with e | e
  ·rw [e]; simp
  ·rw [decide_eq_true e]; simp
theorem gone_dead (h:j.gone d = true):d.off = true\/d.cr ≠ j.life:=by
 unfold JS.gone at h
 cases ho:d.off with
 | true=>exact .inl rfl
 | false=>rw [ho] at h; exact .inr (by simpa using h)
theorem gone_not (h:j.gone d = false):d.off = false/\d.cr = j.life:=by
 unfold JS.gone at h
 simp only [Bool.or_eq_false_iff] at h
 exact ⟨h.1,by simpa using h.2⟩
theorem Fine.kill (h:Fine j d) (hd:d.off = true\/d.cr ≠ j.life):Fine { j with dead:=true } d:=⟨h.used,h.fit,h.v1,h.v2,fun _=>hd,h.life⟩
theorem flushD_off (d:DS) (h:d.off = true):d.flushD.off = true:=by
 unfold DS.flushD
 rw [h]; exact h
theorem flushD_cr (d:DS):d.flushD.cr = d.cr:=by
 unfold DS.flushD
 repeat' split
 all_goals rfl
theorem Fine.flush (h:Fine j d):Fine j d.flushD :=
 ⟨h.used,by rw [flushD_size]; exact h.fit,h.v1,h.v2,fun k=>by rw [flushD_cr]; exact (h.dead k).imp (flushD_off d) id,by rw [flushD_cr]; exact h.life⟩
theorem go_fine {v:List UInt8}:∀ (m k:Nat) (d:DS),d.off = false->j.used + (k + m)<=j.n->j.pos + j.n<=d.dur.length ->
  ((j.go v m k d).1 = 0\/((j.go v m k d).1 = 12/\(j.go v m k d).2.off = true))/\(j.go v m k d).2.dur = d.dur/\(j.go v m k d).2.cr = d.cr
 | 0,k,d,ho,hn,hD=>⟨.inl rfl,rfl,rfl⟩
 | m + 1,k,d,ho,hn,hD=>by
  have hr:d.reach ((j.pos + (j.used + k):Nat):Int) = 0:=DS.reach_calm ho (by omega)
  have hlen:=E.sct_length (stamp j.ver (j.used + k)) (pay_le v k)
  rw [JS.go]
  by_cases h0:d.armed = 0
  ·have hE:j.putE v k d = 12:=by unfold JS.putE DS.writeE; rw [if_neg (by rw [hr]; simp),if_neg (by rw [hlen]; simp),if_pos h0]
   have hW:j.put v k d = { d with ways:=d.ways ++ [(j.pos + (j.used + k),E.sct (stamp j.ver (j.used + k)) (pay v k))],off:=true }:=by
    unfold JS.put DS.writeD; rw [if_neg (by rw [hr]; simp),if_neg (by rw [hlen]; simp),if_pos h0]; rfl
   rw [if_pos (by rw [hE]; decide)]
   exact ⟨.inr ⟨hE,by rw [hW]⟩,by rw [hW],by rw [hW]⟩
  ·have hE:j.putE v k d = 0:=by unfold JS.putE DS.writeE; rw [if_neg (by rw [hr]; simp),if_neg (by rw [hlen]; simp),if_neg h0]
   have hW:j.put v k d = { d with ways:=d.ways ++ [(j.pos + (j.used + k),E.sct (stamp j.ver (j.used + k)) (pay v k))],armed:=dec d.armed,wr:=d.wr + 1 }:=by
    unfold JS.put DS.writeD; rw [if_neg (by rw [hr]; simp),if_neg (by rw [hlen]; simp),if_neg h0]; rfl
   rw [if_neg (by rw [hE]; simp)]
   obtain ⟨r1,r2,r3⟩:=go_fine (v:=v) m (k + 1) (j.put v k d) (by rw [hW]; exact ho) (by omega) (by rw [hW]; exact hD)
   exact ⟨r1,r2.trans (by rw [hW]),r3.trans (by rw [hW])⟩
theorem Fine.append (h:Fine j d) (v:List UInt8):Fine (j.append d v).2.1 (j.append d v).2.2/\(j.append d v).1<=37:=by
 unfold JS.append
 split
 ·rename_i hd
  rw [h.down] at hd
  exact ⟨h.kill (gone_dead hd),(by decide:(12:Nat)<=37)⟩
 ·rename_i hd
  split
  ·exact ⟨h,(by decide:(17:Nat)<=37)⟩
  ·rename_i hf
   have hg:=gone_not (by rw [<- h.down]; simpa using hd)
   obtain ⟨r1,r2,r3⟩:=go_fine (j:=j) (v:=v) (cost v.length) 0 d hg.1 (by omega) h.fit
   split
   ·rename_i he
    rcases r1 with r1 | ⟨r1,ro⟩
    ·exact absurd r1 he
    ·exact ⟨⟨h.used,by rw [r2]; exact h.fit,h.v1,h.v2,fun _=>.inl ro,by rw [r3]; exact h.life⟩,by simp only [r1]; decide⟩
   ·refine ⟨⟨?_,by rw [r2]; exact h.fit,h.v1,h.v2,fun k=>?_,by rw [r3]; exact h.life⟩,(by decide:(0:Nat)<=37)⟩
    ·show j.used + cost v.length<=j.n
     omega
    ·rcases h.dead k with e | e
     ·rw [hg.1] at e; cases e
     ·exact absurd hg.2 e
theorem Fine.sync (h:Fine j d):Fine (j.sync d).2.1 (j.sync d).2.2/\(j.sync d).1<=37:=by
 unfold JS.sync
 split
 ·rename_i hd
  rw [h.down] at hd
  exact ⟨h.kill (gone_dead hd),(by decide:(12:Nat)<=37)⟩
 ·rename_i hd
  have hg:=gone_not (by rw [<- h.down]; simpa using hd)
  split
  ·rename_i he
   have h0:d.armed = 0:=by
    unfold DS.flushE at he
    rw [hg.1,if_neg (by simp)] at he
    split at he
    ·assumption
    ·exact absurd rfl he
   have hF:d.flushD = { d with off:=true }:=by unfold DS.flushD; rw [hg.1,if_neg (by simp),if_pos h0]
   refine ⟨⟨h.used,by rw [flushD_size]; exact h.fit,h.v1,h.v2,fun _=>.inl (by rw [hF]),by rw [flushD_cr]; exact h.life⟩,?_⟩
   have hE:d.flushE<=37:=by
    unfold DS.flushE
    repeat' split
    all_goals decide
   exact hE
  ·exact ⟨h.flush,(by decide:(0:Nat)<=37)⟩
theorem Fine.begin {i n v:Int} (h:refE d i n v = 0):Fine ⟨i.toNat,n.toNat,v.toNat,0,false,d.cr⟩ d:=by
 unfold refE at h
 split at h
 ·cases h
 ·rename_i hm
  obtain ⟨a1,a2,a3,a4,a5,a6,a7⟩:=Decidable.not_not.1 hm
  exact ⟨Nat.zero_le _,by show i.toNat + n.toNat<=_; omega,by show 1<=v.toNat; omega,by show v.toNat<=_; omega,fun k=>(by cases k),Nat.le_refl _⟩
theorem replay_len (d:DS) (i n v:Int):(replay d i n v).1.length<=65536:=by
 unfold replay
 split
 ·exact Nat.zero_le _
 ·rename_i h
  have h:refE d i n v = 0:=Decidable.not_not.1 h
  unfold refE at h
  split at h
  ·cases h
  ·rename_i hm
   obtain ⟨a1,a2,a3,a4,a5,a6,a7⟩:=Decidable.not_not.1 hm
   exact Nat.le_trans (log_length _ _) (by omega)
end
end J
end Go.Proofs.YthjjfjhajadimaaGreatDoor
namespace Go.Proofs.YthjjfjhajadimaaGreatDoor
open Go.RowKit Go.WideShapes
set_option maxRecDepth 100000
theorem jcost_any (z:Int) (hz:z<=9223372036854775807) (w:World):Calls Tryz.prog 193 #[.int .i64 z] w fun e w'=>e = .returned (.int .i64 (costZ z))/\w' = w:=by
 by_cases h0:z < 0
 ·have FIN:=Lib.hid (show costZ z = 0 from if_pos h0)
  go_enter Tryz.func193,Tryz.ntmps193
  go_wp2
  go_ret
  exact ⟨by rw [FIN.out]; rfl,rfl⟩
 ·have z0:decide (z < 0) = false:=decide_eq_false h0
  by_cases h1:z<=229
  ·have FIN:=Lib.hid (costZ_one (z:=z) (by omega) h1)
   go_enter Tryz.func193,Tryz.ntmps193
   go_wp2
   go_ret
   exact ⟨by rw [FIN.out]; rfl,rfl⟩
  ·have FIN:=Lib.hid (show costZ z = 2 + (z - 229 - 1) / 233 by rw [costZ_more h1,show z - 229 - 1 = z - 230 by omega])
   have z1:decide (z<=229) = false:=decide_eq_false h1
   have w0:wrap64 (z - 229) = z - 229:=by unfold wrap64; omega
   have w1:wrap64 (z - 229 - 1) = z - 229 - 1:=by unfold wrap64; omega
   have w2:(z - 229 - 1).tdiv 233 = (z - 229 - 1) / 233:=Int.tdiv_eq_ediv_of_nonneg (by omega)
   have w3:wrap64 (2 + (z - 229 - 1) / 233) = 2 + (z - 229 - 1) / 233:=by unfold wrap64; omega
   go_enter Tryz.func193,Tryz.ntmps193
   go_wp2
   go_ret
   exact ⟨by rw [FIN.out]; rfl,rfl⟩
theorem jcost_nat (z:Nat) (hz:z<=9223372036854775807) (w:World):Calls Tryz.prog 193 #[.int .i64 z] w fun e w'=>e = .returned (.int .i64 ((J.cost z:Nat):Int))/\w' = w:=by
 have h:=jcost_any (z:Int) (by omega) w
 rw [costZ_nat] at h
 exact h
theorem jlargest_any (n:Int) (hn:n<=9223372036854775807) (w:World):Calls Tryz.prog 101 #[.int .i64 n] w fun e w'=>e = .returned (.int .i64 (largestZ n))/\w' = w:=by
 by_cases h0:n < 1
 ·have FIN:=Lib.hid (show largestZ n = -1 from if_pos h0)
  go_enter Tryz.func101,Tryz.ntmps101
  go_wp2
  go_ret
  exact ⟨by rw [FIN.out]; rfl,rfl⟩
 ·have z0:decide (n < 1) = false:=decide_eq_false h0
  have w1:wrap64 (n - 1) = n - 1:=by unfold wrap64; omega
  have w2:=wrap_wrap 229 (233 * (n - 1))
  have FIN:=Lib.hid (show largestZ n = wrap64 (229 + 233 * (n - 1)) from if_neg h0)
  go_enter Tryz.func101,Tryz.ntmps101
  go_wp2
  go_ret
  exact ⟨by rw [FIN.out]; rfl,rfl⟩
theorem largest_ends (k:Nat) (hk:k<=65536):max (largestZ (k:Int)) 0 = ((J.ends k:Nat):Int)/\largestZ ((k:Int) + 1) = ((J.ends (k + 1):Nat):Int):=by
 refine ⟨?_,?_⟩
 ·cases k with
  | zero=>rfl
  | succ k =>
   have e:largestZ ((k + 1:Nat):Int) = 229 + 233 * (k:Int):=by
    unfold largestZ
    rw [if_neg (by omega),show 229 + 233 * (((k + 1:Nat):Int) - 1) = 229 + 233 * (k:Int) by omega]
    unfold wrap64
    omega
   rw [e]
   show _ = ((229 + 233 * k:Nat):Int)
   omega
 ·have e:largestZ ((k:Int) + 1) = 229 + 233 * (k:Int):=by
   unfold largestZ
   rw [if_neg (by omega),show 229 + 233 * ((k:Int) + 1 - 1) = 229 + 233 * (k:Int) by omega]
   unfold wrap64
   omega
  rw [e]
  show _ = ((229 + 233 * k:Nat):Int)
  omega
theorem jbounds_any (z k:Nat) (hk:k<=65536) (w:World):Calls Tryz.prog 195 #[.int .i64 z,.int .i64 k] w fun e w'=>e = .returned (.tuple #[.int .i64 ((J.ends k:Nat):Int),.int .i64 ((J.upto z k:Nat):Int)])/\w' = w:=by
 have L1:=jlargest_any (k:Int) (by omega)
 have L2:=jlargest_any ((k:Int) + 1) (by omega)
 obtain ⟨e1,e2⟩:=largest_ends k hk
 rw [e2] at L2
 have e3:min ((J.ends (k + 1):Nat):Int) (z:Int) = ((J.upto z k:Nat):Int):=by unfold J.upto; omega
 have wk:wrap64 ((k:Int) + 1) = (k:Int) + 1:=by unfold wrap64; omega
 have F1:=Lib.hid e1
 have F3:=Lib.hid e3
 generalize largestZ (k:Int) = x at *
 generalize J.ends (k + 1) = y at *
 clear e1 e2 e3 hk
 go_enter Tryz.func195,Tryz.ntmps195
 go_wp2_with fail
 refine (L1 _).mono ?_
 rintro e w1 ⟨rfl,rfl⟩
 go_wp2_with fail
 refine (L2 _).mono ?_
 rintro e w2 ⟨rfl,rfl⟩
 go_wp2
 go_ret2
 refine ⟨?_,rfl⟩
 rw [<- F1.out,<- F3.out]
 rfl
section
variable {w:World} {b:Nat} {d:DS} {S:Nat->Prop}
theorem size_same (h:DiskAt w b d S):Calls Tryz.prog 108 #[.pointer (some ⟨b,0,none⟩)] w fun e w'=>e = .returned (.int .i64 d.dur.length)/\w' = w:=(size_any h).mono fun _ _ ⟨h1,h2⟩=>⟨h1,h2.symm⟩
theorem off_same (h:DiskAt w b d S):Calls Tryz.prog 43 #[.pointer (some ⟨b,0,none⟩)] w fun e w'=>e = .returned (.bool d.off)/\w' = w:=(off_any h).mono fun _ _ ⟨h1,h2⟩=>⟨h1,h2.symm⟩
end
def placeV (b:Nat) (i n v:Int):Value:=.agg #[.pointer (some ⟨b,0,none⟩),.int .i64 i,.int .i64 n,.int .i64 v]
def placeCells (b:Nat) (i n v:Int):Array Value:=#[.pointer (some ⟨b,0,none⟩),.int .i64 i,.int .i64 n,.int .i64 v]
theorem place_new (w:World) (b:Nat) (i n v:Int):∃ W,w.alloc (.cells #[.pointer (some ⟨b,0,none⟩),.int .i64 i,.int .i64 n,.int .i64 v] 253) = W/\Qt w W/\W.heap[w.heap.size]? = some (.cells (placeCells b i n v) 253 (0,0)):=⟨_,rfl,(Qt.refl w).alloc _,heap_alloc_new w _⟩
theorem place_cells {W:World} {g b:Nat} {i n v:Int} (h:W.heap[g]? = some (.cells (placeCells b i n v) 253 (0,0))):W.cell? ⟨g,0,none⟩ = some (.pointer (some ⟨b,0,none⟩))/\W.cell? ⟨g,1,none⟩ = some (.int .i64 i)/\W.cell? ⟨g,2,none⟩ = some (.int .i64 n)/\W.cell? ⟨g,3,none⟩ = some (.int .i64 v):=by
 have hc:∀ (k:Nat) (x:Value),(placeCells b i n v)[k]? = some x->W.cell? ⟨g,k,none⟩ = some x:=fun k x hx=>by rw [cell_of_row _ _ _ _ _ _ h]; exact hx
 exact ⟨hc 0 _ rfl,hc 1 _ rfl,hc 2 _ rfl,hc 3 _ rfl⟩
theorem place_kept {W W':World} {g b:Nat} {i n v:Int} {S:Nat->Prop} (h:W.heap[g]? = some (.cells (placeCells b i n v) 253 (0,0))) (K:Keeps S W W') (hS:¬ S g):W'.heap[g]? = some (.cells (placeCells b i n v) 253 (0,0)):=(K.block g (lt_of_block h) hS).trans h
theorem place_qt {W W':World} {g b:Nat} {i n v:Int} (h:W.heap[g]? = some (.cells (placeCells b i n v) 253 (0,0))) (K:Qt W W'):W'.heap[g]? = some (.cells (placeCells b i n v) 253 (0,0)):=place_kept h K (fun e=>e)
set_option maxHeartbeats 800000 in
theorem jrefuse_any (ad:Nat->Addr) {w:World} {b:Nat} {d:DS} {S:Nat->Prop} (hE:Errs ad w) (h:DiskAt w b d S) (i n v:Int) (hn:n<=9223372036854775807) :
  Calls Tryz.prog 184 #[placeV b i n v] w fun e w'=>e = .returned (errV ad (J.refE d i n v))/\Qt w w':=by
 obtain ⟨WA,hWA,QA,hb⟩:=place_new w b i n v
 have HWA:=Lib.hid hWA
 have HQA:=Lib.hid QA
 have SZ:=Lib.hid (fun W (q:Qt WA W)=>size_same (DiskAt.qt h (Qt.trans QA q)))
 have OF:=Lib.hid (fun W (q:Qt WA W)=>off_same (DiskAt.qt h (Qt.trans QA q)))
 have hl:d.dur.length<=65536:=by obtain ⟨gd,mb,uv,P,_⟩:=h; exact P.ok.le
 have HB:=Lib.hid (fun W (q:Qt WA W)=>place_cells (place_qt hb q))
 have HE6:=Lib.hid (fun W (q:Qt WA W)=>(show W.cell? ⟨0,0,none⟩ = some (.iface 335 (.pointer (some (ad 6)))) from (hE.kept (Qt.trans QA q) (OffErrs.none ad)).cells 5 _ rfl))
 have HE12:=Lib.hid (fun W (q:Qt WA W)=>(show W.cell? ⟨6,0,none⟩ = some (.iface 335 (.pointer (some (ad 12)))) from (hE.kept (Qt.trans QA q) (OffErrs.none ad)).cells 11 _ rfl))
 obtain ⟨d0,d1,d2,d3⟩:=place_cells hb
 clear h hE hWA QA hb
 unfold placeV
 by_cases c0:i < 0
 ·have FIN:=Lib.hid (show J.refE d i n v = 6 from if_pos (fun k=>by have q:=k.1; omega))
  have y0:decide (i < 0) = true:=decide_eq_true c0
  clear hl hn
  have SZ1:=SZ.out WA (Qt.refl WA)
  generalize d.dur.length = L at *
  go_enter Tryz.func184,Tryz.ntmps184
  go_wp2
  rw [HWA.out]
  go_quiet ((go_at_call 108; with_reducible exact Calls.quiet_of_same (SZ.out _ (Keeps.drewN (Qt.refl WA) _))))
  have QN:=Keeps.drewN (Qt.refl WA) nq
  have e6:=HE6.out _ QN
  have FQ:=Lib.hid (Qt.trans HQA.out QN)
  clear QN
  go_wp2
  go_ret
  exact ⟨by rw [FIN.out]; rfl,FQ.out⟩
 ·skip
  have y0:decide (i < 0) = false:=decide_eq_false c0
  by_cases c1:n < 0
  ·have FIN:=Lib.hid (show J.refE d i n v = 6 from if_pos (fun k=>by have q:=k.2.1; omega))
   have y1:decide (n < 0) = true:=decide_eq_true c1
   clear hl hn
   have SZ1:=SZ.out WA (Qt.refl WA)
   generalize d.dur.length = L at *
   go_enter Tryz.func184,Tryz.ntmps184
   go_wp2
   rw [HWA.out]
   go_quiet ((go_at_call 108; with_reducible exact Calls.quiet_of_same (SZ.out _ (Keeps.drewN (Qt.refl WA) _))))
   have QN:=Keeps.drewN (Qt.refl WA) nq
   have e6:=HE6.out _ QN
   have FQ:=Lib.hid (Qt.trans HQA.out QN)
   clear QN
   go_wp2
   go_ret
   exact ⟨by rw [FIN.out]; rfl,FQ.out⟩
  ·skip
   have y1:decide (n < 0) = false:=decide_eq_false c1
   have w2:wrap64 ((d.dur.length:Int) - n) = (d.dur.length:Int) - n:=by unfold wrap64; omega
   by_cases c2:(d.dur.length:Int) - n < i
   ·have FIN:=Lib.hid (show J.refE d i n v = 6 from if_pos (fun k=>by have q:=k.2.2.2.1; omega))
    have y2:decide ((d.dur.length:Int) - n < i) = true:=decide_eq_true c2
    clear hl hn
    have SZ1:=SZ.out WA (Qt.refl WA)
    generalize d.dur.length = L at *
    go_enter Tryz.func184,Tryz.ntmps184
    go_wp2
    rw [HWA.out]
    go_quiet ((go_at_call 108; with_reducible exact Calls.quiet_of_same (SZ.out _ (Keeps.drewN (Qt.refl WA) _))))
    have QN:=Keeps.drewN (Qt.refl WA) nq
    have e6:=HE6.out _ QN
    have FQ:=Lib.hid (Qt.trans HQA.out QN)
    clear QN
    go_wp2
    go_ret
    exact ⟨by rw [FIN.out]; rfl,FQ.out⟩
   ·skip
    have y2:decide ((d.dur.length:Int) - n < i) = false:=decide_eq_false c2
    by_cases c3:v < 1
    ·have FIN:=Lib.hid (show J.refE d i n v = 6 from if_pos (fun k=>by have q:=k.2.2.2.2.2.1; omega))
     have y3:decide (v < 1) = true:=decide_eq_true c3
     clear hl hn
     have SZ1:=SZ.out WA (Qt.refl WA)
     generalize d.dur.length = L at *
     go_enter Tryz.func184,Tryz.ntmps184
     go_wp2
     rw [HWA.out]
     go_quiet ((go_at_call 108; with_reducible exact Calls.quiet_of_same (SZ.out _ (Keeps.drewN (Qt.refl WA) _))))
     have QN:=Keeps.drewN (Qt.refl WA) nq
     have e6:=HE6.out _ QN
     have FQ:=Lib.hid (Qt.trans HQA.out QN)
     clear QN
     go_wp2
     go_ret
     exact ⟨by rw [FIN.out]; rfl,FQ.out⟩
    ·skip
     have y3:decide (v < 1) = false:=decide_eq_false c3
     by_cases c4:1099511627776 < v
     ·have FIN:=Lib.hid (show J.refE d i n v = 6 from if_pos (fun k=>by have q:=k.2.2.2.2.2.2; omega))
      have y4:decide (1099511627776 < v) = true:=decide_eq_true c4
      clear hl hn
      have SZ1:=SZ.out WA (Qt.refl WA)
      generalize d.dur.length = L at *
      go_enter Tryz.func184,Tryz.ntmps184
      go_wp2
      rw [HWA.out]
      go_quiet ((go_at_call 108; with_reducible exact Calls.quiet_of_same (SZ.out _ (Keeps.drewN (Qt.refl WA) _))))
      have QN:=Keeps.drewN (Qt.refl WA) nq
      have e6:=HE6.out _ QN
      have FQ:=Lib.hid (Qt.trans HQA.out QN)
      clear QN
      go_wp2
      go_ret
      exact ⟨by rw [FIN.out]; rfl,FQ.out⟩
     ·skip
      have y4:decide (1099511627776 < v) = false:=decide_eq_false c4
      have hm:J.may d i n v:=⟨by omega,by omega,by omega,by omega,by omega,by omega,by omega⟩
      cases c6:d.off with
      | true =>
       have FIN:=Lib.hid (show J.refE d i n v = 12 from (if_neg (fun k=>k hm)).trans (if_pos c6))
       rw [c6] at OF
       clear hl hn hm c6
       generalize d.dur.length = L at *
       go_enter Tryz.func184,Tryz.ntmps184
       go_wp2
       rw [HWA.out]
       go_quiet ((go_at_call 108; with_reducible exact Calls.quiet_of_same (SZ.out _ (Keeps.drewN (Qt.refl WA) _))))
       have QN:=Keeps.drewN (Qt.refl WA) nq
       obtain ⟨x0,x1,x2,x3⟩:=HB.out _ QN
       have e12:=HE12.out _ QN
       have OF1:=Lib.hid (OF.out _ QN)
       have FQ:=Lib.hid (Qt.trans HQA.out QN)
       clear QN d0 d1 d2 d3
       go_wp2_with fail
       refine OF1.out.mono ?_
       rintro e w1 ⟨rfl,rfl⟩
       go_wp2
       go_ret
       exact ⟨by rw [FIN.out]; rfl,FQ.out⟩
      | false =>
       have FIN:=Lib.hid (show J.refE d i n v = 0 from (if_neg (fun k=>k hm)).trans (if_neg (by rw [c6]; simp)))
       rw [c6] at OF
       clear hl hn hm c6
       generalize d.dur.length = L at *
       go_enter Tryz.func184,Tryz.ntmps184
       go_wp2
       rw [HWA.out]
       go_quiet ((go_at_call 108; with_reducible exact Calls.quiet_of_same (SZ.out _ (Keeps.drewN (Qt.refl WA) _))))
       have QN:=Keeps.drewN (Qt.refl WA) nq
       obtain ⟨x0,x1,x2,x3⟩:=HB.out _ QN
       have OF1:=Lib.hid (OF.out _ QN)
       have FQ:=Lib.hid (Qt.trans HQA.out QN)
       clear QN d0 d1 d2 d3
       go_wp2_with fail
       refine OF1.out.mono ?_
       rintro e w1 ⟨rfl,rfl⟩
       go_wp2
       go_ret
       exact ⟨by rw [FIN.out]; rfl,FQ.out⟩
end Go.Proofs.YthjjfjhajadimaaGreatDoor
namespace Go.Proofs.YthjjfjhajadimaaGreatDoor
open Go.RowKit
set_option maxRecDepth 100000
theorem blen_any (b:Nat) (r:Option Nat) (l:List UInt8) (w:World) (h:Wr b r l w) :
  Calls Tryz.prog 225 #[.pointer (some ⟨b,0,none⟩)] w fun e w'=>e = .returned (.int .i64 l.length)/\w = w':=by
 obtain ⟨p,v,_,hbk,hown,hv,hne⟩:=h
 obtain ⟨ao,cap,rfl⟩:∃ ao cap,v = .slice ao l.length cap:=by
  rcases hown.2 with ⟨hv,h0⟩ | ⟨g,cap,cur,fz,hv,_⟩
  ·exact ⟨none,0,by rw [hv,h0]⟩
  ·exact ⟨_,_,hv⟩
 have c1:w.cell? ⟨b,1,none⟩ = some (.slice ao l.length cap):=by rw [Lib.cell_of_heap hbk]; rfl
 clear hv hbk hown
 go_enter Tryz.func225,Tryz.ntmps225
 go_wp2
 go_ret
 exact ⟨rfl,rfl⟩
theorem wlen_any (b:Nat) (r:Option Nat) (l:List UInt8) (w:World) (h:Wr b r l w) :
  Calls Tryz.prog 176 #[.pointer (some ⟨b,0,none⟩)] w fun e w'=>e = .returned (.int .i64 l.length)/\w = w':=by
 go_enter Tryz.func176,Tryz.ntmps176
 go_wp2_with fail
 refine (blen_any b r l _ h).mono ?_
 rintro e w' ⟨rfl,rfl⟩
 go_wp2
 go_ret
 exact ⟨rfl,rfl⟩
end Go.Proofs.YthjjfjhajadimaaGreatDoor
namespace Go.Proofs.YthjjfjhajadimaaGreatDoor
open Go.RowKit Go.WideShapes
set_option maxRecDepth 100000
theorem kept_new {w w1 w2:World} {r1:Option Nat} (k1:Qt w w1) (k2:Kept w.heap.size none r1 w1 w2):Qt w w2 :=
 Keeps.trans (S:=fun _=>False) k1 k2.keeps (fun i hi e=>by
  rcases e with e | e
  ·omega
  ·cases e)
theorem out_new {w w1 w2 w3:World} {r1:Option Nat} (k1:Qt w w1) (k2:Kept w.heap.size none r1 w1 w2) (k3:Keeps (fun k=>some k = r1) w2 w3):Qt w w3 :=
 Keeps.trans (S:=fun _=>False) (kept_new k1 k2) k3 (fun i hi e=>by
  have:=k1.size
  rcases k2.later with q | ⟨g,q,hg⟩
  ·rw [q] at e; cases e
  ·rw [q] at e; injection e with e; omega)
theorem number13_any (n:Nat) (hn:n < 9223372036854775808) (w:World) :
  Calls Tryz.prog 118 #[.int .i64 (n:Int)] w fun e w'=>e = .returned (.int .i64 (((Lib.uvarint n).length:Nat):Int))/\Qt w w':=by
 have wz:IntKind.u64.wrap (n:Int) = (n:Int):=by rw [IntKind.wrap_u64]; omega
 have NEW:=wnew_any w
 go_enter Tryz.func118,Tryz.ntmps118
 go_wp2_with fail
 refine NEW.mono ?_
 rintro e w1 ⟨rfl,r1,k1,s1⟩
 have FX:=wuint_any w.heap.size none [] n w1 r1 (by decide) (by omega)
 have K1:=Lib.hid k1
 clear r1 k1 s1 NEW
 go_wp2_with fail
 refine FX.mono ?_
 rintro e w2 ⟨rfl,r,r2,k2⟩
 have LN:=wlen_any w.heap.size r _ w2 r2
 have FIN:=Lib.hid (kept_new K1.out k2)
 clear r2 k2 FX
 go_wp2_with fail
 refine LN.mono ?_
 rintro e w3 ⟨rfl,rfl⟩
 clear LN
 go_wp2
 go_ret
 exact ⟨rfl,FIN.out⟩
theorem text13_any (s:ByteArray) (hs:s.size<=1152921504606846976) (w:World) :
  Calls Tryz.prog 114 #[.string s] w fun e w'=>e = .returned (.int .i64 (((textB s.data.toList).length:Nat):Int))/\Qt w w':=by
 have NB:=number13_any s.size (by omega)
 have hl:=Lib.uvarint_length64 (x:=s.size) (by omega)
 have HT:=Lib.hid (show (((textB s.data.toList).length:Nat):Int) = (((Lib.uvarint s.size).length:Nat):Int) + (s.size:Int) by
  have e:s.data.toList.length = s.size:=rfl
  unfold textB
  rw [List.length_append,e]
  omega)
 generalize (Lib.uvarint s.size).length = L at *
 go_enter Tryz.func114,Tryz.ntmps114
 go_wp2_with fail
 refine (NB _).mono ?_
 rintro e w1 ⟨rfl,q1⟩
 go_wp2
 go_ret
 exact ⟨by rw [HT.out]; rfl,q1⟩
theorem results_six {fn:Func} {a b c d e f:Tmp} (h:fn.results = #[.tmp a,.tmp b,.tmp c,.tmp d,.tmp e,.tmp f]) (tmps:Array Value) (P:Program) (w:World) :
  (results fn tmps).run P w = .ok (.tuple #[tmps.getD a undef,tmps.getD b undef,tmps.getD c undef,tmps.getD d undef,tmps.getD e undef,tmps.getD f undef]) w:=by
 simp [results,h]
def layT (n:Nat):Value:=.tuple #[.int .i64 2,.int .i64 (2 + ((So.each n:Nat):Int)),.int .i64 ((So.each n:Nat):Int),.int .i64 ((So.logAt n:Nat):Int),.int .i64 ((So.many n:Nat):Int),.nilIface]
def layN (ad:Nat->Addr) (e:Nat):Value:=.tuple #[.int .i64 0,.int .i64 0,.int .i64 0,.int .i64 0,.int .i64 0,errV ad e]
def layR (ad:Nat->Addr) (n:Int):Value:=if So.layE n = 0 then layT n.toNat else layN ad (So.layE n)
theorem layE_in {n:Int} (h1:64<=n) (h2:n<=65536):So.layE n = 0:=by
 unfold So.layE
 rw [if_neg (by omega),if_neg (by omega)]
theorem layout13_any (ad:Nat->Addr) (n:Int) (w:World) (hE:Errs ad w) :
  Calls Tryz.prog 29 #[.int .i64 n] w fun e w'=>e = .returned (layR ad n)/\∃ m,w' = w.drewN m:=by
 by_cases h1:n < 64
 ·have FIN:=Lib.hid (show layR ad n = layN ad 13 from by unfold layR; rw [show So.layE n = 13 from if_pos h1]; rfl)
  have y:decide (n < 64) = true:=decide_eq_true h1
  have c13:w.cell? ⟨5,0,none⟩ = some (.iface 335 (.pointer (some (ad 13)))):=hE.cells 12 _ rfl
  clear hE h1
  go_enter Tryz.func29,Tryz.ntmps29
  go_wp2
  go_quiet (fail)
  go_wp2
  refine bodyPost_ret (results_six rfl _ _ _) rfl ?_
  exact ⟨by rw [FIN.out]; rfl,_,rfl⟩
 ·have y1:decide (n < 64) = false:=decide_eq_false h1
  by_cases h2:65536 < n
  ·have FIN:=Lib.hid (show layR ad n = layN ad 6 from by unfold layR; rw [show So.layE n = 6 from by unfold So.layE; rw [if_neg h1,if_pos h2]]; rfl)
   have y:decide (65536 < n) = true:=decide_eq_true h2
   have c6:w.cell? ⟨0,0,none⟩ = some (.iface 335 (.pointer (some (ad 6)))):=hE.cells 5 _ rfl
   clear hE h1 h2
   go_enter Tryz.func29,Tryz.ntmps29
   go_wp2
   go_quiet (fail)
   go_wp2
   refine bodyPost_ret (results_six rfl _ _ _) rfl ?_
   exact ⟨by rw [FIN.out]; rfl,_,rfl⟩
  ·have y2:decide (65536 < n) = false:=decide_eq_false h2
   have hin:=layE_in (n:=n) (by omega) (by omega)
   obtain ⟨m,rfl⟩:∃ m:Nat,n = m:=⟨n.toNat,by omega⟩
   have hq:((m:Int) - 2).tdiv 3 = ((So.each m:Nat):Int):=by unfold So.each; rw [Int.tdiv_eq_ediv_of_nonneg (by omega)]; omega
   have hlog:So.logAt m = 2 + So.each m + So.each m:=by unfold So.logAt; omega
   have hmany:((So.many m:Nat):Int) = (m:Int) - (2 + ((So.each m:Nat):Int) + ((So.each m:Nat):Int)):=by unfold So.many So.each; omega
   have hel:So.each m<=65536:=by unfold So.each; omega
   have HF:=Lib.hid (show layT m = .tuple #[.int .i64 2,.int .i64 (2 + ((So.each m:Nat):Int)),.int .i64 ((So.each m:Nat):Int),.int .i64 (2 + ((So.each m:Nat):Int) + ((So.each m:Nat):Int)),.int .i64 ((m:Int) - (2 + ((So.each m:Nat):Int) + ((So.each m:Nat):Int))),.nilIface] by
    unfold layT
    rw [hmany,hlog]
    simp)
   have h1':64<=m:=by omega
   have h2':m<=65536:=by omega
   have FIN:=Lib.hid (show layR ad (m:Int) = layT m from by unfold layR; rw [if_pos hin]; rfl)
   clear hE hlog hmany h1 h2 hin
   generalize So.each m = a at *
   go_enter Tryz.func29,Tryz.ntmps29
   go_wp2
   refine bodyPost_ret (results_six rfl _ _ _) rfl ?_
   refine ⟨?_,0,rfl⟩
   rw [FIN.out,HF.out]
   rfl
def layV (b n:Nat):Value:=.agg #[.pointer (some ⟨b,0,none⟩),.int .i64 2,.int .i64 (2 + ((So.each n:Nat):Int)),.int .i64 ((So.each n:Nat):Int),.int .i64 ((So.logAt n:Nat):Int),.int .i64 ((So.many n:Nat):Int)]
def layCells (b n:Nat):Array Value:=#[.pointer (some ⟨b,0,none⟩),.int .i64 2,.int .i64 (2 + ((So.each n:Nat):Int)),.int .i64 ((So.each n:Nat):Int),.int .i64 ((So.logAt n:Nat):Int),.int .i64 ((So.many n:Nat):Int)]
theorem lay_new (w:World) (b n:Nat):∃ W,w.alloc (.cells (layCells b n) 135) = W/\Qt w W/\W.heap[w.heap.size]? = some (.cells (layCells b n) 135 (0,0)):=⟨_,rfl,(Qt.refl w).alloc _,heap_alloc_new w _⟩
end Go.Proofs.YthjjfjhajadimaaGreatDoor
namespace Go.Proofs.YthjjfjhajadimaaGreatDoor.Tb
set_option maxRecDepth 100000
inductive Tr where
 | leaf
 | node (l:Tr) (r:R) (t:Tr)
def Tr.list:Tr->List R
 | .leaf=>[]
 | .node l r t=>l.list ++ r :: t.list
section
variable {a b:List R} {r:R} {k v:Txt}
theorem sorted_mid:Sorted (a ++ r :: b) ↔ Sorted a/\Sorted b/\(∀ x ∈ a,lt x.1 r.1 = true)/\(∀ x ∈ b,lt r.1 x.1 = true):=by
 unfold Sorted
 rw [List.pairwise_append,List.pairwise_cons]
 constructor
 ·rintro ⟨h1,⟨h2,h3⟩,h4⟩
  exact ⟨h1,h3,fun x hx=>h4 x hx r (by simp),h2⟩
 ·rintro ⟨h1,h2,h3,h4⟩
  refine ⟨h1,⟨h4,h2⟩,fun x hx y hy=>?_⟩
  rcases List.mem_cons.1 hy with rfl | hy
  ·exact h3 x hx
  ·exact lt_trans (h3 x hx) (h4 y hy)
theorem sorted_left (h:Sorted (a ++ r :: b)):Sorted a:=(sorted_mid.1 h).1
theorem sorted_right (h:Sorted (a ++ r :: b)):Sorted b:=(sorted_mid.1 h).2.1
theorem get_left (h:Sorted (a ++ r :: b)) (hk:lt k r.1 = true):get (a ++ r :: b) k = get a k:=by
 obtain ⟨h1,h2,h3,h4⟩:=sorted_mid.1 h
 cases e:get a k with
 | some u=>exact (get_some h).2 (List.mem_append_left _ ((get_some h1).1 e))
 | none =>
  refine get_none.2 fun x hx=>?_
  rcases List.mem_append.1 hx with hx | hx
  ·exact get_none.1 e x hx
  ·rcases List.mem_cons.1 hx with rfl | hx
   ·exact fun e=>lt_ne hk e.symm
   ·exact fun e=>lt_ne (lt_trans hk (h4 x hx)) e.symm
theorem get_right (h:Sorted (a ++ r :: b)) (hk:lt r.1 k = true):get (a ++ r :: b) k = get b k:=by
 obtain ⟨h1,h2,h3,h4⟩:=sorted_mid.1 h
 cases e:get b k with
 | some u=>exact (get_some h).2 (List.mem_append_right _ (List.mem_cons_of_mem _ ((get_some h2).1 e)))
 | none =>
  refine get_none.2 fun x hx=>?_
  rcases List.mem_append.1 hx with hx | hx
  ·exact lt_ne (lt_trans (h3 x hx) hk)
  ·rcases List.mem_cons.1 hx with rfl | hx
   ·exact lt_ne hk
   ·exact get_none.1 e x hx
theorem get_mid (h:Sorted (a ++ r :: b)):get (a ++ r :: b) r.1 = some r.2:=(get_some h).2 (by simp)
theorem put_left (h:Sorted (a ++ r :: b)) (hk:lt k r.1 = true):put (a ++ r :: b) k v = put a k v ++ r :: b:=by
 obtain ⟨h1,h2,h3,h4⟩:=sorted_mid.1 h
 refine sorted_ext (put_sorted h _ _) (sorted_mid.2 ⟨put_sorted h1 _ _,h2,fun x hx=>?_,h4⟩) fun x=>?_
 ·rcases put_mem.1 hx with rfl | ⟨hx,_⟩
  ·exact hk
  ·exact h3 x hx
 ·rw [put_mem,List.mem_append,List.mem_append,put_mem,List.mem_cons]
  constructor
  ·rintro (e | ⟨e | e | e,hn⟩)
   ·exact .inl (.inl e)
   ·exact .inl (.inr ⟨e,hn⟩)
   ·exact .inr (.inl e)
   ·exact .inr (.inr e)
  ·rintro ((e | ⟨e,hn⟩) | e | e)
   ·exact .inl e
   ·exact .inr ⟨.inl e,hn⟩
   ·exact .inr ⟨.inr (.inl e),fun c=>lt_ne hk (by rw [e] at c; exact c.symm)⟩
   ·exact .inr ⟨.inr (.inr e),fun c=>lt_ne (lt_trans hk (h4 x e)) c.symm⟩
theorem put_right (h:Sorted (a ++ r :: b)) (hk:lt r.1 k = true):put (a ++ r :: b) k v = a ++ r :: put b k v:=by
 obtain ⟨h1,h2,h3,h4⟩:=sorted_mid.1 h
 refine sorted_ext (put_sorted h _ _) (sorted_mid.2 ⟨h1,put_sorted h2 _ _,h3,fun x hx=>?_⟩) fun x=>?_
 ·rcases put_mem.1 hx with rfl | ⟨hx,_⟩
  ·exact hk
  ·exact h4 x hx
 ·rw [put_mem,List.mem_append,List.mem_append,List.mem_cons,List.mem_cons,put_mem]
  constructor
  ·rintro (e | ⟨e | e | e,hn⟩)
   ·exact .inr (.inr (.inl e))
   ·exact .inl e
   ·exact .inr (.inl e)
   ·exact .inr (.inr (.inr ⟨e,hn⟩))
  ·rintro (e | e | e | ⟨e,hn⟩)
   ·exact .inr ⟨.inl e,lt_ne (lt_trans (h3 x e) hk)⟩
   ·exact .inr ⟨.inr (.inl e),fun c=>lt_ne hk (by rw [e] at c; exact c)⟩
   ·exact .inl e
   ·exact .inr ⟨.inr (.inr e),hn⟩
theorem put_mid (h:Sorted (a ++ r :: b)):put (a ++ r :: b) r.1 v = a ++ (r.1,v) :: b:=by
 obtain ⟨h1,h2,h3,h4⟩:=sorted_mid.1 h
 refine sorted_ext (put_sorted h _ _) (sorted_mid.2 ⟨h1,h2,h3,h4⟩) fun x=>?_
 rw [put_mem,List.mem_append,List.mem_append,List.mem_cons,List.mem_cons]
 constructor
 ·rintro (e | ⟨e | e | e,hn⟩)
  ·exact .inr (.inl e)
  ·exact .inl e
  ·exact absurd (by rw [e]) hn
  ·exact .inr (.inr e)
 ·rintro (e | e | e)
  ·exact .inr ⟨.inl e,lt_ne (h3 x e)⟩
  ·exact .inl e
  ·exact .inr ⟨.inr (.inr e),fun c=>lt_ne (h4 x e) c.symm⟩
theorem del_noneT {l:List R} (h:∀ x ∈ l,x.1 ≠ k):del l k = l:=List.filter_eq_self.2 (fun x hx=>by simpa using h x hx)
theorem del_left (h:Sorted (a ++ r :: b)) (hk:lt k r.1 = true):del (a ++ r :: b) k = del a k ++ r :: b:=by
 obtain ⟨h1,h2,h3,h4⟩:=sorted_mid.1 h
 have e1:del (r :: b) k = r :: b:=del_noneT fun x hx=>by
  rcases List.mem_cons.1 hx with rfl | hx
  ·exact fun e=>lt_ne hk e.symm
  ·exact fun e=>lt_ne (lt_trans hk (h4 x hx)) e.symm
 unfold del at *
 rw [List.filter_append,e1]
theorem del_right (h:Sorted (a ++ r :: b)) (hk:lt r.1 k = true):del (a ++ r :: b) k = a ++ r :: del b k:=by
 obtain ⟨h1,h2,h3,h4⟩:=sorted_mid.1 h
 have e1:del a k = a:=del_noneT fun x hx=>lt_ne (lt_trans (h3 x hx) hk)
 unfold del at *
 rw [List.filter_append,e1,List.filter_cons_of_pos (by simpa using lt_ne hk)]
theorem del_mid (h:Sorted (a ++ r :: b)):del (a ++ r :: b) r.1 = a ++ b:=by
 obtain ⟨h1,h2,h3,h4⟩:=sorted_mid.1 h
 have e1:del a r.1 = a:=del_noneT fun x hx=>lt_ne (h3 x hx)
 have e2:del b r.1 = b:=del_noneT fun x hx=>fun e=>lt_ne (h4 x hx) e.symm
 unfold del at *
 rw [List.filter_append,e1,List.filter_cons_of_neg (by simp),e2]
theorem del_first (h:Sorted (r :: b)):del (r :: b) r.1 = b:=del_mid (a:=[]) h
theorem del_sum {l:List R} (h:Sorted l) (hg:get l k = some v):bytes (del l k) + (k.length + v.length) = bytes l:=by
 obtain ⟨a,b,rfl⟩:=List.append_of_mem ((get_some h).1 hg)
 rw [del_mid (r:=(k,v)) h,bytes_append,bytes_append,bytes_cons]
 simp only
 omega
theorem del_same {l:List R} (hg:get l k = none):del l k = l:=del_noneT (get_none.1 hg)
theorem put_sum (l:List R):bytes (put l k v) = bytes (del l k) + (k.length + v.length):=by
 unfold put
 rw [ins_bytes]
 simp only
 omega
theorem put_some {l:List R} {u:Txt} (h:Sorted l) (hg:get l k = some u):(bytes l:Int) - ((k.length:Int) + u.length) + ((k.length:Int) + v.length) = (bytes (put l k v):Int):=by
 have h1:=del_sum h hg
 have h2:=put_sum (v:=v) (k:=k) l
 omega
theorem put_new {l:List R} (hg:get l k = none):(bytes l:Int) + ((k.length:Int) + v.length) = (bytes (put l k v):Int):=by
 have h1:=del_same hg
 have h2:=put_sum (v:=v) (k:=k) l
 rw [h1] at h2
 omega
def inSpan (lo hi:Txt) (ends:Bool) (r:R):Bool:=!lt r.1 lo && !(ends && !lt r.1 hi)
def sel (lo hi:Txt) (ends:Bool) (l:List R):List R:=l.filter (inSpan lo hi ends)
theorem sel_from (l:List R) (lo hi:Txt):sel lo hi false l = fromL l lo:=by
 unfold sel fromL
 refine List.filter_congr fun x _=>?_
 unfold inSpan
 cases lt x.1 lo <;> rfl
variable {lo hi:Txt} {ends:Bool}
theorem sel_low (h:Sorted (a ++ r :: b)) (hr:lt r.1 lo = true):sel lo hi ends (a ++ r :: b) = sel lo hi ends b:=by
 obtain ⟨h1,h2,h3,h4⟩:=sorted_mid.1 h
 have e1:sel lo hi ends a = []:=List.filter_eq_nil_iff.2 fun x hx=>by simp [inSpan,lt_trans (h3 x hx) hr]
 unfold sel at *
 rw [List.filter_append,e1,List.filter_cons_of_neg (by simp [inSpan,hr])]
 rfl
theorem sel_high (h:Sorted (a ++ r :: b)) (he:ends = true) (hr:lt r.1 hi = false):sel lo hi ends (a ++ r :: b) = sel lo hi ends a:=by
 obtain ⟨h1,h2,h3,h4⟩:=sorted_mid.1 h
 have e1:sel lo hi ends b = []:=List.filter_eq_nil_iff.2 fun x hx=>by
  have:lt x.1 hi = false:=by
   cases e:lt x.1 hi with
   | false=>rfl
   | true=>rw [lt_trans (h4 x hx) e] at hr; cases hr
  simp [inSpan,this,he]
 unfold sel at *
 rw [List.filter_append,List.filter_cons_of_neg (by simp [inSpan,hr,he]),e1,List.append_nil]
theorem sel_mid (h1:lt r.1 lo = false) (h2:(ends && !lt r.1 hi) = false):sel lo hi ends (a ++ r :: b) = sel lo hi ends a ++ r :: sel lo hi ends b:=by
 unfold sel
 rw [List.filter_append,List.filter_cons_of_pos (by unfold inSpan; rw [h1,h2]; rfl)]
end
end Go.Proofs.YthjjfjhajadimaaGreatDoor.Tb
namespace Go.Proofs.YthjjfjhajadimaaGreatDoor
open Go.RowKit Go.WideShapes
set_option maxRecDepth 100000
def IsT (X:Nat->Prop) (W:World):Option Addr->Tb.Tr->Prop
 | p,.leaf=>p = none
 | p,.node l r t=>∃ (b:Nat) (pl pr:Option Addr),p = some ⟨b,0,none⟩/\X b/\W.cell? ⟨b,0,none⟩ = some (strV r.1)/\W.cell? ⟨b,1,none⟩ = some (strV r.2)/\W.cell? ⟨b,2,none⟩ = some (.pointer pl)/\W.cell? ⟨b,3,none⟩ = some (.pointer pr)/\W.cell? ⟨b,4,none⟩ = some (.int .i64 ((l.list.length + (t.list.length + 1):Nat):Int))/\IsT X W pl l/\IsT X W pr t
theorem IsT.more {X Y:Nat->Prop} {W:World} (h:∀ k,k < W.heap.size->X k->Y k):∀ {p:Option Addr} {T:Tb.Tr},IsT X W p T->IsT Y W p T
 | _,.leaf,ht=>ht
 | _,.node _ _ _,⟨b,pl,pr,hp,hb,c0,c1,c2,c3,c4,hl,hr⟩=>⟨b,pl,pr,hp,h b (World.block_lt_of_cell? W _ c0) hb,c0,c1,c2,c3,c4,IsT.more h hl,IsT.more h hr⟩
theorem IsT.kept {X K:Nat->Prop} {W W':World} (h:Keeps K W W') (hK:∀ k,X k->¬ K k):∀ {p:Option Addr} {T:Tb.Tr},IsT X W p T->IsT X W' p T
 | _,.leaf,ht=>ht
 | _,.node _ _ _,⟨b,pl,pr,hp,hb,c0,c1,c2,c3,c4,hl,hr⟩=>⟨b,pl,pr,hp,hb,h.cellv c0 (hK b hb),h.cellv c1 (hK b hb),h.cellv c2 (hK b hb),h.cellv c3 (hK b hb),h.cellv c4 (hK b hb),IsT.kept h hK hl,IsT.kept h hK hr⟩
theorem IsT.qt {X:Nat->Prop} {W W':World} (q:Qt W W') {p:Option Addr} {T:Tb.Tr} (h:IsT X W p T):IsT X W' p T:=h.kept q (fun _ _ e=>e)
theorem IsT.lt {X:Nat->Prop} {W:World} {p:Option Addr} {T:Tb.Tr} (h:IsT X W p T):IsT (fun k=>X k/\k < W.heap.size) W p T:=h.more (fun _ hk x=>⟨x,hk⟩)
set_option maxHeartbeats 400000 in
theorem count_any {X:Nat->Prop} {W:World} {p:Option Addr} {T:Tb.Tr} (h:IsT X W p T):Calls Tryz.prog 167 #[.pointer p] W fun e w'=>e = .returned (.int .i64 (T.list.length:Int))/\w' = W:=by
 cases T with
 | leaf =>
  obtain rfl:p = none:=h
  go_enter Tryz.func167,Tryz.ntmps167
  go_wp2
  go_ret
  exact ⟨rfl,rfl⟩
 | node l r t =>
  obtain ⟨b,pl,pr,rfl,_,_,_,_,_,c4,_,_⟩:=h
  rw [show (Tb.Tr.node l r t).list.length = l.list.length + (t.list.length + 1) by rw [Tb.Tr.list,List.length_append,List.length_cons]]
  generalize l.list.length + (t.list.length + 1) = n at *
  go_enter Tryz.func167,Tryz.ntmps167
  go_wp2
  go_ret
  exact ⟨rfl,rfl⟩
set_option maxHeartbeats 400000 in
theorem weight_any {X:Nat->Prop} {W:World} {p:Option Addr} {T:Tb.Tr} (h:IsT X W p T) (hb:T.list.length<=17592186044416):Calls Tryz.prog 268 #[.pointer p] W fun e w'=>e = .returned (.int .i64 ((T.list.length:Int) + 1))/\w' = W:=by
 have CN:=count_any h
 generalize T.list.length = n at *
 have lo:(0:Int)<=(n:Int) + 1:=by omega
 have hi:(n:Int) + 1<=9223372036854775807:=by omega
 go_enter Tryz.func268,Tryz.ntmps268
 go_wp2_with (go_at_call 167; refine CN.mono ?_; rintro e w' ⟨rfl,rfl⟩)
 go_ret
 exact ⟨rfl,rfl⟩
structure NodeR (W:World) (b:Nat) (r:Tb.R):Prop where
 key:W.cell? ⟨b,0,none⟩ = some (strV r.1)
 value:W.cell? ⟨b,1,none⟩ = some (strV r.2)
theorem NodeR.qt {W W':World} {b:Nat} {r:Tb.R} (h:NodeR W b r) (q:Qt W W'):NodeR W' b r:=⟨q.cellv h.key,q.cellv h.value⟩
end Go.Proofs.YthjjfjhajadimaaGreatDoor
