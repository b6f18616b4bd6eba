/-
  Joined: JSpec, JLife, JOps, OState, QtB.
-/
import Derived.Test.YthjjfjhajadimaaGreatDoorP03
namespace Go.Proofs.YthjjfjhajadimaaGreatDoor.J
set_option maxRecDepth 100000
def cost (b:Nat):Nat:=if b<=229 then 1 else 2 + (b - 230) / 233
def pay (v:List UInt8):Nat->List UInt8
 | 0=>1 :: (E.low 4 v.length ++ v.take 229)
 | k + 1=>0 :: (v.drop (229 + 233 * k)).take 233
def ends:Nat->Nat
 | 0=>0
 | k + 1=>229 + 233 * k
theorem cost_pos (b:Nat):0 < cost b:=by unfold cost; split <;> omega
theorem cost_le (b:Nat):b<=ends (cost b):=by
 unfold cost; split
 ·show b<=229 + 233 * 0; omega
 ·show b<=ends (2 + (b - 230) / 233)
  rw [show 2 + (b - 230) / 233 = (1 + (b - 230) / 233) + 1 by omega]
  show b<=229 + 233 * (1 + (b - 230) / 233)
  omega
theorem ends_lt {b k:Nat} (h:k + 1 < cost b):ends (k + 1) < b:=by
 show 229 + 233 * k < b
 unfold cost at h; split at h <;> omega
theorem pay0_length (v:List UInt8):(pay v 0).length = 5 + min 229 v.length:=by simp [pay,E.low_length]; omega
theorem payS_length (v:List UInt8) (k:Nat):(pay v (k + 1)).length = 1 + min 233 (v.length - (229 + 233 * k)):=by simp [pay]; omega
theorem pay_le (v:List UInt8):∀ k,(pay v k).length<=234
 | 0=>by rw [pay0_length]; omega
 | k + 1=>by rw [payS_length]; omega
theorem pay_drop0 (v:List UInt8):(pay v 0).drop 5 = v.take 229:=by
 show ([1] ++ E.low 4 v.length ++ v.take 229).drop 5 = _
 exact List.drop_left' (by simp [E.low_length])
theorem pay_dropS (v:List UInt8) (k:Nat):(pay v (k + 1)).drop 1 = (v.drop (229 + 233 * k)).take 233:=rfl
def sizeOf (p:List UInt8):Nat:=E.num ((p.drop 1).take 4)
theorem size_pay {v:List UInt8} (h:v.length < 4294967296):sizeOf (pay v 0) = v.length:=by
 unfold sizeOf
 rw [show (pay v 0).drop 1 = E.low 4 v.length ++ v.take 229 from rfl,List.take_left' (E.low_length 4 _),E.num_low]
 exact Nat.mod_eq_of_lt (by omega)
theorem size_lt (p:List UInt8):sizeOf p < 4294967296:=by
 have h:=E.num_lt ((p.drop 1).take 4)
 have h2:((p.drop 1).take 4).length<=4:=by rw [List.length_take]; omega
 exact Nat.lt_of_lt_of_le h (Nat.le_trans (Nat.pow_le_pow_right (by decide) h2) (by decide))
def textTo (p:Nat->List UInt8):Nat->List UInt8
 | 0=>[]
 | 1=>(p 0).drop 5
 | k + 2=>textTo p (k + 1) ++ (p (k + 1)).drop 1
theorem text_pay (v:List UInt8):∀ k,textTo (pay v) k = v.take (ends k)
 | 0=>by simp [textTo,ends]
 | 1=>pay_drop0 v
 | k + 2=>by
  rw [textTo,text_pay v (k + 1),pay_dropS]
  show v.take (229 + 233 * k) ++ _ = v.take (229 + 233 * (k + 1))
  rw [show 229 + 233 * (k + 1) = (229 + 233 * k) + 233 by omega]
  exact List.take_add.symm
theorem text_all (v:List UInt8):textTo (pay v) (cost v.length) = v:=by
 rw [text_pay,List.take_of_length_le (cost_le _)]
theorem text_congr {p q:Nat->List UInt8}:∀ k,(∀ j,j < k->p j = q j)->textTo p k = textTo q k
 | 0,_=>rfl
 | 1,h=>by rw [textTo,textTo,h 0 (by omega)]
 | k + 2,h=>by rw [textTo,textTo,text_congr (k + 1) (fun j hj=>h j (by omega)),h (k + 1) (by omega)]
structure Whole (s:Nat->Option (List UInt8)) (n i:Nat) (v:List UInt8):Prop where
 small:v.length < 4294967296
 room:i + cost v.length<=n
 each:∀ k,k < cost v.length->s (i + k) = some (pay v k)
theorem Whole.one {s:Nat->Option (List UInt8)} {n i:Nat} {v u:List UInt8} (h:Whole s n i v) (k:Whole s n i u):v = u:=by
 have e0:=(h.each 0 (cost_pos _)).symm.trans (k.each 0 (cost_pos _))
 injection e0 with e0
 have el:v.length = u.length:=by rw [<- size_pay h.small,<- size_pay k.small,e0]
 have e1:textTo (pay v) (cost v.length) = textTo (pay u) (cost v.length):=text_congr _ (fun j hj=>by
  have:=(h.each j hj).symm.trans (k.each j (by rw [<- el]; exact hj))
  injection this)
 rw [text_all] at e1
 rw [e1,el,text_all]
open Classical in
noncomputable def rec (s:Nat->Option (List UInt8)) (n i:Nat):Option (List UInt8):=if h:∃ v,Whole s n i v then some h.choose else none
theorem rec_some {s:Nat->Option (List UInt8)} {n i:Nat} {v:List UInt8} (h:Whole s n i v):rec s n i = some v:=by
 unfold rec
 rw [dif_pos ⟨v,h⟩]
 exact congrArg some ((Exists.choose_spec (p:=fun v=>Whole s n i v) ⟨v,h⟩).one h)
theorem rec_none {s:Nat->Option (List UInt8)} {n i:Nat} (h:∀ v,¬ Whole s n i v):rec s n i = none:=dif_neg (fun ⟨v,k⟩=>h v k)
theorem rec_whole {s:Nat->Option (List UInt8)} {n i:Nat} {v:List UInt8} (h:rec s n i = some v):Whole s n i v:=by
 unfold rec at h
 split at h
 ·rename_i k
  injection h with h
  rw [<- h]
  exact k.choose_spec
 ·cases h
noncomputable def log (s:Nat->Option (List UInt8)) (n:Nat):Nat->Nat->List (List UInt8)
 | 0,_=>[]
 | f + 1,i=>match rec s n i with
  | none=>[]
  | some v=>v :: log s n f (i + cost v.length)
noncomputable def logAll (s:Nat->Option (List UInt8)) (n:Nat):List (List UInt8):=log s n n 0
theorem log_end {s:Nat->Option (List UInt8)} {n f i:Nat} (h:n<=i):log s n f i = []:=by
 cases f with
 | zero=>rfl
 | succ f =>
  rw [log,rec_none (fun v k=>by have:=k.room; have:=cost_pos v.length; omega)]
theorem log_fuel {s:Nat->Option (List UInt8)} {n:Nat}:∀ (f g i:Nat),n - i<=f->n - i<=g->log s n f i = log s n g i
 | 0,g,i,h1,_=>by rw [log_end (show n<=i by omega),log_end (show n<=i by omega)]
 | f + 1,0,i,_,h2=>by rw [log_end (show n<=i by omega),log_end (show n<=i by omega)]
 | f + 1,g + 1,i,h1,h2=>by
  rw [log,log]
  cases h:rec s n i with
  | none=>rfl
  | some v =>
   have:=cost_pos v.length
   have:=(rec_whole h).room
   simp only
   rw [log_fuel f g (i + cost v.length) (by omega) (by omega)]
theorem log_step {s:Nat->Option (List UInt8)} {n i:Nat} {v:List UInt8} (h:rec s n i = some v):log s n (n - i) i = v :: log s n (n - (i + cost v.length)) (i + cost v.length):=by
 have h1:=cost_pos v.length
 have h2:=(rec_whole h).room
 obtain ⟨f,hf⟩:∃ f,n - i = f + 1:=⟨n - i - 1,by omega⟩
 rw [hf,log,h]
 simp only
 rw [log_fuel f (n - (i + cost v.length)) _ (by omega) (by omega)]
theorem log_stop {s:Nat->Option (List UInt8)} {n i f:Nat} (h:rec s n i = none):log s n f i = []:=by
 cases f with
 | zero=>rfl
 | succ f=>rw [log,h]
theorem log_length {s:Nat->Option (List UInt8)} {n:Nat}:∀ (f i:Nat),(log s n f i).length<=f
 | 0,_=>Nat.le_refl _
 | f + 1,i=>by
  rw [log]
  split
  ·simp
  ·simp only [List.length_cons]
   have:=log_length (s:=s) (n:=n) f
   exact Nat.succ_le_succ (this _)
def stream:List (List UInt8)->List (List UInt8)
 | []=>[]
 | v :: r=>(List.range (cost v.length)).map (pay v) ++ stream r
def total:List (List UInt8)->Nat
 | []=>0
 | v :: r=>cost v.length + total r
theorem stream_length:∀ l,(stream l).length = total l
 | []=>rfl
 | v :: r=>by rw [stream,total,List.length_append,stream_length r]; simp
theorem stream_append:∀ (a b:List (List UInt8)),stream (a ++ b) = stream a ++ stream b
 | [],b=>rfl
 | v :: r,b=>by rw [List.cons_append,stream,stream,stream_append r b,List.append_assoc]
theorem total_append:∀ (a b:List (List UInt8)),total (a ++ b) = total a + total b
 | [],b=>by simp [total]
 | v :: r,b=>by rw [List.cons_append,total,total,total_append r b,Nat.add_assoc]
theorem stream_at (v:List UInt8) (r:List (List UInt8)) {k:Nat} (h:k < cost v.length):(stream (v :: r))[k]? = some (pay v k):=by
 rw [stream,List.getElem?_append_left (by simpa using h)]
 simp [h]
theorem stream_past (v:List UInt8) (r:List (List UInt8)) (k:Nat):(stream (v :: r))[cost v.length + k]? = (stream r)[k]?:=by
 rw [stream,List.getElem?_append_right (by simp)]
 simp
theorem log_prefix {s:Nat->Option (List UInt8)} {n:Nat}:∀ (l:List (List UInt8)) (i:Nat),(∀ v ∈ l,v.length < 4294967296)->i + total l<=n->(∀ k p,s (i + k) = some p->(stream l)[k]? = some p) ->
  ∃ m,m<=l.length/\(∀ f,n - i<=f->log s n f i = l.take m)/\∀ j,j<=l.length->(∀ k,k < total (l.take j)->(s (i + k)).isSome)->j<=m
 | [],i,_,_,hs=>by
  refine ⟨0,Nat.le_refl _,fun f _=>?_,fun j hj _=>hj⟩
  rw [log_stop (rec_none fun v k=>?_)]
  ·rfl
  ·have:=hs 0 _ (k.each 0 (cost_pos _))
   simp [stream] at this
 | v :: r,i,hsm,hn,hs=>by
  rw [total] at hn
  by_cases hall:∀ k,k < cost v.length->(s (i + k)).isSome
  ·have hw:Whole s n i v:=⟨hsm v (by simp),by omega,fun k hk=>by
    obtain ⟨p,hp⟩:=Option.isSome_iff_exists.1 (hall k hk)
    have:=hs k p hp
    rw [stream_at v r hk] at this
    rw [hp,<- this]⟩
   obtain ⟨m,h1,h2,h3⟩:=log_prefix (s:=s) (n:=n) r (i + cost v.length) (fun u hu=>hsm u (by simp [hu])) (by omega) (fun k p hp=>by
    have:=hs (cost v.length + k) p (by rw [<- Nat.add_assoc]; exact hp)
    rw [stream_past] at this
    exact this)
   refine ⟨m + 1,by simp; omega,fun f hf=>?_,fun j hj hk=>?_⟩
   ·have hc:=cost_pos v.length
    obtain ⟨g,rfl⟩:∃ g,f = g + 1:=⟨f - 1,by omega⟩
    rw [log,rec_some hw]
    simp only
    rw [h2 g (by omega),List.take_succ_cons]
   ·cases j with
    | zero=>omega
    | succ j =>
     have ht:total ((v :: r).take (j + 1)) = cost v.length + total (r.take j):=by rw [List.take_succ_cons,total]
     have:=h3 j (by simpa using hj) (fun k hk2=>by
      have:=hk (cost v.length + k) (by rw [ht]; omega)
      rw [<- Nat.add_assoc] at this
      exact this)
     omega
  ·refine ⟨0,by omega,fun f _=>?_,fun j hj hk=>?_⟩
   ·rw [log_stop (rec_none fun u k=>hall fun q hq=>?_)]
    ·rfl
    ·have e0:=hs 0 _ (k.each 0 (cost_pos _))
     rw [stream_at v r (cost_pos _)] at e0
     injection e0 with e0
     have el:u.length = v.length:=by rw [<- size_pay k.small,<- size_pay (hsm v (by simp)),e0]
     rw [k.each q (by rw [el]; exact hq)]
     rfl
   ·cases j with
    | zero=>omega
    | succ j=>exact absurd (fun k hk2=>hk k (by rw [List.take_succ_cons,total]; omega)) hall
end Go.Proofs.YthjjfjhajadimaaGreatDoor.J
namespace Go.Proofs.YthjjfjhajadimaaGreatDoor
set_option maxRecDepth 100000
namespace J
def stamp (v k:Nat):Nat:=v * 1048576 + k + 1
theorem stamp_pos (v k:Nat):stamp v k ≠ 0:=by unfold stamp; omega
theorem stamp_big {v k:Nat} (hv:v<=1099511627776) (hk:k < 65536):stamp v k < 18446744073709551616:=by unfold stamp; omega
theorem stamp_lt {v k:Nat} (hv:v<=1099511627776) (hk:k < 65536):stamp v k < 2 ^ 64:=by unfold stamp; omega
theorem stamp_mono {v u:Nat} (h:v < u) (k:Nat):stamp v k < stamp u k:=by unfold stamp; omega
def waysF (a:Nat) (f:Nat->List UInt8) (m:Nat):List (Nat × List UInt8):=(List.range m).map fun k=>(a + k,f k)
theorem waysF_length (a:Nat) (f:Nat->List UInt8) (m:Nat):(waysF a f m).length = m:=by simp [waysF]
theorem waysF_get (a:Nat) (f:Nat->List UInt8) {m k:Nat} (h:k < m):(waysF a f m)[k]? = some (a + k,f k):=by simp [waysF,h]
theorem waysF_succ (a:Nat) (f:Nat->List UInt8) (m:Nat):waysF a f (m + 1) = waysF a f m ++ [(a + m,f m)]:=by unfold waysF; rw [List.range_succ,List.map_append]; rfl
theorem waysF_congr {a:Nat} {f g:Nat->List UInt8} {m:Nat} (h:∀ k,k < m->f k = g k):waysF a f m = waysF a g m:=by
 unfold waysF
 exact List.map_congr_left fun k hk=>by rw [h k (List.mem_range.1 hk)]
theorem set_ne {D:List (List UInt8)} {p q:Nat} (s:List UInt8) (h:p ≠ q):(D.set p s).getD q [] = D.getD q []:=by simp [List.getD,h]
theorem set_eq {D:List (List UInt8)} {p:Nat} (s:List UInt8) (h:p < D.length):(D.set p s).getD p [] = s:=by simp [List.getD,h]
theorem flushF (D:List (List UInt8)) (a:Nat) (f:Nat->List UInt8) (M:Nat):∀ m,m<=M->a + m<=D.length->∀ q,(flushTo D (waysF a f M) m).getD q [] = if a<=q/\q < a + m then f (q - a) else D.getD q []
 | 0,_,_,q=>by rw [flushTo,if_neg (by omega)]
 | m + 1,hm,hD,q=>by
  rw [flushTo,waysF_get a f (show m < M by omega)]
  by_cases h:a + m = q
  ·subst h
   rw [if_pos ⟨by omega,by omega⟩,show a + m - a = m by omega]
   exact set_eq _ (by rw [flushTo_length]; show a + m < _; omega)
  ·refine (set_ne _ (show a + m ≠ q from h)).trans ((flushF D a f M m (by omega) (by omega) q).trans ?_)
   by_cases h2:a<=q/\q < a + m
   ·rw [if_pos h2,if_pos ⟨by omega,by omega⟩]
   ·rw [if_neg h2,if_neg (by omega)]
theorem crashF (t:FT) (D:List (List UInt8)) (a:Nat) (f:Nat->List UInt8) (M:Nat):∀ m,m<=M->a + m<=D.length->∀ q,(crashTo t D (waysF a f M) m).getD q [] = if a<=q/\q < a + m then E.tear (D.getD q []) (f (q - a)) (t.done (q - a)) else D.getD q []
 | 0,_,_,q=>by rw [crashTo,if_neg (by omega)]
 | m + 1,hm,hD,q=>by
  rw [crashTo,waysF_get a f (show m < M by omega)]
  by_cases h:a + m = q
  ·subst h
   rw [if_pos ⟨by omega,by omega⟩,show a + m - a = m by omega]
   refine (set_eq _ (by rw [crashTo_length]; show a + m < _; omega)).trans ?_
   show tornBy ((crashTo t D (waysF a f M) m).getD (a + m) []) (f m) (t.done m) = _
   rw [crashF t D a f M m (by omega) (by omega) (a + m),if_neg (by omega)]
   rfl
  ·refine (set_ne _ (show a + m ≠ q from h)).trans ((crashF t D a f M m (by omega) (by omega) q).trans ?_)
   by_cases h2:a<=q/\q < a + m
   ·rw [if_pos h2,if_pos ⟨by omega,by omega⟩]
   ·rw [if_neg h2,if_neg (by omega)]
structure Backs (D:List (List UInt8)) (i n v:Nat):Prop where
 fit:i + n<=D.length
 len:∀ k,k < n->(D.getD (i + k) []).length = 256
 back:∀ k,k < n->E.back (D.getD (i + k) [])<=stamp v k
structure Life (D:List (List UInt8)) (i n v F:Nat) (U:List (List UInt8)) (d:DS):Prop where
 len:d.dur.length = D.length
 dur:∀ q,d.dur.getD q [] = if i<=q/\q < i + F then E.sct (stamp v (q - i)) (U.getD (q - i) []) else D.getD q []
 ways:d.ways = waysF (i + F) (fun k=>E.sct (stamp v (F + k)) (U.getD (F + k) [])) (U.length - F)
 le:F<=U.length
 fit:U.length<=n
 small:∀ p ∈ U,p.length<=234
theorem getD_mem {U:List (List UInt8)} {k:Nat} (h:k < U.length):U.getD k [] ∈ U:=by
 rw [List.getD,List.getElem?_eq_getElem h]
 exact List.getElem_mem h
theorem Life.start {d:DS} {i n v:Nat} (h:d.ways = []):Life d.dur i n v 0 [] d :=
 ⟨rfl,fun q=>by rw [if_neg (by omega)],by rw [h]; rfl,Nat.le_refl _,Nat.zero_le _,fun p hp=>by simp at hp⟩
section
variable {D:List (List UInt8)} {i n v F:Nat} {U:List (List UInt8)} {d:DS}
theorem Life.put (h:Life D i n v F U d) {p:List UInt8} (hp:p.length<=234) (hn:U.length < n) {d2:DS} (h1:d2.dur = d.dur) (h2:d2.ways = d.ways ++ [(i + U.length,E.sct (stamp v U.length) p)]):Life D i n v F (U ++ [p]) d2:=by
 have hle:=h.le
 have hg:∀ k,k < U.length->(U ++ [p]).getD k [] = U.getD k []:=fun k hk=>by simp [List.getD,List.getElem?_append_left hk]
 refine ⟨by rw [h1]; exact h.len,fun q=>?_,?_,by simp; omega,by simp; omega,fun x hx=>?_⟩
 ·rw [h1,h.dur q]
  by_cases hq:i<=q/\q < i + F
  ·rw [if_pos hq,if_pos hq,hg (q - i) (by omega)]
  ·rw [if_neg hq,if_neg hq]
 ·rw [h2,h.ways,List.length_append,List.length_singleton,show U.length + 1 - F = (U.length - F) + 1 by omega,waysF_succ]
  congr 1
  ·exact waysF_congr fun k hk=>by rw [hg (F + k) (by omega)]
  ·rw [show i + F + (U.length - F) = i + U.length by omega,show F + (U.length - F) = U.length by omega]
   have:(U ++ [p]).getD U.length [] = p:=by simp [List.getD]
   rw [this]
 ·rw [List.mem_append] at hx
  rcases hx with hx | hx
  ·exact h.small x hx
  ·rw [List.mem_singleton.1 hx]; exact hp
theorem Life.same (h:Life D i n v F U d) {d2:DS} (h1:d2.dur = d.dur) (h2:d2.ways = d.ways):Life D i n v F U d2 :=
 ⟨by rw [h1]; exact h.len,fun q=>by rw [h1]; exact h.dur q,by rw [h2]; exact h.ways,h.le,h.fit,h.small⟩
theorem Life.flush (h:Life D i n v F U d) (hD:i + n<=D.length) {d2:DS} (h1:d2.dur = flushTo d.dur d.ways d.ways.length) (h2:d2.ways = []):Life D i n v U.length U d2:=by
 have hle:=h.le
 have hf:=h.fit
 refine ⟨by rw [h1,flushTo_length]; exact h.len,fun q=>?_,by rw [h2,Nat.sub_self]; rfl,Nat.le_refl _,h.fit,h.small⟩
 rw [h1,h.ways,waysF_length,flushF _ _ _ _ _ (Nat.le_refl _) (by rw [h.len]; omega) q]
 by_cases hq:i + F<=q/\q < i + F + (U.length - F)
 ·rw [if_pos hq,if_pos ⟨by omega,by omega⟩,show F + (q - (i + F)) = q - i by omega]
 ·rw [if_neg hq,h.dur q]
  by_cases hq2:i<=q/\q < i + F
  ·rw [if_pos hq2,if_pos ⟨by omega,by omega⟩]
  ·rw [if_neg hq2,if_neg (by omega)]
theorem Backs.none (hB:Backs D i n v) {u:Nat} (hu:v < u) (hv:u<=1099511627776) (hn:n < 65536) {k:Nat} (hk:k < n):E.openS (stamp u k) (D.getD (i + k) []) = none:=by
 cases hq:E.openS (stamp u k) (D.getD (i + k) []) with
 | none=>rfl
 | some p =>
  have hc:=(E.counts_ends (stamp_lt hv (by omega)) (show E.counts (stamp u k) (D.getD (i + k) []) = true by unfold E.counts; rw [hq]; rfl)).2.2
  have:=hB.back k hk
  have:=stamp_mono hu k
  omega
theorem Life.crash (h:Life D i n v F U d) {o:Nat} (hB:Backs D i n o) (ho:o < v) (hv:v<=1099511627776) (hn:n < 65536) (t:FT) :
  Backs (d.crashD t).dur i n v/\(∀ k p,k < n->E.openS (stamp v k) ((d.crashD t).dur.getD (i + k) []) = some p->U[k]? = some p)/\∀ k,k < F->(E.openS (stamp v k) ((d.crashD t).dur.getD (i + k) [])).isSome:=by
 have hle:=h.le
 have hfit:=h.fit
 have hDl:=hB.fit
 have hd:∀ k,(d.crashD t).dur.getD (i + k) [] = if F<=k/\k < U.length then E.tear (D.getD (i + k) []) (E.sct (stamp v k) (U.getD k [])) (t.done (k - F)) else if k < F then E.sct (stamp v k) (U.getD k []) else D.getD (i + k) []:=by
  intro k
  show (crashTo t d.dur d.ways d.ways.length).getD (i + k) [] = _
  rw [h.ways,waysF_length,crashF _ _ _ _ _ _ (Nat.le_refl _) (by rw [h.len]; omega)]
  by_cases hq:i + F<=i + k/\i + k < i + F + (U.length - F)
  ·rw [if_pos hq,if_pos (by omega),h.dur (i + k),if_neg (by omega),show F + (i + k - (i + F)) = k by omega,show i + k - (i + F) = k - F by omega]
  ·rw [if_neg hq,if_neg (by omega),h.dur (i + k)]
   by_cases hq2:i<=i + k/\i + k < i + F
   ·rw [if_pos hq2,if_pos (by omega),show i + k - i = k by omega]
   ·rw [if_neg hq2,if_neg (by omega)]
 have hs:∀ k,k < U.length->(U.getD k []).length<=234:=fun k hk=>h.small _ (getD_mem hk)
 have hU:∀ k,k < U.length->U[k]? = some (U.getD k []):=fun k hk=>by rw [List.getD,List.getElem?_eq_getElem hk]; rfl
 have hone:∀ k,k < n->((d.crashD t).dur.getD (i + k) []).length = 256/\E.back ((d.crashD t).dur.getD (i + k) [])<=stamp v k/\∀ p,E.openS (stamp v k) ((d.crashD t).dur.getD (i + k) []) = some p->U[k]? = some p:=by
  intro k hk
  have hst:=stamp_lt hv (show k < 65536 by omega)
  have hsm:=stamp_mono ho k
  have hbk:=hB.back k hk
  rw [hd k]
  by_cases h1:F<=k/\k < U.length
  ·rw [if_pos h1]
   have hl:=E.sct_length (stamp v k) (hs k h1.2)
   obtain ⟨t1,t2,t3⟩:=E.next_tear (hB.len k hk) hl hbk (E.sct_back hst (hs k h1.2)) hsm (t.done_le (k - F))
   refine ⟨E.tear_length (hB.len k hk) hl (t.done_le _),t1,fun p hp=>?_⟩
   have hc:E.counts (stamp v k) (E.tear (D.getD (i + k) []) (E.sct (stamp v k) (U.getD k [])) (t.done (k - F))) = true:=by unfold E.counts; rw [hp]; rfl
   rw [t3 hst hc,E.open_sct (stamp_pos v k) (hs k h1.2)] at hp
   rw [hU k h1.2]; exact hp
  ·rw [if_neg h1]
   by_cases h2:k < F
   ·rw [if_pos h2]
    refine ⟨E.sct_length _ (hs k (by omega)),by rw [E.sct_back hst (hs k (by omega))]; omega,fun p hp=>?_⟩
    rw [E.open_sct (stamp_pos v k) (hs k (by omega))] at hp
    rw [hU k (by omega)]; exact hp
   ·rw [if_neg h2]
    refine ⟨hB.len k hk,by omega,fun p hp=>?_⟩
    have hc:=(E.counts_ends hst (show E.counts (stamp v k) (D.getD (i + k) []) = true by unfold E.counts; rw [hp]; rfl)).2.2
    omega
 refine ⟨⟨by rw [crashD_size,h.len]; exact hDl,fun k hk=>(hone k hk).1,fun k hk=>(hone k hk).2.1⟩,fun k p hk=>(hone k hk).2.2 p,fun k hk=>?_⟩
 rw [hd k,if_neg (by omega),if_pos hk,E.open_sct (stamp_pos v k) (hs k (by omega))]
 rfl
end
end J
namespace J
structure JS where
 pos:Nat
 n:Nat
 ver:Nat
 used:Nat
 dead:Bool
 life:Nat
def may (d:DS) (i n v:Int):Prop:=0<=i/\0<=n/\i<=d.dur.length/\n<=d.dur.length - i/\n<=65536/\1<=v/\v<=1099511627776
instance (d:DS) (i n v:Int):Decidable (may d i n v):=inferInstanceAs (Decidable (_/\_))
def secs (d:DS) (i v:Nat) (k:Nat):Option (List UInt8):=E.openS (stamp v k) (d.read (i + k))
def refE (d:DS) (i n v:Int):Nat:=if ¬ may d i n v then 6 else if d.off = true then 12 else 0
noncomputable def replay (d:DS) (i n v:Int):List (List UInt8) × Nat:=if refE d i n v ≠ 0 then ([],refE d i n v) else (logAll (secs d i.toNat v.toNat) n.toNat,0)
def JS.down (j:JS) (d:DS):Bool:=j.dead || d.off || decide (d.cr ≠ j.life)
def JS.put (j:JS) (v:List UInt8) (k:Nat) (d:DS):DS:=d.writeD ((j.pos + (j.used + k):Nat):Int) (E.sct (stamp j.ver (j.used + k)) (pay v k))
def JS.putE (j:JS) (v:List UInt8) (k:Nat) (d:DS):Nat:=d.writeE ((j.pos + (j.used + k):Nat):Int) (E.sct (stamp j.ver (j.used + k)) (pay v k))
def JS.go (j:JS) (v:List UInt8):Nat->Nat->DS->Nat × DS
 | 0,_,d=>(0,d)
 | m + 1,k,d=>if j.putE v k d ≠ 0 then (j.putE v k d,j.put v k d) else JS.go j v m (k + 1) (j.put v k d)
def JS.append (j:JS) (d:DS) (v:List UInt8):Nat × JS × DS :=
 if j.down d = true then (12,{ j with dead:=true },d)
 else if j.n < j.used + cost v.length then (17,j,d)
 else if (j.go v (cost v.length) 0 d).1 ≠ 0 then ((j.go v (cost v.length) 0 d).1,{ j with dead:=true },(j.go v (cost v.length) 0 d).2)
 else (0,{ j with used:=j.used + cost v.length },(j.go v (cost v.length) 0 d).2)
def JS.sync (j:JS) (d:DS):Nat × JS × DS :=
 if j.down d = true then (12,{ j with dead:=true },d)
 else if d.flushE ≠ 0 then (d.flushE,{ j with dead:=true },d.flushD) else (0,j,d.flushD)
def JS.fits (j:JS) (b:Int):Bool:=decide (0<=b/\j.used + cost b.toNat<=j.n)
def seg (v:List UInt8) (k m:Nat):List (List UInt8):=(List.range m).map fun q=>pay v (k + q)
theorem seg_length (v:List UInt8) (k m:Nat):(seg v k m).length = m:=by simp [seg]
theorem seg_get (v:List UInt8) (k:Nat) {m q:Nat} (h:q < m):(seg v k m)[q]? = some (pay v (k + q)):=by simp [seg,h]
theorem seg_succ (v:List UInt8) (k m:Nat):seg v k (m + 1) = pay v k :: seg v (k + 1) m:=by
 unfold seg
 rw [List.range_succ_eq_map,List.map_cons,List.map_map]
 congr 1
 exact List.map_congr_left fun q _=>by show pay v (k + (q + 1)) = _; congr 1; omega
theorem seg_all (v:List UInt8):seg v 0 (cost v.length) = (List.range (cost v.length)).map (pay v):=by unfold seg; simp
theorem stream_snoc (l:List (List UInt8)) (v:List UInt8):stream (l ++ [v]) = stream l ++ seg v 0 (cost v.length):=by
 rw [stream_append,stream,stream,List.append_nil,seg_all]
theorem total_snoc (l:List (List UInt8)) (v:List UInt8):total (l ++ [v]) = total l + cost v.length:=by rw [total_append,total,total,Nat.add_zero]
theorem stream_part (l:List (List UInt8)) (v:List UInt8) {m:Nat} (hm:m<=cost v.length) {k:Nat} {p:List UInt8} (h:(stream l ++ seg v 0 m)[k]? = some p):(stream (l ++ [v]))[k]? = some p:=by
 rw [stream_snoc]
 by_cases hk:k < (stream l).length
 ·rw [List.getElem?_append_left hk] at h ⊢
  exact h
 ·rw [List.getElem?_append_right (by omega)] at h ⊢
  have hq:k - (stream l).length < m:=by
   have:=(List.getElem?_eq_some_iff.1 h).1
   rwa [seg_length] at this
  rw [seg_get v 0 hq] at h
  rw [seg_get v 0 (by omega)]
  exact h
section
variable {D:List (List UInt8)} {F:Nat} {U:List (List UInt8)} {d:DS} {j:JS} {v:List UInt8}
theorem go_life:∀ (m k:Nat) (d:DS) (U:List (List UInt8)),Life D j.pos j.n j.ver F U d->d.off = false->U.length = j.used + k->j.used + (k + m)<=j.n->j.pos + j.n<=D.length ->
  (∃ d2,j.go v m k d = (0,d2)/\d2.off = false/\Life D j.pos j.n j.ver F (U ++ seg v k m) d2/\d2.cr = d.cr/\d2.fl = d.fl/\d2.wr<=d.wr + m) \/
  (∃ q d2,q < m/\j.go v m k d = (12,d2)/\d2.off = true/\Life D j.pos j.n j.ver F (U ++ seg v k (q + 1)) d2/\d2.cr = d.cr/\d2.fl = d.fl/\d2.wr<=d.wr + m)
 | 0,k,d,U,hL,ho,hU,hn,hD=>by
  left
  refine ⟨d,rfl,ho,?_,rfl,rfl,by omega⟩
  rw [show seg v k 0 = [] from rfl,List.append_nil]
  exact hL
 | m + 1,k,d,U,hL,ho,hU,hn,hD=>by
  have hr:d.reach ((j.pos + (j.used + k):Nat):Int) = 0:=DS.reach_calm ho (by rw [hL.len]; omega)
  have hlen:=E.sct_length (stamp j.ver (j.used + k)) (pay_le v k)
  rw [JS.go]
  by_cases h0:d.armed = 0
  ·right
   have hE:j.putE v k d = 12:=by unfold JS.putE DS.writeE; rw [if_neg (by rw [hr]; simp),if_neg (by rw [hlen]; simp),if_pos h0]
   have hW:j.put v k d = { d with ways:=d.ways ++ [(j.pos + (j.used + k),E.sct (stamp j.ver (j.used + k)) (pay v k))],off:=true }:=by
    unfold JS.put DS.writeD; rw [if_neg (by rw [hr]; simp),if_neg (by rw [hlen]; simp),if_pos h0]; rfl
   refine ⟨0,j.put v k d,by omega,by rw [if_pos (by rw [hE]; decide),hE],by rw [hW],?_,by rw [hW],by rw [hW],by rw [hW]; show d.wr<=_; omega⟩
   rw [seg_succ,show seg v (k + 1) 0 = [] from rfl]
   exact hL.put (pay_le v k) (by omega) (by rw [hW]) (by rw [hW,hU])
  ·have hE:j.putE v k d = 0:=by unfold JS.putE DS.writeE; rw [if_neg (by rw [hr]; simp),if_neg (by rw [hlen]; simp),if_neg h0]
   have hW:j.put v k d = { d with ways:=d.ways ++ [(j.pos + (j.used + k),E.sct (stamp j.ver (j.used + k)) (pay v k))],armed:=dec d.armed,wr:=d.wr + 1 }:=by
    unfold JS.put DS.writeD; rw [if_neg (by rw [hr]; simp),if_neg (by rw [hlen]; simp),if_neg h0]; rfl
   rw [if_neg (by rw [hE]; simp)]
   have hL2:=hL.put (pay_le v k) (by omega) (d2:=j.put v k d) (by rw [hW]) (by rw [hW,hU])
   have c1:(j.put v k d).cr = d.cr:=by rw [hW]
   have c2:(j.put v k d).fl = d.fl:=by rw [hW]
   have c3:(j.put v k d).wr = d.wr + 1:=by rw [hW]
   have c4:(j.put v k d).off = false:=by rw [hW]; exact ho
   have hs:∀ x,U ++ seg v k (x + 1) = (U ++ [pay v k]) ++ seg v (k + 1) x:=fun x=>by rw [seg_succ]; simp
   rcases go_life m (k + 1) _ _ hL2 c4 (by rw [List.length_append,hU]; rfl) (by omega) hD with ⟨d2,e1,e2,e3,e4,e5,e6⟩ | ⟨q,d2,e0,e1,e2,e3,e4,e5,e6⟩
   ·left
    exact ⟨d2,e1,e2,by rw [hs]; exact e3,e4.trans c1,e5.trans c2,by omega⟩
   ·right
    exact ⟨q + 1,d2,by omega,e1,e2,by rw [hs]; exact e3,e4.trans c1,e5.trans c2,by omega⟩
structure Alive (D:List (List UInt8)) (all:List (List UInt8)) (s:Nat) (j:JS) (d:DS):Prop where
 life:Life D j.pos j.n j.ver (total (all.take s)) (stream all) d
 used:j.used = total all
 le:s<=all.length
 on:d.off = false
 dead:j.dead = false
 same:d.cr = j.life
 fit:j.pos + j.n<=D.length
 small:∀ v ∈ all,v.length < 4294967296
structure Gone (D:List (List UInt8)) (all:List (List UInt8)) (s:Nat) (j:JS) (d:DS):Prop where
 life:∃ U,Life D j.pos j.n j.ver (total (all.take s)) U d/\∀ (k:Nat) (p:List UInt8),U[k]? = some p->(stream all)[k]? = some p
 le:s<=all.length
 room:total all<=j.n
 off:d.off = true
 small:∀ v ∈ all,v.length < 4294967296
theorem total_take_le:∀ (l:List (List UInt8)) (s:Nat),total (l.take s)<=total l
 | [],s=>by simp
 | v :: r,0=>by simp [total]
 | v :: r,s + 1=>by
  have:=total_take_le r s
  rw [List.take_succ_cons,total,total]
  omega
theorem alive_down {all:List (List UInt8)} {s:Nat} (h:Alive D all s j d):j.down d = false:=by
 unfold JS.down
 rw [h.dead,h.on,h.same]
 simp
theorem alive_append {all:List (List UInt8)} {s:Nat} (h:Alive D all s j d) (v:List UInt8) (hv:v.length < 4294967296) :
  (j.append d v = (17,j,d)/\j.n < j.used + cost v.length) \/
  (∃ d2,j.append d v = (0,{ j with used:=j.used + cost v.length },d2)/\Alive D (all ++ [v]) s { j with used:=j.used + cost v.length } d2/\d2.fl = d.fl/\d2.wr<=d.wr + cost v.length/\j.used + cost v.length<=j.n) \/
  (∃ d2,j.append d v = (12,{ j with dead:=true },d2)/\Gone D (all ++ [v]) s { j with dead:=true } d2/\d2.cr = d.cr/\d2.fl = d.fl/\d2.wr<=d.wr + cost v.length/\d2.ways.length<=j.n):=by
 have hdn:=alive_down h
 by_cases hr:j.n < j.used + cost v.length
 ·left
  exact ⟨by unfold JS.append; rw [if_neg (by rw [hdn]; simp),if_pos hr],hr⟩
 ·right
  have ht:(all ++ [v]).take s = all.take s:=List.take_append_of_le_length h.le
  have hsm:∀ u ∈ all ++ [v],u.length < 4294967296:=fun u hu=>by
   rw [List.mem_append] at hu
   rcases hu with hu | hu
   ·exact h.small u hu
   ·rw [List.mem_singleton.1 hu]; exact hv
  rcases go_life (j:=j) (v:=v) (cost v.length) 0 d (stream all) h.life h.on (by rw [stream_length,h.used]; rfl) (by omega) h.fit with ⟨d2,e1,e2,e3,e4,e5,e6⟩ | ⟨q,d2,e0,e1,e2,e3,e4,e5,e6⟩
  ·left
   refine ⟨d2,by unfold JS.append; rw [if_neg (by rw [hdn]; simp),if_neg hr,e1,if_neg (by simp)],⟨?_,by show j.used + _ = _; rw [total_snoc,h.used],by rw [List.length_append]; exact Nat.le_trans h.le (by omega),e2,h.dead,e4.trans h.same,h.fit,hsm⟩,e5,e6,by omega⟩
   rw [ht,stream_snoc]
   exact e3
  ·right
   refine ⟨d2,by unfold JS.append; rw [if_neg (by rw [hdn]; simp),if_neg hr,e1,if_pos (by simp)],⟨⟨_,?_,fun k p hp=>stream_part all v (show q + 1<=cost v.length by omega) hp⟩,by rw [List.length_append]; exact Nat.le_trans h.le (by omega),by rw [total_snoc,<- h.used]; show _<=j.n; omega,e2,hsm⟩,e4,e5,e6,?_⟩
   ·rw [ht]; exact e3
   ·have:=e3.ways
    rw [this,waysF_length]
    have:=e3.fit
    omega
theorem alive_sync {all:List (List UInt8)} {s:Nat} (h:Alive D all s j d) :
  (∃ d2,j.sync d = (0,j,d2)/\Alive D all all.length j d2/\d2.fl = d.fl + 1/\d2.wr = d.wr) \/
  (∃ d2,j.sync d = (12,{ j with dead:=true },d2)/\Gone D all s { j with dead:=true } d2/\d2.cr = d.cr/\d2.fl = d.fl/\d2.wr = d.wr/\d2.ways.length<=j.n):=by
 have hdn:=alive_down h
 have ho:=h.on
 by_cases h0:d.armed = 0
 ·right
  have hE:d.flushE = 12:=by unfold DS.flushE; rw [ho,if_neg (by simp),if_pos h0]
  have hF:d.flushD = { d with off:=true }:=by unfold DS.flushD; rw [ho,if_neg (by simp),if_pos h0]
  refine ⟨d.flushD,by unfold JS.sync; rw [if_neg (by rw [hdn]; simp),if_pos (by rw [hE]; decide),hE],⟨⟨stream all,h.life.same (by rw [hF]) (by rw [hF]),fun k p hp=>hp⟩,h.le,?_,by rw [hF],h.small⟩,by rw [hF],by rw [hF],by rw [hF],?_⟩
  ·have:=h.life.fit
   rw [stream_length] at this
   exact this
  ·have:=h.life.ways
   rw [hF]
   show d.ways.length<=_
   rw [this,waysF_length]
   have:=h.life.fit
   omega
 ·left
  have hE:d.flushE = 0:=by unfold DS.flushE; rw [ho,if_neg (by simp),if_neg h0]
  have hF:d.flushD = { d with dur:=flushTo d.dur d.ways d.ways.length,ways:=[],armed:=dec d.armed,fl:=d.fl + 1 }:=by unfold DS.flushD; rw [ho,if_neg (by simp),if_neg h0]
  refine ⟨d.flushD,by unfold JS.sync; rw [if_neg (by rw [hdn]; simp),if_neg (by rw [hE]; simp)],⟨?_,h.used,Nat.le_refl _,by rw [hF]; exact ho,h.dead,by rw [hF]; exact h.same,h.fit,h.small⟩,by rw [hF],by rw [hF]⟩
  rw [List.take_length,<- stream_length]
  exact h.life.flush h.fit (by rw [hF]) (by rw [hF])
end
end J
end Go.Proofs.YthjjfjhajadimaaGreatDoor
namespace Go.Proofs.YthjjfjhajadimaaGreatDoor.So
open Go.Proofs.YthjjfjhajadimaaGreatDoor.Tb
set_option maxRecDepth 100000
def each (n:Nat):Nat:=(n - 2) / 3
def areaAt (n v:Nat):Nat:=if v % 2 = 0 then 2 else 2 + each n
def logAt (n:Nat):Nat:=2 + 2 * each n
def many (n:Nat):Nat:=n - 2 - 2 * each n
def room (n:Nat):Nat:=234 * each n
def layE (n:Int):Nat:=if n < 64 then 13 else if 65536 < n then 6 else 0
theorem each_ge {n:Nat} (h:64<=n):20<=each n:=by unfold each; omega
theorem area_in (n v:Nat):2<=areaAt n v/\areaAt n v + each n<=logAt n:=by unfold areaAt logAt; split <;> omega
theorem log_in {n:Nat} (h:64<=n):logAt n + many n = n:=by unfold logAt many each; omega
theorem many_ge {n:Nat} (h:64<=n):each n<=many n/\many n<=each n + 2:=by unfold many each; omega
def slotVal (n k:Nat):Txt:=Lib.uvarint n ++ Lib.uvarint k
def parse (n:Nat) (value:Txt):Option Nat:=match varintD value with
 | .inl _=>none
 | .inr (x,p)=>if x ≠ n then none else match varintD (value.drop p) with
  | .inl _=>none
  | .inr (k,q)=>if room n < k then none else if p + q = value.length then some k else none
theorem slotVal_length {n k:Nat} (hn:n < 18446744073709551616) (hk:k < 18446744073709551616):(slotVal n k).length<=20:=by
 have h1:=Lib.uvarint_length64 hn
 have h2:=Lib.uvarint_length64 hk
 unfold slotVal
 rw [List.length_append]
 omega
theorem parse_val {n k:Nat} (hn:n < 18446744073709551616) (hk:k<=room n) (hr:room n < 18446744073709551616):parse n (slotVal n k) = some k:=by
 unfold parse slotVal
 rw [varintD_uvarint hn]
 simp only
 rw [if_neg (by simp),List.drop_left]
 have h:=varintD_uvarint (x:=k) (by omega) []
 rw [List.append_nil] at h
 rw [h]
 simp only
 rw [if_neg (by omega),if_pos (by rw [List.length_append])]
def make (d:DS) (rows:List R) (v:Nat):Nat × DS :=
 let r:=d.areaW (areaAt d.dur.length v) (each d.dur.length) v (snapB rows)
 if r.1 ≠ 0 then r else (r.2.slotsE 0 v (slotVal d.dur.length (size rows)),r.2.slotsD 0 v (slotVal d.dur.length (size rows)))
def applyAll:List R->List Txt->Option (List R)
 | rows,[]=>some rows
 | rows,t :: ts=>match Bt.decD t with
  | .inl _=>none
  | .inr ops=>applyAll (Bt.apply rows ops) ts
theorem applyAll_append:∀ (rows:List R) (a b:List Txt),applyAll rows (a ++ b) = (applyAll rows a).bind fun m=>applyAll m b
 | rows,[],b=>rfl
 | rows,t :: a,b=>by
  rw [List.cons_append,applyAll,applyAll]
  cases Bt.decD t with
  | inl e=>rfl
  | inr ops=>exact applyAll_append (Bt.apply rows ops) a b
theorem applyAll_sorted:∀ {rows:List R} {ts:List Txt} {m:List R},Sorted rows->applyAll rows ts = some m->Sorted m
 | rows,[],m,hs,h=>by injection h with h; exact h ▸ hs
 | rows,t :: ts,m,hs,h=>by
  rw [applyAll] at h
  split at h
  ·cases h
  ·exact applyAll_sorted (Bt.apply_sorted _ hs) h
noncomputable def lies (d:DS):Nat ⊕ (List R × Nat) :=
 if (d.slotsR 0).2.2 ≠ 0 then .inl (d.slotsR 0).2.2
 else match parse d.dur.length (d.slotsR 0).1 with
  | none=>.inl 15
  | some k=>if (d.areaR (areaAt d.dur.length (d.slotsR 0).2.1) (each d.dur.length) (d.slotsR 0).2.1 k).2 ≠ 0 then .inl 15
   else match snapD (d.areaR (areaAt d.dur.length (d.slotsR 0).2.1) (each d.dur.length) (d.slotsR 0).2.1 k).1 with
    | none=>.inl 15
    | some rows=>match applyAll rows (J.replay d (logAt d.dur.length) (many d.dur.length) (d.slotsR 0).2.1).1 with
     | none=>.inl 15
     | some m=>if room d.dur.length < size m then .inl 15 else .inr (m,(d.slotsR 0).2.1)
theorem lies_sorted {d:DS} {m:List R} {v:Nat} (h:lies d = .inr (m,v)):Sorted m/\size m<=room d.dur.length:=by
 unfold lies at h
 split at h
 ·cases h
 ·split at h
  ·cases h
  ·split at h
   ·cases h
   ·split at h
    ·cases h
    ·rename_i rows hr
     split at h
     ·cases h
     ·rename_i m' hm
      split at h
      ·cases h
      ·rename_i hs
       simp only [Sum.inr.injEq,Prod.mk.injEq] at h
       obtain ⟨rfl,_⟩:=h
       exact ⟨applyAll_sorted (snapD_inv hr).1 hm,by omega⟩
structure St where
 rows:List R
 ver:Nat
 j:J.JS
 life:Nat
 dead:Bool
def St.down (s:St) (d:DS):Bool:=s.dead || d.off || decide (d.cr ≠ s.life)
def logOf (d:DS) (v:Nat):J.JS:=⟨logAt d.dur.length,many d.dur.length,v,0,false,d.cr⟩
def St.next (s:St) (d:DS):Nat × St × DS :=
 if 1099511627776<=s.ver then (16,s,d)
 else if (make d s.rows (s.ver + 1)).1 ≠ 0 then ((make d s.rows (s.ver + 1)).1,{ s with dead:=true },(make d s.rows (s.ver + 1)).2)
 else (0,{ s with ver:=s.ver + 1,j:=logOf (make d s.rows (s.ver + 1)).2 (s.ver + 1) },(make d s.rows (s.ver + 1)).2)
def St.compact (s:St) (d:DS):Nat × St × DS:=if s.down d = true then (12,{ s with dead:=true },d) else s.next d
def St.log (s:St) (d:DS) (b:Txt) (rows:List R) (was:Nat):Nat × St × DS :=
 let r:=s.j.append d b
 if r.1 ≠ 0 then (r.1,{ s with j:=r.2.1,dead:=true,ver:=was },r.2.2)
 else let q:=r.2.1.sync r.2.2
  if q.1 ≠ 0 then (q.1,{ s with j:=q.2.1,dead:=true,ver:=was },q.2.2) else (0,{ s with j:=q.2.1,rows:=rows },q.2.2)
def St.after (s:St) (ops:List Bt.O):Nat:=size (Bt.apply s.rows ops)
def St.commit (s:St) (d:DS) (most:Nat) (ops:List Bt.O):Nat × St × DS :=
 if s.down d = true then (12,{ s with dead:=true },d)
 else if Bt.normal ops = [] then (0,s,d)
 else if most < (Bt.encB (Bt.normal ops)).length then (18,s,d)
 else if room d.dur.length < s.after ops then (17,s,d)
 else if s.j.fits ((Bt.encB (Bt.normal ops)).length) = true then s.log d (Bt.encB (Bt.normal ops)) (Bt.apply s.rows ops) s.ver
 else let r:=s.next d
  if r.1 ≠ 0 then r else r.2.1.log r.2.2 (Bt.encB (Bt.normal ops)) (Bt.apply s.rows ops) s.ver
def format (d:DS) (ops:List Bt.O):Nat × DS :=
 if layE d.dur.length ≠ 0 then (layE d.dur.length,d) else if d.off = true then (12,d)
 else if (d.slotsR 0).2.2 = 0 then (21,d)
 else if room d.dur.length < size (Bt.apply [] ops) then (17,d) else make d (Bt.apply [] ops) 1
noncomputable def opens (d:DS):(Nat ⊕ St) × DS :=
 if layE d.dur.length ≠ 0 then (.inl (layE d.dur.length),d) else if d.off = true then (.inl 12,d)
 else match lies d with
  | .inl e=>(.inl e,d)
  | .inr (m,v) =>
   let r:=St.next ⟨m,v,logOf d v,d.cr,false⟩ d
   if r.1 ≠ 0 then (.inl r.1,r.2.2) else (.inr r.2.1,r.2.2)
end Go.Proofs.YthjjfjhajadimaaGreatDoor.So
namespace Go.Proofs.YthjjfjhajadimaaGreatDoor
open Go.RowKit
set_option maxRecDepth 100000
abbrev Qt (w w':World):Prop:=Keeps (fun _=>False) w w'
theorem Qt.refl (w:World):Qt w w:=Keeps.refl _ w
theorem Qt.trans {a b c:World} (h:Qt a b) (k:Qt b c):Qt a c:=Keeps.trans h k (fun _ _ e=>e)
theorem Qt.of_below {w w':World} (h:Below w.heap.size w w'):Qt w w':=(Keeps.of_below h).mono (fun i hi e=>by omega)
theorem Qt.below {w w':World} (h:Qt w w'):Below w.heap.size w w':=Keeps.below h (Nat.le_refl _) (fun _ _ e=>e)
abbrev Since (B:Nat) (w w':World):Prop:=Keeps (fun k=>B<=k) w w'
theorem Since.step {S:Nat->Prop} {B:Nat} {w w1 w2:World} (h:Since B w w1) (k:Keeps S w1 w2) (hS:∀ i,S i->B<=i):Since B w w2:=Keeps.trans h k (fun i _ s=>hS i s)
theorem Since.qt {w w':World} (h:Since w.heap.size w w'):Qt w w':=Keeps.mono h (fun i hi e=>by omega)
theorem Qt.since {B:Nat} {w w':World} (h:Qt w w'):Since B w w':=Keeps.mono h (fun _ _ e=>e.elim)
theorem Keeps.cellv {S:Nat->Prop} {w w':World} (h:Keeps S w w') {p:Addr} {v:Value} (hc:w.cell? p = some v) (hn:¬ S p.block):w'.cell? p = some v:=(h.cell (World.block_lt_of_cell? w _ hc) hn).trans hc
theorem Qt.cellv {w w':World} (h:Qt w w') {p:Addr} {v:Value} (hc:w.cell? p = some v):w'.cell? p = some v:=Keeps.cellv h hc (fun e=>e)
end Go.Proofs.YthjjfjhajadimaaGreatDoor
