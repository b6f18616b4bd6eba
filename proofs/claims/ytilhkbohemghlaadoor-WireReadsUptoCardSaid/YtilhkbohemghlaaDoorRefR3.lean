/-
  The contracts of remitref01.GetText, GetTexts.
-/
import Derived.Test.YtilhkbohemghlaaDoorRefR2
namespace Go.Proofs.YtilhkbohemghlaaDoor
open Go.RowKit
set_option maxRecDepth 100000

theorem refGetText_err (s : ByteArray) (p e : Nat) (most : Int) (w : World) (hp : p ≤ s.size) (hs : s.size ≤ 140737488355328) (hm1 : most ≤ 9223372036854775807) (hd : textD most (rest s p) = .inl e) :
    Calls Tryd.prog 59 #[.string s, .int .i64 p, .int .i64 most] w fun x w' => x = .returned (.tuple #[.string ⟨#[]⟩, .int .i64 p, .int .i64 e]) ∧ w = w' := by
  unfold textD at hd
  split at hd
  · rename_i e' hv
    injection hd with hd
    subst hd
    have q := Lib.hid (refGetUpto_err s p e' most w hp hs hv)
    have he := vd_err _ _ _ _ hv
    clear hv
    rcases he with rfl | rfl
    all_goals
      go_enter Tryd.func59, Tryd.ntmps59
      go_wp2_with fail
      refine q.out.mono ?_
      rintro y w1 ⟨rfl, rfl⟩
      go_wp2
      go_ret3
      exact ⟨rfl, rfl⟩
  · rename_i x m hv
    split at hd
    · rename_i hx
      injection hd with hd
      subst hd
      have q := Lib.hid (refGetUpto_limit s p x m most w hp hs hv hx hm1)
      clear hv
      go_enter Tryd.func59, Tryd.ntmps59
      go_wp2_with fail
      refine q.out.mono ?_
      rintro y w1 ⟨rfl, rfl⟩
      go_wp2
      go_ret3
      exact ⟨rfl, rfl⟩
    · rename_i hx
      split at hd
      · rename_i hsh
        injection hd with hd
        subst hd
        have q := Lib.hid (refGetUpto_ok s p x m most w hp hs hv (by omega) hm1)
        obtain ⟨hx64, hpn, hn⟩ := varintD_len hp hv
        rw [rest_length] at hsh
        clear hv
        have h1 : s.size - (p + m) < x := by omega
        generalize p + m = pm at *
        have h2 : (s.size : Int) - (pm : Int) < (x : Int) := by omega
        go_enter Tryd.func59, Tryd.ntmps59
        go_wp2_with fail
        refine q.out.mono ?_
        rintro y w1 ⟨rfl, rfl⟩
        go_wp2
        go_ret3
        exact ⟨rfl, rfl⟩
      · cases hd

theorem refGetText_ok (s : ByteArray) (p n : Nat) (v : List UInt8) (most : Int) (w : World) (hp : p ≤ s.size) (hs : s.size ≤ 140737488355328) (hm1 : most ≤ 9223372036854775807) (hd : textD most (rest s p) = .inr (v, n)) :
    Calls Tryd.prog 59 #[.string s, .int .i64 p, .int .i64 most] w fun y w' => y = .returned (.tuple #[.string ⟨v.toArray⟩, .int .i64 ((p + n : Nat) : Int), .int .i64 0]) ∧ w = w' := by
  unfold textD at hd
  split at hd
  · cases hd
  · rename_i x m hv
    split at hd
    · cases hd
    · rename_i hx
      split at hd
      · cases hd
      · rename_i hsh
        simp only [Sum.inr.injEq, Prod.mk.injEq] at hd
        obtain ⟨hd1, rfl⟩ := hd
        have q := Lib.hid (refGetUpto_ok s p x m most w hp hs hv (by omega) hm1)
        obtain ⟨hx64, hpn, hn⟩ := varintD_len hp hv
        rw [rest_length] at hsh
        have ht : s.extract (p + m) (p + m + x) = ⟨v.toArray⟩ := string_of_list (by rw [extract_take, ← hd1, rest_drop])
        have Ht := Lib.hid ht
        rw [← Nat.add_assoc]
        clear hv hd1 ht
        have h1 : p + m + x ≤ s.size := by omega
        generalize p + m = pm at *
        have h2 : (pm : Int) + (x : Int) ≤ (s.size : Int) := by omega
        have h3 : ((pm : Int) + (x : Int)).toNat = pm + x := by omega
        have h4 : ¬ (s.size : Int) - (pm : Int) < (x : Int) := by omega
        go_enter Tryd.func59, Tryd.ntmps59
        go_wp2_with fail
        refine q.out.mono ?_
        rintro y w1 ⟨rfl, rfl⟩
        go_wp2
        go_ret3
        refine ⟨?_, rfl⟩
        rw [← Ht.out]
        rfl

/-- GetTexts' loop: k texts read, at q. -/
def GetTextsAt (s : ByteArray) (p0 n : Nat) (most : Int) (w : World) (qv v i : Value) (wr : World) : Prop :=
  ∃ (k q : Nat) (us : List (List UInt8)), k ≤ n ∧ i = .int .i64 k ∧ qv = .int .i64 q ∧ us.length = k ∧ p0 + k ≤ q ∧ q ≤ s.size ∧ NewStrs w.heap.size wr v us ∧ Since w.heap.size w wr ∧ eachD most n (rest s p0) = onto us (q - p0) (eachD most (n - k) (rest s q))

theorem GetTextsAt.more {s : ByteArray} {p0 n k q m : Nat} {most : Int} {v v' : Value} {x : List UInt8} {us : List (List UInt8)} {w wr w2 w3 : World} (hlt : k < n) (hl : us.length = k) (hq : p0 + k ≤ q) (hqs : q ≤ s.size) (hn : NewStrs w.heap.size wr v us) (hS : Since w.heap.size w wr)
    (hr : eachD most n (rest s p0) = onto us (q - p0) (eachD most (n - k) (rest s q))) (hx : textD most (rest s q) = .inr (x, m))
    (k2 : Keeps (fun _ => False) wr w2) (hg : w2.grownBy w3 v.ownBlock) (hlat : Later w2 v.ownBlock v'.ownBlock) (hown : w3.ownsRow 0 9 1 v' (us.length + 1) (us.map strV ++ [strV x])) : GetTextsAt s p0 n most w (.int .i64 ((q + m : Nat) : Int)) v' (.int .i64 ((k + 1 : Nat) : Int)) w3 := by
  have hz := hS.size
  have hz2 := k2.size
  obtain ⟨hqm, h1m, _⟩ := textD_len hqs hx
  refine ⟨k + 1, q + m, us ++ [x], hlt, rfl, rfl, by simp [hl], by omega, hqm, ⟨by simpa using hown, ?_⟩, Keeps.grown (hS.step k2 (fun _ h => h.elim)) hg (fun j _ e => hn.new j e.symm), ?_⟩
  · intro g hg'
    rcases hlat with e | ⟨g', e, hge⟩
    · exact hn.new g (e ▸ hg')
    · rw [e] at hg'; injection hg' with hg'; omega
  · rw [hr, show n - k = (n - (k + 1)) + 1 by omega, eachD_step_ok hx]
    congr 1
    omega

/-- How GetTexts ends. -/
def GotTexts (p q : Nat) (D : Nat ⊕ (List (List UInt8) × Nat)) (w : World) (e : Ending) (w' : World) : Prop :=
  match D with
  | .inl x => e = .returned (.tuple #[.slice none 0 0, .int .i64 p, .int .i64 x]) ∧ Keeps (fun _ => False) w w'
  | .inr (vs, m) => ∃ v, e = .returned (.tuple #[v, .int .i64 ((q + m : Nat) : Int), .int .i64 0]) ∧ NewStrs w.heap.size w' v vs ∧ Keeps (fun _ => False) w w'

set_option maxHeartbeats 1600000 in
theorem refGetTexts_loop (s : ByteArray) (p x n : Nat) (count most : Int) (w : World) (hp : p ≤ s.size) (hs : s.size ≤ 1099511627776) (hm0 : count ≤ 9223372036854775807) (hm1 : most ≤ 9223372036854775807)
    (hv : varintD (rest s p) = .inr (x, n)) (hx : ¬ count < (x : Int)) :
    Calls Tryd.prog 60 #[.string s, .int .i64 p, .int .i64 count, .int .i64 most] w fun y w' => GotTexts p (p + n) (eachD most x (rest s (p + n))) w y w' := by
  obtain ⟨i0, hi, hz0, hz1, hz2⟩ := info_parts infoString
  have hu := Lib.hid (refGetUpto_ok s p x n count w hp (by omega) hv (by omega) hm0)
  obtain ⟨hx64, hpn, hn10⟩ := varintD_len hp hv
  have hxi : (x : Int) ≤ 9223372036854775807 := by omega
  obtain ⟨D, HD⟩ : ∃ D, eachD most x (rest s (p + n)) = D := ⟨_, rfl⟩
  rw [HD]
  have HD := Lib.hid HD
  clear hv hx
  generalize p + n = p0 at *
  go_enter Tryd.func60, Tryd.ntmps60
  go_wp2_with fail
  refine hu.out.mono ?_
  rintro y w1 ⟨rfl, rfl⟩
  go_wp2
  go_loopw [12, 14, 15] (fun q v i wr => GetTextsAt s p0 x most w q v i wr) (fun _ _ i _ => x - (intOf i).toNat)
  case atStart => exact ⟨0, p0, [], Nat.zero_le _, rfl, rfl, rfl, Nat.le_refl _, hpn, NewStrs.nil _ _, Keeps.refl _ _, by rw [Nat.sub_self, onto_nil]; rfl⟩
  case round =>
    obtain ⟨k, q, us, hkx, rfl, rfl, hul, hkq, hqs, hns, hS, hrel⟩ := hrel
    have Hrel := Lib.hid hrel; clear hrel
    have Hul := Lib.hid hul; clear hul
    have HS := Lib.hid hS
    have Hns := Lib.hid hns
    by_cases hlt : k < x
    · cases hT : textD most (rest s q) with
      | inl e' =>
        have he : D = .inl e' := by
          rw [← HD.out, Hrel.out, show x - k = (x - (k + 1)) + 1 by omega, eachD_step_err hT]
        have He := Lib.hid he; clear he
        have h13 := textD_err hT
        have Hq := Lib.hid (refGetText_err s q e' most wr hqs (by omega) hm1 hT)
        have ht0 : ((e' : Int) != 0) = true := by simp; omega
        clear hT hS hns
        go_wp2_with fail
        refine Hq.out.mono ?_
        rintro y w2 ⟨rfl, rfl⟩
        go_wp2
        go_ret3
        rw [He.out]
        exact ⟨rfl, Keeps.fresh HS.out⟩
      | inr z =>
        obtain ⟨t, m⟩ := z
        have Hq := Lib.hid (refGetText_ok s q m t most wr hqs (by omega) hm1 hT)
        have hul : us.length ≤ 1099511627776 := by have := Hul.out; omega
        have hown2 := hns.own
        have fin0 := Lib.hid (fun (v' : Value) (w2 w3 : World) (k2 : Keeps (fun _ => False) wr w2) (hg : w2.grownBy w3 _) (hl : Later w2 _ v'.ownBlock) (ho : w3.ownsRow 0 9 1 v' (us.length + 1) (us.map strV ++ [strV t])) => GetTextsAt.more hlt Hul.out hkq hqs Hns.out HS.out Hrel.out hT k2 hg hl ho)
        clear hT hS hns
        generalize q + m = qm at *
        go_wp2_with fail
        refine Hq.out.mono ?_
        rintro y w2 ⟨rfl, rfl⟩
        go_wp2_with (at_builtin; refine wpList_append_cells0 _ rfl _ _ 28 rfl 9 i0 (.string ⟨#[]⟩) 1 16 Tryd.underlying28 hi hz0 hz1 hz2 rfl (by decide) _ us.length _ rfl (ownsRow_kept hown2 ((Keeps.refl (fun _ => False) _).alloc _) (fun _ _ h => h)) ⟨wr.heap.size, 0, none⟩ 1 1 [strV t] rfl rfl ?c1 ?c2 ?c3 ?c4 ?_)
        case c1 => exact World.news_of_block (cs := #[strV t]) (heap_alloc_new wr _)
        case c2 => intro u hu; simp at hu; subst hu; rfl
        case c3 => unfold maxLen; omega
        case c4 => omega
        intro v' w3 hown' hgrow hlater _
        have fin := Lib.hid (fin0.out _ _ _ ((Keeps.refl _ _).alloc _) hgrow hlater hown')
        clear hown' hgrow hlater hown2 fin0
        go_wp2
        go_roundw
        case rel => exact fin.out
        case measure => simp [intOf]; omega
    · have he : D = .inr (us, q - p0) := by
        rw [← HD.out, Hrel.out, show x - k = 0 by omega, eachD]
        simp [onto]
      have He := Lib.hid he; clear he
      clear hS hns
      go_wp2
      go_ret3
      rw [He.out]
      exact ⟨_, by rw [show p0 + (q - p0) = q by omega]; rfl, Hns.out, Keeps.fresh HS.out⟩

theorem refGetTexts_early (s : ByteArray) (p e : Nat) (count most : Int) (w : World) (he : 1 ≤ e ∧ e ≤ 3)
    (hu : Calls Tryd.prog 49 #[.string s, .int .i64 p, .int .i64 count] w fun x w' => x = .returned (.tuple #[.int .i64 0, .int .i64 p, .int .i64 e]) ∧ w = w') :
    Calls Tryd.prog 60 #[.string s, .int .i64 p, .int .i64 count, .int .i64 most] w fun y w' => y = .returned (.tuple #[.slice none 0 0, .int .i64 p, .int .i64 e]) ∧ Keeps (fun _ => False) w w' := by
  have Hu := Lib.hid hu
  clear hu
  have ht0 : ((e : Int) != 0) = true := by simp; omega
  go_enter Tryd.func60, Tryd.ntmps60
  go_wp2_with fail
  refine Hu.out.mono ?_
  rintro y w1 ⟨rfl, rfl⟩
  go_wp2
  go_ret3
  exact ⟨rfl, Keeps.refl _ _⟩

theorem refGetTexts_err (s : ByteArray) (p e : Nat) (count most : Int) (w : World) (hp : p ≤ s.size) (hs : s.size ≤ 1099511627776) (hm0 : count ≤ 9223372036854775807) (hm1 : most ≤ 9223372036854775807) (hd : textsD count most (rest s p) = .inl e) :
    Calls Tryd.prog 60 #[.string s, .int .i64 p, .int .i64 count, .int .i64 most] w fun y w' => y = .returned (.tuple #[.slice none 0 0, .int .i64 p, .int .i64 e]) ∧ Keeps (fun _ => False) w w' := by
  have he := textsD_err hd
  unfold textsD at hd
  split at hd
  · rename_i e' hv
    injection hd with hd
    subst hd
    exact refGetTexts_early s p e' count most w he (refGetUpto_err s p e' count w hp (by omega) hv)
  · rename_i x n hv
    split at hd
    · rename_i hx
      injection hd with hd
      subst hd
      exact refGetTexts_early s p 3 count most w he (refGetUpto_limit s p x n count w hp (by omega) hv hx hm0)
    · rename_i hx
      split at hd
      · rename_i e' hed
        injection hd with hd
        subst hd
        rw [rest_drop] at hed
        refine (refGetTexts_loop s p x n count most w hp hs hm0 hm1 hv hx).mono ?_
        intro y w' h
        rw [hed] at h
        exact h
      · cases hd

theorem refGetTexts_ok (s : ByteArray) (p m : Nat) (vs : List (List UInt8)) (count most : Int) (w : World) (hp : p ≤ s.size) (hs : s.size ≤ 1099511627776) (hm0 : count ≤ 9223372036854775807) (hm1 : most ≤ 9223372036854775807) (hd : textsD count most (rest s p) = .inr (vs, m)) :
    Calls Tryd.prog 60 #[.string s, .int .i64 p, .int .i64 count, .int .i64 most] w fun y w' => ∃ v, y = .returned (.tuple #[v, .int .i64 ((p + m : Nat) : Int), .int .i64 0]) ∧ NewStrs w.heap.size w' v vs ∧ Keeps (fun _ => False) w w' := by
  unfold textsD at hd
  split at hd
  · cases hd
  · rename_i x n hv
    split at hd
    · cases hd
    · rename_i hx
      split at hd
      · cases hd
      · rename_i us q hed
        simp only [Sum.inr.injEq, Prod.mk.injEq] at hd
        obtain ⟨rfl, rfl⟩ := hd
        rw [rest_drop] at hed
        refine (refGetTexts_loop s p x n count most w hp hs hm0 hm1 hv hx).mono ?_
        intro y w' h
        rw [hed] at h
        obtain ⟨v, h1, h2, h3⟩ := h
        exact ⟨v, by rw [h1, Nat.add_assoc], h2, h3⟩
end Go.Proofs.YtilhkbohemghlaaDoor
