/-
  The contract of remitlaw01.get: lists of texts; every kind.
-/
import Derived.Test.YtilhkbohemghlaaDoorGet5
import Derived.Test.YtilhkbohemghlaaDoorLists
namespace Go.Proofs.YtilhkbohemghlaaDoor
open Go.ChangeShapes Go.WideShapes Go.ChangeAt Go.RowKit
set_option maxRecDepth 100000

/-- What get answers, and where the Reader then is; the lists that were handed out lie in block bl. -/
def GotL (b bl B : Nat) (s : ByteArray) (lv : Value) (ls : List (Value × List (List UInt8))) (w : World) (e : Ending) (w' : World) : Prop :=
  ∃ (q : Nat) (lv' : Value) (ls' : List (Value × List (List UInt8))), e = .returned (.tuple #[.int .i64 q, .bool true]) ∧ Rd b s q w' ∧ w'.heap[bl]? = some (.cells #[lv'] 39 (0, 0)) ∧ Lists B lv' ls' w' ∧
    Keeps (fun k => k = b ∨ k = bl ∨ lv.ownBlock = some k) w w' ∧ ls'.length ≤ ls.length + 1 ∧ (∀ x ∈ ls', x ∈ ls ∨ x.2.length ≤ s.size)

theorem GotL.of_at {b bl B : Nat} {s : ByteArray} {ls : List (Value × List (List UInt8))} {lv : Value} {w w' : World} {e : Ending} (h : GotAt b s w e w') (hL : Lists B lv ls w) (hbl : w.heap[bl]? = some (.cells #[lv] 39 (0, 0))) (hb : b < B) (hne : b ≠ bl) : GotL b bl B s lv ls w e w' := by
  obtain ⟨q, rfl, hm⟩ := h
  exact ⟨q, lv, ls, rfl, hm.rd, by rw [hm.keeps.block bl (lt_of_block hbl) (fun e => hne e.symm)]; exact hbl, hL.kept hm.keeps (fun k e _ => by omega), hm.keeps.mono (fun _ _ e => .inl e), by omega, fun x hx => .inl hx⟩

theorem got_list {b bl B q : Nat} {s : ByteArray} {ls : List (Value × List (List UInt8))} {ss : List (List UInt8)} {lv v' xv : Value} {w W3 W4 W5 : World} (hL : Lists B lv ls w) (hbl : w.heap[bl]? = some (.cells #[lv] 39 (0, 0))) (hB : B ≤ w.heap.size) (hb : b < B) (hblB : bl < B) (hne : b ≠ bl)
    (kk : Keeps (fun k => k = b) w W3) (hr : Rd b s q W3) (hx : W3.ownsRow 0 9 1 xv ss.length (ss.map strV)) (hxn : ∀ k, xv.ownBlock = some k → w.heap.size ≤ k) (k4 : Keeps (fun _ => False) W3 W4)
    (hg : W4.grownBy W5 lv.ownBlock) (hlat : Later W4 lv.ownBlock v'.ownBlock) (hown : W5.ownsRow 0 28 1 v' (ls.length + 1) (ls.map (·.1) ++ [xv])) :
    (W5.cell? ⟨bl, 0, none⟩ = some lv ∧ W5.frozen? ⟨bl, 0, none⟩ = false) ∧ (W5.setCell ⟨bl, 0, none⟩ v').heap[bl]? = some (.cells #[v'] 39 (0, 0)) ∧ Rd b s q (W5.setCell ⟨bl, 0, none⟩ v') ∧
    Lists B v' (ls ++ [(xv, ss)]) (W5.setCell ⟨bl, 0, none⟩ v') ∧ Keeps (fun k => k = b ∨ k = bl ∨ lv.ownBlock = some k) w (W5.setCell ⟨bl, 0, none⟩ v') := by
  have z3 := kk.size
  have z4 := k4.size
  have K5 : Keeps (fun k => lv.ownBlock = some k) W4 W5 := Keeps.grown (Keeps.refl _ _) hg (fun j _ e => e.symm)
  have K34 : Keeps (fun k => k = b) w W4 := kk.trans k4 (fun _ _ e => e.elim)
  have K6 : Keeps (fun k => k = bl) W5 (W5.setCell ⟨bl, 0, none⟩ v') := (Keeps.refl (fun k => k = bl) W5).setCell (p := ⟨bl, 0, none⟩) (fun _ => rfl) v'
  have hb5 : W5.heap[bl]? = some (.cells #[lv] 39 (0, 0)) := by
    rw [K5.block bl (by omega) (fun e => by have := hL.newv bl e; omega), K34.block bl (lt_of_block hbl) (fun e => hne e.symm)]
    exact hbl
  have hset : (W5.setCell ⟨bl, 0, none⟩ v').heap[bl]? = some (.cells #[v'] 39 (0, 0)) := by
    rw [setCell_eq_setRow W5 bl 0 #[lv] _ (0, 0) v' hb5]
    exact setRow_heap W5 bl _ _ _ _ hb5
  have hL4 : Lists B lv ls W4 := hL.kept K34 (fun k e _ => by omega)
  have hA := hL.add (ss := ss) hB (by omega) (ownsRow_kept hx k4 (fun _ _ e => e)) hxn hL4 hg hlat hown
  exact ⟨⟨by rw [Lib.cell_of_heap hb5]; rfl, Lib.frozen_of_heap hb5 0⟩, hset, ((hr.kept k4 (fun e => e)).kept K5 (fun e => by have := hL.newv b e; omega)).kept K6 hne,
    hA.kept K6 (fun k e _ => by omega), ((K34.mono (T := fun k => k = b ∨ k = bl ∨ lv.ownBlock = some k) (fun _ _ e => .inl e)).trans K5 (fun k _ e => .inr (.inr e))).trans K6 (fun k _ e => .inr (.inl e))⟩

theorem GotL.fin {b bl B q : Nat} {s : ByteArray} {ls : List (Value × List (List UInt8))} {ss : List (List UInt8)} {lv v' xv : Value} {w W W' : World} (h1 : W.heap[bl]? = some (.cells #[v'] 39 (0, 0))) (h2 : Rd b s q W) (h3 : Lists B v' (ls ++ [(xv, ss)]) W) (h4 : Keeps (fun k => k = b ∨ k = bl ∨ lv.ownBlock = some k) w W) (hl : ss.length ≤ s.size) (k : Keeps (fun _ => False) W W') :
    GotL b bl B s lv ls w (.returned (.tuple #[.int .i64 q, .bool true])) W' :=
  ⟨q, v', _, rfl, h2.kept k (fun e => e), by rw [k.block bl (lt_of_block h1) (fun e => e)]; exact h1, h3.kept k (fun _ e _ => e.elim), h4.trans k (fun _ _ e => e.elim), by simp, fun x hx => by
    rcases List.mem_append.1 hx with hx | hx
    · exact .inl hx
    · rw [List.mem_singleton.1 hx]; exact .inr hl⟩

theorem strs_nil (w : World) (g : Nat) : Strs w (.slice none 0 0) g 0 [] := ⟨⟨none, 0, rfl, fun h => absurd rfl h⟩, by simp, fun j s h => by simp at h⟩

theorem textsD_lens {count most : Int} {s : ByteArray} {p m : Nat} {vs : List (List UInt8)} (hp : p ≤ s.size) (h : textsD count most (rest s p) = .inr (vs, m)) : vs.length ≤ s.size ∧ p + m ≤ s.size := by
  unfold textsD at h
  split at h
  · cases h
  · rename_i x n hv
    split at h
    · cases h
    · split at h
      · cases h
      · rename_i us q hed
        simp only [Sum.inr.injEq, Prod.mk.injEq] at h
        obtain ⟨rfl, rfl⟩ := h
        obtain ⟨_, hpn, _⟩ := varintD_len hp hv
        rw [rest_drop] at hed
        obtain ⟨h1, h2, h3⟩ := eachD_len hpn hed
        omega

section
variable (ad : Nat → Addr) (b bl B : Nat) (s : ByteArray) (p : Nat) (o : OpD) (w : World) (lv : Value) (ls : List (Value × List (List UInt8)))

set_option maxHeartbeats 3200000 in
theorem get_7 (h : Rd b s p w) (hE : Errs ad w) (hO : OffErrs ad (fun k => k = b ∨ k = bl ∨ B ≤ k)) (ho : o.Ok) (he : o.kind = 7) (hs40 : s.size ≤ 1073741824) (hL : Lists B lv ls w) (hbl : w.heap[bl]? = some (.cells #[lv] 39 (0, 0))) (hB : B ≤ w.heap.size) (hb : b < B) (hblB : bl < B) (hne : b ≠ bl) (hln : ls.length ≤ 1073741824) :
    Calls Tryd.prog 15 #[.pointer (some ⟨b, 0, none⟩), .string s, .int .i64 p, o.val, .pointer (some ⟨bl, 0, none⟩)] w (GotL b bl B s lv ls w) := by
  obtain ⟨kind, sec, u, i, nn, m, os, v, ss⟩ := o
  simp only at he
  subst he
  have hle := h.le
  have hb0 := h.lt
  have hn1 := ho.n1
  have hm1 := ho.m1
  clear ho
  simp only [OpD.val] at *
  obtain ⟨i0, hi, hz0, hz1, hz2⟩ := info_parts infoTexts
  have hE' := Lib.hid (fun o => hE.alloc o)
  have hObb : OffErrs ad (fun k => k = b) := hO.mono (fun _ e => .inl e)
  have HO := Lib.hid hO
  have HEw := Lib.hid hE
  have HObb := Lib.hid hObb
  have HL := Lib.hid hL
  have Hbl := Lib.hid hbl
  have hs0' := Lib.hid (fun o => show w.heap.size < (w.alloc o).heap.size by simp)
  obtain ⟨la, lc, rfl, _⟩ := own_shape1 hL.row
  cases hd : textsD nn m (rest s p) with
  | inl e =>
    have he := textsD_err hd
    have hr := Lib.hid (fun o => rtexts_err ad b s p e nn m (w.alloc o) (h.alloc o) (hE.alloc o) hObb (by omega) hn1 hm1 hd)
    have hg := Lib.hid (fun w1 => refGetTexts_err s p e nn m w1 hle (by omega) hn1 hm1 hd)
    clear h hE hd hO hObb hL hbl
    go_enter Tryd.func15, Tryd.ntmps15
    go_wp2_with fail
    refine (hr.out _).mono ?_
    rintro x w1 ⟨rfl, h1⟩
    have hE1 := Lib.hid ((hE'.out _).kept h1.keeps HObb.out)
    have d4 : w1.cell? ⟨w.heap.size, 4, none⟩ = some (.int .i64 nn) := box_kept h1 hb0 4
    have d5 : w1.cell? ⟨w.heap.size, 5, none⟩ = some (.int .i64 m) := box_kept h1 hb0 5
    have H1 := Lib.hid (box_moved h1)
    clear h1
    go_wp2_with fail
    refine (hg.out w1).mono ?_
    rintro x w2 ⟨rfl, k2⟩
    have H2 := Lib.hid (H1.out.quiet k2)
    have hE2 := Lib.hid (hE1.out.kept k2 (OffErrs.none ad))
    clear k2 H1 hE1 d4 d5
    go_wp2_with fail
    refine (same_any _ _ 0 0 0 0 [] w2 (strs_nil w2 0) (strs_nil w2 0)).mono ?_
    rintro x w3 ⟨rfl, n3, rfl⟩
    have H3 := Lib.hid (H2.out.quiet ((Keeps.refl _ _).drewN n3))
    have hE3 := Lib.hid (hE2.out.drewN n3)
    clear H2 hE2
    generalize w2.drewN n3 = W3 at *
    have hc : W3.cell? ⟨bl, 0, none⟩ = some (.slice la ls.length lc) := by
      have q := Hbl.out
      rw [← H3.out.keeps.block bl (lt_of_block q) (fun e => hne e.symm)] at q
      rw [Lib.cell_of_heap q]
      rfl
    have own3 := (HL.out.kept H3.out.keeps (fun k e _ => by omega)).row
    go_wp2_with (at_builtin; refine wpList_append_cells0 _ rfl _ _ 39 rfl 28 i0 (.slice none 0 0) 1 24 Tryd.underlying39 hi hz0 hz1 hz2 rfl (by decide) _ ls.length _ rfl (ownsRow_kept own3 ((Keeps.refl (fun _ => False) _).alloc _) (fun _ _ h => h)) ⟨W3.heap.size, 0, none⟩ 1 1 [.slice none 0 0] rfl rfl ?c1 ?c2 ?c3 ?c4 ?_)
    case c1 => exact World.news_of_block (cs := #[.slice none 0 0]) (heap_alloc_new W3 _)
    case c2 => intro u hu; rw [List.mem_singleton.1 hu]; rfl
    case c3 => unfold maxLen; omega
    case c4 => omega
    intro v' W5 hown hgr hlat _
    obtain ⟨va, vc, rfl, _⟩ := own_shape1 hown
    obtain ⟨⟨q1, q2⟩, q3, q4, q5, q6⟩ := got_list (ss := []) HL.out Hbl.out hB hb hblB hne H3.out.keeps H3.out.rd (World.ownsRow_nil _ _ _ _) (fun k e => by simp [Value.ownBlock] at e) ((Keeps.refl _ _).alloc _) hgr hlat hown
    have hE5 := HEw.out.kept q6 (HO.out.mono (fun k e => e.imp id (fun e => e.imp id (fun e => HL.out.newv k e))))
    have Q3 := Lib.hid q3
    have Q4 := Lib.hid q4
    have Q5 := Lib.hid q5
    have Q6 := Lib.hid q6
    clear q3 q4 q5 q6 hown hgr hlat own3 hc
    have hE5' := Lib.hid hE5
    clear hE5
    go_wp2_with fail
    refine (num_at ad _ hE5'.out he.1 (by omega)).mono ?_
    rintro x w6 ⟨rfl, k6⟩
    have fin := Lib.hid (GotL.fin Q3.out Q4.out Q5.out Q6.out (by simp) k6)
    clear k6
    go_wp2
    go_ret2
    exact fin.out
  | inr z =>
    obtain ⟨us, n⟩ := z
    obtain ⟨hul, hpq⟩ := textsD_lens hle hd
    have hr := Lib.hid (fun o => rtexts_ok ad b s p n us nn m (w.alloc o) (h.alloc o) (hE.alloc o) hObb (by omega) hn1 hm1 hd)
    have hg := Lib.hid (fun w1 => refGetTexts_ok s p n us nn m w1 hle (by omega) hn1 hm1 hd)
    clear h hE hd hO hObb hL hbl
    generalize p + n = q at *
    go_enter Tryd.func15, Tryd.ntmps15
    go_wp2_with fail
    refine (hr.out _).mono ?_
    rintro x w1 ⟨xv, rfl, hn1', h1⟩
    have d4 : w1.cell? ⟨w.heap.size, 4, none⟩ = some (.int .i64 nn) := box_kept h1 hb0 4
    have d5 : w1.cell? ⟨w.heap.size, 5, none⟩ = some (.int .i64 m) := box_kept h1 hb0 5
    have H1 := Lib.hid (box_moved h1)
    have HN1 := Lib.hid (show NewStrs w.heap.size w1 xv us from hn1'.mono (Nat.le_of_lt (hs0'.out _)))
    clear h1 hn1'
    go_wp2_with fail
    refine (hg.out w1).mono ?_
    rintro x w2 ⟨yv, rfl, hn2, k2⟩
    have H2 := Lib.hid (H1.out.quiet k2)
    have HN2 := Lib.hid (HN1.out.kept k2 (fun _ _ e => e))
    obtain ⟨gx, hsx, _⟩ := HN2.out.strs (by omega)
    obtain ⟨gy, hsy, _⟩ := hn2.strs (by omega)
    have Hsx := Lib.hid hsx
    have Hsy := Lib.hid hsy
    clear k2 H1 d4 d5 hn2 hsx hsy HN1
    go_wp2_with fail
    refine (same_any xv yv gx 0 gy 0 us w2 Hsx.out Hsy.out).mono ?_
    rintro x w3 ⟨rfl, n3, rfl⟩
    have H3 := Lib.hid (H2.out.quiet ((Keeps.refl _ _).drewN n3))
    have HN3 := Lib.hid (HN2.out.kept ((Keeps.refl (fun _ => False) w2).drewN n3) (fun _ _ e => e))
    clear H2 HN2 Hsx Hsy
    generalize w2.drewN n3 = W3 at *
    obtain ⟨xa, xc, rfl, _⟩ := own_shape1 HN3.out.own
    have hc : W3.cell? ⟨bl, 0, none⟩ = some (.slice la ls.length lc) := by
      have q := Hbl.out
      rw [← H3.out.keeps.block bl (lt_of_block q) (fun e => hne e.symm)] at q
      rw [Lib.cell_of_heap q]
      rfl
    have own3 := (HL.out.kept H3.out.keeps (fun k e _ => by omega)).row
    go_wp2_with (at_builtin; refine wpList_append_cells0 _ rfl _ _ 39 rfl 28 i0 (.slice none 0 0) 1 24 Tryd.underlying39 hi hz0 hz1 hz2 rfl (by decide) _ ls.length _ rfl (ownsRow_kept own3 ((Keeps.refl (fun _ => False) _).alloc _) (fun _ _ h => h)) ⟨W3.heap.size, 0, none⟩ 1 1 [.slice xa us.length xc] rfl rfl ?c1 ?c2 ?c3 ?c4 ?_)
    case c1 => exact World.news_of_block (cs := #[.slice xa us.length xc]) (heap_alloc_new W3 _)
    case c2 => intro u hu; rw [List.mem_singleton.1 hu]; rfl
    case c3 => unfold maxLen; omega
    case c4 => omega
    intro v' W5 hown hgr hlat _
    obtain ⟨va, vc, rfl, _⟩ := own_shape1 hown
    obtain ⟨⟨q1, q2⟩, q3, q4, q5, q6⟩ := got_list (ss := us) HL.out Hbl.out hB hb hblB hne H3.out.keeps H3.out.rd HN3.out.own HN3.out.new ((Keeps.refl _ _).alloc _) hgr hlat hown
    have Q3 := Lib.hid q3
    have Q4 := Lib.hid q4
    have Q5 := Lib.hid q5
    have Q6 := Lib.hid q6
    clear q3 q4 q5 q6 hown hgr hlat own3 hc
    go_wp2_with fail
    refine (num_nil _).mono ?_
    rintro x w6 ⟨rfl, rfl⟩
    have fin := Lib.hid (GotL.fin Q3.out Q4.out Q5.out Q6.out hul (Keeps.refl _ _))
    go_wp2
    go_ret2
    exact fin.out
end

/-- Every kind. -/
theorem get_any (ad : Nat → Addr) (b bl B : Nat) (s : ByteArray) (p : Nat) (o : OpD) (w : World) (lv : Value) (ls : List (Value × List (List UInt8))) (h : Rd b s p w) (hE : Errs ad w) (hO : OffErrs ad (fun k => k = b ∨ k = bl ∨ B ≤ k)) (ho : o.Ok) (hs40 : s.size ≤ 1073741824) (hL : Lists B lv ls w) (hbl : w.heap[bl]? = some (.cells #[lv] 39 (0, 0))) (hB : B ≤ w.heap.size) (hb : b < B) (hblB : bl < B) (hne : b ≠ bl) (hln : ls.length ≤ 1073741824) :
    Calls Tryd.prog 15 #[.pointer (some ⟨b, 0, none⟩), .string s, .int .i64 p, o.val, .pointer (some ⟨bl, 0, none⟩)] w (GotL b bl B s lv ls w) := by
  have hO1 : OffErrs ad (fun k => k = b) := hO.mono (fun _ e => .inl e)
  have lift : Calls Tryd.prog 15 #[.pointer (some ⟨b, 0, none⟩), .string s, .int .i64 p, o.val, .pointer (some ⟨bl, 0, none⟩)] w (GotAt b s w) → Calls Tryd.prog 15 #[.pointer (some ⟨b, 0, none⟩), .string s, .int .i64 p, o.val, .pointer (some ⟨bl, 0, none⟩)] w (GotL b bl B s lv ls w) :=
    fun q => q.mono fun e w' hq => GotL.of_at hq hL hbl hb hne
  cases hy : o.enc with
  | none => exact lift (get_0 b s p o w _ h (OpD.enc_none hy))
  | some y =>
    rcases o.enc_cases hy with ⟨he, _⟩ | ⟨he, _⟩ | ⟨he, _⟩ | ⟨he, _⟩ | ⟨he, _⟩ | ⟨he, _⟩ | ⟨he, _⟩ | ⟨he, _⟩
    · exact lift (get_1 ad b s p o w _ h hE hO1 he)
    · exact lift (get_8 ad b s p o w _ h hE hO1 ho he)
    · exact lift (get_2 ad b s p o w _ h hE hO1 he)
    · exact lift (get_3 ad b s p o w _ h hE hO1 he)
    · exact lift (get_4 ad b s p o w _ h hE hO1 he)
    · exact lift (get_5 ad b s p o w _ h hE hO1 he)
    · exact lift (get_6 ad b s p o w _ h hE hO1 ho he)
    · exact get_7 ad b bl B s p o w lv ls h hE hO ho he hs40 hL hbl hB hb hblB hne hln
end Go.Proofs.YtilhkbohemghlaaDoor
