/-
  The contract of remitlaw01.again: what a Reader's call has taken is written again.
-/
import Derived.Test.YtilhkbohemghlaaDoorOps
namespace Go.Proofs.YtilhkbohemghlaaDoor
open Go.RowKit
set_option maxRecDepth 100000

theorem textD_inv {most : Int} {l v : List UInt8} {n : Nat} (h : textD most l = .inr (v, n)) : n = (textB v).length ∧ ∃ t, l = textB v ++ t := by
  unfold textD at h
  split at h
  · cases h
  · rename_i x m hd
    split at h
    · cases h
    · split at h
      · cases h
      · rename_i hx
        simp only [Sum.inr.injEq, Prod.mk.injEq] at h
        obtain ⟨rfl, rfl⟩ := h
        obtain ⟨_, rfl, t, rfl⟩ := varintD_inv hd
        rw [List.drop_left]
        rw [List.length_append] at hx
        have hl : (t.take x).length = x := by rw [List.length_take]; omega
        refine ⟨by unfold textB; rw [List.length_append, hl], t.drop x, ?_⟩
        unfold textB
        rw [hl, List.append_assoc, List.take_append_drop]

theorem eachD_inv {most : Int} : ∀ {k : Nat} {l : List UInt8} {vs : List (List UInt8)} {m : Nat}, eachD most k l = .inr (vs, m) → vs.length = k ∧ m = (eachB vs).length ∧ ∃ t, l = eachB vs ++ t
  | 0, l, vs, m, h => by
    simp only [eachD, Sum.inr.injEq, Prod.mk.injEq] at h
    obtain ⟨rfl, rfl⟩ := h
    exact ⟨rfl, rfl, l, rfl⟩
  | k + 1, l, vs, m, h => by
    rw [eachD] at h
    split at h
    · cases h
    · rename_i v n hv
      split at h
      · cases h
      · rename_i us q hu
        simp only [Sum.inr.injEq, Prod.mk.injEq] at h
        obtain ⟨rfl, rfl⟩ := h
        obtain ⟨rfl, t, rfl⟩ := textD_inv hv
        rw [List.drop_left] at hu
        obtain ⟨h1, h2, t', rfl⟩ := eachD_inv hu
        exact ⟨by simp [h1], by simp [eachB, h2], t', by simp [eachB]⟩

theorem textsD_inv {count most : Int} {l : List UInt8} {vs : List (List UInt8)} {n : Nat} (h : textsD count most l = .inr (vs, n)) : n = (textsB vs).length ∧ ∃ t, l = textsB vs ++ t := by
  unfold textsD at h
  split at h
  · cases h
  · rename_i x m hd
    split at h
    · cases h
    · split at h
      · cases h
      · rename_i us q hu
        simp only [Sum.inr.injEq, Prod.mk.injEq] at h
        obtain ⟨rfl, rfl⟩ := h
        obtain ⟨_, rfl, t, rfl⟩ := varintD_inv hd
        rw [List.drop_left] at hu
        obtain ⟨rfl, rfl, t', rfl⟩ := eachD_inv hu
        exact ⟨by unfold textsB; rw [List.length_append], t', by simp [textsB]⟩

theorem take_of_inv {l y : List UInt8} {n : Nat} (hn : n = y.length) (h : ∃ t, l = y ++ t) : [] ++ y = l.take n := by
  obtain ⟨t, rfl⟩ := h
  rw [hn, List.take_left, List.nil_append]
theorem low_form {l : List UInt8} {n : Nat} (h : n ≤ l.length) : [] ++ lowB n (lowN (l.take n)) = l.take n := by
  have h1 := lowB_lowN (l.take n)
  rw [List.length_take, Nat.min_eq_left h] at h1
  rw [h1, List.nil_append]
theorem lowN_take_lt (l : List UInt8) (n : Nat) : lowN (l.take n) < 256 ^ n := by
  have h1 := lowN_lt (l.take n)
  have h2 : (l.take n).length ≤ n := by rw [List.length_take]; omega
  exact Nat.lt_of_lt_of_le h1 (Nat.pow_le_pow_right (by decide) h2)
theorem byte_form {l : List UInt8} (h : 1 ≤ l.length) : [] ++ [((lowN (l.take 1) : Nat) : Int).toNat.toUInt8] = l.take 1 := by
  obtain ⟨x, r, rfl⟩ := List.exists_cons_of_ne_nil (show l ≠ [] by rintro rfl; simp at h)
  simp [lowN]

theorem eachB_ge : ∀ vs : List (List UInt8), vs.length ≤ (eachB vs).length
  | [] => by simp
  | x :: r => by
    have := eachB_ge r
    have := Lib.uvarint_pos x.length
    simp only [eachB, textB, List.length_append, List.length_cons]
    omega

/-- What 'again' leaves: it took n bytes and wrote them again, or nothing moved. -/
def Again (b c : Nat) (s : ByteArray) (p : Nat) (w : World) (e : Ending) (w' : World) : Prop :=
  Keeps (fun k => k = b ∨ k = c) w w' ∧ ((∃ n r, p + n ≤ s.size ∧ e = .returned (.bool true) ∧ Rd b s (p + n) w' ∧ Wr c r ((rest s p).take n) w' ∧ (∀ g, r = some g → w.heap.size ≤ g)) ∨ (e = .returned (.bool false) ∧ Rd b s p w' ∧ ∃ r l, Wr c r l w'))

theorem Again.ok {b c : Nat} {s : ByteArray} {p n : Nat} {w w1 w2 : World} {x : Obj} {l : List UInt8} (m : Moved b s (p + n) (w.alloc x) w1) (k : Wrote c none l w1 w2) (hbc : c ≠ b) (hl : l = (rest s p).take n) : Again b c s p w (.returned (.bool true)) w2 := by
  obtain ⟨r, hw, k2⟩ := k
  subst hl
  have h1 := m.keeps.size
  have h2 : w.heap.size < (w.alloc x).heap.size := by simp
  refine ⟨(((Keeps.refl (fun k => k = b ∨ k = c) w).alloc x).trans m.keeps (fun _ _ h => .inl h)).trans k2.keeps (fun i _ h => .inr (by rcases h with h | h; exact h; cases h)), .inl ⟨n, r, m.rd.le, rfl, m.rd.kept k2.keeps (fun h => by rcases h with h | h; exact hbc h.symm; cases h), hw, fun g hg => ?_⟩⟩
  rcases k2.later with e | ⟨g', e, hge⟩
  · rw [e] at hg; cases hg
  · rw [e] at hg; injection hg with hg; omega
theorem Again.no {b c : Nat} {s : ByteArray} {p : Nat} {w w1 w2 : World} {x : Obj} {l : List UInt8} (m : Moved b s p (w.alloc x) w1) (k : Wrote c none l w1 w2) (hbc : c ≠ b) : Again b c s p w (.returned (.bool false)) w2 := by
  obtain ⟨r, hw, k2⟩ := k
  exact ⟨(((Keeps.refl (fun k => k = b ∨ k = c) w).alloc x).trans m.keeps (fun _ _ h => .inl h)).trans k2.keeps (fun i _ h => .inr (by rcases h with h | h; exact h; cases h)), .inr ⟨rfl, m.rd.kept k2.keeps (fun h => by rcases h with h | h; exact hbc h.symm; cases h), r, l, hw⟩⟩

section
variable (ad : Nat → Addr) (b c : Nat) (s : ByteArray) (p : Nat) (o : OpD) (w : World)

set_option maxHeartbeats 400000 in
theorem again_1_ok (h : Rd b s p w) (hE : Errs ad w) (hw : Wr c none [] w) (hbc : c ≠ b) (he : o.kind = 1) (x n : Nat) (hd : varintD (rest s p) = .inr (x, n)) :
    Calls Tryd.prog 23 #[.pointer (some ⟨b, 0, none⟩), .pointer (some ⟨c, 0, none⟩), o.val] w (Again b c s p w) := by
  obtain ⟨kind, sec, u, i, nn, mm, os, v, ss⟩ := o
  simp only at he
  subst he
  have hb := h.lt
  have hple := h.le
  have hsz := h.sz
  have hrl := rest_length s p
  obtain ⟨hx64, hpn, _⟩ := varintD_len hple hd
  obtain ⟨_, hn1, ht1⟩ := varintD_inv hd
  have hform : [] ++ Lib.uvarint x = (rest s p).take n := take_of_inv hn1 ht1
  simp only [OpD.val] at *
  have hr := Lib.hid (fun o => ruint_ok ad b s p x n (w.alloc o) (h.alloc o) (hE.alloc o) hd)
  have hw' := Lib.hid (fun o w1 (m : Moved b s (p + n) (w.alloc o) w1) => wuint_any c none [] x w1 ((hw.alloc o).kept m.keeps hbc (fun _ h => by cases h)) (by simp) hx64)
  have fin := Lib.hid (fun o w1 w2 l (m : Moved b s (p + n) (w.alloc o) w1) (k : Wrote c none l w1 w2) (hform : l = (rest s p).take n) => Again.ok m k hbc hform)
  have hform2 := Lib.hid hform
  clear h hw hform
  go_enter Tryd.func23, Tryd.ntmps23
  go_wp2_with fail
  refine (hr.out _).mono ?_
  rintro e w1 ⟨rfl, h1⟩
  go_wp2_with fail
  refine (hw'.out _ _ h1).mono ?_
  rintro e w2 ⟨rfl, h2⟩
  have fin' := Lib.hid (fin.out _ _ _ _ h1 h2 hform2.out); clear h1 h2
  go_wp2
  go_ret
  exact fin'.out

set_option maxHeartbeats 400000 in
theorem again_1_no (h : Rd b s p w) (hE : Errs ad w) (hw : Wr c none [] w) (hbc : c ≠ b) (he : o.kind = 1) (x : Nat) (hd : varintD (rest s p) = .inl x) :
    Calls Tryd.prog 23 #[.pointer (some ⟨b, 0, none⟩), .pointer (some ⟨c, 0, none⟩), o.val] w (Again b c s p w) := by
  obtain ⟨kind, sec, u, i, nn, mm, os, v, ss⟩ := o
  simp only at he
  subst he
  have hb := h.lt
  have hple := h.le
  have hsz := h.sz
  have hrl := rest_length s p
  simp only [OpD.val] at *
  have hr := Lib.hid (fun o => ruint_err ad b s p x (w.alloc o) (h.alloc o) (hE.alloc o) hd)
  have hw' := Lib.hid (fun o w1 (m : Moved b s p (w.alloc o) w1) => wuint_any c none [] 0 w1 ((hw.alloc o).kept m.keeps hbc (fun _ h => by cases h)) (by simp) (by omega))
  have fin := Lib.hid (fun o w1 w2 l (m : Moved b s p (w.alloc o) w1) (k : Wrote c none l w1 w2) => Again.no m k hbc)
  skip
  clear h hw 
  go_enter Tryd.func23, Tryd.ntmps23
  go_wp2_with fail
  refine (hr.out _).mono ?_
  rintro e w1 ⟨rfl, h1⟩
  go_wp2_with fail
  refine (hw'.out _ _ h1).mono ?_
  rintro e w2 ⟨rfl, h2⟩
  have fin' := Lib.hid (fin.out _ _ _ _ h1 h2); clear h1 h2
  go_wp2
  go_ret
  exact fin'.out

set_option maxHeartbeats 400000 in
theorem again_2_ok (h : Rd b s p w) (hE : Errs ad w) (hw : Wr c none [] w) (hbc : c ≠ b) (he : o.kind = 2) (x n : Nat) (hd : varintD (rest s p) = .inr (x, n)) :
    Calls Tryd.prog 23 #[.pointer (some ⟨b, 0, none⟩), .pointer (some ⟨c, 0, none⟩), o.val] w (Again b c s p w) := by
  obtain ⟨kind, sec, u, i, nn, mm, os, v, ss⟩ := o
  simp only at he
  subst he
  have hb := h.lt
  have hple := h.le
  have hsz := h.sz
  have hrl := rest_length s p
  obtain ⟨hx64, hpn, _⟩ := varintD_len hple hd
  obtain ⟨_, hn1, ht1⟩ := varintD_inv hd
  have hform : [] ++ Lib.uvarint (Lib.zigzag (Lib.unzigzag x)) = (rest s p).take n := by rw [zigzag_unzigzag]; exact take_of_inv hn1 ht1
  simp only [OpD.val] at *
  have hr := Lib.hid (fun o => rint_ok ad b s p x n (w.alloc o) (h.alloc o) (hE.alloc o) hd)
  have hw' := Lib.hid (fun o w1 (m : Moved b s (p + n) (w.alloc o) w1) => wint_any c none [] (Lib.unzigzag x) w1 ((hw.alloc o).kept m.keeps hbc (fun _ h => by cases h)) (by simp) (unzigzag_range hx64).1 (unzigzag_range hx64).2)
  have fin := Lib.hid (fun o w1 w2 l (m : Moved b s (p + n) (w.alloc o) w1) (k : Wrote c none l w1 w2) (hform : l = (rest s p).take n) => Again.ok m k hbc hform)
  have hform2 := Lib.hid hform
  clear h hw hform
  go_enter Tryd.func23, Tryd.ntmps23
  go_wp2_with fail
  refine (hr.out _).mono ?_
  rintro e w1 ⟨rfl, h1⟩
  go_wp2_with fail
  refine (hw'.out _ _ h1).mono ?_
  rintro e w2 ⟨rfl, h2⟩
  have fin' := Lib.hid (fin.out _ _ _ _ h1 h2 hform2.out); clear h1 h2
  go_wp2
  go_ret
  exact fin'.out

set_option maxHeartbeats 400000 in
theorem again_2_no (h : Rd b s p w) (hE : Errs ad w) (hw : Wr c none [] w) (hbc : c ≠ b) (he : o.kind = 2) (x : Nat) (hd : varintD (rest s p) = .inl x) :
    Calls Tryd.prog 23 #[.pointer (some ⟨b, 0, none⟩), .pointer (some ⟨c, 0, none⟩), o.val] w (Again b c s p w) := by
  obtain ⟨kind, sec, u, i, nn, mm, os, v, ss⟩ := o
  simp only at he
  subst he
  have hb := h.lt
  have hple := h.le
  have hsz := h.sz
  have hrl := rest_length s p
  simp only [OpD.val] at *
  have hr := Lib.hid (fun o => rint_err ad b s p x (w.alloc o) (h.alloc o) (hE.alloc o) hd)
  have hw' := Lib.hid (fun o w1 (m : Moved b s p (w.alloc o) w1) => wint_any c none [] 0 w1 ((hw.alloc o).kept m.keeps hbc (fun _ h => by cases h)) (by simp) (by omega) (by omega))
  have fin := Lib.hid (fun o w1 w2 l (m : Moved b s p (w.alloc o) w1) (k : Wrote c none l w1 w2) => Again.no m k hbc)
  skip
  clear h hw 
  go_enter Tryd.func23, Tryd.ntmps23
  go_wp2_with fail
  refine (hr.out _).mono ?_
  rintro e w1 ⟨rfl, h1⟩
  go_wp2_with fail
  refine (hw'.out _ _ h1).mono ?_
  rintro e w2 ⟨rfl, h2⟩
  have fin' := Lib.hid (fin.out _ _ _ _ h1 h2); clear h1 h2
  go_wp2
  go_ret
  exact fin'.out

set_option maxHeartbeats 400000 in
theorem again_3_ok (h : Rd b s p w) (hw : Wr c none [] w) (hbc : c ≠ b) (he : o.kind = 3) (hn : p + 8 ≤ s.size) :
    Calls Tryd.prog 23 #[.pointer (some ⟨b, 0, none⟩), .pointer (some ⟨c, 0, none⟩), o.val] w (Again b c s p w) := by
  obtain ⟨kind, sec, u, i, nn, mm, os, v, ss⟩ := o
  simp only at he
  subst he
  have hb := h.lt
  have hple := h.le
  have hsz := h.sz
  have hrl := rest_length s p
  have hform : [] ++ lowB 8 (lowN ((rest s p).take 8)) = (rest s p).take 8 := low_form (by omega)
  simp only [OpD.val] at *
  have hr := Lib.hid (fun o => rfixed_ok b s p (w.alloc o) (h.alloc o) hn)
  have hw' := Lib.hid (fun o w1 (m : Moved b s (p + 8) (w.alloc o) w1) => wfixed_any c none [] (lowN ((rest s p).take 8)) w1 ((hw.alloc o).kept m.keeps hbc (fun _ h => by cases h)) (by simp) (by have := lowN_take_lt (rest s p) 8; omega))
  have fin := Lib.hid (fun o w1 w2 l (m : Moved b s (p + 8) (w.alloc o) w1) (k : Wrote c none l w1 w2) (hform : l = (rest s p).take 8) => Again.ok m k hbc hform)
  have hform2 := Lib.hid hform
  clear h hw hform
  go_enter Tryd.func23, Tryd.ntmps23
  go_wp2_with fail
  refine (hr.out _).mono ?_
  rintro e w1 ⟨rfl, h1⟩
  go_wp2_with fail
  refine (hw'.out _ _ h1).mono ?_
  rintro e w2 ⟨rfl, h2⟩
  have fin' := Lib.hid (fin.out _ _ _ _ h1 h2 hform2.out); clear h1 h2
  go_wp2
  go_ret
  exact fin'.out

set_option maxHeartbeats 400000 in
theorem again_3_no (h : Rd b s p w) (hE : Errs ad w) (hw : Wr c none [] w) (hbc : c ≠ b) (he : o.kind = 3) (hn : s.size - p < 8) :
    Calls Tryd.prog 23 #[.pointer (some ⟨b, 0, none⟩), .pointer (some ⟨c, 0, none⟩), o.val] w (Again b c s p w) := by
  obtain ⟨kind, sec, u, i, nn, mm, os, v, ss⟩ := o
  simp only at he
  subst he
  have hb := h.lt
  have hple := h.le
  have hsz := h.sz
  have hrl := rest_length s p
  simp only [OpD.val] at *
  have hr := Lib.hid (fun o => rfixed_short ad b s p (w.alloc o) (h.alloc o) (hE.alloc o) hn)
  have hw' := Lib.hid (fun o w1 (m : Moved b s p (w.alloc o) w1) => wfixed_any c none [] 0 w1 ((hw.alloc o).kept m.keeps hbc (fun _ h => by cases h)) (by simp) (by omega))
  have fin := Lib.hid (fun o w1 w2 l (m : Moved b s p (w.alloc o) w1) (k : Wrote c none l w1 w2) => Again.no m k hbc)
  skip
  clear h hw 
  go_enter Tryd.func23, Tryd.ntmps23
  go_wp2_with fail
  refine (hr.out _).mono ?_
  rintro e w1 ⟨rfl, h1⟩
  go_wp2_with fail
  refine (hw'.out _ _ h1).mono ?_
  rintro e w2 ⟨rfl, h2⟩
  have fin' := Lib.hid (fin.out _ _ _ _ h1 h2); clear h1 h2
  go_wp2
  go_ret
  exact fin'.out

set_option maxHeartbeats 400000 in
theorem again_4_ok (h : Rd b s p w) (hw : Wr c none [] w) (hbc : c ≠ b) (he : o.kind = 4) (hn : p + 1 ≤ s.size) :
    Calls Tryd.prog 23 #[.pointer (some ⟨b, 0, none⟩), .pointer (some ⟨c, 0, none⟩), o.val] w (Again b c s p w) := by
  obtain ⟨kind, sec, u, i, nn, mm, os, v, ss⟩ := o
  simp only at he
  subst he
  have hb := h.lt
  have hple := h.le
  have hsz := h.sz
  have hrl := rest_length s p
  have hform : [] ++ [((lowN ((rest s p).take 1) : Nat) : Int).toNat.toUInt8] = (rest s p).take 1 := byte_form (by omega)
  simp only [OpD.val] at *
  have hr := Lib.hid (fun o => rbyte_ok b s p (w.alloc o) (h.alloc o) hn)
  have hw' := Lib.hid (fun o w1 (m : Moved b s (p + 1) (w.alloc o) w1) => wbyte_any c none [] ((lowN ((rest s p).take 1) : Nat) : Int) w1 ((hw.alloc o).kept m.keeps hbc (fun _ h => by cases h)) (by simp) (by omega) (by have := lowN_take_lt (rest s p) 1; omega))
  have fin := Lib.hid (fun o w1 w2 l (m : Moved b s (p + 1) (w.alloc o) w1) (k : Wrote c none l w1 w2) (hform : l = (rest s p).take 1) => Again.ok m k hbc hform)
  have hform2 := Lib.hid hform
  clear h hw hform
  go_enter Tryd.func23, Tryd.ntmps23
  go_wp2_with fail
  refine (hr.out _).mono ?_
  rintro e w1 ⟨rfl, h1⟩
  go_wp2_with fail
  refine (hw'.out _ _ h1).mono ?_
  rintro e w2 ⟨rfl, h2⟩
  have fin' := Lib.hid (fin.out _ _ _ _ h1 h2 hform2.out); clear h1 h2
  go_wp2
  go_ret
  exact fin'.out

set_option maxHeartbeats 400000 in
theorem again_4_no (h : Rd b s p w) (hE : Errs ad w) (hw : Wr c none [] w) (hbc : c ≠ b) (he : o.kind = 4) (hn : s.size - p < 1) :
    Calls Tryd.prog 23 #[.pointer (some ⟨b, 0, none⟩), .pointer (some ⟨c, 0, none⟩), o.val] w (Again b c s p w) := by
  obtain ⟨kind, sec, u, i, nn, mm, os, v, ss⟩ := o
  simp only at he
  subst he
  have hb := h.lt
  have hple := h.le
  have hsz := h.sz
  have hrl := rest_length s p
  simp only [OpD.val] at *
  have hr := Lib.hid (fun o => rbyte_short ad b s p (w.alloc o) (h.alloc o) (hE.alloc o) hn)
  have hw' := Lib.hid (fun o w1 (m : Moved b s p (w.alloc o) w1) => wbyte_any c none [] 0 w1 ((hw.alloc o).kept m.keeps hbc (fun _ h => by cases h)) (by simp) (by omega) (by omega))
  have fin := Lib.hid (fun o w1 w2 l (m : Moved b s p (w.alloc o) w1) (k : Wrote c none l w1 w2) => Again.no m k hbc)
  skip
  clear h hw 
  go_enter Tryd.func23, Tryd.ntmps23
  go_wp2_with fail
  refine (hr.out _).mono ?_
  rintro e w1 ⟨rfl, h1⟩
  go_wp2_with fail
  refine (hw'.out _ _ h1).mono ?_
  rintro e w2 ⟨rfl, h2⟩
  have fin' := Lib.hid (fin.out _ _ _ _ h1 h2); clear h1 h2
  go_wp2
  go_ret
  exact fin'.out

set_option maxHeartbeats 400000 in
theorem again_5_ok (h : Rd b s p w) (hw : Wr c none [] w) (hbc : c ≠ b) (he : o.kind = 5) (hn : p + 4 ≤ s.size) (hc : canon (lowN ((rest s p).take 4)) = lowN ((rest s p).take 4)) :
    Calls Tryd.prog 23 #[.pointer (some ⟨b, 0, none⟩), .pointer (some ⟨c, 0, none⟩), o.val] w (Again b c s p w) := by
  obtain ⟨kind, sec, u, i, nn, mm, os, v, ss⟩ := o
  simp only at he
  subst he
  have hb := h.lt
  have hple := h.le
  have hsz := h.sz
  have hrl := rest_length s p
  have hform : [] ++ floatB (lowN ((rest s p).take 4)) = (rest s p).take 4 := by unfold floatB; rw [hc]; exact low_form (by omega)
  simp only [OpD.val] at *
  have hr := Lib.hid (fun o => rfloat_ok b s p (w.alloc o) (h.alloc o) hn hc)
  have hw' := Lib.hid (fun o w1 (m : Moved b s (p + 4) (w.alloc o) w1) => wfloat_any c none [] (lowN ((rest s p).take 4)) w1 ((hw.alloc o).kept m.keeps hbc (fun _ h => by cases h)) (by simp) (by have := lowN_take_lt (rest s p) 4; omega))
  have fin := Lib.hid (fun o w1 w2 l (m : Moved b s (p + 4) (w.alloc o) w1) (k : Wrote c none l w1 w2) (hform : l = (rest s p).take 4) => Again.ok m k hbc hform)
  have hform2 := Lib.hid hform
  clear h hw hform
  go_enter Tryd.func23, Tryd.ntmps23
  go_wp2_with fail
  refine (hr.out _).mono ?_
  rintro e w1 ⟨rfl, h1⟩
  go_wp2_with fail
  refine (hw'.out _ _ h1).mono ?_
  rintro e w2 ⟨rfl, h2⟩
  have fin' := Lib.hid (fin.out _ _ _ _ h1 h2 hform2.out); clear h1 h2
  go_wp2
  go_ret
  exact fin'.out

set_option maxHeartbeats 400000 in
theorem again_5_no (h : Rd b s p w) (hE : Errs ad w) (hw : Wr c none [] w) (hbc : c ≠ b) (he : o.kind = 5) (hn : s.size - p < 4) :
    Calls Tryd.prog 23 #[.pointer (some ⟨b, 0, none⟩), .pointer (some ⟨c, 0, none⟩), o.val] w (Again b c s p w) := by
  obtain ⟨kind, sec, u, i, nn, mm, os, v, ss⟩ := o
  simp only at he
  subst he
  have hb := h.lt
  have hple := h.le
  have hsz := h.sz
  have hrl := rest_length s p
  simp only [OpD.val] at *
  have hr := Lib.hid (fun o => rfloat_short ad b s p (w.alloc o) (h.alloc o) (hE.alloc o) hn)
  have hw' := Lib.hid (fun o w1 (m : Moved b s p (w.alloc o) w1) => wfloat_any c none [] 0 w1 ((hw.alloc o).kept m.keeps hbc (fun _ h => by cases h)) (by simp) (by omega))
  have fin := Lib.hid (fun o w1 w2 l (m : Moved b s p (w.alloc o) w1) (k : Wrote c none l w1 w2) => Again.no m k hbc)
  skip
  clear h hw 
  go_enter Tryd.func23, Tryd.ntmps23
  go_wp2_with fail
  refine (hr.out _).mono ?_
  rintro e w1 ⟨rfl, h1⟩
  go_wp2_with fail
  refine (hw'.out _ _ h1).mono ?_
  rintro e w2 ⟨rfl, h2⟩
  have fin' := Lib.hid (fin.out _ _ _ _ h1 h2); clear h1 h2
  go_wp2
  go_ret
  exact fin'.out

set_option maxHeartbeats 400000 in
theorem again_5_form (h : Rd b s p w) (hE : Errs ad w) (hO : OffErrs ad (fun k => k = b)) (hw : Wr c none [] w) (hbc : c ≠ b) (he : o.kind = 5) (hn : p + 4 ≤ s.size) (hc : canon (lowN ((rest s p).take 4)) ≠ lowN ((rest s p).take 4)) :
    Calls Tryd.prog 23 #[.pointer (some ⟨b, 0, none⟩), .pointer (some ⟨c, 0, none⟩), o.val] w (Again b c s p w) := by
  obtain ⟨kind, sec, u, i, nn, mm, os, v, ss⟩ := o
  simp only at he
  subst he
  have hb := h.lt
  have hple := h.le
  have hsz := h.sz
  have hrl := rest_length s p
  simp only [OpD.val] at *
  have hr := Lib.hid (fun o => rfloat_form ad b s p (w.alloc o) (h.alloc o) (hE.alloc o) hO hn hc)
  have hw' := Lib.hid (fun o w1 (m : Moved b s p (w.alloc o) w1) => wfloat_any c none [] 0 w1 ((hw.alloc o).kept m.keeps hbc (fun _ h => by cases h)) (by simp) (by omega))
  have fin := Lib.hid (fun o w1 w2 l (m : Moved b s p (w.alloc o) w1) (k : Wrote c none l w1 w2) => Again.no m k hbc)
  skip
  clear h hw 
  go_enter Tryd.func23, Tryd.ntmps23
  go_wp2_with fail
  refine (hr.out _).mono ?_
  rintro e w1 ⟨rfl, h1⟩
  go_wp2_with fail
  refine (hw'.out _ _ h1).mono ?_
  rintro e w2 ⟨rfl, h2⟩
  have fin' := Lib.hid (fin.out _ _ _ _ h1 h2); clear h1 h2
  go_wp2
  go_ret
  exact fin'.out

set_option maxHeartbeats 400000 in
theorem again_6_ok (h : Rd b s p w) (hE : Errs ad w) (hw : Wr c none [] w) (hbc : c ≠ b) (he : o.kind = 6) (hm : o.n ≤ 9223372036854775807) (hs40 : s.size ≤ 1099511627776) (x : List UInt8) (n : Nat) (hd : textD o.n (rest s p) = .inr (x, n)) :
    Calls Tryd.prog 23 #[.pointer (some ⟨b, 0, none⟩), .pointer (some ⟨c, 0, none⟩), o.val] w (Again b c s p w) := by
  obtain ⟨kind, sec, u, i, nn, mm, os, v, ss⟩ := o
  simp only at he
  subst he
  have hb := h.lt
  have hple := h.le
  have hsz := h.sz
  have hrl := rest_length s p
  obtain ⟨hn1, ht1⟩ := textD_inv hd
  obtain ⟨hpn, _, hxl⟩ := textD_len hple hd
  have hxz : (⟨x.toArray⟩ : ByteArray).size = x.length := rfl
  have hform : [] ++ textB (⟨x.toArray⟩ : ByteArray).data.toList = (rest s p).take n := take_of_inv hn1 ht1
  simp only [OpD.val] at *
  have hr := Lib.hid (fun o => rtext_ok ad b s p n x nn (w.alloc o) (h.alloc o) (hE.alloc o) hm hd)
  have hw' := Lib.hid (fun o w1 (m : Moved b s (p + n) (w.alloc o) w1) => wtext_any c none [] ⟨x.toArray⟩ w1 ((hw.alloc o).kept m.keeps hbc (fun _ h => by cases h)) (by simp only [List.length_nil]; omega))
  have fin := Lib.hid (fun o w1 w2 l (m : Moved b s (p + n) (w.alloc o) w1) (k : Wrote c none l w1 w2) (hform : l = (rest s p).take n) => Again.ok m k hbc hform)
  have hform2 := Lib.hid hform
  clear h hw hform
  go_enter Tryd.func23, Tryd.ntmps23
  go_wp2_with fail
  refine (hr.out _).mono ?_
  rintro e w1 ⟨rfl, h1⟩
  go_wp2_with fail
  refine (hw'.out _ _ h1).mono ?_
  rintro e w2 ⟨rfl, h2⟩
  have fin' := Lib.hid (fin.out _ _ _ _ h1 h2 hform2.out); clear h1 h2
  go_wp2
  go_ret
  exact fin'.out

set_option maxHeartbeats 400000 in
theorem again_6_no (h : Rd b s p w) (hE : Errs ad w) (hO : OffErrs ad (fun k => k = b)) (hw : Wr c none [] w) (hbc : c ≠ b) (he : o.kind = 6) (hm : o.n ≤ 9223372036854775807) (x : Nat) (hd : textD o.n (rest s p) = .inl x) :
    Calls Tryd.prog 23 #[.pointer (some ⟨b, 0, none⟩), .pointer (some ⟨c, 0, none⟩), o.val] w (Again b c s p w) := by
  obtain ⟨kind, sec, u, i, nn, mm, os, v, ss⟩ := o
  simp only at he
  subst he
  have hb := h.lt
  have hple := h.le
  have hsz := h.sz
  have hrl := rest_length s p
  simp only [OpD.val] at *
  have hr := Lib.hid (fun o => rtext_err ad b s p x nn (w.alloc o) (h.alloc o) (hE.alloc o) hO hm hd)
  have hw' := Lib.hid (fun o w1 (m : Moved b s p (w.alloc o) w1) => wtext_any c none [] ⟨#[]⟩ w1 ((hw.alloc o).kept m.keeps hbc (fun _ h => by cases h)) (by decide))
  have fin := Lib.hid (fun o w1 w2 l (m : Moved b s p (w.alloc o) w1) (k : Wrote c none l w1 w2) => Again.no m k hbc)
  skip
  clear h hw 
  go_enter Tryd.func23, Tryd.ntmps23
  go_wp2_with fail
  refine (hr.out _).mono ?_
  rintro e w1 ⟨rfl, h1⟩
  go_wp2_with fail
  refine (hw'.out _ _ h1).mono ?_
  rintro e w2 ⟨rfl, h2⟩
  have fin' := Lib.hid (fin.out _ _ _ _ h1 h2); clear h1 h2
  go_wp2
  go_ret
  exact fin'.out

set_option maxHeartbeats 400000 in
theorem again_8_ok (h : Rd b s p w) (hE : Errs ad w) (hw : Wr c none [] w) (hbc : c ≠ b) (he : o.kind = 8) (hm : o.n ≤ 9223372036854775807) (x n : Nat) (hd : varintD (rest s p) = .inr (x, n)) (hx : (x : Int) ≤ o.n) :
    Calls Tryd.prog 23 #[.pointer (some ⟨b, 0, none⟩), .pointer (some ⟨c, 0, none⟩), o.val] w (Again b c s p w) := by
  obtain ⟨kind, sec, u, i, nn, mm, os, v, ss⟩ := o
  simp only at he
  subst he
  have hb := h.lt
  have hple := h.le
  have hsz := h.sz
  have hrl := rest_length s p
  obtain ⟨hx64, hpn, _⟩ := varintD_len hple hd
  obtain ⟨_, hn1, ht1⟩ := varintD_inv hd
  have hform : [] ++ Lib.uvarint x = (rest s p).take n := take_of_inv hn1 ht1
  have hx63 : (x : Int) ≤ 9223372036854775807 := by omega
  simp only [OpD.val] at *
  have hr := Lib.hid (fun o => rupto_ok ad b s p x n nn (w.alloc o) (h.alloc o) (hE.alloc o) hd hx hm)
  have hw' := Lib.hid (fun o w1 (m : Moved b s (p + n) (w.alloc o) w1) => wuint_any c none [] x w1 ((hw.alloc o).kept m.keeps hbc (fun _ h => by cases h)) (by simp) hx64)
  have fin := Lib.hid (fun o w1 w2 l (m : Moved b s (p + n) (w.alloc o) w1) (k : Wrote c none l w1 w2) (hform : l = (rest s p).take n) => Again.ok m k hbc hform)
  have hform2 := Lib.hid hform
  clear h hw hform
  go_enter Tryd.func23, Tryd.ntmps23
  go_wp2_with fail
  refine (hr.out _).mono ?_
  rintro e w1 ⟨rfl, h1⟩
  go_wp2_with fail
  refine (hw'.out _ _ h1).mono ?_
  rintro e w2 ⟨rfl, h2⟩
  have fin' := Lib.hid (fin.out _ _ _ _ h1 h2 hform2.out); clear h1 h2
  go_wp2
  go_ret
  exact fin'.out

set_option maxHeartbeats 400000 in
theorem again_8_no (h : Rd b s p w) (hE : Errs ad w) (hw : Wr c none [] w) (hbc : c ≠ b) (he : o.kind = 8) (x : Nat) (hd : varintD (rest s p) = .inl x) :
    Calls Tryd.prog 23 #[.pointer (some ⟨b, 0, none⟩), .pointer (some ⟨c, 0, none⟩), o.val] w (Again b c s p w) := by
  obtain ⟨kind, sec, u, i, nn, mm, os, v, ss⟩ := o
  simp only at he
  subst he
  have hb := h.lt
  have hple := h.le
  have hsz := h.sz
  have hrl := rest_length s p
  simp only [OpD.val] at *
  have hr := Lib.hid (fun o => rupto_err ad b s p x nn (w.alloc o) (h.alloc o) (hE.alloc o) hd)
  have hw' := Lib.hid (fun o w1 (m : Moved b s p (w.alloc o) w1) => wuint_any c none [] 0 w1 ((hw.alloc o).kept m.keeps hbc (fun _ h => by cases h)) (by simp) (by omega))
  have fin := Lib.hid (fun o w1 w2 l (m : Moved b s p (w.alloc o) w1) (k : Wrote c none l w1 w2) => Again.no m k hbc)
  skip
  clear h hw 
  go_enter Tryd.func23, Tryd.ntmps23
  go_wp2_with fail
  refine (hr.out _).mono ?_
  rintro e w1 ⟨rfl, h1⟩
  go_wp2_with fail
  refine (hw'.out _ _ h1).mono ?_
  rintro e w2 ⟨rfl, h2⟩
  have fin' := Lib.hid (fin.out _ _ _ _ h1 h2); clear h1 h2
  go_wp2
  go_ret
  exact fin'.out

set_option maxHeartbeats 400000 in
theorem again_8_lim (h : Rd b s p w) (hE : Errs ad w) (hw : Wr c none [] w) (hbc : c ≠ b) (he : o.kind = 8) (hm : o.n ≤ 9223372036854775807) (x n : Nat) (hd : varintD (rest s p) = .inr (x, n)) (hx : o.n < (x : Int)) :
    Calls Tryd.prog 23 #[.pointer (some ⟨b, 0, none⟩), .pointer (some ⟨c, 0, none⟩), o.val] w (Again b c s p w) := by
  obtain ⟨kind, sec, u, i, nn, mm, os, v, ss⟩ := o
  simp only at he
  subst he
  have hb := h.lt
  have hple := h.le
  have hsz := h.sz
  have hrl := rest_length s p
  simp only [OpD.val] at *
  have hr := Lib.hid (fun o => rupto_limit ad b s p x n nn (w.alloc o) (h.alloc o) (hE.alloc o) hd hx hm)
  have hw' := Lib.hid (fun o w1 (m : Moved b s p (w.alloc o) w1) => wuint_any c none [] 0 w1 ((hw.alloc o).kept m.keeps hbc (fun _ h => by cases h)) (by simp) (by omega))
  have fin := Lib.hid (fun o w1 w2 l (m : Moved b s p (w.alloc o) w1) (k : Wrote c none l w1 w2) => Again.no m k hbc)
  skip
  clear h hw 
  go_enter Tryd.func23, Tryd.ntmps23
  go_wp2_with fail
  refine (hr.out _).mono ?_
  rintro e w1 ⟨rfl, h1⟩
  go_wp2_with fail
  refine (hw'.out _ _ h1).mono ?_
  rintro e w2 ⟨rfl, h2⟩
  have fin' := Lib.hid (fin.out _ _ _ _ h1 h2); clear h1 h2
  go_wp2
  go_ret
  exact fin'.out

set_option maxHeartbeats 400000 in
theorem again_7_no (h : Rd b s p w) (hE : Errs ad w) (hO : OffErrs ad (fun k => k = b)) (hw : Wr c none [] w) (hbc : c ≠ b) (he : o.kind = 7) (hm : o.n ≤ 9223372036854775807) (hm2 : o.m ≤ 9223372036854775807) (hs40 : s.size ≤ 1099511627776) (x : Nat) (hd : textsD o.n o.m (rest s p) = .inl x) :
    Calls Tryd.prog 23 #[.pointer (some ⟨b, 0, none⟩), .pointer (some ⟨c, 0, none⟩), o.val] w (Again b c s p w) := by
  obtain ⟨kind, sec, u, i, nn, mm, os, v, ss⟩ := o
  simp only at he
  subst he
  have hb := h.lt
  have hple := h.le
  have hsz := h.sz
  have hrl := rest_length s p
  simp only [OpD.val] at *
  have hr := Lib.hid (fun o => rtexts_err ad b s p x nn mm (w.alloc o) (h.alloc o) (hE.alloc o) hO hs40 hm hm2 hd)
  have hw' := Lib.hid (fun o w1 (m : Moved b s p (w.alloc o) w1) => wtexts_any c none [] (.slice none 0 0) 0 0 [] w1 ((hw.alloc o).kept m.keeps hbc (fun _ h => by cases h)) ⟨⟨none, 0, rfl, fun h => absurd rfl h⟩, by simp, fun j s h => by simp at h⟩ (fun h => absurd rfl h) (by simp [eachB]))
  have fin := Lib.hid (fun o w1 w2 l (m : Moved b s p (w.alloc o) w1) (k : Wrote c none l w1 w2) => Again.no m k hbc)
  skip
  clear h hw 
  go_enter Tryd.func23, Tryd.ntmps23
  go_wp2_with fail
  refine (hr.out _).mono ?_
  rintro e w1 ⟨rfl, h1⟩
  go_wp2_with fail
  refine (hw'.out _ _ h1).mono ?_
  rintro e w2 ⟨rfl, h2⟩
  have fin' := Lib.hid (fin.out _ _ _ _ h1 h2); clear h1 h2
  go_wp2
  go_ret
  exact fin'.out

set_option maxHeartbeats 400000 in
theorem again_7_ok (h : Rd b s p w) (hE : Errs ad w) (hO : OffErrs ad (fun k => k = b)) (hw : Wr c none [] w) (hbc : c ≠ b) (he : o.kind = 7) (hm : o.n ≤ 9223372036854775807) (hm2 : o.m ≤ 9223372036854775807) (hs40 : s.size ≤ 1099511627776) (vs : List (List UInt8)) (n : Nat) (hd : textsD o.n o.m (rest s p) = .inr (vs, n)) :
    Calls Tryd.prog 23 #[.pointer (some ⟨b, 0, none⟩), .pointer (some ⟨c, 0, none⟩), o.val] w (Again b c s p w) := by
  obtain ⟨kind, sec, u, i, nn, mm, os, v, ss⟩ := o
  simp only at he
  subst he
  have hb := h.lt
  have hple := h.le
  have hrl := rest_length s p
  obtain ⟨hn1, ht1⟩ := textsD_inv hd
  have hform := take_of_inv hn1 ht1
  have hlen : (eachB vs).length + 20 ≤ 140737488355328 ∧ vs.length ≤ 140737488355328 := by
    obtain ⟨t, ht⟩ := ht1
    have h1 : (rest s p).length = (textsB vs ++ t).length := by rw [ht]
    have h2 := eachB_ge vs
    unfold textsB at h1
    rw [List.length_append, List.length_append] at h1
    omega
  simp only [OpD.val] at *
  have hcw := hw.lt
  have hr := Lib.hid (fun o => rtexts_ok ad b s p n vs nn mm (w.alloc o) (h.alloc o) (hE.alloc o) hO hs40 hm hm2 hd)
  have hw' := Lib.hid (fun o w1 x g (m : Moved b s (p + n) (w.alloc o) w1) (hs : Strs w1 x g 0 vs) (hg : vs ≠ [] → g ≠ c) => wtexts_any c none [] x g 0 vs w1 ((hw.alloc o).kept m.keeps hbc (fun _ h => by cases h)) hs (fun hne => ⟨hg hne, by simp⟩) (by simp only [List.length_nil]; omega))
  have fin := Lib.hid (fun o w1 w2 l (m : Moved b s (p + n) (w.alloc o) w1) (k : Wrote c none l w1 w2) (hform : l = (rest s p).take n) => Again.ok m k hbc hform)
  have hform2 := Lib.hid hform
  have hlen2 := hlen.2
  have ha : ∀ o, w.heap.size < (w.alloc o).heap.size := fun o => by simp
  have ha := Lib.hid ha
  clear h hw hform hlen ht1 hn1
  go_enter Tryd.func23, Tryd.ntmps23
  go_wp2_with fail
  refine (hr.out _).mono ?_
  rintro e w1 ⟨x, rfl, hns, h1⟩
  obtain ⟨g, hst, hgx⟩ := hns.strs hlen2
  have hgc : vs ≠ [] → g ≠ c := fun hne => by have h1 := hns.new g (hgx hne); have h2 := ha.out (.cells #[Value.int .i64 7, .bool sec, .int .u64 u, .int .i64 i, .int .i64 nn, .int .i64 mm, .string os, v] 30); omega
  have hst := Lib.hid hst
  have hgc := Lib.hid hgc
  clear hns hgx
  go_wp2_with fail
  refine (hw'.out _ _ _ _ h1 hst.out hgc.out).mono ?_
  rintro e w2 ⟨rfl, h2⟩
  have fin' := Lib.hid (fin.out _ _ _ _ h1 h2 hform2.out); clear h1 h2
  go_wp2
  go_ret
  exact fin'.out

set_option maxHeartbeats 400000 in
theorem again_0 (h : Rd b s p w) (hw : Wr c none [] w) (he : o.kind ≠ 1 ∧ o.kind ≠ 2 ∧ o.kind ≠ 3 ∧ o.kind ≠ 4 ∧ o.kind ≠ 5 ∧ o.kind ≠ 6 ∧ o.kind ≠ 7 ∧ o.kind ≠ 8) :
    Calls Tryd.prog 23 #[.pointer (some ⟨b, 0, none⟩), .pointer (some ⟨c, 0, none⟩), o.val] w (Again b c s p w) := by
  obtain ⟨kind, sec, u, i, nn, mm, os, v, ss⟩ := o
  obtain ⟨n1, n2, n3, n4, n5, n6, n7, n8⟩ := he
  simp only [OpD.val] at *
  have fin := Lib.hid (fun o => show Again b c s p w (.returned (.bool false)) (w.alloc o) from ⟨(Keeps.refl _ _).alloc o, .inr ⟨rfl, h.alloc o, _, _, hw.alloc o⟩⟩)
  clear h hw
  go_enter Tryd.func23, Tryd.ntmps23
  go_wp2
  go_ret
  exact fin.out _

theorem again_any (h : Rd b s p w) (hE : Errs ad w) (hO : OffErrs ad (fun k => k = b)) (hw : Wr c none [] w) (hbc : c ≠ b) (ho : o.Ok) (hs40 : s.size ≤ 1099511627776) :
    Calls Tryd.prog 23 #[.pointer (some ⟨b, 0, none⟩), .pointer (some ⟨c, 0, none⟩), o.val] w (Again b c s p w) := by
  have hn1 := ho.n1
  have hm1 := ho.m1
  by_cases k1 : o.kind = 1
  · cases hd : varintD (rest s p) with
    | inl e => exact again_1_no ad b c s p o w h hE hw hbc k1 e hd
    | inr z => exact again_1_ok ad b c s p o w h hE hw hbc k1 z.1 z.2 hd
  by_cases k2 : o.kind = 2
  · cases hd : varintD (rest s p) with
    | inl e => exact again_2_no ad b c s p o w h hE hw hbc k2 e hd
    | inr z => exact again_2_ok ad b c s p o w h hE hw hbc k2 z.1 z.2 hd
  by_cases k3 : o.kind = 3
  · by_cases hn : p + 8 ≤ s.size
    · exact again_3_ok b c s p o w h hw hbc k3 hn
    · exact again_3_no ad b c s p o w h hE hw hbc k3 (by omega)
  by_cases k4 : o.kind = 4
  · by_cases hn : p + 1 ≤ s.size
    · exact again_4_ok b c s p o w h hw hbc k4 hn
    · exact again_4_no ad b c s p o w h hE hw hbc k4 (by omega)
  by_cases k5 : o.kind = 5
  · by_cases hn : p + 4 ≤ s.size
    · by_cases hc : canon (lowN ((rest s p).take 4)) = lowN ((rest s p).take 4)
      · exact again_5_ok b c s p o w h hw hbc k5 hn hc
      · exact again_5_form ad b c s p o w h hE hO hw hbc k5 hn hc
    · exact again_5_no ad b c s p o w h hE hw hbc k5 (by omega)
  by_cases k6 : o.kind = 6
  · cases hd : textD o.n (rest s p) with
    | inl e => exact again_6_no ad b c s p o w h hE hO hw hbc k6 hn1 e hd
    | inr z => exact again_6_ok ad b c s p o w h hE hw hbc k6 hn1 hs40 z.1 z.2 hd
  by_cases k7 : o.kind = 7
  · cases hd : textsD o.n o.m (rest s p) with
    | inl e => exact again_7_no ad b c s p o w h hE hO hw hbc k7 hn1 hm1 hs40 e hd
    | inr z => exact again_7_ok ad b c s p o w h hE hO hw hbc k7 hn1 hm1 hs40 z.1 z.2 hd
  by_cases k8 : o.kind = 8
  · cases hd : varintD (rest s p) with
    | inl e => exact again_8_no ad b c s p o w h hE hw hbc k8 e hd
    | inr z =>
      by_cases hx : (z.1 : Int) ≤ o.n
      · exact again_8_ok ad b c s p o w h hE hw hbc k8 hn1 z.1 z.2 hd hx
      · exact again_8_lim ad b c s p o w h hE hw hbc k8 hn1 z.1 z.2 hd (by omega)
  exact again_0 b c s p o w h hw ⟨k1, k2, k3, k4, k5, k6, k7, k8⟩
end
end Go.Proofs.YtilhkbohemghlaaDoor
