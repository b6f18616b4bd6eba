/-
  The contract of remitlaw01.get: what a Reader answers is what the document says. Kinds without a list.
-/
import Derived.Test.YtilhkbohemghlaaDoorRefR3
import Derived.Test.YtilhkbohemghlaaDoorOps
namespace Go.Proofs.YtilhkbohemghlaaDoor
open Go.RowKit
set_option maxRecDepth 100000

theorem num_at (ad : Nat → Addr) {e : Nat} (w : World) (hE : Errs ad w) (h1 : 1 ≤ e) (h2 : e ≤ 37) :
    Calls Tryd.prog 18 #[.iface 131 (.pointer (some (ad e)))] w fun x w' => x = .returned (.int .i64 e) ∧ Keeps (fun _ => False) w w' := by
  have q := num_any ad e w hE h2
  rw [errV_pos ad h1] at q
  exact q

/-- What get answers, and where the Reader then is. -/
def GotAt (b : Nat) (s : ByteArray) (w : World) (e : Ending) (w' : World) : Prop := ∃ q : Nat, e = .returned (.tuple #[.int .i64 q, .bool true]) ∧ Moved b s q w w'

section
variable (ad : Nat → Addr) (b : Nat) (s : ByteArray) (p : Nat) (o : OpD) (w : World) (lp : Value)

set_option maxHeartbeats 1600000 in
theorem get_1 (h : Rd b s p w) (hE : Errs ad w) (hO : OffErrs ad (fun k => k = b)) (he : o.kind = 1) :
    Calls Tryd.prog 15 #[.pointer (some ⟨b, 0, none⟩), .string s, .int .i64 p, o.val, lp] w (GotAt b s w) := by
  obtain ⟨kind, sec, u, i, nn, m, os, v, ss⟩ := o
  simp only at he
  subst he
  have hle := h.le
  have hsz := h.sz
  simp only [OpD.val] at *
  have hE' := Lib.hid (fun o => hE.alloc o)
  cases hd : varintD (rest s p) with
  | inl e =>
    have he := vd_err _ _ _ _ hd
    have he1 : 1 ≤ e ∧ e ≤ 37 := by omega
    have hr := Lib.hid (fun o => ruint_err ad b s p e (w.alloc o) (h.alloc o) (hE.alloc o) hd)
    have hg := Lib.hid (fun w1 => refGetUint_err s p e w1 hle (by omega) hd)
    clear h hE hd he
    go_enter Tryd.func15, Tryd.ntmps15
    go_wp2_with fail
    refine (hr.out _).mono ?_
    rintro x w1 ⟨rfl, h1⟩
    have hE1 := (hE'.out _).kept h1.keeps hO
    go_wp2_with fail
    refine (hg.out w1).mono ?_
    rintro x w2 ⟨rfl, rfl⟩
    go_wp2_with fail
    refine (num_at ad w1 hE1 he1.1 he1.2).mono ?_
    rintro x w2 ⟨rfl, k2⟩
    have fin := Lib.hid (box_moved (h1.quiet k2)); clear h1 k2 hE1
    go_wp2
    go_ret2
    exact ⟨p, rfl, fin.out⟩
  | inr z =>
    obtain ⟨x, n⟩ := z
    have hr := Lib.hid (fun o => ruint_ok ad b s p x n (w.alloc o) (h.alloc o) (hE.alloc o) hd)
    have hg := Lib.hid (fun w1 => refGetUint_ok s p x n w1 hle (by omega) hd)
    clear h hE hd
    generalize p + n = q at *
    go_enter Tryd.func15, Tryd.ntmps15
    go_wp2_with fail
    refine (hr.out _).mono ?_
    rintro y w1 ⟨rfl, h1⟩
    go_wp2_with fail
    refine (hg.out w1).mono ?_
    rintro y w2 ⟨rfl, rfl⟩
    go_wp2_with fail
    refine (num_nil w1).mono ?_
    rintro y w2 ⟨rfl, rfl⟩
    have fin := Lib.hid (box_moved h1); clear h1
    go_wp2
    go_ret2
    exact ⟨q, rfl, fin.out⟩
set_option maxHeartbeats 1600000 in
theorem get_2 (h : Rd b s p w) (hE : Errs ad w) (hO : OffErrs ad (fun k => k = b)) (he : o.kind = 2) :
    Calls Tryd.prog 15 #[.pointer (some ⟨b, 0, none⟩), .string s, .int .i64 p, o.val, lp] w (GotAt b s w) := by
  obtain ⟨kind, sec, u, i, nn, m, os, v, ss⟩ := o
  simp only at he
  subst he
  have hle := h.le
  have hsz := h.sz
  simp only [OpD.val] at *
  have hE' := Lib.hid (fun o => hE.alloc o)
  cases hd : varintD (rest s p) with
  | inl e =>
    have he := vd_err _ _ _ _ hd
    have he1 : 1 ≤ e ∧ e ≤ 37 := by omega
    have hr := Lib.hid (fun o => rint_err ad b s p e (w.alloc o) (h.alloc o) (hE.alloc o) hd)
    have hg := Lib.hid (fun w1 => refGetInt_err s p e w1 hle (by omega) hd)
    clear h hE hd he
    go_enter Tryd.func15, Tryd.ntmps15
    go_wp2_with fail
    refine (hr.out _).mono ?_
    rintro x w1 ⟨rfl, h1⟩
    have hE1 := (hE'.out _).kept h1.keeps hO
    go_wp2_with fail
    refine (hg.out w1).mono ?_
    rintro x w2 ⟨rfl, rfl⟩
    go_wp2_with fail
    refine (num_at ad w1 hE1 he1.1 he1.2).mono ?_
    rintro x w2 ⟨rfl, k2⟩
    have fin := Lib.hid (box_moved (h1.quiet k2)); clear h1 k2 hE1
    go_wp2
    go_ret2
    exact ⟨p, rfl, fin.out⟩
  | inr z =>
    obtain ⟨x, n⟩ := z
    have hr := Lib.hid (fun o => rint_ok ad b s p x n (w.alloc o) (h.alloc o) (hE.alloc o) hd)
    have hg := Lib.hid (fun w1 => refGetInt_ok s p x n w1 hle (by omega) hd)
    clear h hE hd
    generalize p + n = q at *
    go_enter Tryd.func15, Tryd.ntmps15
    go_wp2_with fail
    refine (hr.out _).mono ?_
    rintro y w1 ⟨rfl, h1⟩
    go_wp2_with fail
    refine (hg.out w1).mono ?_
    rintro y w2 ⟨rfl, rfl⟩
    go_wp2_with fail
    refine (num_nil w1).mono ?_
    rintro y w2 ⟨rfl, rfl⟩
    have fin := Lib.hid (box_moved h1); clear h1
    go_wp2
    go_ret2
    exact ⟨q, rfl, fin.out⟩
set_option maxHeartbeats 1600000 in
theorem get_8 (h : Rd b s p w) (hE : Errs ad w) (hO : OffErrs ad (fun k => k = b)) (ho : o.Ok) (he : o.kind = 8) :
    Calls Tryd.prog 15 #[.pointer (some ⟨b, 0, none⟩), .string s, .int .i64 p, o.val, lp] w (GotAt b s w) := by
  obtain ⟨kind, sec, u, i, nn, m, os, v, ss⟩ := o
  simp only at he
  subst he
  have hle := h.le
  have hb := h.lt
  have hn1 := ho.n1
  clear ho
  have hsz := h.sz
  simp only [OpD.val] at *
  have hE' := Lib.hid (fun o => hE.alloc o)
  cases hd : varintD (rest s p) with
  | inl e =>
    have he := vd_err _ _ _ _ hd
    have he1 : 1 ≤ e ∧ e ≤ 37 := by omega
    have hr := Lib.hid (fun o => rupto_err ad b s p e nn (w.alloc o) (h.alloc o) (hE.alloc o) hd)
    have hg := Lib.hid (fun w1 => refGetUpto_err s p e nn w1 hle (by omega) hd)
    clear h hE hd he
    go_enter Tryd.func15, Tryd.ntmps15
    go_wp2_with fail
    refine (hr.out _).mono ?_
    rintro x w1 ⟨rfl, h1⟩
    have hE1 := (hE'.out _).kept h1.keeps hO
    have d4 : w1.cell? ⟨w.heap.size, 4, none⟩ = some (.int .i64 nn) := box_kept h1 hb 4
    go_wp2_with fail
    refine (hg.out w1).mono ?_
    rintro x w2 ⟨rfl, rfl⟩
    go_wp2_with fail
    refine (num_at ad w1 hE1 he1.1 he1.2).mono ?_
    rintro x w2 ⟨rfl, k2⟩
    have fin := Lib.hid (box_moved (h1.quiet k2)); clear h1 k2 hE1
    go_wp2
    go_ret2
    exact ⟨p, rfl, fin.out⟩
  | inr z =>
    obtain ⟨x, n⟩ := z
    by_cases hx : nn < (x : Int)
    · have hr := Lib.hid (fun o => rupto_limit ad b s p x n nn (w.alloc o) (h.alloc o) (hE.alloc o) hd hx hn1)
      have hg := Lib.hid (fun w1 => refGetUpto_limit s p x n nn w1 hle (by omega) hd hx hn1)
      clear h hE hd hx
      go_enter Tryd.func15, Tryd.ntmps15
      go_wp2_with fail
      refine (hr.out _).mono ?_
      rintro y w1 ⟨rfl, h1⟩
      have hE1 := (hE'.out _).kept h1.keeps hO
      have d4 : w1.cell? ⟨w.heap.size, 4, none⟩ = some (.int .i64 nn) := box_kept h1 hb 4
      go_wp2_with fail
      refine (hg.out w1).mono ?_
      rintro x w2 ⟨rfl, rfl⟩
      go_wp2_with fail
      refine (num_at ad w1 hE1 (e := 3) (by omega) (by omega)).mono ?_
      rintro x w2 ⟨rfl, k2⟩
      have fin := Lib.hid (box_moved (h1.quiet k2)); clear h1 k2 hE1 d4
      go_wp2
      go_ret2
      exact ⟨p, rfl, fin.out⟩
    · have hr := Lib.hid (fun o => rupto_ok ad b s p x n nn (w.alloc o) (h.alloc o) (hE.alloc o) hd (by omega) hn1)
      have hg := Lib.hid (fun w1 => refGetUpto_ok s p x n nn w1 hle (by omega) hd (by omega) hn1)
      clear h hE hd hx
      generalize p + n = q at *
      go_enter Tryd.func15, Tryd.ntmps15
      go_wp2_with fail
      refine (hr.out _).mono ?_
      rintro y w1 ⟨rfl, h1⟩
      have d4 : w1.cell? ⟨w.heap.size, 4, none⟩ = some (.int .i64 nn) := box_kept h1 hb 4
      go_wp2_with fail
      refine (hg.out w1).mono ?_
      rintro y w2 ⟨rfl, rfl⟩
      go_wp2_with fail
      refine (num_nil w1).mono ?_
      rintro y w2 ⟨rfl, rfl⟩
      have fin := Lib.hid (box_moved h1); clear h1 d4
      go_wp2
      go_ret2
      exact ⟨q, rfl, fin.out⟩

set_option maxHeartbeats 1600000 in
theorem get_3 (h : Rd b s p w) (hE : Errs ad w) (hO : OffErrs ad (fun k => k = b)) (he : o.kind = 3) :
    Calls Tryd.prog 15 #[.pointer (some ⟨b, 0, none⟩), .string s, .int .i64 p, o.val, lp] w (GotAt b s w) := by
  obtain ⟨kind, sec, u, i, nn, m, os, v, ss⟩ := o
  simp only at he
  subst he
  have hle := h.le
  have hsz := h.sz
  simp only [OpD.val] at *
  have hE' := Lib.hid (fun o => hE.alloc o)
  by_cases hn : s.size - p < 8
  · have hr := Lib.hid (fun o => rfixed_short ad b s p (w.alloc o) (h.alloc o) (hE.alloc o) hn)
    have hg := Lib.hid (fun w1 => refGetLow_short s p 8 w1 hle (by omega) hn (by decide))
    clear h hE hn
    go_enter Tryd.func15, Tryd.ntmps15
    go_wp2_with fail
    refine (hr.out _).mono ?_
    rintro x w1 ⟨rfl, h1⟩
    have hE1 := (hE'.out _).kept h1.keeps hO
    go_wp2_with fail
    refine (hg.out w1).mono ?_
    rintro x w2 ⟨rfl, rfl⟩
    go_wp2_with fail
    refine (num_at ad w1 hE1 (e := 1) (by omega) (by omega)).mono ?_
    rintro x w2 ⟨rfl, k2⟩
    have fin := Lib.hid (box_moved (h1.quiet k2)); clear h1 k2 hE1
    go_wp2
    go_ret2
    exact ⟨p, rfl, fin.out⟩
  · have hn' : p + 8 ≤ s.size := by omega
    have hr := Lib.hid (fun o => rfixed_ok b s p (w.alloc o) (h.alloc o) hn')
    have hg := Lib.hid (fun w1 => refGetLow_ok s p 8 w1 (by omega) hn' (by decide))
    have hlt := lowN_lt ((rest s p).take 8)
    have h4 : ((rest s p).take 8).length = 8 := by rw [List.length_take, rest_length]; omega
    rw [h4] at hlt
    have hlt' : lowN ((rest s p).take 8) < 18446744073709551616 := hlt
    clear h hE hn hlt h4
    generalize p + 8 = q at *
    generalize lowN ((rest s p).take 8) = x at *
    go_enter Tryd.func15, Tryd.ntmps15
    go_wp2_with fail
    refine (hr.out _).mono ?_
    rintro y w1 ⟨rfl, h1⟩
    go_wp2_with fail
    refine (hg.out w1).mono ?_
    rintro y w2 ⟨rfl, rfl⟩
    go_wp2_with fail
    refine (num_nil w1).mono ?_
    rintro y w2 ⟨rfl, rfl⟩
    have fin := Lib.hid (box_moved h1); clear h1
    go_wp2
    go_ret2
    exact ⟨q, rfl, fin.out⟩

set_option maxHeartbeats 1600000 in
theorem get_4 (h : Rd b s p w) (hE : Errs ad w) (hO : OffErrs ad (fun k => k = b)) (he : o.kind = 4) :
    Calls Tryd.prog 15 #[.pointer (some ⟨b, 0, none⟩), .string s, .int .i64 p, o.val, lp] w (GotAt b s w) := by
  obtain ⟨kind, sec, u, i, nn, m, os, v, ss⟩ := o
  simp only at he
  subst he
  have hle := h.le
  have hsz := h.sz
  simp only [OpD.val] at *
  have hE' := Lib.hid (fun o => hE.alloc o)
  by_cases hn : s.size - p < 1
  · have hr := Lib.hid (fun o => rbyte_short ad b s p (w.alloc o) (h.alloc o) (hE.alloc o) hn)
    have hg := Lib.hid (fun w1 => refGetLow_short s p 1 w1 hle (by omega) hn (by decide))
    clear h hE hn
    go_enter Tryd.func15, Tryd.ntmps15
    go_wp2_with fail
    refine (hr.out _).mono ?_
    rintro x w1 ⟨rfl, h1⟩
    have hE1 := (hE'.out _).kept h1.keeps hO
    go_wp2_with fail
    refine (hg.out w1).mono ?_
    rintro x w2 ⟨rfl, rfl⟩
    go_wp2_with fail
    refine (num_at ad w1 hE1 (e := 1) (by omega) (by omega)).mono ?_
    rintro x w2 ⟨rfl, k2⟩
    have fin := Lib.hid (box_moved (h1.quiet k2)); clear h1 k2 hE1
    go_wp2
    go_ret2
    exact ⟨p, rfl, fin.out⟩
  · have hn' : p + 1 ≤ s.size := by omega
    have hr := Lib.hid (fun o => rbyte_ok b s p (w.alloc o) (h.alloc o) hn')
    have hg := Lib.hid (fun w1 => refGetLow_ok s p 1 w1 (by omega) hn' (by decide))
    have hlt := lowN_lt ((rest s p).take 1)
    have h4 : ((rest s p).take 1).length = 1 := by rw [List.length_take, rest_length]; omega
    rw [h4] at hlt
    have hlt' : lowN ((rest s p).take 1) < 256 := hlt
    clear h hE hn hlt h4
    generalize p + 1 = q at *
    generalize lowN ((rest s p).take 1) = x at *
    go_enter Tryd.func15, Tryd.ntmps15
    go_wp2_with fail
    refine (hr.out _).mono ?_
    rintro y w1 ⟨rfl, h1⟩
    go_wp2_with fail
    refine (hg.out w1).mono ?_
    rintro y w2 ⟨rfl, rfl⟩
    go_wp2_with fail
    refine (num_nil w1).mono ?_
    rintro y w2 ⟨rfl, rfl⟩
    have fin := Lib.hid (box_moved h1); clear h1
    go_wp2
    go_ret2
    exact ⟨q, rfl, fin.out⟩

set_option maxHeartbeats 1600000 in
theorem get_6 (h : Rd b s p w) (hE : Errs ad w) (hO : OffErrs ad (fun k => k = b)) (ho : o.Ok) (he : o.kind = 6) :
    Calls Tryd.prog 15 #[.pointer (some ⟨b, 0, none⟩), .string s, .int .i64 p, o.val, lp] w (GotAt b s w) := by
  obtain ⟨kind, sec, u, i, nn, m, os, v, ss⟩ := o
  simp only at he
  subst he
  have hle := h.le
  have hb := h.lt
  have hsz := h.sz
  have hn1 := ho.n1
  clear ho
  simp only [OpD.val] at *
  have hE' := Lib.hid (fun o => hE.alloc o)
  cases hd : textD nn (rest s p) with
  | inl e =>
    have he := textD_err hd
    have hr := Lib.hid (fun o => rtext_err ad b s p e nn (w.alloc o) (h.alloc o) (hE.alloc o) hO hn1 hd)
    have hg := Lib.hid (fun w1 => refGetText_err s p e nn w1 hle (by omega) hn1 hd)
    clear h hE hd
    go_enter Tryd.func15, Tryd.ntmps15
    go_wp2_with fail
    refine (hr.out _).mono ?_
    rintro x w1 ⟨rfl, h1⟩
    have hE1 := (hE'.out _).kept h1.keeps hO
    have d4 : w1.cell? ⟨w.heap.size, 4, none⟩ = some (.int .i64 nn) := box_kept h1 hb 4
    go_wp2_with fail
    refine (hg.out w1).mono ?_
    rintro x w2 ⟨rfl, rfl⟩
    go_wp2_with fail
    refine (num_at ad w1 hE1 he.1 (by omega)).mono ?_
    rintro x w2 ⟨rfl, k2⟩
    have fin := Lib.hid (box_moved (h1.quiet k2)); clear h1 k2 hE1 d4
    go_wp2
    go_ret2
    exact ⟨p, rfl, fin.out⟩
  | inr z =>
    obtain ⟨x, n⟩ := z
    have hr := Lib.hid (fun o => rtext_ok ad b s p n x nn (w.alloc o) (h.alloc o) (hE.alloc o) hn1 hd)
    have hg := Lib.hid (fun w1 => refGetText_ok s p n x nn w1 hle (by omega) hn1 hd)
    clear h hE hd
    generalize p + n = q at *
    generalize (⟨x.toArray⟩ : ByteArray) = X at *
    go_enter Tryd.func15, Tryd.ntmps15
    go_wp2_with fail
    refine (hr.out _).mono ?_
    rintro y w1 ⟨rfl, h1⟩
    have d4 : w1.cell? ⟨w.heap.size, 4, none⟩ = some (.int .i64 nn) := box_kept h1 hb 4
    go_wp2_with fail
    refine (hg.out w1).mono ?_
    rintro y w2 ⟨rfl, rfl⟩
    go_wp2_with fail
    refine (num_nil w1).mono ?_
    rintro y w2 ⟨rfl, rfl⟩
    have fin := Lib.hid (box_moved h1); clear h1 d4
    go_wp2
    go_ret2
    exact ⟨q, rfl, fin.out⟩

set_option maxHeartbeats 1600000 in
theorem get_0 (h : Rd b s p w) (he : o.kind ≠ 1 ∧ o.kind ≠ 2 ∧ o.kind ≠ 3 ∧ o.kind ≠ 4 ∧ o.kind ≠ 5 ∧ o.kind ≠ 6 ∧ o.kind ≠ 7 ∧ o.kind ≠ 8) :
    Calls Tryd.prog 15 #[.pointer (some ⟨b, 0, none⟩), .string s, .int .i64 p, o.val, lp] w (GotAt b s w) := by
  obtain ⟨kind, sec, u, i, nn, m, os, v, ss⟩ := o
  simp only [OpD.val] at *
  obtain ⟨e1, e2, e3, e4, e5, e6, e7, e8⟩ := he
  have t1 : (kind == 1) = false := beq_eq_false_iff_ne.2 e1
  have t2 : (kind == 2) = false := beq_eq_false_iff_ne.2 e2
  have t3 : (kind == 3) = false := beq_eq_false_iff_ne.2 e3
  have t4 : (kind == 4) = false := beq_eq_false_iff_ne.2 e4
  have t5 : (kind == 5) = false := beq_eq_false_iff_ne.2 e5
  have t6 : (kind == 6) = false := beq_eq_false_iff_ne.2 e6
  have t7 : (kind == 7) = false := beq_eq_false_iff_ne.2 e7
  have t8 : (kind == 8) = false := beq_eq_false_iff_ne.2 e8
  clear e1 e2 e3 e4 e5 e6 e7 e8
  have h' := Lib.hid (fun o => (⟨h.alloc o, (Keeps.refl _ _).alloc o⟩ : Moved b s p w (w.alloc o)))
  clear h
  go_enter Tryd.func15, Tryd.ntmps15
  go_wp2
  go_ret2
  exact ⟨p, rfl, h'.out _⟩
end
end Go.Proofs.YtilhkbohemghlaaDoor
