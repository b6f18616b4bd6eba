/-
  The contract of remitlaw01.get: floats.
-/
import Derived.Test.YtilhkbohemghlaaDoorGet
namespace Go.Proofs.YtilhkbohemghlaaDoor
open Go.RowKit
set_option maxRecDepth 100000

section
variable (ad : Nat → Addr) (b : Nat) (s : ByteArray) (p : Nat) (o : OpD) (w : World) (lp : Value)

set_option maxHeartbeats 3200000 in
theorem get_5 (h : Rd b s p w) (hE : Errs ad w) (hO : OffErrs ad (fun k => k = b)) (he : o.kind = 5) :
    Calls Tryd.prog 15 #[.pointer (some ⟨b, 0, none⟩), .string s, .int .i64 p, o.val, lp] w (GotAt b s w) := by
  obtain ⟨kind, sec, u, i, nn, m, os, v, ss⟩ := o
  simp only at he
  subst he
  have hle := h.le
  have hsz := h.sz
  simp only [OpD.val] at *
  have hE' := Lib.hid (fun o => hE.alloc o)
  have hb0 := run_ext32bits 0
  by_cases hn : s.size - p < 4
  · have hr := Lib.hid (fun o => rfloat_short ad b s p (w.alloc o) (h.alloc o) (hE.alloc o) hn)
    have hg := Lib.hid (fun w1 => refGetFloat_short s p w1 hle (by omega) hn)
    clear h hE hn
    go_enter Tryd.func15, Tryd.ntmps15
    go_wp2_with fail
    refine (hr.out _).mono ?_
    rintro x w1 ⟨rfl, h1⟩
    have hE1 := (hE'.out _).kept h1.keeps hO
    go_wp2_with fail
    refine (hg.out w1).mono ?_
    rintro x w2 ⟨rfl, rfl⟩
    go_wp2_with fail
    refine (num_at ad w1 hE1 (e := 1) (by omega) (by omega)).mono ?_
    rintro x w2 ⟨rfl, k2⟩
    have fin := Lib.hid (box_moved (h1.quiet k2)); clear h1 k2 hE1
    go_wp2
    go_ret2
    exact ⟨p, rfl, fin.out⟩
  · have hn' : p + 4 ≤ s.size := by omega
    have hlt := lowN_lt ((rest s p).take 4)
    have h4 : ((rest s p).take 4).length = 4 := by rw [List.length_take, rest_length]; omega
    rw [h4] at hlt
    obtain ⟨x, hx⟩ : ∃ x, lowN ((rest s p).take 4) = x := ⟨_, rfl⟩
    rw [hx] at hlt
    have hlt' : x < 4294967296 := hlt
    by_cases hc : canon x = x
    · have hr := Lib.hid (fun o => rfloat_ok b s p (w.alloc o) (h.alloc o) hn' (by rw [hx]; exact hc))
      rw [hx] at hr
      have hg := Lib.hid (fun w1 => refGetFloat_ok s p x w1 (by omega) hn' hx hc)
      clear h hE hn h4 hlt hx
      by_cases hnan : x = 2143289344
      · subst hnan
        have ho2 : FloatKind.f32.format.order 2143289344 2143289344 = none := by decide
        have t2 : (FloatKind.f32.format.order 2143289344 2143289344 != some Ordering.eq) = true := by rw [ho2]; rfl
        clear ho2 hc
        generalize p + 4 = q at *
        go_enter Tryd.func15, Tryd.ntmps15
        go_wp2_with fail
        refine (hr.out _).mono ?_
        rintro y w1 ⟨rfl, h1⟩
        go_wp2_with fail
        refine (hg.out w1).mono ?_
        rintro y w2 ⟨rfl, rfl⟩
        have fin := Lib.hid (fun n => (box_moved h1).quiet ((Keeps.refl _ _).drewN n)); clear h1
        go_wp2
        go_quiet (fail)
        go_wp2
        go_ret2
        exact ⟨q, rfl, fin.out _⟩
      · have t1 : ((x : Int) == 2143289344) = false := by simp; omega
        have hbx := run_ext32bits x
        clear hnan hc hb0
        generalize p + 4 = q at *
        go_enter Tryd.func15, Tryd.ntmps15
        go_wp2_with fail
        refine (hr.out _).mono ?_
        rintro y w1 ⟨rfl, h1⟩
        go_wp2_with fail
        refine (hg.out w1).mono ?_
        rintro y w2 ⟨rfl, rfl⟩
        go_wp2_with fail
        refine (num_nil w1).mono ?_
        rintro y w2 ⟨rfl, rfl⟩
        have fin := Lib.hid (box_moved h1); clear h1
        go_wp2
        go_ret2
        exact ⟨q, rfl, fin.out⟩
    · have hr := Lib.hid (fun o => rfloat_form ad b s p (w.alloc o) (h.alloc o) (hE.alloc o) hO hn' (by rw [hx]; exact hc))
      have hg := Lib.hid (fun w1 => refGetFloat_form s p x w1 (by omega) hn' hx hc)
      clear h hE hn hc h4 hlt hx
      go_enter Tryd.func15, Tryd.ntmps15
      go_wp2_with fail
      refine (hr.out _).mono ?_
      rintro y w1 ⟨rfl, h1⟩
      have hE1 := (hE'.out _).kept h1.keeps hO
      go_wp2_with fail
      refine (hg.out w1).mono ?_
      rintro y w2 ⟨rfl, rfl⟩
      go_wp2_with fail
      refine (num_at ad w1 hE1 (e := 7) (by omega) (by omega)).mono ?_
      rintro y w2 ⟨rfl, k2⟩
      have fin := Lib.hid (box_moved (h1.quiet k2)); clear h1 k2 hE1
      go_wp2
      go_ret2
      exact ⟨p, rfl, fin.out⟩
end
end Go.Proofs.YtilhkbohemghlaaDoor
