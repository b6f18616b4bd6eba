/-
  The contracts of remitlaw01.shorts.
-/
import Derived.Test.YtilhkbohemghlaaDoorReads2
namespace Go.Proofs.YtilhkbohemghlaaDoor
open Go.RowKit
set_option maxRecDepth 100000

section
variable (ad : Nat → Addr) (b : Nat) (s : ByteArray) (p : Nat) (o : OpD) (w : World)

set_option maxHeartbeats 400000 in
theorem shorts_1 (h : Rd b s p w) (hE : Errs ad w) (hO : OffErrs ad (fun k => k = b)) (he : o.kind = 1) (hd : varintD (rest s p) = .inl 1) :
    Calls Tryd.prog 24 #[.pointer (some ⟨b, 0, none⟩), o.val] w fun e w' => e = .returned (.bool true) ∧ Moved b s p w w' := by
  obtain ⟨kind, sec, u, i, nn, m, os, v, ss⟩ := o
  simp only at he
  subst he
  have hb := h.lt
  have hle := h.le
  simp only [OpD.val] at *
  have hE' := Lib.hid (fun o => hE.alloc o)
  have hr := Lib.hid (fun o => ruint_err ad b s p 1 (w.alloc o) (h.alloc o) (hE.alloc o) hd)
  clear h hE
  go_enter Tryd.func24, Tryd.ntmps24
  go_wp2_with fail
  refine (hr.out _).mono ?_
  rintro e w1 ⟨rfl, h1⟩
  have hE1 := (hE'.out _).kept h1.keeps hO
  go_wp2_with fail
  refine (num_pos ad 0 w1 hE1 (by omega)).mono ?_
  rintro e w2 ⟨rfl, k2⟩
  have fin := Lib.hid (box_moved (h1.quiet k2)); clear h1 k2 hE1
  go_wp2
  go_ret
  exact ⟨rfl, fin.out⟩

set_option maxHeartbeats 400000 in
theorem shorts_8 (h : Rd b s p w) (hE : Errs ad w) (hO : OffErrs ad (fun k => k = b)) (he : o.kind = 8) (hd : varintD (rest s p) = .inl 1) :
    Calls Tryd.prog 24 #[.pointer (some ⟨b, 0, none⟩), o.val] w fun e w' => e = .returned (.bool true) ∧ Moved b s p w w' := by
  obtain ⟨kind, sec, u, i, nn, m, os, v, ss⟩ := o
  simp only at he
  subst he
  have hb := h.lt
  have hle := h.le
  simp only [OpD.val] at *
  have hE' := Lib.hid (fun o => hE.alloc o)
  have hr := Lib.hid (fun o => rupto_err ad b s p 1 9223372036854775807 (w.alloc o) (h.alloc o) (hE.alloc o) hd)
  clear h hE
  go_enter Tryd.func24, Tryd.ntmps24
  go_wp2_with fail
  refine (hr.out _).mono ?_
  rintro e w1 ⟨rfl, h1⟩
  have hE1 := (hE'.out _).kept h1.keeps hO
  go_wp2_with fail
  refine (num_pos ad 0 w1 hE1 (by omega)).mono ?_
  rintro e w2 ⟨rfl, k2⟩
  have fin := Lib.hid (box_moved (h1.quiet k2)); clear h1 k2 hE1
  go_wp2
  go_ret
  exact ⟨rfl, fin.out⟩

set_option maxHeartbeats 400000 in
theorem shorts_2 (h : Rd b s p w) (hE : Errs ad w) (hO : OffErrs ad (fun k => k = b)) (he : o.kind = 2) (hd : varintD (rest s p) = .inl 1) :
    Calls Tryd.prog 24 #[.pointer (some ⟨b, 0, none⟩), o.val] w fun e w' => e = .returned (.bool true) ∧ Moved b s p w w' := by
  obtain ⟨kind, sec, u, i, nn, m, os, v, ss⟩ := o
  simp only at he
  subst he
  have hb := h.lt
  have hle := h.le
  simp only [OpD.val] at *
  have hE' := Lib.hid (fun o => hE.alloc o)
  have hr := Lib.hid (fun o => rint_err ad b s p 1 (w.alloc o) (h.alloc o) (hE.alloc o) hd)
  clear h hE
  go_enter Tryd.func24, Tryd.ntmps24
  go_wp2_with fail
  refine (hr.out _).mono ?_
  rintro e w1 ⟨rfl, h1⟩
  have hE1 := (hE'.out _).kept h1.keeps hO
  go_wp2_with fail
  refine (num_pos ad 0 w1 hE1 (by omega)).mono ?_
  rintro e w2 ⟨rfl, k2⟩
  have fin := Lib.hid (box_moved (h1.quiet k2)); clear h1 k2 hE1
  go_wp2
  go_ret
  exact ⟨rfl, fin.out⟩

set_option maxHeartbeats 400000 in
theorem shorts_3 (h : Rd b s p w) (hE : Errs ad w) (hO : OffErrs ad (fun k => k = b)) (he : o.kind = 3) (hn : s.size - p < 8) :
    Calls Tryd.prog 24 #[.pointer (some ⟨b, 0, none⟩), o.val] w fun e w' => e = .returned (.bool true) ∧ Moved b s p w w' := by
  obtain ⟨kind, sec, u, i, nn, m, os, v, ss⟩ := o
  simp only at he
  subst he
  have hb := h.lt
  have hle := h.le
  simp only [OpD.val] at *
  have hE' := Lib.hid (fun o => hE.alloc o)
  have hr := Lib.hid (fun o => rfixed_short ad b s p (w.alloc o) (h.alloc o) (hE.alloc o) hn)
  clear h hE
  go_enter Tryd.func24, Tryd.ntmps24
  go_wp2_with fail
  refine (hr.out _).mono ?_
  rintro e w1 ⟨rfl, h1⟩
  have hE1 := (hE'.out _).kept h1.keeps hO
  go_wp2_with fail
  refine (num_pos ad 0 w1 hE1 (by omega)).mono ?_
  rintro e w2 ⟨rfl, k2⟩
  have fin := Lib.hid (box_moved (h1.quiet k2)); clear h1 k2 hE1
  go_wp2
  go_ret
  exact ⟨rfl, fin.out⟩

set_option maxHeartbeats 400000 in
theorem shorts_4 (h : Rd b s p w) (hE : Errs ad w) (hO : OffErrs ad (fun k => k = b)) (he : o.kind = 4) (hn : s.size - p < 1) :
    Calls Tryd.prog 24 #[.pointer (some ⟨b, 0, none⟩), o.val] w fun e w' => e = .returned (.bool true) ∧ Moved b s p w w' := by
  obtain ⟨kind, sec, u, i, nn, m, os, v, ss⟩ := o
  simp only at he
  subst he
  have hb := h.lt
  have hle := h.le
  simp only [OpD.val] at *
  have hE' := Lib.hid (fun o => hE.alloc o)
  have hr := Lib.hid (fun o => rbyte_short ad b s p (w.alloc o) (h.alloc o) (hE.alloc o) hn)
  clear h hE
  go_enter Tryd.func24, Tryd.ntmps24
  go_wp2_with fail
  refine (hr.out _).mono ?_
  rintro e w1 ⟨rfl, h1⟩
  have hE1 := (hE'.out _).kept h1.keeps hO
  go_wp2_with fail
  refine (num_pos ad 0 w1 hE1 (by omega)).mono ?_
  rintro e w2 ⟨rfl, k2⟩
  have fin := Lib.hid (box_moved (h1.quiet k2)); clear h1 k2 hE1
  go_wp2
  go_ret
  exact ⟨rfl, fin.out⟩

set_option maxHeartbeats 400000 in
theorem shorts_5 (h : Rd b s p w) (hE : Errs ad w) (hO : OffErrs ad (fun k => k = b)) (he : o.kind = 5) (hn : s.size - p < 4) :
    Calls Tryd.prog 24 #[.pointer (some ⟨b, 0, none⟩), o.val] w fun e w' => e = .returned (.bool true) ∧ Moved b s p w w' := by
  obtain ⟨kind, sec, u, i, nn, m, os, v, ss⟩ := o
  simp only at he
  subst he
  have hb := h.lt
  have hle := h.le
  simp only [OpD.val] at *
  have hE' := Lib.hid (fun o => hE.alloc o)
  have hr := Lib.hid (fun o => rfloat_short ad b s p (w.alloc o) (h.alloc o) (hE.alloc o) hn)
  clear h hE
  go_enter Tryd.func24, Tryd.ntmps24
  go_wp2_with fail
  refine (hr.out _).mono ?_
  rintro e w1 ⟨rfl, h1⟩
  have hE1 := (hE'.out _).kept h1.keeps hO
  go_wp2_with fail
  refine (num_pos ad 0 w1 hE1 (by omega)).mono ?_
  rintro e w2 ⟨rfl, k2⟩
  have fin := Lib.hid (box_moved (h1.quiet k2)); clear h1 k2 hE1
  go_wp2
  go_ret
  exact ⟨rfl, fin.out⟩

set_option maxHeartbeats 400000 in
theorem shorts_6 (h : Rd b s p w) (hE : Errs ad w) (hO : OffErrs ad (fun k => k = b)) (he : o.kind = 6) (hs : o.s.size ≤ 140737488355328) (hd : textD (o.s.size : Int) (rest s p) = .inl 1) :
    Calls Tryd.prog 24 #[.pointer (some ⟨b, 0, none⟩), o.val] w fun e w' => e = .returned (.bool true) ∧ Moved b s p w w' := by
  obtain ⟨kind, sec, u, i, nn, m, os, v, ss⟩ := o
  simp only at he
  subst he
  have hb := h.lt
  have hle := h.le
  simp only [OpD.val] at *
  have hE' := Lib.hid (fun o => hE.alloc o)
  have hr := Lib.hid (fun o => rtext_err ad b s p 1 (os.size : Int) (w.alloc o) (h.alloc o) (hE.alloc o) hO (by omega) hd)
  clear h hE
  go_enter Tryd.func24, Tryd.ntmps24
  go_wp2_with fail
  refine (hr.out _).mono ?_
  rintro e w1 ⟨rfl, h1⟩
  have hE1 := (hE'.out _).kept h1.keeps hO
  go_wp2_with fail
  refine (num_pos ad 0 w1 hE1 (by omega)).mono ?_
  rintro e w2 ⟨rfl, k2⟩
  have fin := Lib.hid (box_moved (h1.quiet k2)); clear h1 k2 hE1
  go_wp2
  go_ret
  exact ⟨rfl, fin.out⟩

set_option maxHeartbeats 1600000 in
theorem shorts_7 (h : Rd b s p w) (hE : Errs ad w) (hO : OffErrs ad (fun k => k = b)) (he : o.kind = 7) (hs40 : s.size ≤ 1099511627776) (g g0 : Nat) (hs : Strs w o.v g g0 o.ss) (hl : ∀ x ∈ o.ss, x.length ≤ 140737488355328)
    (hd : textsD (o.ss.length : Int) (longestN o.ss : Int) (rest s p) = .inl 1) (hlong : longestN o.ss ≤ 140737488355328) :
    Calls Tryd.prog 24 #[.pointer (some ⟨b, 0, none⟩), o.val] w fun e w' => e = .returned (.bool true) ∧ Moved b s p w w' := by
  obtain ⟨kind, sec, u, i, nn, m, os, v, ss⟩ := o
  simp only at he
  subst he
  have hb := h.lt
  simp only [OpD.val] at *
  have hle := hs.le
  obtain ⟨a, cap, hv, _⟩ := hs.val
  subst hv
  have hst : ∀ w, Strs w (.slice a ss.length cap) g g0 ss → Calls Tryd.prog 29 #[.slice a ss.length cap] w fun e w' => e = .returned (.int .i64 (longestN ss)) ∧ w = w' := fun w q => (longest_any _ g g0 ss w q hl).mono fun _ _ ⟨he, hw⟩ => ⟨he, hw.symm⟩
  have hr := Lib.hid (fun (w1 : World) (q : Rd b s p w1) (hE1 : Errs ad w1) => rtexts_err ad b s p 1 (ss.length : Int) (longestN ss : Int) w1 q hE1 hO hs40 (by omega) (by omega) hd)
  have hst' := Lib.hid hst
  have hs' := Lib.hid (fun o => hs.alloc o)
  have h' := Lib.hid (fun o => h.alloc o)
  have hE' := Lib.hid (fun o => hE.alloc o)
  have hO' := Lib.hid hO
  clear h hE hd hO hs hl hst
  go_enter Tryd.func24, Tryd.ntmps24
  go_wp2
  have cbox : ∀ C t, (w.alloc (.cells C t)).cell? ⟨w.heap.size, 7, none⟩ = C[7]? := fun C t => cell_of_row _ _ _ _ _ _ (heap_alloc_new w _)
  have hk0 : ∀ o, Keeps (fun k => k = b) w (w.alloc o) := fun o => (Keeps.refl _ _).alloc o
  generalize hW : w.alloc _ = W
  have c7 : W.cell? ⟨w.heap.size, 7, none⟩ = some (.slice a ss.length cap) := by rw [← hW, cbox]; rfl
  have hsW := Lib.hid (hW ▸ hs'.out _)
  have hRW := Lib.hid (hW ▸ h'.out _)
  have hEW := Lib.hid (hW ▸ hE'.out _)
  have hKW := Lib.hid (hW ▸ hk0 _)
  clear cbox hk0 hs' h' hE'
  have HW := Lib.hid hW; clear hW
  go_region_held3 (fun w' => w'.cell? ⟨w.heap.size, 7, none⟩ = some (.slice a ss.length cap)) (go_keep)
    (first | (go_at_call 29; refine (hst'.out _ hsW.out.drew).mono ?_; rintro e w' ⟨rfl, rfl⟩) | (go_at_call 28; refine (hr.out _ (hRW.out.drewN 1) hEW.out.drew).mono ?_; rintro e w2 ⟨rfl, hm2⟩; have d7 : w2.cell? ⟨w.heap.size, 7, none⟩ = some (.slice a ss.length cap) := by as_aux_lemma => (rw [hm2.keeps.cell (World.block_lt_of_cell? W _ c7) (fun e => by simp only at e; omega)]; exact c7)))
  have hmv : Moved b s p w w2 := ⟨hm2.rd, hKW.out.drew.trans hm2.keeps (T := fun k => k = b) (S := fun k => k = b) (fun _ _ h => h)⟩
  have hE2 : Errs ad w2 := hEW.out.drew.kept hm2.keeps hO'.out
  clear hm2 hsW hRW hEW hKW
  go_wp2_with fail
  refine (num_pos ad 0 w2 hE2 (by omega)).mono ?_
  rintro e w3 ⟨rfl, k3⟩
  have fin := Lib.hid (hmv.quiet k3); clear hmv k3 hE2
  go_wp2
  go_ret
  exact ⟨rfl, fin.out⟩
end
end Go.Proofs.YtilhkbohemghlaaDoor
