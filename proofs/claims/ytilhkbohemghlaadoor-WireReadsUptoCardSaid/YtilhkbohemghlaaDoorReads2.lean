/-
  The contracts of remitlaw01.reads, on: floats, lists of texts, numbers above an int.
-/
import Derived.Test.YtilhkbohemghlaaDoorReads
import Derived.Deep.RegionHeld3
import Derived.StillTailTactics
namespace Go.Proofs.YtilhkbohemghlaaDoor
open Go.RowKit
set_option maxRecDepth 100000

theorem run_ext32bits (x : Nat) (W : World) : (callFunc 57 #[.float .f32 x]).run Tryd.prog W = .ok (.value (.int .u32 x)) W := by
  rw [run_callFunc_extern Tryd.func57 (by kernel_rfl) (by kernel_rfl) (by kernel_rfl) (e := Extern.MathFloatBits.float32bits) (by kernel_rfl)]
  rw [run_float32bits]
  rfl

theorem canon_canon (x : Nat) : canon (canon x) = canon x := by
  unfold canon
  by_cases h : isNaNB x = true
  · rw [if_pos h]; decide
  · rw [if_neg h, if_neg h]

theorem order_nan_of {x : Nat} (hx : x < 4294967296) (h : isNaNB x = true) : FloatKind.f32.format.order x x = none := by
  have e := single_nan x hx
  rw [h] at e
  exact order_nan _ e
theorem order_num_of {x : Nat} (hx : x < 4294967296) (h : isNaNB x = false) : FloatKind.f32.format.order x x = some Ordering.eq := by
  have e := single_nan x hx
  rw [h] at e
  exact order_self _ e

section
variable (ad : Nat → Addr) (b : Nat) (s : ByteArray) (p : Nat) (o : OpD) (w : World)

set_option maxHeartbeats 800000 in
theorem reads_5 (h : Rd b s p w) (ho : o.Ok) (he : o.kind = 5) (hn : p + 4 ≤ s.size) (hd : lowN ((rest s p).take 4) = canon (o.u % 4294967296)) :
    Calls Tryd.prog 22 #[.pointer (some ⟨b, 0, none⟩), o.val] w fun e w' => e = .returned (.bool true) ∧ Moved b s (p + 4) w w' := by
  obtain ⟨kind, sec, u, i, nn, m, os, v, ss⟩ := o
  simp only at he
  subst he
  have hu := ho.u
  have hb := h.lt
  clear ho
  simp only [OpD.val] at *
  have hr := Lib.hid (fun o => rfloat_ok b s p (w.alloc o) (h.alloc o) hn (by rw [hd, canon_canon]))
  rw [hd] at hr
  clear h hd
  have hx : u % 4294967296 < 4294967296 := by omega
  have hx0 : ((u : Int) % 4294967296) = ((u % 4294967296 : Nat) : Int) := by omega
  by_cases hnan : isNaNB (u % 4294967296) = true
  · have ho := order_nan_of hx hnan
    have hc : canon (u % 4294967296) = 2143289344 := by unfold canon; rw [if_pos hnan]
    rw [hc] at hr
    have ho2 : FloatKind.f32.format.order 2143289344 2143289344 = none := by decide
    have t1 : (FloatKind.f32.format.order (u % 4294967296) (u % 4294967296) != some Ordering.eq) = true := by rw [ho]; rfl
    have t2 : (FloatKind.f32.format.order 2143289344 2143289344 != some Ordering.eq) = true := by rw [ho2]; rfl
    clear ho ho2 hc hnan
    have Hx0 := Lib.hid hx0; clear hx0
    go_enter Tryd.func22, Tryd.ntmps22
    go_wp2_with fail
    rw [run_callFunc_extern Tryd.func40 (by kernel_rfl) (by kernel_rfl) (by kernel_rfl) (e := Extern.MathFloatBits.float32frombits) (by kernel_rfl)]
    rw [Hx0.out]
    rw [run_float32frombits]
    simp only [Result.andThen]
    rw [Oper.upon_value]
    generalize u % 4294967296 = x at *
    go_wp2_with fail
    refine (hr.out _).mono ?_
    rintro e w1 ⟨rfl, h1⟩
    have fin := Lib.hid (box_moved h1); clear h1
    go_wp2
    go_ret
    exact ⟨rfl, fin.out⟩
  · have ho := order_num_of hx (by simpa using hnan)
    have hc : canon (u % 4294967296) = u % 4294967296 := by unfold canon; rw [if_neg hnan]
    rw [hc] at hr
    have t1 : (FloatKind.f32.format.order (u % 4294967296) (u % 4294967296) != some Ordering.eq) = false := by rw [ho]; rfl
    clear ho hc hnan
    have Hx0 := Lib.hid hx0; clear hx0
    go_enter Tryd.func22, Tryd.ntmps22
    go_wp2_with fail
    rw [run_callFunc_extern Tryd.func40 (by kernel_rfl) (by kernel_rfl) (by kernel_rfl) (e := Extern.MathFloatBits.float32frombits) (by kernel_rfl)]
    rw [Hx0.out]
    rw [run_float32frombits]
    simp only [Result.andThen]
    rw [Oper.upon_value]
    obtain ⟨x, hxe⟩ : ∃ x, u % 4294967296 = x := ⟨_, rfl⟩
    rw [hxe] at hr t1 hx ⊢
    have Hxe := Lib.hid hxe; clear hxe
    go_wp2_with fail
    refine (hr.out _).mono ?_
    rintro e w1 ⟨rfl, h1⟩
    have d2 : w1.cell? ⟨w.heap.size, 2, none⟩ = some (.int .u64 u) := box_kept h1 hb 2
    have fin := Lib.hid (fun n => (box_moved h1).quiet ((Keeps.refl _ _).drewN n)); clear h1
    have hb32 := run_ext32bits x
    have hxu : ((u : Int) % 4294967296) = (x : Int) := by have := Hxe.out; omega
    go_wp2
    go_quiet (fail)
    go_wp2
    go_ret
    exact ⟨rfl, fin.out _⟩

set_option maxHeartbeats 1600000 in
theorem reads_8b (h : Rd b s p w) (hE : Errs ad w) (hO : OffErrs ad (fun k => k = b)) (ho : o.Ok) (he : o.kind = 8) (hmax : 9223372036854775807 < o.u) (n : Nat) (hd : varintD (rest s p) = .inr (o.u, n)) :
    Calls Tryd.prog 22 #[.pointer (some ⟨b, 0, none⟩), o.val] w fun e w' => e = .returned (.bool true) ∧ Moved b s (p + n) w w' := by
  obtain ⟨kind, sec, u, i, nn, m, os, v, ss⟩ := o
  simp only at he
  subst he
  have hu := ho.u
  have hb := h.lt
  clear ho
  simp only [OpD.val] at *
  have hr := Lib.hid (fun o => rupto_limit ad b s p u n 9223372036854775807 (w.alloc o) (h.alloc o) (hE.alloc o) hd (by omega) (by omega))
  have hE' := Lib.hid (fun o => hE.alloc o)
  clear h hE
  have Hd := Lib.hid hd; clear hd
  go_enter Tryd.func22, Tryd.ntmps22
  go_wp2_with fail
  refine (hr.out _).mono ?_
  rintro e w1 ⟨rfl, h1⟩
  have hE1 := (hE'.out _).kept h1.keeps hO
  go_wp2_with fail
  refine (ruint_ok ad b s p u n w1 h1.rd hE1 Hd.out).mono ?_
  rintro e w2 ⟨rfl, h2⟩
  have hE2 := hE1.kept h2.keeps hO
  have h12 := h1.trans h2
  have hsz : w.heap.size < w2.heap.size := by have := h12.keeps.size; simp at this; omega
  clear h1 h2 hE1
  go_wp2_with fail
  refine (num_pos ad 2 w2 hE2 (by omega)).mono ?_
  rintro e w3 ⟨rfl, k3⟩
  have h13 := h12.quiet k3
  have d2 : w3.cell? ⟨w.heap.size, 2, none⟩ = some (.int .u64 u) := box_kept h13 hb 2
  have fin := Lib.hid (box_moved h13); clear h12 h13 hE2 k3
  go_wp2
  go_ret
  exact ⟨rfl, fin.out⟩

set_option maxHeartbeats 1600000 in
theorem reads_7 (h : Rd b s p w) (hE : Errs ad w) (hO : OffErrs ad (fun k => k = b)) (ho : o.Ok) (he : o.kind = 7) (hs40 : s.size ≤ 1099511627776) (g g0 : Nat) (hs : Strs w o.v g g0 o.ss) (hg : o.ss ≠ [] → g ≠ b) (hl : ∀ x ∈ o.ss, x.length ≤ 140737488355328)
    (n : Nat) (hd : textsD (o.ss.length : Int) (longestN o.ss : Int) (rest s p) = .inr (o.ss, n)) (hlong : longestN o.ss ≤ 140737488355328) :
    Calls Tryd.prog 22 #[.pointer (some ⟨b, 0, none⟩), o.val] w fun e w' => e = .returned (.bool true) ∧ Moved b s (p + n) w w' := by
  obtain ⟨kind, sec, u, i, nn, m, os, v, ss⟩ := o
  simp only at he
  subst he
  have hb := h.lt
  clear ho
  simp only [OpD.val] at *
  have hle := hs.le
  obtain ⟨a, cap, hv, _⟩ := hs.val
  subst hv
  have hst : ∀ w, Strs w (.slice a ss.length cap) g g0 ss → Calls Tryd.prog 29 #[.slice a ss.length cap] w fun e w' => e = .returned (.int .i64 (longestN ss)) ∧ w = w' := fun w q => (longest_any _ g g0 ss w q hl).mono fun _ _ ⟨he, hw⟩ => ⟨he, hw.symm⟩
  have hr := Lib.hid (fun (w1 : World) (q : Rd b s p w1) (hE1 : Errs ad w1) => rtexts_ok ad b s p n ss (ss.length : Int) (longestN ss : Int) w1 q hE1 hO hs40 (by omega) (by omega) hd)
  have hst' := Lib.hid hst
  have hg' := Lib.hid hg
  have hs' := Lib.hid (fun o => hs.alloc o)
  have h' := Lib.hid (fun o => h.alloc o)
  have hE' := Lib.hid (fun o => hE.alloc o)
  clear h hE hd hO hs hl hg hst
  go_enter Tryd.func22, Tryd.ntmps22
  go_wp2
  have cbox : ∀ C t, (w.alloc (.cells C t)).cell? ⟨w.heap.size, 7, none⟩ = C[7]? := fun C t => cell_of_row _ _ _ _ _ _ (heap_alloc_new w _)
  have hk0 : ∀ o, Keeps (fun k => k = b) w (w.alloc o) := fun o => (Keeps.refl _ _).alloc o
  generalize hW : w.alloc _ = W
  have c7 : W.cell? ⟨w.heap.size, 7, none⟩ = some (.slice a ss.length cap) := by rw [← hW, cbox]; rfl
  have hsW := Lib.hid (hW ▸ hs'.out _)
  have hRW := Lib.hid (hW ▸ h'.out _)
  have hEW := Lib.hid (hW ▸ hE'.out _)
  have hKW := Lib.hid (hW ▸ hk0 _)
  clear cbox hk0 hs' h' hE'
  have HW := Lib.hid hW; clear hW
  go_region_held3 (fun w' => w'.cell? ⟨w.heap.size, 7, none⟩ = some (.slice a ss.length cap)) (go_keep)
    (first | (go_at_call 29; refine (hst'.out _ hsW.out.drew).mono ?_; rintro e w' ⟨rfl, rfl⟩) | (go_at_call 28; refine (hr.out _ (hRW.out.drewN 1) hEW.out.drew).mono ?_; rintro e w2 ⟨v2, rfl, hn2, hm2⟩; have d7 : w2.cell? ⟨w.heap.size, 7, none⟩ = some (.slice a ss.length cap) := by as_aux_lemma => (rw [hm2.keeps.cell (World.block_lt_of_cell? W _ c7) (fun e => by simp only at e; omega)]; exact c7)))
  obtain ⟨g2, hs2, _⟩ := hn2.strs hle
  have hsa : Strs w2 (.slice a ss.length cap) g g0 ss := (hsW.out.drew).kept hm2.keeps (fun hne e => hg'.out hne e)
  have hmv : ∀ n', Moved b s (p + n) w (w2.drewN n') := fun n' => ⟨hm2.rd.drewN n', ((hKW.out.drew.trans hm2.keeps (T := fun k => k = b) (S := fun k => k = b) (fun _ _ h => h)).drewN n')⟩
  have fin := Lib.hid hmv
  clear hmv hm2 hn2 hsW hRW hEW hKW
  go_wp2_with fail
  refine (same_any v2 (.slice a ss.length cap) g2 0 g g0 ss w2 hs2 hsa).mono ?_
  rintro e w3 ⟨rfl, n3, rfl⟩
  go_wp2
  go_ret
  exact ⟨rfl, fin.out _⟩
end
end Go.Proofs.YtilhkbohemghlaaDoor
