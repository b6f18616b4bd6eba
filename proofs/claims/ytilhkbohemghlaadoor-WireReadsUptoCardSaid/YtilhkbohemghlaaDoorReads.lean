/-
  The contracts of remitlaw01.longest, remitmem.SameTexts, remitlaw01.reads.
-/
import Derived.Test.YtilhkbohemghlaaDoorSpecD
import Derived.Test.YtilhkbohemghlaaDoorFixed
namespace Go.Proofs.YtilhkbohemghlaaDoor
open Go.RowKit
set_option maxRecDepth 100000

def longestN : List (List UInt8) → Nat
  | [] => 0
  | s :: r => max s.length (longestN r)

theorem longestN_snoc : ∀ (l : List (List UInt8)) (s : List UInt8), longestN (l ++ [s]) = max (longestN l) s.length
  | [], s => by simp [longestN]
  | x :: r, s => by simp only [List.cons_append, longestN, longestN_snoc r s]; omega

theorem longestN_ge : ∀ {l : List (List UInt8)} {s : List UInt8}, s ∈ l → s.length ≤ longestN l
  | x :: r, s, h => by
    rcases List.mem_cons.1 h with rfl | h
    · simp only [longestN]; omega
    · have := longestN_ge h; simp only [longestN]; omega

theorem longestN_take {ss : List (List UInt8)} {k : Nat} {s : List UInt8} (h : ss[k]? = some s) : longestN (ss.take (k + 1)) = max (longestN (ss.take k)) s.length := by
  rw [List.take_succ_eq_append_getElem (List.getElem?_eq_some_iff.1 h).1, longestN_snoc, (List.getElem?_eq_some_iff.1 h).2]

theorem Strs.elem {w : World} {v : Value} {g o : Nat} {ss : List (List UInt8)} (h : Strs w v g o ss) {k : Nat} (hk : k < ss.length) : ∃ s cap, ss[k]? = some s ∧ v = .slice (some ⟨g, o, none⟩) ss.length cap ∧ w.cell? ⟨g, o + k, none⟩ = some (.string ⟨s.toArray⟩) := by
  obtain ⟨a, cap, rfl, ha⟩ := h.val
  have hne : ss ≠ [] := by rintro rfl; simp at hk
  obtain rfl := ha hne
  exact ⟨ss[k], cap, List.getElem?_eq_getElem hk, rfl, h.cells k _ (List.getElem?_eq_getElem hk)⟩

theorem max_if (M n : Nat) : (if M < n then (n : Int) else (M : Int)) = ((max M n : Nat) : Int) := by split <;> omega

set_option maxHeartbeats 400000 in
theorem longest_any (v : Value) (g o : Nat) (ss : List (List UInt8)) (w : World) (hs : Strs w v g o ss) (hl : ∀ s ∈ ss, s.length ≤ 140737488355328) :
    Calls Tryd.prog 29 #[v] w fun e w' => e = .returned (.int .i64 (longestN ss)) ∧ w' = w := by
  have hlong : ∀ k, longestN (ss.take k) ≤ 140737488355328 := by
    intro k
    have : ∀ l : List (List UInt8), (∀ s ∈ l, s.length ≤ 140737488355328) → longestN l ≤ 140737488355328 := by
      intro l
      induction l with
      | nil => intro _; simp [longestN]
      | cons x r ih => intro h; have := ih (fun s hs => h s (by simp [hs])); have := h x (by simp); simp only [longestN]; omega
    exact this _ (fun s hs => hl s (List.mem_of_mem_take hs))
  have Hlong := Lib.hid hlong; clear hlong
  have Hl := Lib.hid hl; clear hl
  have hle := hs.le
  obtain ⟨a, cap, rfl, ha⟩ := hs.val
  have Ha := Lib.hid ha; clear ha
  go_enter Tryd.func29, Tryd.ntmps29
  go_wp2
  go_loop [3, 5, 8] (fun n _ i => ∃ k : Nat, k ≤ ss.length ∧ i = .int .i64 k ∧ n = .int .i64 (longestN (ss.take k))) (fun _ _ i => ss.length - (intOf i).toNat)
  case atStart => exact ⟨0, Nat.zero_le _, rfl, rfl⟩
  case round =>
    obtain ⟨k, hk, rfl, rfl⟩ := hrel
    by_cases hlt : k < ss.length
    · obtain ⟨s, cap', hsk, hv, hc⟩ := hs.elem hlt
      injection hv with hv q1 q2
      clear q1 q2
      subst hv
      have hsl := Hl.out s (List.mem_of_getElem? hsk)
      have hM := Hlong.out k
      have hT := Lib.hid (longestN_take hsk); clear hsk
      generalize longestN (ss.take k) = M at *
      go_wp2
      go_round
      case rel => exact ⟨k + 1, by omega, by go_num, by rw [hT.out]; exact congrArg (Value.int .i64) (max_if M s.length)⟩
      case measure => simp [intOf]; omega
    · obtain rfl : k = ss.length := by omega
      rw [List.take_length]
      clear hlt
      go_wp2
      go_ret
      exact ⟨rfl, rfl⟩

set_option maxHeartbeats 400000 in
theorem same_any (v v' : Value) (g o g' o' : Nat) (ss : List (List UInt8)) (w : World) (hs : Strs w v g o ss) (hs' : Strs w v' g' o' ss) :
    Calls Tryd.prog 30 #[v, v'] w fun e w' => e = .returned (.bool true) ∧ ∃ n, w' = w.drewN n := by
  have hle := hs.le
  obtain ⟨a, cap, rfl, ha⟩ := hs.val
  obtain ⟨a', cap', rfl, ha'⟩ := hs'.val
  have Ha := Lib.hid ha; have Ha' := Lib.hid ha'; clear ha ha'
  go_enter Tryd.func30, Tryd.ntmps30
  go_wp2
  go_loopw [5, 13] (fun _ i wr => ∃ k n : Nat, k ≤ ss.length ∧ i = .int .i64 k ∧ wr = w.drewN n) (fun _ i _ => ss.length - (intOf i).toNat)
  case atStart => exact ⟨0, 0, Nat.zero_le _, rfl, rfl⟩
  case round =>
    obtain ⟨k, n, hk, rfl, rfl⟩ := hrel
    by_cases hlt : k < ss.length
    · obtain ⟨s, c1, hsk, hv, hc⟩ := hs.elem hlt
      obtain ⟨s', c2, hsk', hv', hc'⟩ := hs'.elem hlt
      injection hv with hv q1 q2
      injection hv' with hv' q3 q4
      clear q1 q2 q3 q4
      subst hv hv'
      obtain rfl : s = s' := by rw [hsk] at hsk'; injection hsk'
      clear hsk hsk'
      go_wp2
      go_quiet (fail)
      go_wp2
      go_roundw
      case rel => exact ⟨k + 1, _, by omega, by go_num, rfl⟩
      case measure => simp [intOf]; omega
    · obtain rfl : k = ss.length := by omega
      clear hlt
      go_wp2
      go_ret
      exact ⟨rfl, _, rfl⟩

/-- A boxed value's cells are still there behind a Reader's call. -/
theorem box_kept {b : Nat} {s : ByteArray} {q : Nat} {w w1 : World} {C : Array Value} {t : TypeId} (h : Moved b s q (w.alloc (.cells C t)) w1) (hb : b < w.heap.size) (j : Nat) : w1.cell? ⟨w.heap.size, j, none⟩ = C[j]? := by
  rw [h.keeps.cell (by simp) (fun e => by simp only at e; omega)]
  exact cell_of_row _ _ _ _ _ _ (heap_alloc_new w _)
theorem box_moved {b : Nat} {s : ByteArray} {q : Nat} {w w1 : World} {o : Obj} (h : Moved b s q (w.alloc o) w1) : Moved b s q w w1 := ⟨h.rd, ((Keeps.refl _ _).alloc o).trans h.keeps (fun _ _ h => h)⟩

section
variable (ad : Nat → Addr) (b : Nat) (s : ByteArray) (p : Nat) (o : OpD) (w : World)

set_option maxHeartbeats 400000 in
theorem reads_1 (h : Rd b s p w) (hE : Errs ad w) (ho : o.Ok) (he : o.kind = 1) (n : Nat) (hd : varintD (rest s p) = .inr (o.u, n)) :
    Calls Tryd.prog 22 #[.pointer (some ⟨b, 0, none⟩), o.val] w fun e w' => e = .returned (.bool true) ∧ Moved b s (p + n) w w' := by
  obtain ⟨kind, sec, u, i, nn, m, os, v, ss⟩ := o
  simp only at he
  subst he
  have hu := ho.u
  have hb := h.lt
  clear ho
  simp only [OpD.val] at *
  have hr := Lib.hid (fun o => ruint_ok ad b s p u n (w.alloc o) (h.alloc o) (hE.alloc o) hd)
  clear h hE hd
  go_enter Tryd.func22, Tryd.ntmps22
  go_wp2_with fail
  refine (hr.out _).mono ?_
  rintro e w1 ⟨rfl, h1⟩
  have d2 : w1.cell? ⟨w.heap.size, 2, none⟩ = some (.int .u64 u) := box_kept h1 hb 2
  have fin := Lib.hid (box_moved h1); clear h1
  go_wp2
  go_ret
  exact ⟨rfl, fin.out⟩

set_option maxHeartbeats 400000 in
theorem reads_2 (h : Rd b s p w) (hE : Errs ad w) (ho : o.Ok) (he : o.kind = 2) (n : Nat) (hd : varintD (rest s p) = .inr (Lib.zigzag o.i, n)) :
    Calls Tryd.prog 22 #[.pointer (some ⟨b, 0, none⟩), o.val] w fun e w' => e = .returned (.bool true) ∧ Moved b s (p + n) w w' := by
  obtain ⟨kind, sec, u, i, nn, m, os, v, ss⟩ := o
  simp only at he
  subst he
  have hu := ho.u; have hi0 := ho.i0; have hi1 := ho.i1
  have hb := h.lt
  clear ho
  simp only [OpD.val] at *
  have hr := Lib.hid (fun o => rint_ok ad b s p _ n (w.alloc o) (h.alloc o) (hE.alloc o) hd)
  rw [unzigzag_zigzag] at hr
  clear h hE hd
  go_enter Tryd.func22, Tryd.ntmps22
  go_wp2_with fail
  refine (hr.out _).mono ?_
  rintro e w1 ⟨rfl, h1⟩
  have d2 : w1.cell? ⟨w.heap.size, 3, none⟩ = some (.int .i64 i) := box_kept h1 hb 3
  have fin := Lib.hid (box_moved h1); clear h1
  go_wp2
  go_ret
  exact ⟨rfl, fin.out⟩

set_option maxHeartbeats 400000 in
theorem reads_3 (h : Rd b s p w) (hE : Errs ad w) (ho : o.Ok) (he : o.kind = 3) (hn : p + 8 ≤ s.size) (hd : lowN ((rest s p).take 8) = o.u) :
    Calls Tryd.prog 22 #[.pointer (some ⟨b, 0, none⟩), o.val] w fun e w' => e = .returned (.bool true) ∧ Moved b s (p + 8) w w' := by
  obtain ⟨kind, sec, u, i, nn, m, os, v, ss⟩ := o
  simp only at he
  subst he
  have hu := ho.u; have hi0 := ho.i0; have hi1 := ho.i1
  have hb := h.lt
  clear ho
  simp only [OpD.val] at *
  have hr := Lib.hid (fun o => rfixed_ok b s p (w.alloc o) (h.alloc o) hn)
  rw [hd] at hr
  clear h hE hd
  go_enter Tryd.func22, Tryd.ntmps22
  go_wp2_with fail
  refine (hr.out _).mono ?_
  rintro e w1 ⟨rfl, h1⟩
  have d2 : w1.cell? ⟨w.heap.size, 2, none⟩ = some (.int .u64 u) := box_kept h1 hb 2
  have fin := Lib.hid (box_moved h1); clear h1
  go_wp2
  go_ret
  exact ⟨rfl, fin.out⟩

set_option maxHeartbeats 400000 in
theorem reads_4 (h : Rd b s p w) (hE : Errs ad w) (ho : o.Ok) (he : o.kind = 4) (hn : p + 1 ≤ s.size) (hd : lowN ((rest s p).take 1) = o.u % 256) :
    Calls Tryd.prog 22 #[.pointer (some ⟨b, 0, none⟩), o.val] w fun e w' => e = .returned (.bool true) ∧ Moved b s (p + 1) w w' := by
  obtain ⟨kind, sec, u, i, nn, m, os, v, ss⟩ := o
  simp only at he
  subst he
  have hu := ho.u; have hi0 := ho.i0; have hi1 := ho.i1
  have hb := h.lt
  clear ho
  simp only [OpD.val] at *
  have hr := Lib.hid (fun o => rbyte_ok b s p (w.alloc o) (h.alloc o) hn)
  rw [hd] at hr
  clear h hE hd
  go_enter Tryd.func22, Tryd.ntmps22
  go_wp2_with fail
  refine (hr.out _).mono ?_
  rintro e w1 ⟨rfl, h1⟩
  have d2 : w1.cell? ⟨w.heap.size, 2, none⟩ = some (.int .u64 u) := box_kept h1 hb 2
  have fin := Lib.hid (box_moved h1); clear h1
  go_wp2
  go_ret
  exact ⟨rfl, fin.out⟩

set_option maxHeartbeats 400000 in
theorem reads_6 (h : Rd b s p w) (hE : Errs ad w) (ho : o.Ok) (he : o.kind = 6) (n : Nat) (hs : o.s.size ≤ 140737488355328) (hd : textD (o.s.size : Int) (rest s p) = .inr (o.s.data.toList, n)) :
    Calls Tryd.prog 22 #[.pointer (some ⟨b, 0, none⟩), o.val] w fun e w' => e = .returned (.bool true) ∧ Moved b s (p + n) w w' := by
  obtain ⟨kind, sec, u, i, nn, m, os, v, ss⟩ := o
  simp only at he
  subst he
  have hu := ho.u; have hi0 := ho.i0; have hi1 := ho.i1
  have hb := h.lt
  clear ho
  simp only [OpD.val] at *
  have hr := Lib.hid (fun o => rtext_ok ad b s p n _ (os.size : Int) (w.alloc o) (h.alloc o) (hE.alloc o) (by omega) hd)
  clear h hE hd
  go_enter Tryd.func22, Tryd.ntmps22
  go_wp2_with fail
  refine (hr.out _).mono ?_
  rintro e w1 ⟨rfl, h1⟩
  have d2 : w1.cell? ⟨w.heap.size, 6, none⟩ = some (.string os) := box_kept h1 hb 6
  have fin := Lib.hid (box_moved h1); clear h1
  go_wp2
  go_ret
  exact ⟨rfl, fin.out⟩

set_option maxHeartbeats 400000 in
theorem reads_8 (h : Rd b s p w) (hE : Errs ad w) (ho : o.Ok) (he : o.kind = 8) (hmax : o.u ≤ 9223372036854775807) (n : Nat) (hd : varintD (rest s p) = .inr (o.u, n)) :
    Calls Tryd.prog 22 #[.pointer (some ⟨b, 0, none⟩), o.val] w fun e w' => e = .returned (.bool true) ∧ Moved b s (p + n) w w' := by
  obtain ⟨kind, sec, u, i, nn, m, os, v, ss⟩ := o
  simp only at he
  subst he
  have hu := ho.u; have hi0 := ho.i0; have hi1 := ho.i1
  have hb := h.lt
  clear ho
  simp only [OpD.val] at *
  have hr := Lib.hid (fun o => rupto_ok ad b s p u n (u : Int) (w.alloc o) (h.alloc o) (hE.alloc o) hd (by omega) (by omega))
  clear h hE hd
  go_enter Tryd.func22, Tryd.ntmps22
  go_wp2_with fail
  refine (hr.out _).mono ?_
  rintro e w1 ⟨rfl, h1⟩
  have d2 : w1.cell? ⟨w.heap.size, 2, none⟩ = some (.int .u64 u) := box_kept h1 hb 2
  have fin := Lib.hid (box_moved h1); clear h1
  go_wp2
  go_ret
  exact ⟨rfl, fin.out⟩
end
end Go.Proofs.YtilhkbohemghlaaDoor
