/-
  The contracts of package wire's Writer.
-/
import Derived.Test.YtilhkbohemghlaaDoorBuild
import Derived.Test.YtilhkbohemghlaaDoorSpec
import Derived.LoopTactic
namespace Go.Proofs.YtilhkbohemghlaaDoor
open Go.RowKit
set_option maxRecDepth 100000

theorem Wrote.refl {b : Nat} {r : Option Nat} {l : List UInt8} {w : World} (h : Wr b r l w) : Wrote b r l w w := ⟨r, h, Kept.refl _ _ _⟩
theorem Wrote.trans {b : Nat} {r r1 : Option Nat} {l2 : List UInt8} {w w1 w2 : World} (h : Kept b r r1 w w1) (k : Wrote b r1 l2 w1 w2) : Wrote b r l2 w w2 := by
  obtain ⟨r2, h2, k2⟩ := k
  exact ⟨r2, h2, h.trans k2⟩

theorem bstring_nil (b : Nat) (p : Value) (w : World) (hbk : w.heap[b]? = some (.cells #[p, .slice none 0 0] 74 (0, 0))) :
    Calls Tryd.prog 46 #[.pointer (some ⟨b, 0, none⟩)] w fun e w' => e = .returned (.string ⟨#[]⟩) ∧ w.drew = w' := by
  have hUS := fun W : World => Lib.run_unsafeString_none (P := Tryd.prog) W 122 3 9 none
  have c1 : w.drew.cell? ⟨b, 1, none⟩ = some (.slice none 0 0) := by
    have : w.drew.heap[b]? = some (.cells #[p, .slice none 0 0] 74 (0, 0)) := hbk
    rw [Lib.cell_of_heap this]; rfl
  have hSD := fun W : World => Lib.run_unsafeSliceData_nil (P := Tryd.prog) W #[26] 122 0 0
  go_enter Tryd.func46, Tryd.ntmps46
  go_wp2
  go_region
  all_goals (go_wp2; go_ret; exact ⟨rfl, rfl⟩)

theorem bstring_noroom (b g : Nat) (p : Value) (cur : Array Value) (fz : Nat × Nat) (w : World) (hbk : w.heap[b]? = some (.cells #[p, .slice (some ⟨g, 0, none⟩) 0 0] 74 (0, 0))) (hg : w.heap[g]? = some (.cells cur 5 fz)) :
    Calls Tryd.prog 46 #[.pointer (some ⟨b, 0, none⟩)] w fun e w' => e = .returned (.string ⟨#[]⟩) ∧ (w.alloc (.view ⟨g, 0, none⟩ 5)).drew = w' := by
  have hUS := fun (W : World) (q : Option Addr) => Lib.run_unsafeString_none (P := Tryd.prog) W 122 3 9 q
  have hlt : b < w.heap.size := lt_of_block hbk
  have c1 : w.drew.cell? ⟨b, 1, none⟩ = some (.slice (some ⟨g, 0, none⟩) 0 0) := by
    have : w.drew.heap[b]? = some (.cells #[p, .slice (some ⟨g, 0, none⟩) 0 0] 74 (0, 0)) := hbk
    rw [Lib.cell_of_heap this]; rfl
  have hSD : (Builtin.unsafeSliceData_ #[26] 122 #[.slice (some ⟨g, 0, none⟩) 0 0]).run Tryd.prog w.drew = .ok (.pointer (some ⟨w.drew.heap.size, 0, none⟩)) (w.drew.alloc (.view ⟨g, 0, none⟩ 5)) :=
    Lib.run_unsafeSliceData_zero w.drew _ _ 5 Tryd.underlying122 ⟨g, 0, none⟩ 0 (5, cur.size) (by have hg' : w.drew.heap[g]? = some (.cells cur 5 fz) := hg; simp [World.shape?, hg'])
  have c2 : (w.drew.alloc (.view ⟨g, 0, none⟩ 5)).cell? ⟨b, 1, none⟩ = some (.slice (some ⟨g, 0, none⟩) 0 0) := by
    have : (w.drew.alloc (.view ⟨g, 0, none⟩ 5)).heap[b]? = _ := (Lib.alloc_old w.drew _ b hlt).trans hbk
    rw [Lib.cell_of_heap this]; rfl
  have c3 : (w.alloc (.view ⟨g, 0, none⟩ 5)).drew.cell? ⟨b, 1, none⟩ = some (.slice (some ⟨g, 0, none⟩) 0 0) := c2
  have c0 : w.cell? ⟨b, 1, none⟩ = some (.slice (some ⟨g, 0, none⟩) 0 0) := c1
  go_enter Tryd.func46, Tryd.ntmps46
  go_wp2
  go_region
  all_goals (go_wp2; go_ret; exact ⟨rfl, rfl⟩)

theorem bstring_room (b g cap : Nat) (p : Value) (w : World) (hc0 : cap ≠ 0) (hbk : w.heap[b]? = some (.cells #[p, .slice (some ⟨g, 0, none⟩) 0 cap] 74 (0, 0))) :
    Calls Tryd.prog 46 #[.pointer (some ⟨b, 0, none⟩)] w fun e w' => e = .returned (.string ⟨#[]⟩) ∧ w.drew = w' := by
  have hUS := fun (W : World) (q : Option Addr) => Lib.run_unsafeString_none (P := Tryd.prog) W 122 3 9 q
  have c1 : w.drew.cell? ⟨b, 1, none⟩ = some (.slice (some ⟨g, 0, none⟩) 0 cap) := by
    have : w.drew.heap[b]? = some (.cells #[p, .slice (some ⟨g, 0, none⟩) 0 cap] 74 (0, 0)) := hbk
    rw [Lib.cell_of_heap this]; rfl
  have hSD := fun W : World => Lib.run_unsafeSliceData_row (P := Tryd.prog) W #[26] 122 ⟨g, 0, none⟩ 0 cap hc0
  clear hc0
  go_enter Tryd.func46, Tryd.ntmps46
  go_wp2
  go_region
  all_goals (go_wp2; go_ret; exact ⟨rfl, rfl⟩)

theorem bstring_full (b g cap : Nat) (p : Value) (cur : Array Value) (fz : Nat × Nat) (l : List UInt8) (w : World) (h0 : l ≠ []) (hbk : w.heap[b]? = some (.cells #[p, .slice (some ⟨g, 0, none⟩) l.length cap] 74 (0, 0))) (hg : w.heap[g]? = some (.cells cur 5 fz))
    (hnc : l.length ≤ cap) (hcm : cap ≤ maxLen) (hcs : cur.size = cap * 1) (hcells : ∀ j u, (Lib.byteCells l)[j]? = some u → w.cell? ((⟨g, 0, none⟩ : Addr).add j) = some u) :
    Calls Tryd.prog 46 #[.pointer (some ⟨b, 0, none⟩)] w fun e w' => e = .returned (.string ⟨l.toArray⟩) ∧ w.drew.freeze ⟨g, 0, none⟩ l.length = w' := by
  have hl0 : l.length ≠ 0 := by simpa using h0
  have c1 : w.drew.cell? ⟨b, 1, none⟩ = some (.slice (some ⟨g, 0, none⟩) l.length cap) := by
    have : w.drew.heap[b]? = some (.cells #[p, .slice (some ⟨g, 0, none⟩) l.length cap] 74 (0, 0)) := hbk
    rw [Lib.cell_of_heap this]; rfl
  have hSD : (Builtin.unsafeSliceData_ #[26] 122 #[.slice (some ⟨g, 0, none⟩) l.length cap]).run Tryd.prog w.drew = .ok (.pointer (some ⟨g, 0, none⟩)) w.drew :=
    Lib.run_unsafeSliceData_row _ _ _ _ _ _ (by omega)
  have hUS : (Builtin.unsafeString_ #[122, 3] 9 #[.pointer (some ⟨g, 0, none⟩), .int .i64 l.length]).run Tryd.prog w.drew = .ok (.string ⟨l.toArray⟩) (w.drew.freeze ⟨g, 0, none⟩ l.length) := by
    refine Lib.run_unsafeString_row w.drew 122 3 9 5 Tryd.underlying122 cellsByte g cur.size (by have hg' : w.drew.heap[g]? = some (.cells cur 5 fz) := hg; simp [World.shape?, hg']) l h0 (by omega) (by unfold maxLen at hcm; omega) ?_
    intro j x hx
    exact hcells j (.int .u8 x.toNat) (by simp [Lib.byteCells, hx])
  clear hcells hnc hcm hcs hg hl0 h0 hbk
  go_enter Tryd.func46, Tryd.ntmps46
  go_wp2
  go_region
  all_goals (go_wp2; go_ret; exact ⟨rfl, rfl⟩)

theorem ownsRowF_frozen {e : TypeId} {g cap : Nat} {n : Nat} {xs : List Value} {w : World} (h : w.ownsRowF 0 e 1 (.slice (some ⟨g, 0, none⟩) n cap) n xs) : (w.freeze ⟨g, 0, none⟩ n).ownsRowF 0 e 1 (.slice (some ⟨g, 0, none⟩) n cap) n xs := by
  unfold World.freeze
  split
  · exact h
  · rename_i hn0
    refine ⟨h.1, ?_⟩
    rcases h.2 with ⟨hv, _⟩ | ⟨g', cap', cur, fz, hv, hbg, hg, hfz, rest⟩
    · cases hv
    · injection hv with ha _ hcap
      injection ha with ha
      injection ha with hgg _ _
      subst hgg
      subst hcap
      obtain ⟨lo, hi⟩ := fz
      refine .inr ⟨g, _, cur, (if lo == hi then (0, 0 + n) else (min lo 0, max hi (0 + n))), rfl, hbg, ?_, ?_, rest⟩
      · simp [Array.getElem?_modify, hg]
      · simp only at hfz
        split <;> simp <;> omega

/-- String: the bytes; the Writer holds them still. -/
theorem bstring_any (b : Nat) (r : Option Nat) (l : List UInt8) (w : World) (h : Wr b r l w) :
    Calls Tryd.prog 46 #[.pointer (some ⟨b, 0, none⟩)] w fun e w' => e = .returned (.string ⟨l.toArray⟩) ∧ Wr b r l w' ∧ Keeps (fun k => some k = r) w w' := by
  have h' := h
  obtain ⟨p, v, hp, hbk, hown, hv, hne⟩ := h
  rcases hown.2 with ⟨rfl, h0⟩ | ⟨g, cap, cur, fz, rfl, _, hg, hfz, hnc, hcm, hcs, htake⟩
  · obtain rfl : l = [] := List.eq_nil_of_length_eq_zero h0
    refine (bstring_nil b p w hbk).mono ?_
    rintro e w' ⟨rfl, rfl⟩
    exact ⟨rfl, h'.drew, (Keeps.refl _ _).drew⟩
  · by_cases hl : l = []
    · subst hl
      by_cases hc0 : cap = 0
      · subst hc0
        refine (bstring_noroom b g p cur fz w hbk hg).mono ?_
        rintro e w' ⟨rfl, rfl⟩
        exact ⟨rfl, (h'.alloc _).drew, ((Keeps.refl _ _).alloc _).drew⟩
      · refine (bstring_room b g cap p w hc0 hbk).mono ?_
        rintro e w' ⟨rfl, rfl⟩
        exact ⟨rfl, h'.drew, (Keeps.refl _ _).drew⟩
    · refine (bstring_full b g cap p cur fz l w hl hbk hg hnc hcm hcs (fun j u hj => hown.cells rfl j u hj)).mono ?_
      rintro e w' ⟨rfl, rfl⟩
      have hk : Keeps (fun k => some k = r) w (w.drew.freeze ⟨g, 0, none⟩ l.length) := ((Keeps.refl _ _).drew).freeze (p := ⟨g, 0, none⟩) (fun _ => by rw [← hv]; rfl) _
      refine ⟨rfl, ⟨p, _, hp, ?_, ?_, hv, hne⟩, hk⟩
      · rw [hk.block b (lt_of_block hbk) (fun e => hne e.symm)]; exact hbk
      · have hd : w.drew.ownsRowF 0 5 1 (.slice (some ⟨g, 0, none⟩) l.length cap) l.length (Lib.byteCells l) := hown
        exact ownsRowF_frozen hd

/-! ### The Writer -/

/-- New: a Writer in a new block. -/
theorem wnew_any (w : World) : Calls Tryd.prog 10 #[] w fun e w' => e = .returned (.pointer (some ⟨w.heap.size, 0, none⟩)) ∧ Wr w.heap.size none [] w' ∧ Keeps (fun _ => False) w w' ∧ w.heap.size < w'.heap.size := by
  go_enter Tryd.func10, Tryd.ntmps10
  go_wp2
  go_ret
  refine ⟨rfl, ⟨.pointer none, .slice none 0 0, .inl rfl, ?_, World.ownsRowF_nil _ _ _ _, rfl, by simp⟩, (Keeps.refl _ _).alloc _, by simp⟩
  exact heap_alloc_new w _

theorem wlen_any (b : Nat) (r : Option Nat) (l : List UInt8) (w : World) (h : Wr b r l w) :
    Calls Tryd.prog 12 #[.pointer (some ⟨b, 0, none⟩)] w fun e w' => e = .returned (.int .i64 l.length) ∧ w = w' := by
  go_enter Tryd.func12, Tryd.ntmps12
  go_wp2_with fail
  refine (blen_any b r l _ h).mono ?_
  rintro e w' ⟨rfl, rfl⟩
  go_wp2
  go_ret
  exact ⟨rfl, rfl⟩

theorem wout_any (b : Nat) (r : Option Nat) (l : List UInt8) (w : World) (h : Wr b r l w) :
    Calls Tryd.prog 13 #[.pointer (some ⟨b, 0, none⟩)] w fun e w' => e = .returned (.string ⟨l.toArray⟩) ∧ Wr b r l w' ∧ Keeps (fun k => some k = r) w w' := by
  go_enter Tryd.func13, Tryd.ntmps13
  go_wp2_with fail
  refine (bstring_any b r l _ h).mono ?_
  rintro e w' ⟨rfl, h1, hk⟩
  go_wp2
  go_ret
  exact ⟨rfl, h1, hk⟩

theorem wbyte_any (b : Nat) (r : Option Nat) (l : List UInt8) (c : Int) (w : World) (h : Wr b r l w) (hlen : l.length + 1 ≤ 140737488355328) (hc0 : 0 ≤ c) (hc1 : c < 256) :
    Calls Tryd.prog 39 #[.pointer (some ⟨b, 0, none⟩), .int .u8 c] w fun e w' => e = .returned (.tuple #[]) ∧ Wrote b r (l ++ [c.toNat.toUInt8]) w w' := by
  have hb := writeByte_any b r l c.toNat.toUInt8 w h hlen
  rw [toUInt8_toNat (show c.toNat < 256 by omega), Int.toNat_of_nonneg hc0] at hb
  go_enter Tryd.func39, Tryd.ntmps39
  go_wp2_with fail
  refine hb.mono ?_
  rintro e w' ⟨rfl, h1⟩
  go_wp2
  go_end0
  exact ⟨rfl, h1⟩

theorem wbytes_any (b : Nat) (r : Option Nat) (l : List UInt8) (s : ByteArray) (w : World) (h : Wr b r l w) (hlen : l.length + s.size ≤ 140737488355328) :
    Calls Tryd.prog 72 #[.pointer (some ⟨b, 0, none⟩), .string s] w fun e w' => e = .returned (.tuple #[]) ∧ Wrote b r (l ++ s.data.toList) w w' := by
  go_enter Tryd.func72, Tryd.ntmps72
  go_wp2_with fail
  refine (writeString_any b r l s _ h hlen).mono ?_
  rintro e w' ⟨rfl, h1⟩
  go_wp2
  go_end0
  exact ⟨rfl, h1⟩

/-- Uint's loop: what is written, what is left. -/
def UintAt (b : Nat) (r : Option Nat) (l : List UInt8) (x : Nat) (w : World) (v : Value) (wr : World) : Prop :=
  ∃ (y : Nat) (r1 : Option Nat) (pre : List UInt8), v = .int .u64 y ∧ y ≤ x ∧ Wr b r1 (l ++ pre) wr ∧ Kept b r r1 w wr ∧ Lib.uvarint x = pre ++ Lib.uvarint y

theorem UintAt.room {l pre : List UInt8} {x y : Nat} (hlen : l.length + 10 ≤ 140737488355328) (hx : x < 18446744073709551616) (hu : Lib.uvarint x = pre ++ Lib.uvarint y) : (l ++ pre).length + 1 ≤ 140737488355328 := by
  have h1 := Lib.uvarint_length64 hx
  have h2 := Lib.uvarint_pos y
  rw [hu] at h1
  simp at h1 ⊢
  omega

theorem UintAt.more {b : Nat} {r r1 : Option Nat} {l pre : List UInt8} {x y : Nat} {w wr w1 : World} (hy : y ≤ x) (hb : 128 ≤ y) (hk : Kept b r r1 w wr) (hu : Lib.uvarint x = pre ++ Lib.uvarint y)
    {c : Int} (hc : c = (y : Int) % 128 + 128) (h1 : Wrote b r1 ((l ++ pre) ++ [c.toNat.toUInt8]) wr w1) : UintAt b r l x w (.int .u64 ((y : Int) / 128)) w1 := by
  obtain ⟨r2, h2, k2⟩ := h1
  obtain rfl : c = ((y % 128 + 128 : Nat) : Int) := by omega
  refine ⟨y / 128, r2, pre ++ [(y % 128 + 128).toUInt8], rfl, by omega, ?_, hk.trans k2, ?_⟩
  · rw [Int.toNat_natCast] at h2; rw [← List.append_assoc]; exact h2
  · rw [hu, Lib.uvarint_big hb, List.append_assoc]; rfl

theorem UintAt.done {b : Nat} {r r1 : Option Nat} {l pre : List UInt8} {x y : Nat} {w wr w1 : World} (hb : y < 128) (hk : Kept b r r1 w wr) (hu : Lib.uvarint x = pre ++ Lib.uvarint y)
    (h1 : Wrote b r1 ((l ++ pre) ++ [((y : Nat) : Int).toNat.toUInt8]) wr w1) : Wrote b r (l ++ Lib.uvarint x) w w1 := by
  obtain ⟨r2, h2, k2⟩ := h1
  refine ⟨r2, ?_, hk.trans k2⟩
  rw [hu, Lib.uvarint_small hb]
  simpa [List.append_assoc] using h2

set_option maxHeartbeats 400000 in
theorem wuint_any (b : Nat) (r : Option Nat) (l : List UInt8) (x : Nat) (w : World) (h : Wr b r l w) (hlen : l.length + 10 ≤ 140737488355328) (hx : x < 18446744073709551616) :
    Calls Tryd.prog 31 #[.pointer (some ⟨b, 0, none⟩), .int .u64 x] w fun e w' => e = .returned (.tuple #[]) ∧ Wrote b r (l ++ Lib.uvarint x) w w' := by
  go_enter Tryd.func31, Tryd.ntmps31
  go_wp2
  go_loopw [1] (fun v wr => UintAt b r l x w v wr) (fun v _ => (intOf v).toNat)
  case atStart => exact ⟨x, r, [], rfl, Nat.le_refl _, by simpa using h, Kept.refl _ _ _, rfl⟩
  case round =>
    obtain ⟨y, r1, pre, rfl, hy, hw, hk, hu⟩ := hrel
    have hroom := UintAt.room hlen hx hu
    have Hu := Lib.hid hu; clear hu
    by_cases hb : 128 ≤ y
    · have e8 : bits .or .u8 ((y : Int) % 256) 128 = ((y % 128 + 128 : Nat) : Int) := by rw [Lib.u8_or128_any _ (by omega) (by omega)]; omega
      go_wp2_with fail
      have e8' := Lib.hid e8; clear e8
      refine (wbyte_any b r1 _ _ _ hw hroom (by omega) (by omega)).mono ?_
      rintro e w1 ⟨rfl, h1⟩
      have fin := UintAt.more hy hb hk Hu.out rfl h1
      clear h1 hk
      have fin' := Lib.hid fin; clear fin
      go_wp2
      go_roundw
      case rel => exact fin'.out
      case measure => simp [intOf]; omega
    · go_wp2_with fail
      refine (wbyte_any b r1 _ _ _ hw hroom (by omega) (by omega)).mono ?_
      rintro e w1 ⟨rfl, h1⟩
      have fin := UintAt.done (by omega) hk Hu.out h1
      clear h1 hk
      have fin' := Lib.hid fin; clear fin
      go_wp2
      go_end0
      exact ⟨rfl, fin'.out⟩
end Go.Proofs.YtilhkbohemghlaaDoor
