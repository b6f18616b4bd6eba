/-
  The contracts of wire's New, Fixed and Out (cut out of layer 1's texts).
-/
import Derived.Test.YtggogaaooacooaaDoorP04
import Derived.RegionTactic
import Derived.ChangeAlike
import Derived.Lib.UnsafeStr
import Derived.LoopTactic
namespace Go.Proofs.YtggogaaooacooaaDoor
open Go.RowKit
set_option maxRecDepth 100000

/-- n bytes of x, the low one first. -/
def lowB : Nat → Nat → List UInt8
  | 0, _ => []
  | n + 1, x => (x % 256).toUInt8 :: lowB n (x / 256)
theorem lowB_length : ∀ n x, (lowB n x).length = n
  | 0, _ => rfl
  | n + 1, x => by simp [lowB, lowB_length n]
theorem lowB_snoc : ∀ n x, lowB (n + 1) x = lowB n x ++ [(x / 256 ^ n % 256).toUInt8]
  | 0, x => by simp [lowB]
  | n + 1, x => by
    rw [lowB, lowB_snoc n (x / 256), lowB, List.cons_append]
    rw [Nat.div_div_eq_div_mul, Nat.pow_succ, Nat.mul_comm 256]
theorem toUInt8_toNat {n : Nat} (h : n < 256) : n.toUInt8.toNat = n := by simp; omega
theorem own : ownKnob Tryd.prog.godebug = none := by kernel_rfl
theorem infoByte : (Tryd.prog.info? 5).map (fun i => (i.zero, i.size, i.bytes)) = some (some (.int .u8 0), 1, 1) := by kernel_rfl
theorem infoBuilder : (Tryd.prog.info? 98).map (·.size) = some 2 := by kernel_rfl
theorem liesBuilder : liesAt Tryd.prog Tryd.prog.depth 152 (2 / Tryd.prog.cellsOf 152) 0 98 1 = true := by kernel_rfl
theorem cellsByte : Tryd.prog.cellsOf 5 = 1 := by kernel_rfl
/-- A wire.Writer in block b that holds the bytes l; its buffer's row is block r (none: no buffer yet). -/
def Wr (b : Nat) (r : Option Nat) (l : List UInt8) (w : World) : Prop :=
  ∃ p v, (p = .pointer none ∨ p = .pointer (some ⟨b, 0, none⟩)) ∧ w.heap[b]? = some (.cells #[p, v] 152 (0, 0)) ∧ w.ownsRowF 0 5 1 v l.length (Lib.byteCells l) ∧ v.ownBlock = r ∧ r ≠ some b
/-- .. whose 'addr' is set. -/
def WrU (b : Nat) (r : Option Nat) (l : List UInt8) (w : World) : Prop :=
  ∃ v, w.heap[b]? = some (.cells #[.pointer (some ⟨b, 0, none⟩), v] 152 (0, 0)) ∧ w.ownsRowF 0 5 1 v l.length (Lib.byteCells l) ∧ v.ownBlock = r ∧ r ≠ some b
theorem WrU.wr {b : Nat} {r : Option Nat} {l : List UInt8} {w : World} (h : WrU b r l w) : Wr b r l w := by
  obtain ⟨v, h1, h2, h3, h4⟩ := h
  exact ⟨_, v, .inr rfl, h1, h2, h3, h4⟩
/-- A step of the Writer in block b, whose row was r and is r' now. -/
structure Kept (b : Nat) (r r' : Option Nat) (w w' : World) : Prop where
  keeps : Keeps (fun k => k = b ∨ some k = r) w w'
  later : Later w r r'
theorem Kept.refl (b : Nat) (r : Option Nat) (w : World) : Kept b r r w w := ⟨Keeps.refl _ _, Later.refl _ _⟩
theorem Kept.trans {b : Nat} {r r1 r2 : Option Nat} {w w1 w2 : World} (h : Kept b r r1 w w1) (k : Kept b r1 r2 w1 w2) : Kept b r r2 w w2 := by
  refine ⟨h.keeps.trans k.keeps ?_, h.later.trans h.keeps.size k.later⟩
  rintro i hi (e | e)
  · exact .inl e
  · rcases h.later with hr | ⟨g, hr, hg⟩
    · exact .inr (by rw [e, hr])
    · rw [hr] at e; injection e with e; omega
theorem Kept.drew {b : Nat} {r r1 : Option Nat} {w w1 : World} (h : Kept b r r1 w w1) : Kept b r r1 w w1.drew := ⟨h.keeps.drew, h.later⟩
theorem Kept.alloc {b : Nat} {r r1 : Option Nat} {w w1 : World} (h : Kept b r r1 w w1) (o : Obj) : Kept b r r1 w (w1.alloc o) := ⟨h.keeps.alloc o, h.later⟩
theorem Wr.lt {b : Nat} {r : Option Nat} {l : List UInt8} {w : World} (h : Wr b r l w) : b < w.heap.size := by
  obtain ⟨p, v, _, hb, _⟩ := h
  exact lt_of_block hb
theorem Wr.rlt {b : Nat} {r : Option Nat} {l : List UInt8} {w : World} (h : Wr b r l w) {k : Nat} (hk : r = some k) : k < w.heap.size := by
  obtain ⟨p, v, _, _, hown, rfl, _⟩ := h
  exact ownsRowF_lt hown hk
theorem Wr.kept {S : Nat → Prop} {b : Nat} {r : Option Nat} {l : List UInt8} {w w' : World} (h : Wr b r l w) (hk : Keeps S w w') (hb : ¬ S b) (hr : ∀ k, r = some k → ¬ S k) : Wr b r l w' := by
  obtain ⟨p, v, hp, hbk, hown, hv, hne⟩ := h
  exact ⟨p, v, hp, by rw [hk.block b (lt_of_block hbk) hb]; exact hbk, ownsRowF_kept hown hk (fun k e => hr k (hv ▸ e)), hv, hne⟩
theorem Wr.drew {b : Nat} {r : Option Nat} {l : List UInt8} {w : World} (h : Wr b r l w) : Wr b r l w.drew := h.kept (S := fun _ => False) ((Keeps.refl _ _).drew) (fun h => h) (fun _ _ h => h)
theorem Wr.alloc {b : Nat} {r : Option Nat} {l : List UInt8} {w : World} (h : Wr b r l w) (o : Obj) : Wr b r l (w.alloc o) := h.kept (S := fun _ => False) ((Keeps.refl _ _).alloc o) (fun h => h) (fun _ _ h => h)
theorem byteCells_append (l m : List UInt8) : Lib.byteCells (l ++ m) = Lib.byteCells l ++ Lib.byteCells m := by simp [Lib.byteCells]
theorem strCells_eq (s : ByteArray) : Lib.strCells s = Lib.byteCells s.data.toList := rfl
set_option maxHeartbeats 1000000 in
theorem copyCheck_used (b : Nat) (w : World) (h0 : w.cell? ⟨b, 0, none⟩ = some (.pointer (some ⟨b, 0, none⟩))) :
    Calls Tryd.prog 71 #[.pointer (some ⟨b, 0, none⟩)] w fun e w' => e = .returned (.tuple #[]) ∧ w = w' := by
  obtain ⟨j, hj, _⟩ := Option.map_eq_some_iff.1 infoBuilder
  go_enter Tryd.func71, Tryd.ntmps71
  go_wp2
  rw [Lib.run_neq_ptr_same w _ Tryd.underlying96 hj]
  go_wp2
  go_end0
  exact ⟨rfl, rfl⟩
set_option maxHeartbeats 1000000 in
theorem copyCheck_fresh (b : Nat) (w : World) (h0 : w.cell? ⟨b, 0, none⟩ = some (.pointer none)) (hsh : w.shape? b = some (152, 2)) (hfz : w.frozen? ⟨b, 0, none⟩ = false) :
    Calls Tryd.prog 71 #[.pointer (some ⟨b, 0, none⟩)] w fun e w' => e = .returned (.tuple #[]) ∧ w.setCell ⟨b, 0, none⟩ (.pointer (some ⟨b, 0, none⟩)) = w' := by
  obtain ⟨j, hj, hjs⟩ := Option.map_eq_some_iff.1 infoBuilder
  go_enter Tryd.func71, Tryd.ntmps71
  go_wp2
  rw [Lib.run_to_unsafe w ⟨b, 0, none⟩ Tryd.underlying96 Tryd.underlying146 hj (by rw [hjs]; decide) hsh (Nat.zero_lt_succ 1)]
  simp only [Result.andThen]
  rw [Oper.upon_value]
  go_wp2
  rw [run_callFunc_extern Tryd.func86 (by kernel_rfl) (by kernel_rfl) (by kernel_rfl) (e := Extern.AbiNoEscape.same) (by kernel_rfl)]
  rw [Lib.run_noEscape]
  simp only [Result.andThen]
  rw [Oper.upon_value]
  go_wp2
  rw [Lib.run_from_unsafe w ⟨b, 0, none⟩ Tryd.underlying146 Tryd.underlying96 hj hsh liesBuilder]
  simp only [Result.andThen]
  rw [Oper.upon_value]
  go_wp2
  go_end0
  exact ⟨rfl, rfl⟩
theorem copyCheck_any (b : Nat) (r : Option Nat) (l : List UInt8) (w : World) (h : Wr b r l w) :
    Calls Tryd.prog 71 #[.pointer (some ⟨b, 0, none⟩)] w fun e w' => e = .returned (.tuple #[]) ∧ WrU b r l w' ∧ Kept b r r w w' := by
  obtain ⟨p, v, hp, hb, hown, hv, hne⟩ := h
  rcases hp with rfl | rfl
  · refine (copyCheck_fresh b w (by rw [Lib.cell_of_heap hb]; rfl) (by simp [World.shape?, hb]) (Lib.frozen_of_heap hb 0)).mono ?_
    rintro e w' ⟨rfl, rfl⟩
    refine ⟨rfl, ⟨v, ?_, ?_, hv, hne⟩, ⟨(Keeps.refl _ _).setCell (fun _ => .inl rfl) _, Later.refl _ _⟩⟩
    · simp [World.setCell, Array.getElem?_modify, hb]
    · refine ownsRowF_kept hown ((Keeps.refl (fun k => k = b) _).setCell (p := ⟨b, 0, none⟩) (fun _ => rfl) _) (fun k hk e => hne ?_)
      rw [← hv, hk, e]
  · refine (copyCheck_used b w (by rw [Lib.cell_of_heap hb]; rfl)).mono ?_
    rintro e w' ⟨rfl, rfl⟩
    exact ⟨rfl, ⟨v, hb, hown, hv, hne⟩, Kept.refl _ _ _⟩
theorem WrU.put {b : Nat} {v v' : Value} {l' : List UInt8} {w : World} (hb : w.heap[b]? = some (.cells #[.pointer (some ⟨b, 0, none⟩), v] 152 (0, 0))) (hown : w.ownsRowF 0 5 1 v' l'.length (Lib.byteCells l')) (hne : v'.ownBlock ≠ some b) :
    WrU b v'.ownBlock l' (w.setCell ⟨b, 1, none⟩ v') := by
  refine ⟨v', ?_, ?_, rfl, hne⟩
  · simp [World.setCell, Array.getElem?_modify, hb]
  · exact ownsRowF_kept hown ((Keeps.refl (fun k => k = b) _).setCell (p := ⟨b, 1, none⟩) (fun _ => rfl) _) (fun k hk e => hne (by rw [hk, e]))
/-- What a write leaves. -/
def Wrote (b : Nat) (r : Option Nat) (l' : List UInt8) (w w' : World) : Prop := ∃ r', Wr b r' l' w' ∧ Kept b r r' w w'
theorem Wrote.of_put {b : Nat} {r : Option Nat} {v v' : Value} {l' : List UInt8} {w w1 w2 w3 : World} (hk : Kept b r r w w1) (hb : w1.heap[b]? = some (.cells #[.pointer (some ⟨b, 0, none⟩), v] 152 (0, 0))) (hv : v.ownBlock = r) (hne : r ≠ some b)
    (h12 : Keeps (fun _ => False) w1 w2) (hg : w2.grownBy w3 v.ownBlock) (hl : Later w2 v.ownBlock v'.ownBlock) (hown : w3.ownsRowF 0 5 1 v' l'.length (Lib.byteCells l')) : Wrote b r l' w (w3.setCell ⟨b, 1, none⟩ v') := by
  have hlt := lt_of_block hb
  have hb2 : w2.heap[b]? = some (.cells #[.pointer (some ⟨b, 0, none⟩), v] 152 (0, 0)) := by rw [h12.block b hlt (fun h => h)]; exact hb
  have hb3 : w3.heap[b]? = some (.cells #[.pointer (some ⟨b, 0, none⟩), v] 152 (0, 0)) := by rw [hg.block b (lt_of_block hb2) (by rw [hv]; exact fun e => hne e.symm)]; exact hb2
  have hne' : v'.ownBlock ≠ some b := by
    rcases hl with e | ⟨g, e, hge⟩
    · rw [e, hv]; exact hne
    · rw [e]; intro h; injection h with h; have := lt_of_block hb2; omega
  refine ⟨_, (WrU.put hb3 hown hne').wr, hk.trans ⟨?_, ?_⟩⟩
  · refine Keeps.setCell ?_ (p := ⟨b, 1, none⟩) (fun _ => .inl rfl) _
    exact (h12.mono (fun _ _ h => h.elim)).grown hg (fun k _ e => .inr (by rw [e, hv]))
  · rw [hv] at hl
    exact hl.of_le h12.size
set_option maxHeartbeats 2000000 in
theorem writeByte_any (b : Nat) (r : Option Nat) (l : List UInt8) (c : UInt8) (w : World) (h : Wr b r l w) (hlen : l.length + 1 ≤ 140737488355328) :
    Calls Tryd.prog 106 #[.pointer (some ⟨b, 0, none⟩), .int .u8 c.toNat] w fun e w' => e = .returned .nilIface ∧ Wrote b r (l ++ [c]) w w' := by
  obtain ⟨i0, hi, hz0, hz1, hz2⟩ := info_parts infoByte
  go_enter Tryd.func106, Tryd.ntmps106
  go_wp2_with fail
  refine (copyCheck_any b r l _ h).mono ?_
  rintro e w1 ⟨rfl, ⟨v, hbk, hown, hv, hne⟩, hk⟩
  have c0 : w1.cell? ⟨b, 0, none⟩ = some (.pointer (some ⟨b, 0, none⟩)) := by rw [Lib.cell_of_heap hbk]; rfl
  have c1 : w1.cell? ⟨b, 1, none⟩ = some v := by rw [Lib.cell_of_heap hbk]; rfl
  have hk' := Lib.hid hk; clear hk
  have hv' := Lib.hid hv; clear hv
  go_wp2_with (at_builtin; refine wpList_append_cellsF _ rfl _ _ 75 rfl 5 i0 (.int .u8 0) 1 1 Tryd.underlying75 hi hz0 hz1 hz2 rfl (by decide) _ _ _ rfl (ownsRowF_kept hown ((Keeps.refl (fun _ => False) _).alloc _) (fun _ _ h => h)) ⟨w1.heap.size, 0, none⟩ 1 1 [.int .u8 c.toNat] rfl rfl ?c1 ?c2 ?c3 ?c4 ?_)
  case c1 =>
    intro j u hj
    match j, hj with
    | 0, hj => simp at hj; subst hj; simp [Addr.add]
  case c2 => intro u hu; simp at hu; subst hu; rfl
  case c3 => unfold maxLen; omega
  case c4 => omega
  intro v' w2 hown' hgrow hlater _
  have hlt : b < w1.heap.size := lt_of_block hbk
  have hb2 : w2.heap[b]? = some (.cells #[.pointer (some ⟨b, 0, none⟩), v] 152 (0, 0)) := by
    rw [hgrow.block b (by simp; omega) (fun e => hne (by rw [← hv'.out]; exact e.symm)), Lib.alloc_old w1 _ b hlt]
    exact hbk
  have d0 : w2.cell? ⟨b, 0, none⟩ = some (.pointer (some ⟨b, 0, none⟩)) := by rw [Lib.cell_of_heap hb2]; rfl
  have d1 : w2.cell? ⟨b, 1, none⟩ = some v := by rw [Lib.cell_of_heap hb2]; rfl
  have f1 : w2.frozen? ⟨b, 1, none⟩ = false := Lib.frozen_of_heap hb2 1
  have fin : Wrote b r (l ++ [c]) w (w2.setCell ⟨b, 1, none⟩ v') := Wrote.of_put hk'.out hbk hv'.out hne ((Keeps.refl _ _).alloc _) hgrow hlater (by rw [byteCells_append, List.length_append]; exact hown')
  obtain ⟨ao, n', cap, rfl⟩ : ∃ ao n' cap, v' = .slice ao n' cap := by
    rcases hown'.2 with ⟨hv, _⟩ | ⟨g, cap, cur, fz, hv, _⟩
    · exact ⟨_, _, _, hv⟩
    · exact ⟨_, _, _, hv⟩
  clear hown' hgrow hlater
  have fin' := Lib.hid fin; clear fin
  go_wp2
  go_ret
  exact ⟨rfl, fin'.out⟩
theorem Wrote.refl {b : Nat} {r : Option Nat} {l : List UInt8} {w : World} (h : Wr b r l w) : Wrote b r l w w := ⟨r, h, Kept.refl _ _ _⟩
theorem Wrote.trans {b : Nat} {r r1 : Option Nat} {l2 : List UInt8} {w w1 w2 : World} (h : Kept b r r1 w w1) (k : Wrote b r1 l2 w1 w2) : Wrote b r l2 w w2 := by
  obtain ⟨r2, h2, k2⟩ := k
  exact ⟨r2, h2, h.trans k2⟩
theorem bstring_nil (b : Nat) (p : Value) (w : World) (hbk : w.heap[b]? = some (.cells #[p, .slice none 0 0] 152 (0, 0))) :
    Calls Tryd.prog 47 #[.pointer (some ⟨b, 0, none⟩)] w fun e w' => e = .returned (.string ⟨#[]⟩) ∧ w.drew = w' := by
  have hUS := fun W : World => Lib.run_unsafeString_none (P := Tryd.prog) W 128 3 9 none
  have c1 : w.drew.cell? ⟨b, 1, none⟩ = some (.slice none 0 0) := by
    have : w.drew.heap[b]? = some (.cells #[p, .slice none 0 0] 152 (0, 0)) := hbk
    rw [Lib.cell_of_heap this]; rfl
  have hSD := fun W : World => Lib.run_unsafeSliceData_nil (P := Tryd.prog) W #[75] 128 0 0
  go_enter Tryd.func47, Tryd.ntmps47
  go_wp2
  go_region
  all_goals (go_wp2; go_ret; exact ⟨rfl, rfl⟩)
theorem bstring_noroom (b g : Nat) (p : Value) (cur : Array Value) (fz : Nat × Nat) (w : World) (hbk : w.heap[b]? = some (.cells #[p, .slice (some ⟨g, 0, none⟩) 0 0] 152 (0, 0))) (hg : w.heap[g]? = some (.cells cur 5 fz)) :
    Calls Tryd.prog 47 #[.pointer (some ⟨b, 0, none⟩)] w fun e w' => e = .returned (.string ⟨#[]⟩) ∧ (w.alloc (.view ⟨g, 0, none⟩ 5)).drew = w' := by
  have hUS := fun (W : World) (q : Option Addr) => Lib.run_unsafeString_none (P := Tryd.prog) W 128 3 9 q
  have hlt : b < w.heap.size := lt_of_block hbk
  have c1 : w.drew.cell? ⟨b, 1, none⟩ = some (.slice (some ⟨g, 0, none⟩) 0 0) := by
    have : w.drew.heap[b]? = some (.cells #[p, .slice (some ⟨g, 0, none⟩) 0 0] 152 (0, 0)) := hbk
    rw [Lib.cell_of_heap this]; rfl
  have hSD : (Builtin.unsafeSliceData_ #[75] 128 #[.slice (some ⟨g, 0, none⟩) 0 0]).run Tryd.prog w.drew = .ok (.pointer (some ⟨w.drew.heap.size, 0, none⟩)) (w.drew.alloc (.view ⟨g, 0, none⟩ 5)) :=
    Lib.run_unsafeSliceData_zero w.drew _ _ 5 Tryd.underlying128 ⟨g, 0, none⟩ 0 (5, cur.size) (by have hg' : w.drew.heap[g]? = some (.cells cur 5 fz) := hg; simp [World.shape?, hg'])
  have c2 : (w.drew.alloc (.view ⟨g, 0, none⟩ 5)).cell? ⟨b, 1, none⟩ = some (.slice (some ⟨g, 0, none⟩) 0 0) := by
    have : (w.drew.alloc (.view ⟨g, 0, none⟩ 5)).heap[b]? = _ := (Lib.alloc_old w.drew _ b hlt).trans hbk
    rw [Lib.cell_of_heap this]; rfl
  have c3 : (w.alloc (.view ⟨g, 0, none⟩ 5)).drew.cell? ⟨b, 1, none⟩ = some (.slice (some ⟨g, 0, none⟩) 0 0) := c2
  have c0 : w.cell? ⟨b, 1, none⟩ = some (.slice (some ⟨g, 0, none⟩) 0 0) := c1
  go_enter Tryd.func47, Tryd.ntmps47
  go_wp2
  go_region
  all_goals (go_wp2; go_ret; exact ⟨rfl, rfl⟩)
theorem bstring_room (b g cap : Nat) (p : Value) (w : World) (hc0 : cap ≠ 0) (hbk : w.heap[b]? = some (.cells #[p, .slice (some ⟨g, 0, none⟩) 0 cap] 152 (0, 0))) :
    Calls Tryd.prog 47 #[.pointer (some ⟨b, 0, none⟩)] w fun e w' => e = .returned (.string ⟨#[]⟩) ∧ w.drew = w' := by
  have hUS := fun (W : World) (q : Option Addr) => Lib.run_unsafeString_none (P := Tryd.prog) W 128 3 9 q
  have c1 : w.drew.cell? ⟨b, 1, none⟩ = some (.slice (some ⟨g, 0, none⟩) 0 cap) := by
    have : w.drew.heap[b]? = some (.cells #[p, .slice (some ⟨g, 0, none⟩) 0 cap] 152 (0, 0)) := hbk
    rw [Lib.cell_of_heap this]; rfl
  have hSD := fun W : World => Lib.run_unsafeSliceData_row (P := Tryd.prog) W #[75] 128 ⟨g, 0, none⟩ 0 cap hc0
  clear hc0
  go_enter Tryd.func47, Tryd.ntmps47
  go_wp2
  go_region
  all_goals (go_wp2; go_ret; exact ⟨rfl, rfl⟩)
theorem bstring_full (b g cap : Nat) (p : Value) (cur : Array Value) (fz : Nat × Nat) (l : List UInt8) (w : World) (h0 : l ≠ []) (hbk : w.heap[b]? = some (.cells #[p, .slice (some ⟨g, 0, none⟩) l.length cap] 152 (0, 0))) (hg : w.heap[g]? = some (.cells cur 5 fz))
    (hnc : l.length ≤ cap) (hcm : cap ≤ maxLen) (hcs : cur.size = cap * 1) (hcells : ∀ j u, (Lib.byteCells l)[j]? = some u → w.cell? ((⟨g, 0, none⟩ : Addr).add j) = some u) :
    Calls Tryd.prog 47 #[.pointer (some ⟨b, 0, none⟩)] w fun e w' => e = .returned (.string ⟨l.toArray⟩) ∧ w.drew.freeze ⟨g, 0, none⟩ l.length = w' := by
  have hl0 : l.length ≠ 0 := by simpa using h0
  have c1 : w.drew.cell? ⟨b, 1, none⟩ = some (.slice (some ⟨g, 0, none⟩) l.length cap) := by
    have : w.drew.heap[b]? = some (.cells #[p, .slice (some ⟨g, 0, none⟩) l.length cap] 152 (0, 0)) := hbk
    rw [Lib.cell_of_heap this]; rfl
  have hSD : (Builtin.unsafeSliceData_ #[75] 128 #[.slice (some ⟨g, 0, none⟩) l.length cap]).run Tryd.prog w.drew = .ok (.pointer (some ⟨g, 0, none⟩)) w.drew :=
    Lib.run_unsafeSliceData_row _ _ _ _ _ _ (by omega)
  have hUS : (Builtin.unsafeString_ #[128, 3] 9 #[.pointer (some ⟨g, 0, none⟩), .int .i64 l.length]).run Tryd.prog w.drew = .ok (.string ⟨l.toArray⟩) (w.drew.freeze ⟨g, 0, none⟩ l.length) := by
    refine Lib.run_unsafeString_row w.drew 128 3 9 5 Tryd.underlying128 cellsByte g cur.size (by have hg' : w.drew.heap[g]? = some (.cells cur 5 fz) := hg; simp [World.shape?, hg']) l h0 (by omega) (by unfold maxLen at hcm; omega) ?_
    intro j x hx
    exact hcells j (.int .u8 x.toNat) (by simp [Lib.byteCells, hx])
  clear hcells hnc hcm hcs hg hl0 h0 hbk
  go_enter Tryd.func47, Tryd.ntmps47
  go_wp2
  go_region
  all_goals (go_wp2; go_ret; exact ⟨rfl, rfl⟩)
theorem ownsRowF_frozen {e : TypeId} {g cap : Nat} {n : Nat} {xs : List Value} {w : World} (h : w.ownsRowF 0 e 1 (.slice (some ⟨g, 0, none⟩) n cap) n xs) : (w.freeze ⟨g, 0, none⟩ n).ownsRowF 0 e 1 (.slice (some ⟨g, 0, none⟩) n cap) n xs := by
  unfold World.freeze
  split
  · exact h
  · rename_i hn0
    refine ⟨h.1, ?_⟩
    rcases h.2 with ⟨hv, _⟩ | ⟨g', cap', cur, fz, hv, hbg, hg, hfz, rest⟩
    · cases hv
    · injection hv with ha _ hcap
      injection ha with ha
      injection ha with hgg _ _
      subst hgg
      subst hcap
      obtain ⟨lo, hi⟩ := fz
      refine .inr ⟨g, _, cur, (if lo == hi then (0, 0 + n) else (min lo 0, max hi (0 + n))), rfl, hbg, ?_, ?_, rest⟩
      · simp [Array.getElem?_modify, hg]
      · simp only at hfz
        split <;> simp <;> omega
/-- String: the bytes; the Writer holds them still. -/
theorem bstring_any (b : Nat) (r : Option Nat) (l : List UInt8) (w : World) (h : Wr b r l w) :
    Calls Tryd.prog 47 #[.pointer (some ⟨b, 0, none⟩)] w fun e w' => e = .returned (.string ⟨l.toArray⟩) ∧ Wr b r l w' ∧ Keeps (fun k => some k = r) w w' := by
  have h' := h
  obtain ⟨p, v, hp, hbk, hown, hv, hne⟩ := h
  rcases hown.2 with ⟨rfl, h0⟩ | ⟨g, cap, cur, fz, rfl, _, hg, hfz, hnc, hcm, hcs, htake⟩
  · obtain rfl : l = [] := List.eq_nil_of_length_eq_zero h0
    refine (bstring_nil b p w hbk).mono ?_
    rintro e w' ⟨rfl, rfl⟩
    exact ⟨rfl, h'.drew, (Keeps.refl _ _).drew⟩
  · by_cases hl : l = []
    · subst hl
      by_cases hc0 : cap = 0
      · subst hc0
        refine (bstring_noroom b g p cur fz w hbk hg).mono ?_
        rintro e w' ⟨rfl, rfl⟩
        exact ⟨rfl, (h'.alloc _).drew, ((Keeps.refl _ _).alloc _).drew⟩
      · refine (bstring_room b g cap p w hc0 hbk).mono ?_
        rintro e w' ⟨rfl, rfl⟩
        exact ⟨rfl, h'.drew, (Keeps.refl _ _).drew⟩
    · refine (bstring_full b g cap p cur fz l w hl hbk hg hnc hcm hcs (fun j u hj => hown.cells rfl j u hj)).mono ?_
      rintro e w' ⟨rfl, rfl⟩
      have hk : Keeps (fun k => some k = r) w (w.drew.freeze ⟨g, 0, none⟩ l.length) := ((Keeps.refl _ _).drew).freeze (p := ⟨g, 0, none⟩) (fun _ => by rw [← hv]; rfl) _
      refine ⟨rfl, ⟨p, _, hp, ?_, ?_, hv, hne⟩, hk⟩
      · rw [hk.block b (lt_of_block hbk) (fun e => hne e.symm)]; exact hbk
      · have hd : w.drew.ownsRowF 0 5 1 (.slice (some ⟨g, 0, none⟩) l.length cap) l.length (Lib.byteCells l) := hown
        exact ownsRowF_frozen hd
/-- New: a Writer in a new block. -/
theorem wnew_any (w : World) : Calls Tryd.prog 77 #[] w fun e w' => e = .returned (.pointer (some ⟨w.heap.size, 0, none⟩)) ∧ Wr w.heap.size none [] w' ∧ Keeps (fun _ => False) w w' ∧ w.heap.size < w'.heap.size := by
  go_enter Tryd.func77, Tryd.ntmps77
  go_wp2
  go_ret
  refine ⟨rfl, ⟨.pointer none, .slice none 0 0, .inl rfl, ?_, World.ownsRowF_nil _ _ _ _, rfl, by simp⟩, (Keeps.refl _ _).alloc _, by simp⟩
  exact heap_alloc_new w _
theorem wout_any (b : Nat) (r : Option Nat) (l : List UInt8) (w : World) (h : Wr b r l w) :
    Calls Tryd.prog 79 #[.pointer (some ⟨b, 0, none⟩)] w fun e w' => e = .returned (.string ⟨l.toArray⟩) ∧ Wr b r l w' ∧ Keeps (fun k => some k = r) w w' := by
  go_enter Tryd.func79, Tryd.ntmps79
  go_wp2_with fail
  refine (bstring_any b r l _ h).mono ?_
  rintro e w' ⟨rfl, h1, hk⟩
  go_wp2
  go_ret
  exact ⟨rfl, h1, hk⟩
theorem wbyte_any (b : Nat) (r : Option Nat) (l : List UInt8) (c : Int) (w : World) (h : Wr b r l w) (hlen : l.length + 1 ≤ 140737488355328) (hc0 : 0 ≤ c) (hc1 : c < 256) :
    Calls Tryd.prog 101 #[.pointer (some ⟨b, 0, none⟩), .int .u8 c] w fun e w' => e = .returned (.tuple #[]) ∧ Wrote b r (l ++ [c.toNat.toUInt8]) w w' := by
  have hb := writeByte_any b r l c.toNat.toUInt8 w h hlen
  rw [toUInt8_toNat (show c.toNat < 256 by omega), Int.toNat_of_nonneg hc0] at hb
  go_enter Tryd.func101, Tryd.ntmps101
  go_wp2_with fail
  refine hb.mono ?_
  rintro e w' ⟨rfl, h1⟩
  go_wp2
  go_end0
  exact ⟨rfl, h1⟩
/-- lowFirst's loop. -/
def LowWAt (b : Nat) (r : Option Nat) (l : List UInt8) (n x : Nat) (w : World) (v i : Value) (wr : World) : Prop :=
  ∃ (k : Nat) (r1 : Option Nat), k ≤ n ∧ i = .int .i64 k ∧ v = .int .u64 ((x / 256 ^ k : Nat) : Int) ∧ Wr b r1 (l ++ lowB k x) wr ∧ Kept b r r1 w wr
theorem LowWAt.more {b : Nat} {r r1 : Option Nat} {l : List UInt8} {n x k y : Nat} {w wr w1 : World} (hk : k < n) (hy : x / 256 ^ k = y) (kk : Kept b r r1 w wr) {c : Int} (hc : c = (y : Int) % 256)
    (h1 : Wrote b r1 ((l ++ lowB k x) ++ [c.toNat.toUInt8]) wr w1) : LowWAt b r l n x w (.int .u64 ((y : Int) / 256)) (.int .i64 ((k : Int) + 1)) w1 := by
  obtain ⟨r2, h2, k2⟩ := h1
  refine ⟨k + 1, r2, by omega, by simp, ?_, ?_, kk.trans k2⟩
  · rw [Nat.pow_succ, ← Nat.div_div_eq_div_mul, hy]; simp
  · rw [lowB_snoc, hy]
    subst hc
    rw [show ((y : Int) % 256).toNat = y % 256 by omega, List.append_assoc] at h2
    exact h2
set_option maxHeartbeats 400000 in
theorem wlow_any (b : Nat) (r : Option Nat) (l : List UInt8) (n x : Nat) (w : World) (h : Wr b r l w) (hlen : l.length + n ≤ 140737488355328) (hx : x < 18446744073709551616) :
    Calls Tryd.prog 91 #[.pointer (some ⟨b, 0, none⟩), .int .u64 x, .int .i64 n] w fun e w' => e = .returned (.tuple #[]) ∧ Wrote b r (l ++ lowB n x) w w' := by
  go_enter Tryd.func91, Tryd.ntmps91
  go_wp2
  go_loopw [1, 7] (fun v i wr => LowWAt b r l n x w v i wr) (fun _ i _ => n - (intOf i).toNat)
  case atStart => exact ⟨0, r, Nat.zero_le _, rfl, by simp, by simpa [lowB] using h, Kept.refl _ _ _⟩
  case round =>
    obtain ⟨k, r1, hkn, rfl, rfl, hw, kk⟩ := hrel
    by_cases hlt : k < n
    · obtain ⟨y, hy⟩ : ∃ y, x / 256 ^ k = y := ⟨_, rfl⟩
      have hyx : y < 18446744073709551616 := by rw [← hy]; exact Nat.lt_of_le_of_lt (Nat.div_le_self _ _) hx
      rw [hy]
      have Hy := Lib.hid hy; clear hy
      have hroom : (l ++ lowB k x).length + 1 ≤ 140737488355328 := by rw [List.length_append, lowB_length]; omega
      go_wp2_with fail
      refine (wbyte_any b r1 _ _ _ hw hroom (by omega) (by omega)).mono ?_
      rintro e w1 ⟨rfl, h1⟩
      have fin := LowWAt.more hlt Hy.out kk rfl h1
      clear h1 kk
      have fin' := Lib.hid fin; clear fin
      go_wp2
      go_roundw
      case rel => exact fin'.out
      case measure => simp [intOf]; omega
    · obtain rfl : k = n := by omega
      clear hlt
      go_wp2
      go_end0
      exact ⟨rfl, r1, hw, kk⟩
theorem wfixed_any (b : Nat) (r : Option Nat) (l : List UInt8) (x : Nat) (w : World) (h : Wr b r l w) (hlen : l.length + 8 ≤ 140737488355328) (hx : x < 18446744073709551616) :
    Calls Tryd.prog 78 #[.pointer (some ⟨b, 0, none⟩), .int .u64 x] w fun e w' => e = .returned (.tuple #[]) ∧ Wrote b r (l ++ lowB 8 x) w w' := by
  go_enter Tryd.func78, Tryd.ntmps78
  go_wp2_with fail
  refine (wlow_any b r l 8 x _ h hlen hx).mono ?_
  rintro e w' ⟨rfl, h1⟩
  go_wp2
  go_end0
  exact ⟨rfl, h1⟩
end Go.Proofs.YtggogaaooacooaaDoor
