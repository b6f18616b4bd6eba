/-
  The landed table's iterators: a span of keys; what an iterator over a tree may lean on.
-/
import Derived.Test.YthjjfjhajadimaaGreatDoorP28
import Derived.Deep.RegionHeld3
import Derived.OrdersIn
import Derived.Laws.Cover1
namespace Go.Proofs.YthjjfjhajadimaaGreatDoor
open Go.RowKit Go.WideShapes
set_option maxRecDepth 100000
abbrev spanV (lo hi : ByteArray) (ends : Bool) : Value := .agg #[.string lo, .string hi, .bool ends]
theorem leq_texts (a b : ByteArray) : (Op.bytesLess a.toList b.toList || a.toList == b.toList) = !Tb.lt b.data.toList a.data.toList := by
 rw [ByteArray.toList_eq, ByteArray.toList_eq]
 show (Tb.lt a.data.toList b.data.toList || a.data.toList == b.data.toList) = _
 generalize a.data.toList = x
 generalize b.data.toList = y
 cases h : Tb.lt x y with
 | true => rw [Tb.lt_asymm h]; rfl
 | false =>
  cases h2 : Tb.lt y x with
  | true => simpa using fun e => Tb.lt_ne h2 e.symm
  | false => simpa using Tb.lt_total h h2
set_option maxHeartbeats 800000 in
theorem begunAt_any (lo hi : ByteArray) (ends : Bool) (k : ByteArray) (W : World) : Calls Tryz.prog 244 #[spanV lo hi ends, .string k] W fun e w' => e = .returned (.bool (!Tb.lt k.data.toList lo.data.toList)) /\ Qt W w' := by
 have FIN := Lib.hid (show Qt W (W.alloc (.cells #[.string lo, .string hi, .bool ends] 219)) from (Qt.refl W).alloc _)
 go_enter Tryz.func244, Tryz.ntmps244
 go_wp2
 go_ret
 exact ⟨by rw [<- leq_texts]; rfl, FIN.out⟩
set_option maxHeartbeats 800000 in
theorem overAt_any (lo hi : ByteArray) (ends : Bool) (k : ByteArray) (W : World) : Calls Tryz.prog 245 #[spanV lo hi ends, .string k] W fun e w' => e = .returned (.bool (ends && !Tb.lt k.data.toList hi.data.toList)) /\ Qt W w' := by
 have FIN := Lib.hid (show Qt W (W.alloc (.cells #[.string lo, .string hi, .bool ends] 219)) from (Qt.refl W).alloc _)
 cases ends with
 | false =>
  go_enter Tryz.func245, Tryz.ntmps245
  go_wp2
  go_ret
  exact ⟨rfl, FIN.out⟩
 | true =>
  go_enter Tryz.func245, Tryz.ntmps245
  go_wp2
  go_ret
  exact ⟨by rw [Bool.true_and, <- leq_texts]; rfl, FIN.out⟩
theorem kpo_cell {Ow : World -> Nat -> Prop} {A B : World} (h : KpO Ow A B) {b i : Nat} {v : Value} (hc : A.cell? ⟨b, i, none⟩ = some v) (hn : ¬ Ow A b) : B.cell? ⟨b, i, none⟩ = some v := by
 have hb : ∃ o : Obj, A.heap[b]? = some o /\ o.isCells = true := by
  unfold World.cell? at hc
  cases ho : A.heap[b]? with
  | none => simp [ho] at hc
  | some o => exact ⟨o, rfl, by cases o <;> simp_all [Obj.isCells]⟩
 obtain ⟨o, ho, hcs⟩ := hb
 rw [World.cell?_of_block (w := A) (w' := B) (a := ⟨b, i, none⟩) ((h.block b o ho hcs hn).trans ho.symm)]
 exact hc
theorem IsT.kpo {X : Nat -> Prop} {Ow : World -> Nat -> Prop} {W W' : World} (h : KpO Ow W W') (hX : ∀ k, X k -> ¬ Ow W k) : ∀ {p : Option Addr} {T : Tb.Tr}, IsT X W p T -> IsT X W' p T
 | _, .leaf, ht => ht
 | _, .node _ _ _, ⟨b, pl, pr, hp, hb, c0, c1, c2, c3, c4, hl, hr⟩ => ⟨b, pl, pr, hp, hb, kpo_cell h c0 (hX b hb), kpo_cell h c1 (hX b hb), kpo_cell h c2 (hX b hb), kpo_cell h c3 (hX b hb), kpo_cell h c4 (hX b hb), IsT.kpo h hX hl, IsT.kpo h hX hr⟩
structure Lv (n0 : Nat) (Ow : World -> Nat -> Prop) (X : Nat -> Prop) (W : World) : Prop where
 base : n0 <= W.heap.size
 own : ∀ k, Ow W k -> k < W.heap.size
 there : ∀ k, X k -> k < W.heap.size
 apart : ∀ k, X k -> ¬ Ow W k
section
variable {n0 : Nat} {Ow : World -> Nat -> Prop} {X : Nat -> Prop} {W W' : World}
theorem Lv.kp (h : Lv n0 Ow X W) (k : KpO Ow W W') : Lv n0 Ow X W' := by
 have hz := k.size
 refine ⟨Nat.le_trans h.base hz, fun j hj => ?_, fun j hj => Nat.lt_of_lt_of_le (h.there j hj) hz, fun j hj e => ?_⟩
 ·rcases k.own j hj with e | e
  ·exact Nat.lt_of_lt_of_le (h.own j e) hz
  ·exact e.2
 ·rcases k.own j e with e | e
  ·exact h.apart j hj e
  ·have := h.there j hj; omega
theorem Lv.qt (g : OwnsO n0 Ow) (h : Lv n0 Ow X W) (q : Qt W W') : Lv n0 Ow X W' := h.kp (KpO.qt g h.base q)
theorem Lv.more (g : OwnsO n0 Ow) (h : Lv n0 Ow X W) (q : Qt W W') {b : Nat} (hb : W.heap.size <= b) (hb2 : b < W'.heap.size) : Lv n0 Ow (fun k => X k \/ k = b) W' := by
 have h2 := h.qt g q
 refine ⟨h2.base, h2.own, fun j hj => ?_, fun j hj e => ?_⟩
 ·rcases hj with hj | hj
  ·exact h2.there j hj
  ·omega
 ·rcases hj with hj | hj
  ·exact h2.apart j hj e
  ·subst hj
   rcases (KpO.qt g h.base q).own j e with e | e
   ·have := h.own j e; omega
   ·have hbl : Below n0 W W' := (Qt.below q).mono h.base
    have := h.own j (g.below hbl ‹_›)
    omega
end
theorem yieldDeep {m : Nat} (m' : Nat) {P : Program} {l : Nat} {args : Array Value} {W : World} {R : Ending -> World -> Prop} (h : YieldAt Fence.wide m P l args W R) : YieldAt Fence.wide m' P l args W R := by
 obtain ⟨fn, tmps, assign, body, hy, h1, h2⟩ := h
 exact ⟨fn, tmps, assign, body, hy, h1, fun c cs _ => h2 c cs (room_wide _)⟩
def RiseP (Ow : World -> Nat -> Prop) (J Jx : List Tb.R -> World -> Prop) (pre L : List Tb.R) (W : World) (e : Ending) (W' : World) : Prop :=
 ∃ ok : Bool, e = .returned (.bool ok) /\ ((ok = true /\ J (pre ++ L) W' /\ KpO Ow W W') \/ (ok = false /\ ∃ q, q <+: L /\ Jx (pre ++ q) W'))
theorem by_key {T G : Prop} (h : T -> G) (key : T) : G := h key
theorem wpAnyIn_listed {F : Fence} {n : Nat} {P : Program} {md : Region.Mode} {ops : Array Oper} {Q : Exit -> Act -> World -> Prop} {fuel : Nat} {a b : Array Bool} {act : Act} {w : World} (e : a = b) (h : wpAnyIn F n P md ops Q fuel b act w) : wpAnyIn F n P md ops Q fuel a act w := e ▸ h
section
variable {F : Fence} {n : Nat} {P : Program} {md : Region.Mode} {ops : Array Oper} {Q : Exit -> Act -> World -> Prop} {fuel i : Nat} {listed : Array Bool} {a : Act} {w : World} {oi : Oper} {v : Value}
theorem wpAnyIn_takeD (d : Option Tmp) (hro : F.round = none) (hi : ops[i]? = some oi) (hd : oi.dst = d) (hs : Region.noSelect ops = true) (hf : Region.free md ops listed i = true) (hr : (Region.ready md ops listed).contains i = true)
  (hQ : ∀ c a w, Q (.panic c) (a.put oi.dst v) w -> Q (.panic c) a w) (hy : YieldsFenced P ops oi v a)
  (h : wpAnyIn F n P md ops Q fuel (listed.setIfInBounds i true) (a.put d v) w) : wpAnyIn F n P md ops Q (fuel + 1) listed a w :=
 wpAnyIn_take hro hi hs hf hr hQ hy (hd ▸ h)
end
end Go.Proofs.YthjjfjhajadimaaGreatDoor
