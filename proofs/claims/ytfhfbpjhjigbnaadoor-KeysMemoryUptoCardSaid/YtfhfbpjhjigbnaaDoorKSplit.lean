/-
  The contract of Split.
-/
import Derived.Test.YtfhfbpjhjigbnaaDoorKFirst3
import Derived.Deep.AppendLies
import Derived.OwnWalk
import Derived.Deep.DeepCutAuto
import Derived.Outline
namespace Go.Proofs.YtfhfbpjhjigbnaaDoor
open Go.RowKit Go.WideShapes
set_option maxRecDepth 100000

/-- What Split answers. -/
def SplitV (ef : Addr) (l : List UInt8) (w : World) (e : Ending) (w' : World) : Prop :=
  Qt w w' ∧ ((∃ ps v, K.splitB l = some ps ∧ ps.length ≤ l.length ∧ NewParts w.heap.size w' v (ps.map ofPart) ∧ e = .returned (.tuple #[v, .nilIface])) ∨
    (K.splitB l = none ∧ e = .returned (.tuple #[.slice none 0 0, errF ef])))

def strLen : Value → Nat
  | .string c => c.size
  | _ => 0

/-- Split's loop: what is left, and the parts so far. -/
def SplitAt (l : List UInt8) (w : World) (key v : Value) (wr : World) : Prop :=
  ∃ (c : ByteArray) (ps : List K.PartD), key = .string c ∧ ps.length + c.size ≤ l.length ∧ K.splitB l = (K.splitB c.data.toList).map (ps ++ ·) ∧ NewParts w.heap.size wr v (ps.map ofPart) ∧ Since w.heap.size w wr

theorem ofPart_one (p : K.PartD) : ∀ u ∈ (ofPart p).list, u.oneCell' = true := by
  intro u hu
  simp only [PD.list, List.mem_cons, List.not_mem_nil, or_false] at hu
  rcases hu with rfl | rfl | rfl <;> rfl

theorem SplitAt.more {l : List UInt8} {c : ByteArray} {ps : List K.PartD} {p : K.PartD} {n : Nat} {w wr w2 w3 : World} {v v' : Value} (hl : ps.length + c.size ≤ l.length) (he : K.splitB l = (K.splitB c.data.toList).map (ps ++ ·)) (hn : NewParts w.heap.size wr v (ps.map ofPart)) (hS : Since w.heap.size w wr)
    (hh : K.headB c.data.toList = some (p, c.data.toList.drop n)) (hn1 : 1 ≤ n) (hn2 : n ≤ c.size) (k2 : Qt wr w2) (hg : w2.grownBy w3 v.ownBlock) (hlat : Later w2 v.ownBlock v'.ownBlock) (hown : w3.ownsRow 0 25 3 v' ((ps.map ofPart).length + 1) (psCells (ps.map ofPart) ++ (ofPart p).list)) :
    SplitAt l w (.string (c.extract n c.size)) v' w3 := by
  have h0 := hS.size
  have h2 := k2.size
  refine ⟨_, ps ++ [p], rfl, ?_, ?_, ⟨?_, fun g hg' => ?_⟩, Keeps.grown (hS.step k2 (fun _ h => h.elim)) hg (fun j hj e => hn.new j e.symm)⟩
  · rw [List.length_append, ByteArray.size_extract]; simp; omega
  · rw [he, splitB_some hh, Lib.extract_to_end, Option.map_map]
    congr 1
    funext x
    simp
  · rw [List.map_append, List.length_append, psCells_append, List.map_cons, List.map_nil, psCells_one]
    exact hown
  · rcases hlat with e | ⟨g', e, hge⟩
    · exact hn.new g (e ▸ hg')
    · rw [e] at hg'; injection hg' with hg'; omega

theorem NewParts.since {B : Nat} {w w' : World} {v : Value} {ps : List PD} (h : NewParts B w v ps) (k : Qt w w') : NewParts B w' v ps := h.qt k

set_option maxHeartbeats 3200000 in
theorem split_any (ef : Addr) (m : Int) (s : ByteArray) (w : World) (hE : ErrF ef w) (hm : MaxL m w) (hs : s.size ≤ 4194304) : Calls Tryd.prog 16 #[.string s] w (SplitV ef s.data.toList w) := by
  obtain ⟨i0, hi, hz0, hz1, hz2⟩ := info_parts infoPart
  have HE := Lib.hid (fun W (k : Since w.heap.size w W) => show ErrF ef W from k.cellv hE (fun e => by have := World.block_lt_of_cell? w _ hE; simp only at e this; omega))
  have HM := Lib.hid (fun W (k : Since w.heap.size w W) => show MaxL m W from k.cellv hm (fun e => by have := hm.lt; simp only at e; omega))
  have hlen : s.data.toList.length = s.size := rfl
  have A0 := Lib.hid (show SplitAt s.data.toList w (.string s) (.slice none 0 0) w from ⟨s, [], rfl, by simp, by cases K.splitB s.data.toList <;> simp, NewParts.nil _ _, Keeps.refl _ _⟩)
  clear hE hm
  go_enter Tryd.func16, Tryd.ntmps16
  go_wp2
  go_loopw [0, 4] (fun key v wr => SplitAt s.data.toList w key v wr) (fun key _ _ => strLen key)
  case atStart => exact A0.out
  case round =>
    obtain ⟨c, ps, rfl, hl, he, hn, hS⟩ := hrel
    have HS := Lib.hid hS
    have hpl : (ps.map ofPart).length = ps.length := List.length_map ..
    by_cases hc : c.size = 0
    · have hcd : c.data.toList = [] := List.eq_nil_of_length_eq_zero hc
      obtain rfl : c = ⟨#[]⟩ := by obtain ⟨⟨x⟩⟩ := c; simp at hcd; subst hcd; rfl
      have Fin := Lib.hid (show SplitV ef s.data.toList w (.returned (.tuple #[_, .nilIface])) wr from ⟨Since.qt hS, .inl ⟨ps, _, by rw [he]; show (K.splitB []).map _ = _; rw [splitB_nil]; simp, by simp at hl; omega, hn, rfl⟩⟩)
      clear hS he hn hl hpl hcd
      go_wp2
      go_ret2
      exact Fin.out
    · have hcl : c.data.toList.length = c.size := rfl
      have hce : c.toList.isEmpty = false := by rw [ByteArray.toList_eq]; cases h : c.data.toList with
        | nil => rw [h] at hcl; simp at hcl; omega
        | cons => rfl
      have hcn : ¬ c.data.toList = [] := fun e => by rw [e] at hcl; simp at hcl; omega
      have Q := Lib.hid (first_any ef m c wr (HE.out _ hS) (HM.out _ hS) (by omega) (by omega))
      have FinN := Lib.hid (fun (hh : K.headB c.data.toList = none) W (k : Qt wr W) => show SplitV ef s.data.toList w (.returned (.tuple #[.slice none 0 0, errF ef])) W from ⟨Since.qt (Since.step hS k (fun _ e => e.elim)), .inr ⟨by rw [he, splitB_none hcn hh]; rfl, rfl⟩⟩)
      have Own := Lib.hid (fun W (k : Qt wr W) => (hn.qt k).own)
      have Fin := Lib.hid (fun p n hh (hn1 : 1 ≤ n) (hn2 : n ≤ c.size) w2 w3 v' (k2 : Qt wr w2) hg hlat hown => SplitAt.more (p := p) (n := n) (w2 := w2) (w3 := w3) (v' := v') hl he hn hS hh hn1 hn2 k2 hg hlat hown)
      rw [hpl] at Own Fin
      have hps : ps.length ≤ 4194304 := by omega
      clear hS he hn hl hcn hcl hpl
      go_wp2_with fail
      refine Q.out.mono ?_
      rintro e w1 ⟨k1, h⟩
      have K1 := Lib.hid k1
      clear k1
      rcases h with ⟨p, n, hp, hn1, hn2, rfl⟩ | ⟨hh, rfl⟩
      · have hn2' : n ≤ c.size := hn2
        have F := Lib.hid (Fin.out p n hp hn1 hn2')
        have H1 := Lib.hid (ofPart_one p)
        have hmes : c.size - n < c.size := by omega
        clear hp hn2 Fin FinN
        generalize ofPart p = P at *
        go_upto_region 4 with (fail)
        have kA : Qt wr (w1.alloc (.cells #[.bool P.b, .int .i64 P.n, .string P.s] 25)) := K1.out.alloc _
        have cA : ∀ j, (w1.alloc (.cells #[.bool P.b, .int .i64 P.n, .string P.s] 25)).cell? ⟨w1.heap.size, j, none⟩ = _ := fun j => cell_of_row _ _ _ _ _ _ (heap_alloc_new w1 _)
        generalize w1.alloc (.cells #[.bool P.b, .int .i64 P.n, .string P.s] 25) = W1 at *
        have a0 := cA 0
        have a1 := cA 1
        have a2 := cA 2
        have KA := Lib.hid kA
        have HA := Lib.hid (fun o => Qt.trans kA ((Keeps.refl (fun _ => False) W1).alloc o))
        clear cA kA
        go_wp2_with (at_builtin; refine wpList_append_cells0 _ rfl _ _ 22 rfl 25 i0 _ 3 32 Tryd.underlying22 hi hz0 hz1 hz2 rfl (by decide) _ ps.length _ rfl (Own.out _ (HA.out _)) ⟨W1.heap.size, 0, none⟩ 1 1 [.bool P.b, .int .i64 P.n, .string P.s] rfl rfl (World.news_of_block (cs := #[.bool P.b, .int .i64 P.n, .string P.s]) (heap_alloc_new W1 _)) H1.out (by unfold maxLen; omega) (by omega) ?_)
        intro v' w3 hown hg hlat _
        have fin := Lib.hid (F.out _ w3 v' (HA.out _) hg hlat hown)
        clear hown hg hlat F a0 a1 a2
        go_wp2
        go_roundw
        case rel => exact fin.out
        case measure => simp [strLen, ByteArray.size_extract]; omega
      · have F := Lib.hid (fun o => FinN.out hh _ (K1.out.alloc o))
        clear hh Fin FinN Own
        go_wp2
        go_ret2
        exact F.out _
end Go.Proofs.YtfhfbpjhjigbnaaDoor
