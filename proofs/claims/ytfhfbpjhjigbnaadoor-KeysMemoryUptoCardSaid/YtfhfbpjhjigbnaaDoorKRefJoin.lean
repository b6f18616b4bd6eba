/-
  The contract of the reference's Join.
-/
import Derived.Test.YtfhfbpjhjigbnaaDoorKForm2
namespace Go.Proofs.YtfhfbpjhjigbnaaDoor
open Go.RowKit Go.WideShapes
set_option maxRecDepth 100000

/-- A new []byte that is not empty, laid open. -/
theorem NewBytes.form {B : Nat} {w : World} {v : Value} {l : List UInt8} (h : NewBytes B w v l) (hl : 1 ≤ l.length) : ∃ g cap, v = .slice (some ⟨g, 0, none⟩) l.length cap ∧ B ≤ g ∧ ∀ (j : Nat) u, (Lib.byteCells l)[j]? = some u → w.cell? ((⟨g, 0, none⟩ : Addr).add j) = some u := by
  rcases h.own.2 with ⟨rfl, h0⟩ | ⟨g, cap, cur, rfl, _, hg, hnc, _⟩
  · omega
  · exact ⟨g, cap, rfl, h.new g rfl, fun j u hj => (World.ownsRowF_of h.own).cells (g := g) rfl j u hj⟩

theorem byteCells_one' (l : List UInt8) : ∀ u ∈ Lib.byteCells l, u.oneCell' = true := by
  intro u hu
  obtain ⟨c, _, rfl⟩ := List.mem_map.1 hu
  rfl

/-- The reference's Join's loop. -/
def RJoinAt (ps : List PD) (w : World) (v i : Value) (wr : World) : Prop :=
  ∃ k : Nat, k ≤ ps.length ∧ i = .int .i64 k ∧ NewBytes w.heap.size wr v (K.joinB ((ps.map PD.part).take k)) ∧ Since w.heap.size w wr

theorem RJoinAt.more {ps : List PD} {k : Nat} {w wr w2 w3 : World} {v v' : Value} {p : PD} (hk : ps[k]? = some p) (hn : NewBytes w.heap.size wr v (K.joinB ((ps.map PD.part).take k))) (hS : Since w.heap.size w wr) (k2 : Qt wr w2)
    (hg : w2.grownBy w3 v.ownBlock) (hl : Later w2 v.ownBlock v'.ownBlock) (hown : w3.ownsRow 0 5 1 v' ((K.joinB ((ps.map PD.part).take k)).length + (K.formB p.part).length) (Lib.byteCells (K.joinB ((ps.map PD.part).take k)) ++ Lib.byteCells (K.formB p.part))) : RJoinAt ps w v' (.int .i64 ((k : Int) + 1)) w3 := by
  have hlt := (List.getElem?_eq_some_iff.1 hk).1
  have h0 := hS.size
  have h2 := k2.size
  refine ⟨k + 1, hlt, by simp, ?_, Keeps.grown (hS.step k2 (fun _ h => h.elim)) hg (fun j hj e => hn.new j e.symm)⟩
  rw [take_part hk, joinB_snoc]
  refine hn.later (by omega) hl ?_
  rw [List.length_append, Lib.byteCells_append]
  exact hown

theorem NewBytes.empty (W : World) : NewBytes W.heap.size (W.alloc (.cells #[] 5)) (.slice (some ⟨W.heap.size, 0, none⟩) 0 0) [] :=
  ⟨⟨rfl, .inr ⟨W.heap.size, 0, #[], rfl, Nat.zero_le _, heap_alloc_new W _, Nat.le_refl _, Nat.zero_le _, rfl, rfl⟩⟩, fun g hg => by simp [Value.ownBlock] at hg; omega⟩

set_option maxHeartbeats 1600000 in
theorem refJoin_any (v : Value) (g off : Nat) (ps : List PD) (w : World) (hs : Parts w v g off ps) (hok : ∀ p ∈ ps, p.Ok) (hlen : (K.joinB (ps.map PD.part)).length ≤ 1099511627776) :
    Calls Tryd.prog 13 #[v] w fun e w' => e = .returned (.string ⟨(K.joinB (ps.map PD.part)).toArray⟩) ∧ Qt w w' := by
  obtain ⟨i0, hi, hz0, hz1, hz2⟩ := info_parts infoByte
  obtain ⟨a, cap, rfl, ha⟩ := hs.val
  have hle := hs.le
  have HS := Lib.hid hs
  have Hok := Lib.hid hok
  have B0 := Lib.hid (show RJoinAt ps w (.slice (some ⟨w.heap.size, 0, none⟩) 0 0) (.int .i64 0) (w.alloc (.cells #[] 5)) from ⟨0, Nat.zero_le _, rfl, NewBytes.empty w, (Keeps.refl _ _).alloc _⟩)
  clear hs hok ha
  go_enter Tryd.func13, Tryd.ntmps13
  go_wp2
  go_loopw [3, 9] (fun v i wr => RJoinAt ps w v i wr) (fun _ i _ => ps.length - (intOf i).toNat)
  case atStart => exact B0.out
  case round =>
    obtain ⟨k, hk, rfl, hn, hS⟩ := hrel
    by_cases hlt : k < ps.length
    · obtain ⟨p, cap', hpk, hv⟩ := HS.out.elem hlt
      injection hv with hv q1 q2
      clear q1 q2
      subst hv
      obtain ⟨c0, c1, c2⟩ := (HS.out.kept hS (fun hne e => by have := HS.out.lt hne; omega)).cells k p hpk
      have hpo := Hok.out p (List.mem_of_getElem? hpk)
      have hj1 := joinB_take_le (ps.map PD.part) k
      have hj2 := formB_le p
      have hps := hpo.s
      have Hpo := Lib.hid hpo
      have Hne := Lib.hid (formB_ne p.part)
      have Own := Lib.hid (fun (W : World) (k2 : Qt wr W) => (hn.qt k2).own)
      have Fin := Lib.hid (fun (v' : Value) (w2 w3 : World) (k2 : Qt wr w2) (hg : w2.grownBy w3 _) (hl : Later w2 _ v'.ownBlock) (hown : _) => RJoinAt.more (w2 := w2) (w3 := w3) (v' := v') hpk hn hS k2 hg hl hown)
      have HA := Lib.hid (fun o => (Keeps.refl (fun _ => False) wr).alloc o)
      clear hn hS hpk hpo
      go_wp2_with fail
      refine (form_any p Hpo.out _).mono ?_
      rintro e w2 ⟨fv, rfl, hn2, k2⟩
      obtain ⟨fg, fc, rfl, _, hfc⟩ := hn2.form Hne.out
      have K2 := Lib.hid (Qt.trans (HA.out _) k2)
      have Hfc := Lib.hid hfc
      clear hn2 k2 hfc c0 c1 c2
      generalize hF : K.formB p.part = F at *
      generalize hJ : K.joinB ((ps.map PD.part).take k) = J at *
      have HF := Lib.hid hF
      have HJ := Lib.hid hJ
      clear hF hJ
      go_wp2_with (at_builtin; refine wpList_append_cells0 _ rfl _ _ 48 rfl 5 i0 (.int .u8 0) 1 1 Tryd.underlying48 hi hz0 hz1 hz2 rfl (by decide) _ J.length (Lib.byteCells J) rfl (Own.out _ K2.out) ⟨fg, 0, none⟩ F.length fc (Lib.byteCells F) rfl (by simp [Lib.byteCells]) Hfc.out (byteCells_one' F) (by unfold maxLen; omega) (by omega) ?_)
      intro v' w3 hown hg hl _
      have fin := Lib.hid (Fin.out v' _ w3 K2.out hg hl hown)
      clear hown hg hl Own Fin
      go_wp2
      go_roundw
      case rel => exact fin.out
      case measure => simp [intOf]; omega
    · obtain rfl : k = ps.length := by omega
      have htake : (ps.map PD.part).take ps.length = ps.map PD.part := List.take_of_length_le (by simp)
      rw [htake] at hn
      have hcv := own_conv hn.own
      have fin := Lib.hid (Since.qt hS)
      clear hn hS hlt htake
      go_wp2
      go_ret
      exact ⟨rfl, fin.out⟩
end Go.Proofs.YtfhfbpjhjigbnaaDoor
