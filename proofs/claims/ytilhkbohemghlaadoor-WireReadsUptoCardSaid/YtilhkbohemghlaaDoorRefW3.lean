/-
  The contract of remitref01.Texts.
-/
import Derived.Test.YtilhkbohemghlaaDoorRefW2
namespace Go.Proofs.YtilhkbohemghlaaDoor
open Go.ChangeShapes Go.WideShapes Go.ChangeAt Go.RowKit
set_option maxRecDepth 100000

/-- Texts' loop. -/
def TextsStr (ss : List (List UInt8)) (w : World) (v i : Value) (wr : World) : Prop :=
  ∃ k : Nat, k ≤ ss.length ∧ i = .int .i64 k ∧ NewBytes w.heap.size wr v (Lib.uvarint ss.length ++ eachB (ss.take k)) ∧ Since w.heap.size w wr

theorem TextsStr.more {ss : List (List UInt8)} {k : Nat} {s : List UInt8} {v v' : Value} {w wr w2 w3 : World} (hs : ss[k]? = some s) (hn : NewBytes w.heap.size wr v (Lib.uvarint ss.length ++ eachB (ss.take k))) (hS : Since w.heap.size w wr) (k2 : Keeps (fun _ => False) wr w2)
    (hg : w2.grownBy w3 v.ownBlock) (hl : Later w2 v.ownBlock v'.ownBlock) {n : Nat} (hn' : n = (Lib.uvarint ss.length ++ eachB (ss.take k)).length) (hown : w3.ownsRowF 0 5 1 v' (n + (⟨(textB s).toArray⟩ : ByteArray).size) (Lib.byteCells (Lib.uvarint ss.length ++ eachB (ss.take k)) ++ Lib.strCells ⟨(textB s).toArray⟩)) :
    TextsStr ss w v' (.int .i64 ((k + 1 : Nat) : Int)) w3 := by
  have h0 := hS.size
  have h2 := k2.size
  subst hn'
  refine ⟨k + 1, (List.getElem?_eq_some_iff.1 hs).1, rfl, hn.later (by omega) hl ?_, Keeps.grown (hS.step k2 (fun _ h => h.elim)) hg (fun j hj e => hn.new j e.symm)⟩
  rw [eachB_take_succ hs, ← List.append_assoc, List.length_append, Lib.byteCells_append]
  rw [strCells_eq] at hown
  exact hown

set_option maxHeartbeats 1600000 in
theorem refTexts_any (v : Value) (g o : Nat) (ss : List (List UInt8)) (w : World) (hs : Strs w v g o ss) (hl : ss.length ≤ 1099511627776) (he : ∀ s ∈ ss, s.length ≤ 1099511627776) (hsum : (eachB ss).length ≤ 1099511627776) :
    Calls Tryd.prog 44 #[v] w fun e w' => e = .returned (.string ⟨(textsB ss).toArray⟩) ∧ Keeps (fun _ => False) w w' := by
  obtain ⟨i0, hi, hz0, hz1, hz2⟩ := info_parts infoByte
  obtain ⟨a, cap, rfl, ha⟩ := hs.val
  have HS := Lib.hid hs
  have Ha := Lib.hid ha
  have He := Lib.hid he
  have q := Lib.hid (refUint_any ss.length w (by omega))
  have h10 := Lib.uvarint_length64 (show ss.length < 18446744073709551616 by omega)
  have hu : (⟨(Lib.uvarint ss.length).toArray⟩ : ByteArray).size = (Lib.uvarint ss.length).length := rfl
  have Hsc := Lib.hid (strCells_eq ⟨(Lib.uvarint ss.length).toArray⟩)
  have Hdef := Lib.hid (show Lib.uvarint ss.length ++ eachB ss = textsB ss from rfl)
  clear hs ha he
  go_enter Tryd.func44, Tryd.ntmps44
  go_wp2_with fail
  refine q.out.mono ?_
  rintro e w1 ⟨rfl, k1⟩
  have K1 := Lib.hid k1
  clear k1 q
  have hu' := Lib.hid hu
  clear hu
  generalize hU : (⟨(Lib.uvarint ss.length).toArray⟩ : ByteArray) = U at *
  have HU := Lib.hid hU
  clear hU
  have hUs : U.size ≤ 10 := by rw [hu'.out]; exact h10
  go_wp2_with (at_builtin; refine wpList_append_strF _ rfl _ _ 26 9 rfl 5 i0 Tryd.underlying26 Tryd.underlying9 hi hz0 hz1 hz2 _ 0 [] rfl (World.ownsRowF_nil _ _ _ _) U rfl (by unfold maxLen; omega) (by omega) ?_)
  intro v1 w2 hown hg hlat _
  have N1 : TextsStr ss w v1 (.int .i64 0) w2 := by
    refine ⟨0, Nat.zero_le _, rfl, (NewBytes.nil w.heap.size w1).later K1.out.size hlat ?_, Keeps.grown (K1.out.mono (fun _ _ h => h.elim)) hg (fun j hj e => by simp [Value.ownBlock] at e)⟩
    rw [Hsc.out, hu'.out] at hown
    simpa [eachB] using hown
  clear hown hg hlat K1
  go_wp2
  go_loopw [3, 4] (fun v i wr => TextsStr ss w v i wr) (fun _ i _ => ss.length - (intOf i).toNat)
  case atStart => exact N1
  case round =>
    obtain ⟨k, hk, rfl, hb, hS⟩ := hrel
    clear N1
    have Hb := Lib.hid hb
    have HSr := Lib.hid hS
    by_cases hlt : k < ss.length
    · obtain ⟨s, c1, hsk, hv, hc⟩ := HS.out.elem hlt
      injection hv with hv q1 q2
      clear q1 q2
      subst hv
      have hc' : wr.cell? ⟨g, o + k, none⟩ = some (.string ⟨s.toArray⟩) := by
        have hlt' := World.block_lt_of_cell? _ _ hc
        rw [hS.cell hlt' (fun e => by simp only at e hlt'; omega)]
        exact hc
      have hsl := He.out s (List.mem_of_getElem? hsk)
      have hss : (⟨s.toArray⟩ : ByteArray).size = s.length := rfl
      have q2 := Lib.hid (refText_any ⟨s.toArray⟩ wr (by omega))
      have htl := textB_le s (by omega)
      have htx : (⟨(textB s).toArray⟩ : ByteArray).size = (textB s).length := rfl
      have hle := eachB_take_le ss k
      have hnl : (Lib.uvarint ss.length ++ eachB (ss.take k)).length ≤ 1099511627800 := by rw [List.length_append]; omega
      have own := hb.own
      have fin := Lib.hid (fun (v' : Value) (w2 w3 : World) (n : Nat) (hn : n = (Lib.uvarint ss.length ++ eachB (ss.take k)).length) (k2 : Keeps (fun _ => False) wr w2) (hg : w2.grownBy w3 _) (hl : Later w2 _ v'.ownBlock) (ho : w3.ownsRowF 0 5 1 v' (n + (⟨(textB s).toArray⟩ : ByteArray).size) (Lib.byteCells (Lib.uvarint ss.length ++ eachB (ss.take k)) ++ Lib.strCells ⟨(textB s).toArray⟩)) =>
        TextsStr.more hsk Hb.out HSr.out k2 hg hl hn ho)
      have htx' : (⟨(textB s).toArray⟩ : ByteArray).size ≤ 1099511627800 := by rw [htx]; omega
      clear hb hS hsk hc hss htx hle htl
      generalize hnn : (Lib.uvarint ss.length ++ eachB (ss.take k)).length = n at own hnl
      have Hnn := Lib.hid hnn
      clear hnn
      generalize Lib.byteCells (Lib.uvarint ss.length ++ eachB (ss.take k)) = X at *
      have hdd : (⟨s.toArray⟩ : ByteArray).data.toList = s := rfl
      rw [hdd] at q2
      clear hdd
      go_wp2_with fail
      refine q2.out.mono ?_
      rintro e w3 ⟨rfl, k3⟩
      have own3 := ownsRowF_kept own k3 (fun _ _ h => h)
      have K3 := Lib.hid k3
      generalize (⟨(textB s).toArray⟩ : ByteArray) = T at *
      clear own k3 q2
      go_wp2_with (at_builtin; refine wpList_append_strF _ rfl _ _ 26 9 rfl 5 i0 Tryd.underlying26 Tryd.underlying9 hi hz0 hz1 hz2 _ n X rfl own3 T rfl (by unfold maxLen; omega) (by omega) ?_)
      intro v' w4 hown hg hlat _
      have fin2 := Lib.hid (fin.out _ _ _ _ Hnn.out.symm K3.out hg hlat hown)
      clear own3 hown hg hlat fin
      go_wp2
      go_roundw
      case rel => exact fin2.out
      case measure => simp [intOf]; omega
    · obtain rfl : k = ss.length := by omega
      rw [List.take_length, Hdef.out] at hb
      have hcv := own_conv hb.own
      have fin := Lib.hid (Keeps.fresh hS)
      clear hb hS hlt Hb
      go_wp2
      go_ret
      exact ⟨rfl, fin.out⟩
end Go.Proofs.YtilhkbohemghlaaDoor
