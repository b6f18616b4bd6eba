/-
  The contract of remitlaw02.KeysSplits: it answers true.
-/
import Derived.Test.YtfhfbpjhjigbnaaDoorKBack
import Derived.Test.YtfhfbpjhjigbnaaDoorKRefSplit
import Derived.Test.YtfhfbpjhjigbnaaDoorKAfter
import Derived.Test.YtfhfbpjhjigbnaaDoorNum
namespace Go.Proofs.YtfhfbpjhjigbnaaDoor
open Go.RowKit Go.WideShapes
set_option maxRecDepth 100000

theorem same_refl (ps : List PD) : sameB ps ps = true := by rw [sameB_iff]

/-- What Split and After give, in one form. -/
def splitP (l : List UInt8) : List PD := ((K.splitB l).getD []).map ofPart
def splitE (l : List UInt8) : Nat := if (K.splitB l).isSome then 0 else 7
def afterT (l : List UInt8) : ByteArray := ⟨((K.afterB l).getD []).toArray⟩
def afterH (l : List UInt8) : Bool := (K.afterB l).isSome

theorem splitP_clean (l : List UInt8) : ∀ p ∈ splitP l, p.plain = p := clean_back _
theorem splitE_le (l : List UInt8) : splitE l ≤ 37 := by unfold splitE; split <;> omega

theorem SplitV.val {ad : Nat → Addr} {l : List UInt8} {w w' : World} {e : Ending} (h : SplitV (ad 7) l w e w') (hl : l.length ≤ 4194304) :
    ∃ v g, e = .returned (.tuple #[v, errV ad (splitE l)]) ∧ Parts w' v g 0 (splitP l) ∧ Qt w w' := by
  obtain ⟨k, ⟨ps, v, hp, hlp, hn, rfl⟩ | ⟨hp, rfl⟩⟩ := h
  · obtain ⟨g, hg, _⟩ := hn.parts (by rw [List.length_map]; omega)
    exact ⟨v, g, by rw [splitE, hp]; rfl, by rw [splitP, hp]; exact hg, k⟩
  · exact ⟨_, 0, by rw [splitE, hp]; rfl, by rw [splitP, hp]; exact Parts.nil _, k⟩
theorem RSplitV.val {l : List UInt8} {w w' : World} {e : Ending} (h : RSplitV l w e w') (hl : l.length ≤ 4194304) :
    ∃ v g, e = .returned (.tuple #[v, .int .i64 (splitE l : Nat)]) ∧ Parts w' v g 0 (splitP l) ∧ Qt w w' := by
  obtain ⟨k, ⟨ps, v, hp, hlp, hn, rfl⟩ | ⟨hp, v, hn, rfl⟩⟩ := h
  · obtain ⟨g, hg, _⟩ := hn.parts (by rw [List.length_map]; omega)
    exact ⟨v, g, by rw [splitE, hp]; rfl, by rw [splitP, hp]; exact hg, k⟩
  · obtain ⟨g, hg, _⟩ := hn.parts (by simp)
    exact ⟨v, g, by rw [splitE, hp]; rfl, by rw [splitP, hp]; exact hg, k⟩
theorem AfterV.val {l : List UInt8} {w w' : World} {e : Ending} (h : AfterV l w e w') : e = .returned (.tuple #[.string (afterT l), .bool (afterH l)]) ∧ Qt w w' := by
  obtain ⟨k, ⟨t, ht, rfl⟩ | ⟨ht, rfl⟩⟩ := h
  · exact ⟨by rw [afterT, afterH, ht]; rfl, k⟩
  · exact ⟨by rw [afterT, afterH, ht]; rfl, k⟩

set_option maxHeartbeats 3200000 in
theorem splits_any (ad : Nat → Addr) (m : Int) (s : ByteArray) (w : World) (hE : Errs ad w) (hm : MaxL m w) (hs : s.size ≤ 4194304) :
    Calls Tryd.prog 4 #[.string s] w fun e w' => e = .returned (.bool true) ∧ Qt w w' := by
  have hlen : s.data.toList.length = s.size := rfl
  have Li := Lib.hid (lives_any m w hm)
  have HE := Lib.hid (fun W (k : Qt w W) => show Errs ad W from hE.kept k (OffErrs.none ad))
  have Sk := Lib.hid (fun W (k : Qt w W) => (split_any (ad 7) m s W (k.cellv (hE.cells 6 _ rfl)) (k.cellv hm) hs).mono (fun e w' h => h.val (by omega)))
  have Rk := Lib.hid (fun W => (refSplit_any s W hs).mono (fun e w' h => h.val (by omega)))
  have Ak := Lib.hid (fun W => (after_any s W (by omega)).mono (fun e w' h => h.val))
  have Bk := Lib.hid (fun W => (refAfter_any s W (by omega)).mono (fun e w' h => h.val))
  have Nk := Lib.hid (fun W (k : Qt w W) => num_any ad _ W (HE.out W k) (splitE_le s.data.toList))
  have Cl := Lib.hid (splitP_clean s.data.toList)
  have htt : ((afterT s.data.toList).toList == (afterT s.data.toList).toList) = true := by simp
  generalize splitP s.data.toList = ps at *
  generalize splitE s.data.toList = n at *
  generalize afterT s.data.toList = t at *
  generalize afterH s.data.toList = b at *
  generalize errV ad n = er at *
  clear hE hm hlen
  go_enter Tryd.func4, Tryd.ntmps4
  go_wp2_with fail
  refine Li.out.mono ?_
  rintro e w1 ⟨rfl, k1⟩
  have K1 := Lib.hid k1; clear k1
  go_wp2_with fail
  refine (Sk.out _ K1.out).mono ?_
  rintro e w2 ⟨v1, g1, rfl, p1, k2⟩
  have K2 := Lib.hid (Qt.trans K1.out k2); clear k2 K1
  have P1 := Lib.hid (fun W (k : Qt w2 W) => p1.qt k); clear p1
  go_wp2_with fail
  refine (Rk.out _).mono ?_
  rintro e w3 ⟨v2, g2, rfl, p2, k3⟩
  have K3 := Lib.hid k3; clear k3
  have P2 := Lib.hid (fun W (k : Qt w3 W) => p2.qt k); clear p2
  go_wp2_with fail
  refine (Ak.out _).mono ?_
  rintro e w4 ⟨rfl, k4⟩
  have K4 := Lib.hid k4; clear k4
  go_wp2_with fail
  refine (Bk.out _).mono ?_
  rintro e w5 ⟨rfl, k5⟩
  have K5 := Lib.hid (Qt.trans K4.out k5); clear k5 K4
  go_wp2_with fail
  refine (Nk.out _ (Qt.trans K2.out (Qt.trans K3.out K5.out))).mono ?_
  rintro e w6 ⟨rfl, k6⟩
  have K6 := Lib.hid (Qt.trans K5.out k6); clear k6 K5
  go_wp2_with fail
  have q := same_any v1 v2 g1 0 g2 0 ps ps w6 (P1.out _ (Qt.trans K3.out K6.out)) (P2.out _ K6.out)
  rw [same_refl] at q
  refine q.mono ?_
  rintro e w7 ⟨rfl, k7⟩
  have K7 := Lib.hid (Qt.trans K6.out k7); clear k7 q K6
  go_wp2_with fail
  refine (clean_any v1 g1 0 ps w7 (P1.out _ (Qt.trans K3.out K7.out)) Cl.out).mono ?_
  rintro e w8 ⟨rfl, k8⟩
  have K8 := Lib.hid (Qt.trans K2.out (Qt.trans K3.out (Qt.trans K7.out k8))); clear k8 K7
  go_wp2
  go_ret
  exact ⟨rfl, K8.out⟩
end Go.Proofs.YtfhfbpjhjigbnaaDoor
