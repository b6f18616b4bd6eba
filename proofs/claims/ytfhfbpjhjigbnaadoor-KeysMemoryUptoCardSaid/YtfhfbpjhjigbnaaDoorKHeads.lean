/-
  The contract of remitlaw02.KeysHeads: it answers true.
-/
import Derived.Test.YtfhfbpjhjigbnaaDoorKOrder
import Derived.Test.YtfhfbpjhjigbnaaDoorKAfter
namespace Go.Proofs.YtfhfbpjhjigbnaaDoor
open Go.RowKit Go.WideShapes
set_option maxRecDepth 100000

theorem Parts.take {W : World} {g off cap cap' n : Nat} {ps : List PD} (h : Parts W (.slice (some ⟨g, off, none⟩) ps.length cap) g off ps) (hn : n ≤ ps.length) : Parts W (.slice (some ⟨g, off, none⟩) n cap') g off (ps.take n) := by
  have hl : (ps.take n).length = n := by rw [List.length_take]; omega
  refine ⟨⟨_, cap', by rw [hl], fun _ => rfl⟩, by have := h.le; omega, fun k p hk => ?_⟩
  have hkn : k < n := by have := (List.getElem?_eq_some_iff.1 hk).1; omega
  rw [List.getElem?_take_of_lt hkn] at hk
  exact h.cells k p hk
theorem Parts.drop {W : World} {g off cap cap' n : Nat} {ps : List PD} (h : Parts W (.slice (some ⟨g, off, none⟩) ps.length cap) g off ps) : Parts W (.slice (some ⟨g, off + n * 3, none⟩) (ps.length - n) cap') g (off + n * 3) (ps.drop n) := by
  refine ⟨⟨_, cap', by rw [List.length_drop], fun _ => rfl⟩, by have := h.le; rw [List.length_drop]; omega, fun k p hk => ?_⟩
  rw [List.getElem?_drop] at hk
  have := h.cells (n + k) p hk
  rwa [show off + (n + k) * 3 = off + n * 3 + k * 3 by omega] at this
theorem Parts.none' (W : World) (a : Option Addr) (cap : Nat) : Parts W (.slice a 0 cap) 0 0 [] := ⟨⟨a, cap, rfl, fun h => absurd rfl h⟩, by simp, fun k p hk => by simp at hk⟩

/-- Does the list b begin with a? -/
def headsB (ps qs : List PD) : Bool := if ps.length ≤ qs.length then sameB ps (qs.take ps.length) else false
theorem headsB_iff (ps qs : List PD) : headsB ps qs = true ↔ ps.map PD.part <+: qs.map PD.part := by
  unfold headsB
  by_cases h : ps.length ≤ qs.length
  · rw [if_pos h, sameB_iff, List.map_take]
    rw [List.prefix_iff_eq_take, List.length_map]
  · rw [if_neg h]
    constructor
    · intro e; cases e
    · intro e; have := e.length_le; simp at this; omega
theorem begB_heads {ps qs : List PD} (hp : ∀ p ∈ ps, p.Ok) (hq : ∀ p ∈ qs, p.Ok) : begB ⟨(K.joinB (qs.map PD.part)).toArray⟩ ⟨(K.joinB (ps.map PD.part)).toArray⟩ = headsB ps qs := by
  rw [Bool.eq_iff_iff, begB_iff, headsB_iff]
  exact K.join_prefix (ok_parts hp) (ok_parts hq)

theorem begB_all {s t : ByteArray} (h : ∀ c ∈ s.data.toList, c = 255) : begB t s = !Op.bytesLess t.toList s.toList := by
  rw [Bool.eq_iff_iff, begB_iff, K.prefix_all h, bytesLess_eq, ByteArray.toList_eq, ByteArray.toList_eq, K.cmpB_swap s.data.toList t.data.toList]
  simp only [Bool.not_eq_true', decide_eq_false_iff_not]
  omega
theorem begB_after {s t : ByteArray} {e : List UInt8} (h : K.afterB s.data.toList = some e) : begB t s = (!Op.bytesLess t.toList s.toList && Op.bytesLess t.toList (⟨e.toArray⟩ : ByteArray).toList) := by
  rw [Bool.eq_iff_iff, begB_iff, K.prefix_after h, bytesLess_eq, bytesLess_eq, ByteArray.toList_eq, ByteArray.toList_eq, ByteArray.toList_eq, K.cmpB_swap s.data.toList t.data.toList]
  simp only [Bool.and_eq_true, Bool.not_eq_true', decide_eq_false_iff_not, decide_eq_true_eq]
  constructor
  · rintro ⟨h1, h2⟩; exact ⟨by omega, h2⟩
  · rintro ⟨h1, h2⟩; exact ⟨by omega, h2⟩
theorem begB_off {s : ByteArray} {e : List UInt8} (h : K.afterB s.data.toList = some e) : begB ⟨e.toArray⟩ s = false := by
  cases hb : begB ⟨e.toArray⟩ s with
  | false => rfl
  | true => exact absurd ((begB_iff _ _).1 hb) (K.after_off h)
theorem less_after {s : ByteArray} {e : List UInt8} (h : K.afterB s.data.toList = some e) : Op.bytesLess s.toList (⟨e.toArray⟩ : ByteArray).toList = true := by
  rw [bytesLess_eq, ByteArray.toList_eq, ByteArray.toList_eq]
  exact decide_eq_true (K.after_above h)

theorem afterB_length : ∀ {s t : List UInt8}, K.afterB s = some t → t.length ≤ s.length
  | [], t, h => by simp [K.afterB] at h
  | c :: s, t, h => by
    rw [K.afterB] at h
    cases hr : K.afterB s with
    | some u =>
      rw [hr] at h
      simp only [Option.some.injEq] at h
      subst h
      have := afterB_length hr
      simp; omega
    | none =>
      rw [hr] at h
      simp only at h
      split at h
      · cases h
      · simp only [Option.some.injEq] at h
        subst h
        simp

set_option maxHeartbeats 6400000 in
theorem heads_any (m : Int) (v v2 : Value) (g off g2 off2 : Nat) (ps qs : List PD) (s t : ByteArray) (w : World) (hm : MaxL m w) (hs : Parts w v g off ps) (ht : Parts w v2 g2 off2 qs) (hcap : ∀ a n k, v2 = .slice a n k → n ≤ k) (hp : ∀ p ∈ ps, p.Ok) (hq : ∀ p ∈ qs, p.Ok)
    (hlp : (K.joinB (ps.map PD.part)).length ≤ 1099511627776) (hlq : (K.joinB (qs.map PD.part)).length ≤ 1099511627776) (hss : s.size ≤ 4194304) (hts : t.size ≤ 4194304) :
    Calls Tryd.prog 7 #[v, v2, .string s, .string t] w fun e w' => e = .returned (.bool true) ∧ Qt w w' := by
  have hbh := begB_heads hp hq
  have hlen := hs.le
  have hlen2 := ht.le
  have Ja := Lib.hid (fun W (k : Qt w W) => join_any m v g off ps W (k.cellv hm) (hs.qt k) hp hlp)
  have Jb := Lib.hid (fun W (k : Qt w W) => join_any m v2 g2 off2 qs W (k.cellv hm) (ht.qt k) hq hlq)
  have Li := Lib.hid (lives_any m w hm)
  have Sb := Lib.hid (fun (h : ps.length ≤ qs.length) a c (hv : v2 = .slice a qs.length c) cap' W (k : Qt w W) => show Calls Tryd.prog 21 #[v, .slice a ps.length cap'] W fun e w' => e = .returned (.bool (headsB ps qs)) ∧ Qt W w' from by
    have hh : headsB ps qs = sameB ps (qs.take ps.length) := by unfold headsB; rw [if_pos h]
    rw [hh]
    subst hv
    obtain ⟨a', c', e, ha⟩ := ht.val
    injection e with e1 e2 e3
    subst e1 e3
    by_cases hne : qs = []
    · subst hne
      have : ps = [] := List.eq_nil_of_length_eq_zero (by simpa using h)
      subst this
      exact same_any v _ g off 0 0 [] [] W (hs.qt k) (Parts.none' W _ _)
    · have := ha hne
      subst this
      exact same_any v _ g off g2 off2 ps (qs.take ps.length) W (hs.qt k) (Parts.take (ht.qt k) h))
  have hbt : begB ⟨(K.joinB (qs.map PD.part)).toArray⟩ ⟨(K.joinB (ps.map PD.part)).toArray⟩ = headsB ps qs := hbh
  have hjq : (⟨(K.joinB (qs.map PD.part)).toArray⟩ : ByteArray).size ≤ 9223372036854775807 := by rw [size_list]; omega
  have B0 := Lib.hid (fun W => begins_any ⟨(K.joinB (qs.map PD.part)).toArray⟩ ⟨(K.joinB (ps.map PD.part)).toArray⟩ W hjq)
  rw [hbt] at B0
  obtain ⟨a, cap, rfl, ha⟩ := hs.val
  obtain ⟨a2, cap2, rfl, ha2⟩ := ht.val
  have hc2 := hcap _ _ _ rfl
  have hbf : ¬ ps.length ≤ qs.length → headsB ps qs = false := fun h => by unfold headsB; rw [if_neg h]
  generalize (⟨(K.joinB (ps.map PD.part)).toArray⟩ : ByteArray) = X at *
  generalize (⟨(K.joinB (qs.map PD.part)).toArray⟩ : ByteArray) = Y at *
  have SbH := Lib.hid (fun h cap' W k => Sb.out h a2 cap2 rfl cap' W k)
  have Hbf := Lib.hid hbf
  clear hbh hbt hjq hm hs ht hp hq hlp hlq hcap ha ha2 Sb hbf
  by_cases hle : ps.length ≤ qs.length
  · have hle' : (ps.length : Int) ≤ (qs.length : Int) := by omega
    have hcc : (ps.length : Int) ≤ (cap2 : Int) := by omega
    go_enter Tryd.func7, Tryd.ntmps7
    go_wp2_with fail
    refine Li.out.mono ?_
    rintro e w1 ⟨rfl, k1⟩
    have K1 := Lib.hid k1; clear k1
    go_wp2_with fail
    refine (SbH.out hle _ _ K1.out).mono ?_
    rintro e w2 ⟨rfl, k2⟩
    have K2 := Lib.hid (Qt.trans K1.out k2); clear k2 K1
    generalize headsB ps qs = hB at *
    go_wp2_with fail
    refine (Jb.out _ K2.out).mono ?_
    rintro e w3 ⟨rfl, k3⟩
    have K3 := Lib.hid (Qt.trans K2.out k3); clear k3 K2
    go_wp2_with fail
    refine (Ja.out _ K3.out).mono ?_
    rintro e w4 ⟨rfl, k4⟩
    have K4 := Lib.hid (Qt.trans K3.out k4); clear k4 K3
    go_wp2_with fail
    refine (B0.out _).mono ?_
    rintro e w5 ⟨rfl, rfl⟩
    go_wp2_with fail
    refine (after_any s _ (by omega)).mono ?_
    rintro e w6 ⟨k6, h⟩
    have K6 := Lib.hid (Qt.trans K4.out k6); clear k6 K4 Ja Jb B0 SbH Hbf
    rcases h with ⟨te, ha, rfl⟩ | ⟨hn, rfl⟩
    · have hb := begB_after (t := t) ha
      have B1 := Lib.hid (fun W => begins_any t s W (by omega))
      rw [hb] at B1
      have htl : (⟨te.toArray⟩ : ByteArray).size ≤ 9223372036854775807 := by
        rw [size_list]
        have := afterB_length ha
        have h2 : s.data.toList.length = s.size := rfl
        omega
      have B2 := Lib.hid (fun W => begins_any ⟨te.toArray⟩ s W htl)
      rw [begB_off ha] at B2
      have hla := less_after ha
      generalize (⟨te.toArray⟩ : ByteArray) = E at *
      clear ha hb htl
      cases hL1 : Op.bytesLess t.toList s.toList <;> cases hL2 : Op.bytesLess t.toList E.toList
      all_goals
        rw [hL1, hL2] at B1
        go_wp2_with fail
        refine (B1.out _).mono ?_
        rintro e w7 ⟨rfl, rfl⟩
        go_wp2_with fail
        refine (B2.out _).mono ?_
        rintro e w8 ⟨rfl, rfl⟩
        go_wp2
        go_ret
        exact ⟨rfl, K6.out⟩
    · have hall := K.afterB_none hn
      have B1 := Lib.hid (fun W => begins_any t s W (by omega))
      rw [begB_all hall] at B1
      have Hall := Lib.hid hall
      clear hall hn
      go_wp2
      go_loop [13] (fun i => ∃ k : Nat, k ≤ s.size ∧ i = .int .i64 k) (fun i => s.size - (intOf i).toNat)
      case atStart => exact ⟨0, Nat.zero_le _, rfl⟩
      case round =>
        obtain ⟨k, hk, rfl⟩ := hrel
        by_cases hlt : k < s.size
        · have hf : s[k] = 255 := Hall.out _ (by rw [show s[k] = s.data.toList[k]'(hlt) from rfl]; exact List.getElem_mem _)
          have hfb : ((s[k].toNat : Int) != 255) = false := by rw [hf]; rfl
          clear hf
          go_wp2
          go_round
          case rel => exact ⟨k + 1, by omega, by simp⟩
          case measure => simp [intOf]; omega
        · obtain rfl : k = s.size := by omega
          clear hlt
          cases hL1 : Op.bytesLess t.toList s.toList
          all_goals
            rw [hL1] at B1
            go_wp2_with fail
            refine (B1.out _).mono ?_
            rintro e w7 ⟨rfl, rfl⟩
            go_wp2
            go_ret
            exact ⟨rfl, K6.out⟩
  · have hle' : ¬ (ps.length : Int) ≤ (qs.length : Int) := by omega
    rw [Hbf.out hle] at B0
    go_enter Tryd.func7, Tryd.ntmps7
    go_wp2_with fail
    refine Li.out.mono ?_
    rintro e w1 ⟨rfl, k1⟩
    have K2 := Lib.hid k1; clear k1
    go_wp2_with fail
    refine (Jb.out _ K2.out).mono ?_
    rintro e w3 ⟨rfl, k3⟩
    have K3 := Lib.hid (Qt.trans K2.out k3); clear k3 K2
    go_wp2_with fail
    refine (Ja.out _ K3.out).mono ?_
    rintro e w4 ⟨rfl, k4⟩
    have K4 := Lib.hid (Qt.trans K3.out k4); clear k4 K3
    go_wp2_with fail
    refine (B0.out _).mono ?_
    rintro e w5 ⟨rfl, rfl⟩
    go_wp2_with fail
    refine (after_any s _ (by omega)).mono ?_
    rintro e w6 ⟨k6, h⟩
    have K6 := Lib.hid (Qt.trans K4.out k6); clear k6 K4 Ja Jb B0 SbH Hbf
    rcases h with ⟨te, ha, rfl⟩ | ⟨hn, rfl⟩
    · have hb := begB_after (t := t) ha
      have B1 := Lib.hid (fun W => begins_any t s W (by omega))
      rw [hb] at B1
      have htl : (⟨te.toArray⟩ : ByteArray).size ≤ 9223372036854775807 := by
        rw [size_list]
        have := afterB_length ha
        have h2 : s.data.toList.length = s.size := rfl
        omega
      have B2 := Lib.hid (fun W => begins_any ⟨te.toArray⟩ s W htl)
      rw [begB_off ha] at B2
      have hla := less_after ha
      generalize (⟨te.toArray⟩ : ByteArray) = E at *
      clear ha hb htl
      cases hL1 : Op.bytesLess t.toList s.toList <;> cases hL2 : Op.bytesLess t.toList E.toList
      all_goals
        rw [hL1, hL2] at B1
        go_wp2_with fail
        refine (B1.out _).mono ?_
        rintro e w7 ⟨rfl, rfl⟩
        go_wp2_with fail
        refine (B2.out _).mono ?_
        rintro e w8 ⟨rfl, rfl⟩
        go_wp2
        go_ret
        exact ⟨rfl, K6.out⟩
    · have hall := K.afterB_none hn
      have B1 := Lib.hid (fun W => begins_any t s W (by omega))
      rw [begB_all hall] at B1
      have Hall := Lib.hid hall
      clear hall hn
      go_wp2
      go_loop [13] (fun i => ∃ k : Nat, k ≤ s.size ∧ i = .int .i64 k) (fun i => s.size - (intOf i).toNat)
      case atStart => exact ⟨0, Nat.zero_le _, rfl⟩
      case round =>
        obtain ⟨k, hk, rfl⟩ := hrel
        by_cases hlt : k < s.size
        · have hf : s[k] = 255 := Hall.out _ (by rw [show s[k] = s.data.toList[k]'(hlt) from rfl]; exact List.getElem_mem _)
          have hfb : ((s[k].toNat : Int) != 255) = false := by rw [hf]; rfl
          clear hf
          go_wp2
          go_round
          case rel => exact ⟨k + 1, by omega, by simp⟩
          case measure => simp [intOf]; omega
        · obtain rfl : k = s.size := by omega
          clear hlt
          cases hL1 : Op.bytesLess t.toList s.toList
          all_goals
            rw [hL1] at B1
            go_wp2_with fail
            refine (B1.out _).mono ?_
            rintro e w7 ⟨rfl, rfl⟩
            go_wp2
            go_ret
            exact ⟨rfl, K6.out⟩
end Go.Proofs.YtfhfbpjhjigbnaaDoor
