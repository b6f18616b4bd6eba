/-
  The contracts of putText and Join.
-/
import Derived.Test.YtfhfbpjhjigbnaaDoorKJoin
namespace Go.Proofs.YtfhfbpjhjigbnaaDoor
open Go.RowKit Go.WideShapes
set_option maxRecDepth 100000

/-- internal/bytealg's MaxLen holds m. -/
abbrev MaxL (m : Int) (w : World) : Prop := w.cell? ⟨37, 0, none⟩ = some (.int .i64 m)
theorem MaxL.lt {m : Int} {w : World} (h : MaxL m w) : 37 < w.heap.size := World.block_lt_of_cell? w _ h

theorem str_data (s : ByteArray) : (⟨s.data.toList.toArray⟩ : ByteArray) = s := by
  obtain ⟨⟨l⟩⟩ := s; rfl
theorem size_list (l : List UInt8) : (⟨l.toArray⟩ : ByteArray).size = l.length := rfl

theorem esc_any (s : ByteArray) (m : Int) (w : World) (hm : MaxL m w) (hs : s.size ≤ 4194304) :
    Calls Tryd.prog 37 #[.string s, .string ⟨#[0]⟩, .string ⟨#[0, 255]⟩] w fun e w' => e = .returned (.string ⟨(K.escB s.data.toList).toArray⟩) ∧ Qt w w' := by
  refine (Tryd.strings_ReplaceAll s ⟨#[0]⟩ ⟨#[0, 255]⟩ m w (by omega) hm (by decide) ?_).mono ?_
  · have := Lib.countB_le ⟨#[0]⟩ (by decide) s.size s (Nat.le_refl _)
    have h2 : (⟨#[0, 255]⟩ : ByteArray).size = 2 := rfl
    rw [h2]
    omega
  · rintro e w' ⟨rfl, h⟩
    exact ⟨by rw [K.esc_replace], Qt.of_below h⟩

theorem unesc_any (u : List UInt8) (s : ByteArray) (hsu : s.data.toList = K.escB u) (m : Int) (w : World) (hm : MaxL m w) (hs : s.size ≤ 4194304) :
    Calls Tryd.prog 37 #[.string s, .string ⟨#[0, 255]⟩, .string ⟨#[0]⟩] w fun e w' => e = .returned (.string ⟨u.toArray⟩) ∧ Qt w w' := by
  refine (Tryd.strings_ReplaceAll s ⟨#[0, 255]⟩ ⟨#[0]⟩ m w (by omega) hm (by decide) ?_).mono ?_
  · have := Lib.countB_le ⟨#[0, 255]⟩ (by decide) s.size s (Nat.le_refl _)
    have h2 : (⟨#[0]⟩ : ByteArray).size = 1 := rfl
    rw [h2]
    omega
  · rintro e w' ⟨rfl, h⟩
    exact ⟨by rw [hsu, K.unesc_replace], Qt.of_below h⟩

theorem formB_txt (s : List UInt8) : K.formB (.txt s) = [2] ++ K.escB s ++ [0, 1] := by rw [K.formB]; simp

set_option maxHeartbeats 800000 in
theorem putText_any (b : Nat) (r : Option Nat) (l : List UInt8) (s : ByteArray) (m : Int) (w : World) (h : Wr b r l w) (hm : MaxL m w) (hb : b ≠ 37) (hr : r ≠ some 37) (hs : s.size ≤ 4194304) (hlen : l.length + 2 * s.size + 3 ≤ 140737488355328) :
    Calls Tryd.prog 25 #[.pointer (some ⟨b, 0, none⟩), .string s] w fun e w' => e = .returned (.tuple #[]) ∧ Wrote b r (l ++ K.formB (.txt s.data.toList)) w w' := by
  have hlt := hm.lt
  have hel := K.escB_length_le s.data.toList
  have hsl : s.data.toList.length = s.size := rfl
  rw [hsl] at hel
  go_enter Tryd.func25, Tryd.ntmps25
  go_wp2_with fail
  refine (bbyte_any b r l 2 w h (by omega) (by omega) (by omega)).mono ?_
  rintro e w1 ⟨rfl, r1, hw1, k1⟩
  have hm1 : MaxL m w1 := k1.keeps.cellv hm (fun e => by rcases e with e | e; exact hb e.symm; exact hr e.symm)
  clear h
  go_wp2_with fail
  refine (esc_any s m w1 hm1 hs).mono ?_
  rintro e w2 ⟨rfl, k2⟩
  have hw2 := hw1.kept k2 (fun h => h) (fun _ _ h => h)
  clear hm1 hw1
  go_wp2_with fail
  refine (writeString_any b r1 _ _ w2 hw2 (by rw [size_list, List.length_append]; simp; omega)).mono ?_
  rintro e w3 ⟨rfl, r3, hw3, k3⟩
  clear hw2
  go_wp2_with fail
  refine (writeString_any b r3 _ ⟨#[0, 1]⟩ w3 hw3 (by rw [List.length_append, List.length_append, show (⟨#[0, 1]⟩ : ByteArray).size = 2 from rfl]; simp; omega)).mono ?_
  rintro e w4 ⟨rfl, r4, hw4, k4⟩
  have fin := Lib.hid (show Wrote b r (l ++ K.formB (.txt s.data.toList)) w w4 from ⟨r4, by rw [formB_txt]; simpa using hw4, (k1.trans (Kept.trans ⟨k2.mono (fun _ _ e => e.elim), Later.refl _ _⟩ k3)).trans k4⟩)
  clear hw4 k4 hw3 k3 k2 k1
  go_wp2
  go_end0
  exact ⟨rfl, fin.out⟩

/-! ### Join -/
theorem joinB_take_le (a : List K.PartD) (k : Nat) : (K.joinB (a.take k)).length ≤ (K.joinB a).length := by
  conv => rhs; rw [← List.take_append_drop k a, K.joinB_append]
  rw [List.length_append]; omega
theorem joinB_snoc (a : List K.PartD) (p : K.PartD) : K.joinB (a ++ [p]) = K.joinB a ++ K.formB p := by rw [K.joinB_append, K.joinB, K.joinB, List.append_nil]
theorem take_part {ps : List PD} {k : Nat} {p : PD} (h : ps[k]? = some p) : (ps.map PD.part).take (k + 1) = (ps.map PD.part).take k ++ [p.part] := by
  rw [List.take_add_one, List.getElem?_map, h]; rfl
theorem formB_le (p : PD) : (K.formB p.part).length ≤ 2 * p.s.size + 9 := by
  obtain ⟨b, n, s⟩ := p
  have hsl : s.data.toList.length = s.size := rfl
  cases b
  · have := K.escB_length_le s.data.toList
    simp [PD.part, formB_txt]
    omega
  · simp [PD.part, formB_num, K.beB_length]

/-- Join's loop: k parts written. -/
def JoinAt (ps : List PD) (b : Nat) (w : World) (i : Value) (wr : World) : Prop :=
  ∃ (k : Nat) (r : Option Nat), k ≤ ps.length ∧ i = .int .i64 k ∧ Wr b r (K.joinB ((ps.map PD.part).take k)) wr ∧ Since w.heap.size w wr ∧ (∀ g, r = some g → w.heap.size ≤ g)

theorem JoinAt.more {ps : List PD} {b k : Nat} {r : Option Nat} {w wr W w1 : World} {p : PD} (hk : ps[k]? = some p) (hS : Since w.heap.size w wr) (hb : w.heap.size ≤ b) (hr : ∀ g, r = some g → w.heap.size ≤ g) (k1 : Qt wr W)
    (h1 : Wrote b r (K.joinB ((ps.map PD.part).take k) ++ K.formB p.part) W w1) : JoinAt ps b w (.int .i64 ((k : Int) + 1)) w1 := by
  obtain ⟨r2, h2, k2⟩ := h1
  have hlt := (List.getElem?_eq_some_iff.1 hk).1
  have hs := hS.size
  have hs1 := k1.size
  refine ⟨k + 1, r2, by omega, by simp, by rw [take_part hk, joinB_snoc]; exact h2, (hS.step k1 (fun _ e => e.elim)).step k2.keeps (fun i e => by rcases e with e | e; omega; exact hr i e.symm), fun g hg => ?_⟩
  rcases k2.later with e | ⟨g', e, hge⟩
  · exact hr g (e ▸ hg)
  · rw [e] at hg; injection hg with hg; omega

set_option maxHeartbeats 1600000 in
theorem join_any (m : Int) (v : Value) (g off : Nat) (ps : List PD) (w : World) (hm : MaxL m w) (hs : Parts w v g off ps) (hok : ∀ p ∈ ps, p.Ok) (hlen : (K.joinB (ps.map PD.part)).length ≤ 1099511627776) :
    Calls Tryd.prog 12 #[v] w fun e w' => e = .returned (.string ⟨(K.joinB (ps.map PD.part)).toArray⟩) ∧ Qt w w' := by
  obtain ⟨a, cap, rfl, ha⟩ := hs.val
  have hle := hs.le
  have hml := hm.lt
  have HS := Lib.hid hs
  have HM := Lib.hid hm
  have Hok := Lib.hid hok
  have hb0 : Wr w.heap.size none [] (w.alloc (.cells #[.pointer none, .slice none 0 0] 50)) := ⟨.pointer none, .slice none 0 0, .inl rfl, heap_alloc_new w _, World.ownsRowF_nil _ _ _ _, rfl, by simp⟩
  have Hb0 := Lib.hid hb0
  have K0 := Lib.hid (fun o => (Keeps.refl (fun k => w.heap.size ≤ k) w).alloc o)
  clear hs hm hok ha hb0
  go_enter Tryd.func12, Tryd.ntmps12
  go_wp2
  go_loopw [8] (fun i wr => JoinAt ps w.heap.size w i wr) (fun i _ => ps.length - (intOf i).toNat)
  case atStart => exact ⟨0, none, Nat.zero_le _, rfl, by simpa [K.joinB] using Hb0.out, K0.out _, fun g h => by cases h⟩
  case round =>
    obtain ⟨k, r, hk, rfl, hw, hS, hr⟩ := hrel
    have hsz := hS.size
    by_cases hlt : k < ps.length
    · obtain ⟨p, cap', hpk, hv⟩ := HS.out.elem hlt
      injection hv with hv q1 q2
      clear q1 q2
      subst hv
      obtain ⟨c0, c1, c2⟩ := (HS.out.kept hS (fun hne e => by have := HS.out.lt hne; omega)).cells k p hpk
      have hpo := Hok.out p (List.mem_of_getElem? hpk)
      have hjl : (K.joinB ((ps.map PD.part).take k)).length + 2 * p.s.size + 9 ≤ 140737488355328 := by
        have := joinB_take_le (ps.map PD.part) k
        have := hpo.s
        omega
      have HW := Lib.hid (fun (W : World) (k1 : Qt wr W) => hw.kept k1 (fun h => h) (fun _ _ h => h))
      have HMr := Lib.hid (fun (W : World) (k1 : Qt wr W) => (show MaxL m W from k1.cellv (hS.cellv HM.out (fun e => by simp only at e; omega))))
      have Fin := Lib.hid (fun (W w1 : World) (k1 : Qt wr W) (h1 : Wrote w.heap.size r (K.joinB ((ps.map PD.part).take k) ++ K.formB p.part) W w1) => JoinAt.more hpk hS (Nat.le_refl _) hr k1 h1)
      have hrM : r ≠ some 37 := fun e => by have := hr _ e; omega
      have HrM := Lib.hid hrM
      have Hpo := Lib.hid hpo
      have HA := Lib.hid (fun o => (Keeps.refl (fun _ => False) wr).alloc o)
      have Hsz := Lib.hid hsz
      clear hw hS hr hpk hrM hpo
      obtain ⟨pb, pn, psv⟩ := p
      cases pb
      · simp only at c0 c1 c2 hjl
        go_wp2_with fail
        refine (putText_any _ r _ psv m _ (HW.out _ (HA.out _)) (HMr.out _ (HA.out _)) (by omega) HrM.out Hpo.out.s (by omega)).mono ?_
        rintro e w1 ⟨rfl, h1⟩
        have fin := Lib.hid (Fin.out _ w1 (HA.out _) h1)
        clear h1 c0 c1 c2
        go_wp2
        go_roundw
        case rel => exact fin.out
        case measure => simp [intOf]; omega
      · simp only at c0 c1 c2 hjl
        go_wp2_with fail
        refine (putNumber_any _ r _ pn _ (HW.out _ (HA.out _)) (by omega) Hpo.out.lo Hpo.out.hi).mono ?_
        rintro e w1 ⟨rfl, h1⟩
        have fin := Lib.hid (Fin.out _ w1 (HA.out _) h1)
        clear h1 c0 c1 c2
        go_wp2
        go_roundw
        case rel => exact fin.out
        case measure => simp [intOf]; omega
    · obtain rfl : k = ps.length := by omega
      have htake : (ps.map PD.part).take ps.length = ps.map PD.part := List.take_of_length_le (by simp)
      rw [htake] at hw
      clear hlt htake
      have HSr := Lib.hid hS
      have Hr := Lib.hid hr
      clear hS hr
      go_wp2_with fail
      refine (bstring_any _ r _ wr hw).mono ?_
      rintro e w1 ⟨rfl, _, k1⟩
      have fin := Lib.hid (Since.qt (HSr.out.step k1 (fun i e => Hr.out i e.symm)))
      clear k1 hw
      go_wp2
      go_ret
      exact ⟨rfl, fin.out⟩
end Go.Proofs.YtfhfbpjhjigbnaaDoor
