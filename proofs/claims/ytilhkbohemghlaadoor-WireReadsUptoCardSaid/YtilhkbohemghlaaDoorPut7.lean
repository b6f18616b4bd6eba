/-
  The contract of remitlaw01.put: lists of texts; every kind.
-/
import Derived.Test.YtilhkbohemghlaaDoorPut
namespace Go.Proofs.YtilhkbohemghlaaDoor
open Go.ChangeShapes Go.WideShapes Go.ChangeAt Go.RowKit
set_option maxRecDepth 100000

/-- A row of n texts in block g, the first k of which are x. -/
def Filled (x : Value) (g cap n k : Nat) (w : World) : Prop := ∃ xs, w.ownsRow 0 9 1 (.slice (some ⟨g, 0, none⟩) n cap) n xs ∧ ∀ j, j < k → xs[j]? = some x

theorem Filled.slot {x : Value} {g cap n k : Nat} {w : World} (h : Filled x g cap n k w) {i : Nat} (hi : i < n) : (∃ u, w.cell? ⟨g, i, none⟩ = some u) ∧ w.frozen? ⟨g, i, none⟩ = false := by
  obtain ⟨xs, hown, _⟩ := h
  have hl : xs.length = n := by simpa using hown.1
  have h1 := hown.cells (g := g) rfl i xs[i] (List.getElem?_eq_getElem (by omega))
  rw [add_plain, Nat.zero_add] at h1
  refine ⟨⟨_, h1⟩, ?_⟩
  rcases hown.2 with ⟨e, _⟩ | ⟨g', cap', cur, e, _, hg, _⟩
  · cases e
  · injection e with e _ _
    injection e with e
    injection e with e
    subst e
    exact Lib.frozen_of_heap hg i

theorem Filled.store {x : Value} {g cap n k : Nat} {w : World} (h : Filled x g cap n k w) (hk : k < n) : Filled x g cap n (k + 1) (w.setCell ⟨g, k, none⟩ x) := by
  obtain ⟨xs, hown, hx⟩ := h
  have hl : xs.length = n := by simpa using hown.1
  refine ⟨_, ownsRow_store hown hk x, fun j hj => ?_⟩
  by_cases e : j = k
  · subst e; simp [hl, hk]
  · rw [List.getElem?_set_ne (by omega)]
    exact hx j (by omega)

theorem Filled.kept {x : Value} {g cap n k : Nat} {S : Nat → Prop} {w w' : World} (h : Filled x g cap n k w) (hk : Keeps S w w') (hg : ¬ S g) : Filled x g cap n k w' := by
  obtain ⟨xs, hown, hx⟩ := h
  exact ⟨xs, ownsRow_kept hown hk (fun k e => by simp [Value.ownBlock] at e; subst e; exact hg), hx⟩

/-- The whole, filled, read as a list. -/
theorem Filled.strs {x : List UInt8} {g cap n : Nat} {w : World} (h : Filled (strV x) g cap n n w) {m : Nat} (hm : m ≤ n) (hn : n ≤ 140737488355328) : Strs w (.slice (some ⟨g, 0, none⟩) m cap) g 0 (List.replicate m x) := by
  obtain ⟨xs, hown, hx⟩ := h
  refine ⟨⟨some ⟨g, 0, none⟩, cap, by simp, fun _ => rfl⟩, by simp; omega, fun j s hj => ?_⟩
  obtain ⟨hj1, rfl⟩ := List.getElem?_eq_some_iff.1 hj
  simp only [List.length_replicate] at hj1
  have h1 := hown.cells (g := g) rfl j (strV x) (hx j (by omega))
  rw [add_plain] at h1
  simpa [strV] using h1

theorem NewStrs.filled {B : Nat} {w : World} {g cap n : Nat} {ss : List (List UInt8)} (x : Value) (h : NewStrs B w (.slice (some ⟨g, 0, none⟩) n cap) ss) (hn : ss.length = n) : Filled x g cap n 0 w := ⟨_, hn ▸ h.own, fun j hj => by omega⟩

theorem NewStrs.head {B : Nat} {w : World} {g cap n : Nat} {ss ts : List (List UInt8)} (h : NewStrs B w (.slice (some ⟨g, 0, none⟩) n cap) (ss ++ ts)) (hl : ss.length ≤ 140737488355328) : Strs w (.slice (some ⟨g, 0, none⟩) ss.length cap) g 0 ss := by
  refine ⟨⟨some ⟨g, 0, none⟩, cap, rfl, fun _ => rfl⟩, hl, fun j s hj => ?_⟩
  have h1 := (World.ownsRowF_of h.own).cells (g := g) rfl j (strV s) (by rw [List.getElem?_map, List.getElem?_append_left (List.getElem?_eq_some_iff.1 hj).1, hj]; rfl)
  rw [add_plain] at h1
  exact h1

theorem NewStrs.whole {B : Nat} {w : World} {g cap n : Nat} {ss : List (List UInt8)} (h : NewStrs B w (.slice (some ⟨g, 0, none⟩) n cap) ss) (hn : ss.length = n) (hl : ss.length ≤ 140737488355328) : Strs w (.slice (some ⟨g, 0, none⟩) n cap) g 0 ss := by
  subst hn
  have h' : NewStrs B w (.slice (some ⟨g, 0, none⟩) ss.length cap) (ss ++ []) := by simpa using h
  exact h'.head hl

section
variable (b : Nat) (r : Option Nat) (l : List UInt8) (o : OpD) (w : World)

/-- The loop that spoils what was handed in. -/
def SpoilAt (x : Value) (gf cap n : Nat) (w3 : World) (i : Value) (wr : World) : Prop := ∃ k : Nat, k ≤ n ∧ i = .int .i64 k ∧ Filled x gf cap n k wr ∧ Keeps (fun k => k = gf) w3 wr

theorem SpoilAt.more {x : Value} {gf cap n k : Nat} {w3 wr : World} (hk : k < n) (h : Filled x gf cap n k wr) (hK : Keeps (fun k => k = gf) w3 wr) : SpoilAt x gf cap n w3 (.int .i64 ((k + 1 : Nat) : Int)) (wr.setCell ⟨gf, k, none⟩ x) :=
  ⟨k + 1, hk, rfl, h.store hk, hK.setCell (fun _ => rfl) x⟩

set_option maxHeartbeats 1600000 in
theorem put_7 (h : Wr b r l w) (he : o.kind = 7) (g g0 : Nat) (hs : Strs w o.v g g0 o.ss) (hl : o.ss.length ≤ 1099511627000) (hel : ∀ s ∈ o.ss, s.length ≤ 1099511627776) (hsum : (eachB o.ss).length ≤ 1099511627776) (hd : o.ss ≠ [] → g ≠ b ∧ some g ≠ r) (hlen : l.length + (eachB o.ss).length + 20 ≤ 140737488355328) :
    Calls Tryd.prog 11 #[.pointer (some ⟨b, 0, none⟩), o.val] w fun e w' => e = .returned (.tuple #[.string ⟨(textsB o.ss).toArray⟩, .bool true]) ∧ Wrote b r (l ++ textsB o.ss) w w' := by
  obtain ⟨kind, sec, u, i, n, m, s, v, ss⟩ := o
  simp only at he
  subst he
  simp only [OpD.val] at *
  obtain ⟨a, cap0, rfl, ha⟩ := hs.val
  clear ha
  have hb := h.lt
  have Hrl := Lib.hid (fun g (e : r = some g) => h.rlt e)
  have Hgl := Lib.hid (fun hne => hs.lt hne)
  have hW := Lib.hid h
  have Hd := Lib.hid hd
  have Hel := Lib.hid hel
  have h' := Lib.hid (fun o => h.alloc o)
  have hs' := Lib.hid (fun o => hs.alloc o)
  have hk' := Lib.hid (fun o => (Kept.refl b r w).alloc o)
  have cbox : ∀ C t, (w.alloc (.cells C t)).cell? ⟨w.heap.size, 7, none⟩ = C[7]? := fun C t => cell_of_row _ _ _ _ _ _ (heap_alloc_new w _)
  have hsz := Lib.hid (fun o => show w.heap.size < (w.alloc o).heap.size by simp)
  clear h hs hd hel
  go_enter Tryd.func11, Tryd.ntmps11
  go_wp2_with fail
  generalize hW0 : w.alloc _ = W0
  have c7 : W0.cell? ⟨w.heap.size, 7, none⟩ = some (.slice a ss.length cap0) := by rw [← hW0, cbox]; rfl
  have HS0 := Lib.hid (hW0 ▸ hs'.out _)
  have HW0 := Lib.hid (hW0 ▸ h'.out _)
  have HK0 := Lib.hid (hW0 ▸ hk'.out _)
  have hz0 := (hW0 ▸ hsz.out _ : w.heap.size < W0.heap.size)
  clear cbox hs' h' hk' hsz hW0
  have c7lt := World.block_lt_of_cell? _ _ c7
  refine (spare_any _ g g0 ss W0 HS0.out (by omega)).mono ?_
  rintro e w1 ⟨gf, cap, rfl, hn1, k1⟩
  have hle : (ss ++ marksL 80).length = ss.length + 80 := by rw [List.length_append, marksL_length]
  have hgf : W0.heap.size ≤ gf := hn1.new gf rfl
  have hgf1 : gf < w1.heap.size := (World.ownsRowF_of hn1.own).lt gf rfl |>.2
  have hs1 := k1.size
  have d7 : w1.cell? ⟨w.heap.size, 7, none⟩ = some (.slice a ss.length cap0) := (k1.cell c7lt (fun h => h)).trans c7
  have Hh1 := Lib.hid (hn1.head (by omega))
  have Hw1 := Lib.hid (hn1.whole hle (by omega))
  have Hf1 := Lib.hid (hn1.filled (strV [115, 112, 111, 105, 108, 116]) hle)
  have HS1 := Lib.hid (HS0.out.kept k1 (fun _ h => h))
  have HW1 := Lib.hid (HW0.out.kept k1 (fun h => h) (fun _ _ h => h))
  have HK1 := Lib.hid (show Keeps (fun _ => False) W0 w1 from k1)
  have Hle := Lib.hid hle
  clear hn1 k1 c7 hle
  go_wp2_with fail
  refine (wtexts_any b r l _ gf 0 ss w1 HW1.out Hh1.out (fun _ => ⟨by omega, fun e => by have := Hrl.out gf e.symm; omega⟩) hlen).mono ?_
  rintro e w2 ⟨rfl, r2, hw2, hk2⟩
  have hs2 := hk2.keeps.size
  have hne2 : ∀ (c : Nat), w.heap.size ≤ c → c < w1.heap.size → ¬ (c = b ∨ some c = r) := fun c hc _ e => by
    rcases e with e | e
    · omega
    · have := Hrl.out c e.symm; omega
  have d7' : w2.cell? ⟨w.heap.size, 7, none⟩ = some (.slice a ss.length cap0) := (hk2.keeps.cell (by simp only; omega) (hne2 w.heap.size (Nat.le_refl _) (by omega))).trans d7
  have Hw2 := Lib.hid (Hw1.out.kept hk2.keeps (fun _ => hne2 gf (by omega) hgf1))
  have Hf2 := Lib.hid (Hf1.out.kept hk2.keeps (hne2 gf (by omega) hgf1))
  have HS2 := Lib.hid (HS1.out.kept hk2.keeps (fun hne e => by have := Hd.out hne; rcases e with e | e; exact this.1 e; exact this.2 e))
  have HW2 := Lib.hid hw2
  have HK2 := Lib.hid hk2
  clear hw2 hk2 hne2 d7 HS1 HW1 Hh1 Hw1 Hf1
  go_wp2_with fail
  refine (kept_any _ _ gf 0 g g0 ss w2 Hw2.out HS2.out (by omega)).mono ?_
  rintro e w3 ⟨rfl, k3⟩
  have hs3 := k3.size
  have e7 : w3.cell? ⟨w.heap.size, 7, none⟩ = some (.slice a ss.length cap0) := (k3.cell (by simp only; omega) (fun h => h)).trans d7'
  have Hf3 := Lib.hid (Hf2.out.kept k3 (fun h => h))
  have HS3 := Lib.hid (HS2.out.kept k3 (fun _ h => h))
  have HW3 := Lib.hid (HW2.out.kept k3 (fun h => h) (fun _ _ h => h))
  have HK3 := Lib.hid k3
  clear k3 d7' Hw2 Hf2 HS2 HW2
  go_wp2
  go_loopw [9, 88] (fun _ i wr => SpoilAt (strV [115, 112, 111, 105, 108, 116]) gf cap (ss.length + 80) w3 i wr) (fun _ i _ => ss.length + 80 - (intOf i).toNat)
  case atStart => exact ⟨0, Nat.zero_le _, rfl, Hf3.out, Keeps.refl _ _⟩
  case round =>
    obtain ⟨k, hk, rfl, hf, hK⟩ := hrel
    by_cases hlt : k < ss.length + 80
    · obtain ⟨⟨u0, hc⟩, hz⟩ := hf.slot hlt
      have fin := Lib.hid (SpoilAt.more hlt hf hK)
      have hlt' : (k : Int) < (ss.length : Int) + 80 := by omega
      clear hf hK
      go_wp2
      go_roundw
      case rel => exact fin.out
      case measure => simp [intOf]; omega
    · obtain rfl : k = ss.length + 80 := by omega
      have f7 : wr.cell? ⟨w.heap.size, 7, none⟩ = some (.slice a ss.length cap0) := (hK.cell (by simp only; omega) (fun e => by simp only at e; omega)).trans e7
      have HS4 := Lib.hid (HS3.out.kept hK (fun hne e => by have := Hgl.out hne; omega))
      have hne : gf ≠ b := by omega
      have hr2 : ∀ k, r2 = some k → ¬ k = gf := fun k hk e => by
        subst e
        rcases HK2.out.later with q | ⟨g', q, hg'⟩
        · have := Hrl.out k (q ▸ hk); omega
        · rw [q] at hk; injection hk with hk; omega
      have HW4 := Lib.hid (HW3.out.kept hK (fun e => hne e.symm) hr2)
      have HK4 := Lib.hid hK
      have hs4 := hK.size
      clear hf hK hlt e7
      go_wp2_with fail
      refine (refTexts_any _ g g0 ss wr HS4.out (by omega) Hel.out hsum).mono ?_
      rintro e w5 ⟨rfl, k5⟩
      have fin := Lib.hid (show Wrote b r (l ++ textsB ss) w w5 from ⟨r2, HW4.out.kept k5 (fun h => h) (fun _ _ h => h),
        ⟨((((HK0.out.keeps.trans HK1.out (fun _ _ h => h.elim)).trans HK2.out.keeps (fun _ _ h => h)).trans HK3.out (fun _ _ h => h.elim)).trans HK4.out (fun i hi e => by omega)).trans k5 (fun _ _ h => h.elim),
          HK2.out.later.of_le (by omega)⟩⟩)
      clear k5
      go_wp2
      go_ret2
      exact ⟨rfl, fin.out⟩
end

/-- Every kind. -/
theorem put_any (b : Nat) (r : Option Nat) (l : List UInt8) (o : OpD) (w : World) (h : Wr b r l w) (ho : o.Ok) (hsm : o.Small) (g g0 : Nat) (hs : Strs w o.v g g0 o.ss) (hd : o.ss ≠ [] → g ≠ b ∧ some g ≠ r) (hlen : l.length ≤ 70368744177664) :
    Calls Tryd.prog 11 #[.pointer (some ⟨b, 0, none⟩), o.val] w fun e w' => e = .returned (.tuple #[.string ⟨((o.enc).getD []).toArray⟩, .bool true]) ∧ Wrote b r (l ++ (o.enc).getD []) w w' := by
  have q1 := hsm.s
  have q2 := hsm.sum
  have q3 := hsm.n
  cases hy : o.enc with
  | none =>
    rw [Option.getD_none, List.append_nil]
    exact put_0 b r l o w h (OpD.enc_none hy)
  | some y =>
    rw [Option.getD_some]
    rcases o.enc_cases hy with ⟨he, rfl⟩ | ⟨he, rfl⟩ | ⟨he, rfl⟩ | ⟨he, rfl⟩ | ⟨he, rfl⟩ | ⟨he, rfl⟩ | ⟨he, rfl⟩ | ⟨he, rfl⟩
    · exact put_1 b r l o w 1 (.inl rfl) h ho he (by omega)
    · exact put_1 b r l o w 8 (.inr rfl) h ho he (by omega)
    · exact put_2 b r l o w h ho he (by omega)
    · exact put_3 b r l o w h ho he (by omega)
    · exact put_4 b r l o w h ho he (by omega)
    · exact put_5 b r l o w h ho he (by omega)
    · exact put_6 b r l o w h ho he (by omega)
    · exact put_7 b r l o w h he g g0 hs (by omega) (fun s hs => by have := hsm.each s hs; omega) (by omega) hd (by omega)
end Go.Proofs.YtilhkbohemghlaaDoor
