/-
  Layer 8, plain: a disk of an image, and the document's own answers over the image.
-/
import Derived.Test.YtnnkibhlildojaaDoorGDisk
import Derived.Test.YtnnkibhlildojaaDoorDFrom
namespace Go.Proofs.YtnnkibhlildojaaDoor
set_option maxRecDepth 100000

theorem flat_each {D : List (List UInt8)} (h : ∀ (i : Nat) (t : List UInt8), D[i]? = some t → t.length = 256) : D.flatten.length = D.length * 256 := by
  induction D with
  | nil => rfl
  | cons a r ih =>
    have ha : a.length = 256 := h 0 a rfl
    have hr := ih (fun i t ht => h (i + 1) t (by simpa using ht))
    rw [List.flatten_cons, List.length_append, ha, hr, List.length_cons, Nat.succ_mul]; omega
theorem flat_set {D : List (List UInt8)} (h : ∀ (i : Nat) (t : List UInt8), D[i]? = some t → t.length = 256) (s : List UInt8) : ∀ {i : Nat}, i < D.length → (D.set i s).flatten = D.flatten.take (i * 256) ++ s ++ D.flatten.drop (i * 256 + 256) := by
  induction D with
  | nil => intro i hi; simp at hi
  | cons a r ih =>
    intro i hi
    have ha : a.length = 256 := h 0 a rfl
    cases i with
    | zero => simp [ha]
    | succ i =>
      have hr := ih (fun i t ht => h (i + 1) t (by simpa using ht)) (i := i) (by simpa using hi)
      rw [List.set_cons_succ, List.flatten_cons, List.flatten_cons, hr]
      rw [List.take_append, List.drop_append, ha, List.take_of_length_le (l := a) (by omega), List.drop_eq_nil_of_le («as» := a) (by omega), List.nil_append]
      rw [show (i + 1) * 256 - 256 = i * 256 by omega, show (i + 1) * 256 + 256 - 256 = i * 256 + 256 by omega]
      simp only [List.append_assoc]
theorem cuts_length (l : List UInt8) (n : Nat) : (cuts l n).length = n := by simp [cuts]
theorem cuts_getD (l : List UInt8) {n i : Nat} (h : i < n) : (cuts l n).getD i [] = cutAt l i := by simp [cuts, List.getD, h]
theorem cuts_each {l : List UInt8} {n : Nat} (h : l.length = n * 256) : ∀ (i : Nat) (t : List UInt8), (cuts l n)[i]? = some t → t.length = 256 := by
  have := fromTo_each h (Nat.le_refl n)
  rw [fromTo_all] at this
  exact this
theorem cuts_flat : ∀ (n : Nat) {l : List UInt8}, l.length = n * 256 → (cuts l n).flatten = l
  | 0, l, h => by
    have : l = [] := List.eq_nil_of_length_eq_zero (by omega)
    rw [this]; rfl
  | n + 1, l, h => by
    have e : cuts l (n + 1) = cuts (l.take (n * 256)) n ++ [cutAt l n] := by
      unfold cuts
      rw [List.range_succ, List.map_append]
      congr 1
      apply List.map_congr_left
      intro k hk
      have hk := List.mem_range.1 hk
      unfold cutAt
      rw [List.drop_take, List.take_take]
      congr 1
      have : k * 256 + 256 ≤ n * 256 := by omega
      omega
    rw [e, List.flatten_append, cuts_flat n (by rw [List.length_take]; omega)]
    simp only [List.flatten_cons, List.flatten_nil, List.append_nil]
    unfold cutAt
    rw [List.take_of_length_le (l := l.drop (n * 256)) (by rw [List.length_drop]; omega), List.take_append_drop]

/-- The document's Read over an image. -/
def readI (l : List UInt8) (i : Int) : List UInt8 × Nat × Nat :=
  if ¬ (0 ≤ i ∧ i + 2 ≤ (l.length / 256 : Nat)) then ([], 0, 6) else tellS (G.best (G.slotV (cutAt l i.toNat) 0) (G.slotV (cutAt l (i.toNat + 1)) 1))
/-- The document's Write over an image: the image behind it, the error's number. -/
def writeI (l : List UInt8) (i v : Int) (p : List UInt8) : List UInt8 × Nat :=
  if ¬ (0 ≤ i ∧ i + 2 ≤ (l.length / 256 : Nat)) ∨ v < 1 ∨ 1099511627776 < v then (l, 6) else if 234 < p.length then (l, 3)
  else (l.take ((i.toNat + v.toNat % 2) * 256) ++ E.sct v.toNat p ++ l.drop ((i.toNat + v.toNat % 2) * 256 + 256), 0)

theorem fromD_calm (l : List UInt8) (n : Nat) : (DS.fromD l n).Calm := ⟨rfl, rfl⟩
theorem fromD_size (l : List UInt8) (n : Nat) : (DS.fromD l n).dur.length = n := cuts_length l n
theorem fromD_image {l : List UInt8} {n : Nat} (h : l.length = n * 256) : (DS.fromD l n).image = l := cuts_flat n h
theorem fromD_reads {l : List UInt8} {n : Nat} (h : l.length = n * 256) (i : Int) : (DS.fromD l n).slotsR i = readI l i := by
  have hn : l.length / 256 = n := by rw [h]; exact Nat.mul_div_cancel _ (by decide)
  unfold readI
  rw [hn]
  by_cases hf : 0 ≤ i ∧ i + 2 ≤ (n : Int)
  · obtain ⟨j, rfl⟩ := Int.eq_ofNat_of_zero_le hf.1
    have hj : j + 2 ≤ n := by omega
    rw [if_neg (fun k => k hf), (fromD_calm l n).tells (by rw [fromD_size]; exact hj)]
    unfold G.readS
    have h0 : (DS.fromD l n).dur.getD (j + 0) [] = cutAt l j := cuts_getD l (by omega)
    have h1 : (DS.fromD l n).dur.getD (j + 1) [] = cutAt l (j + 1) := cuts_getD l (by omega)
    simp only [h0, h1, Int.toNat_natCast]
  · rw [if_pos hf]
    unfold DS.slotsR
    rw [if_pos (fun k : DS.fitS _ _ => hf (by unfold DS.fitS at k; rw [fromD_size] at k; exact k))]
end Go.Proofs.YtnnkibhlildojaaDoor
