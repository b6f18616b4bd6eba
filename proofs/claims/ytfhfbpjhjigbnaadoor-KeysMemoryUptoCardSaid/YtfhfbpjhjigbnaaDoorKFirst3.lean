/-
  The contract of first; what Split makes of a key, plain.
-/
import Derived.Test.YtfhfbpjhjigbnaaDoorKFirst2
namespace Go.Proofs.YtfhfbpjhjigbnaaDoor
open Go.RowKit Go.WideShapes
set_option maxRecDepth 100000

theorem headB_other {l : List UInt8} {c : UInt8} (h : l.head? = some c) (h1 : c ≠ 1) (h2 : c ≠ 2) : K.headB l = none := by
  cases l with
  | nil => simp at h
  | cons d r =>
    simp at h
    subst h
    rw [K.headB, if_neg h1, if_neg h2]
theorem head_byte (s : ByteArray) (h : 0 < s.size) : s.data.toList.head? = some s[0] := by
  rw [List.head?_eq_getElem?, List.getElem?_eq_getElem (show 0 < s.data.toList.length from h)]; rfl
theorem byte_eq (c : UInt8) (n : Nat) (hn : n < 256) : ((c.toNat : Int) == (n : Int)) = decide (c = n.toUInt8) := by
  rw [Bool.eq_iff_iff]
  simp only [beq_iff_eq, decide_eq_true_eq]
  constructor
  · intro h
    apply UInt8.toNat_inj.1
    rw [K.u8_toNat hn]; omega
  · rintro rfl
    rw [K.u8_toNat hn]

set_option maxHeartbeats 3200000 in
theorem first_any (ef : Addr) (m : Int) (s : ByteArray) (w : World) (hE : ErrF ef w) (hm : MaxL m w) (hs : s.size ≤ 4194304) (h0 : 0 < s.size) : Calls Tryd.prog 31 #[.string s] w (FirstV ef s.data.toList w) := by
  have hh := head_byte s h0
  have HE := Lib.hid (fun W (k : Qt w W) => show ErrF ef W from k.cellv hE)
  have HM := Lib.hid (fun W (k : Qt w W) => show MaxL m W from k.cellv hm)
  have hgl : 0 < w.heap.size := World.block_lt_of_cell? w _ hE
  have hz := heap_alloc_new w (.cells #[.bool false, .int .i64 0, .string ⟨#[]⟩] 25)
  have K0 := Lib.hid (show Qt w (w.alloc (.cells #[.bool false, .int .i64 0, .string ⟨#[]⟩] 25)) from (Keeps.refl _ _).alloc _)
  have HZ := Lib.hid hz
  have b1 := byte_eq s[0] 1 (by decide)
  have b2 := byte_eq s[0] 2 (by decide)
  clear hE hm hz
  by_cases h1 : s[0] = 1
  · have b1' : ((s[0].toNat : Int) == 1) = true := by simp [h1]
    have Q := Lib.hid (fun W (k : Qt w W) => firstNumber_any ef s W (HE.out W k) (by omega) (by rw [hh, h1]))
    clear b1 b2 h1 hh
    go_enter Tryd.func31, Tryd.ntmps31
    go_wp2_with fail
    refine (Q.out _ K0.out).mono ?_
    rintro e w1 ⟨k1, h⟩
    have hz1 : w1.heap[w.heap.size]? = some (.cells #[.bool false, .int .i64 0, .string ⟨#[]⟩] 25 (0, 0)) := (k1.block _ (lt_of_block HZ.out) (fun e => e)).trans HZ.out
    have K1 := Lib.hid (Qt.trans K0.out k1)
    clear k1
    rcases h with ⟨p, n, hp, hn1, hn2, rfl⟩ | ⟨hn, rfl⟩
    · have Fin := Lib.hid (fun W (k : Qt w W) => show FirstV ef s.data.toList w (.returned (.tuple #[(ofPart p).val, .int .i64 (n : Nat), .nilIface])) W from ⟨k, .inl ⟨p, n, hp, hn1, hn2, rfl⟩⟩)
      clear hp
      generalize ofPart p = P at *
      go_wp2_with (refine wpList_store_row _ rfl 25 _ _ rfl w.heap.size _ _ 25 rfl rfl hz1 (by kernel_rfl) rfl (part_one _ _ _) ?_)
      have hset := setRow_heap w1 w.heap.size _ #[.bool P.b, .int .i64 P.n, .string P.s] 25 (0, 0) hz1
      have kf := Keeps.setRow (S := fun _ => False) (a := w) K1.out (g := w.heap.size) (fun h => absurd h (by omega)) #[.bool P.b, .int .i64 P.n, .string P.s]
      generalize w1.setRow w.heap.size _ = W2 at *
      have d : ∀ j, W2.cell? ⟨w.heap.size, j, none⟩ = _ := fun j => cell_of_row _ _ _ _ _ _ hset
      have d0 := d 0
      have d1 := d 1
      have d2 := d 2
      have KF := Lib.hid (Fin.out W2 kf)
      clear d hset kf hz1
      go_wp2
      exact bodyPost_ret (v := .tuple #[P.val, .int .i64 (n : Nat), .nilIface]) (by simp [results, Tryd.results31, go_sem, d0, d1, d2]) rfl KF.out
    · have Fin := Lib.hid (fun W (k : Qt w W) => show FirstV ef s.data.toList w (.returned (.tuple #[.agg #[.bool false, .int .i64 0, .string ⟨#[]⟩], .int .i64 0, errF ef])) W from ⟨k, .inr ⟨hn, rfl⟩⟩)
      clear hn
      go_wp2_with (refine wpList_store_row _ rfl 25 _ _ rfl w.heap.size _ _ 25 rfl rfl hz1 (by kernel_rfl) rfl (part_one _ _ _) ?_)
      have hset := setRow_heap w1 w.heap.size _ #[.bool false, .int .i64 0, .string ⟨#[]⟩] 25 (0, 0) hz1
      have kf := Keeps.setRow (S := fun _ => False) (a := w) K1.out (g := w.heap.size) (fun h => absurd h (by omega)) #[.bool false, .int .i64 0, .string ⟨#[]⟩]
      generalize w1.setRow w.heap.size _ = W2 at *
      have d : ∀ j, W2.cell? ⟨w.heap.size, j, none⟩ = _ := fun j => cell_of_row _ _ _ _ _ _ hset
      have d0 := d 0
      have d1 := d 1
      have d2 := d 2
      have KF := Lib.hid (Fin.out W2 kf)
      clear d hset kf hz1
      go_wp2
      exact bodyPost_ret (v := .tuple #[.agg #[.bool false, .int .i64 0, .string ⟨#[]⟩], .int .i64 0, errF ef]) (by simp [results, Tryd.results31, go_sem, d0, d1, d2]) rfl KF.out
  · have b1' : ((s[0].toNat : Int) == 1) = false := by simpa [h1] using b1
    by_cases h2 : s[0] = 2
    · have b2' : ((s[0].toNat : Int) == 2) = true := by simp [h2]
      have Q := Lib.hid (fun W (k : Qt w W) => firstText_any ef m s W (HE.out W k) (HM.out W k) hs (by rw [hh, h2]))
      clear b1 b2 h1 h2 hh
      go_enter Tryd.func31, Tryd.ntmps31
      go_wp2_with fail
      refine (Q.out _ K0.out).mono ?_
      rintro e w1 ⟨k1, h⟩
      have hz1 : w1.heap[w.heap.size]? = some (.cells #[.bool false, .int .i64 0, .string ⟨#[]⟩] 25 (0, 0)) := (k1.block _ (lt_of_block HZ.out) (fun e => e)).trans HZ.out
      have K1 := Lib.hid (Qt.trans K0.out k1)
      clear k1
      rcases h with ⟨p, n, hp, hn1, hn2, rfl⟩ | ⟨hn, rfl⟩
      · have Fin := Lib.hid (fun W (k : Qt w W) => show FirstV ef s.data.toList w (.returned (.tuple #[(ofPart p).val, .int .i64 (n : Nat), .nilIface])) W from ⟨k, .inl ⟨p, n, hp, hn1, hn2, rfl⟩⟩)
        clear hp
        generalize ofPart p = P at *
        go_wp2_with (refine wpList_store_row _ rfl 25 _ _ rfl w.heap.size _ _ 25 rfl rfl hz1 (by kernel_rfl) rfl (part_one _ _ _) ?_)
        have hset := setRow_heap w1 w.heap.size _ #[.bool P.b, .int .i64 P.n, .string P.s] 25 (0, 0) hz1
        have kf := Keeps.setRow (S := fun _ => False) (a := w) K1.out (g := w.heap.size) (fun h => absurd h (by omega)) #[.bool P.b, .int .i64 P.n, .string P.s]
        generalize w1.setRow w.heap.size _ = W2 at *
        have d : ∀ j, W2.cell? ⟨w.heap.size, j, none⟩ = _ := fun j => cell_of_row _ _ _ _ _ _ hset
        have d0 := d 0
        have d1 := d 1
        have d2 := d 2
        have KF := Lib.hid (Fin.out W2 kf)
        clear d hset kf hz1
        go_wp2
        exact bodyPost_ret (v := .tuple #[P.val, .int .i64 (n : Nat), .nilIface]) (by simp [results, Tryd.results31, go_sem, d0, d1, d2]) rfl KF.out
      · have Fin := Lib.hid (fun W (k : Qt w W) => show FirstV ef s.data.toList w (.returned (.tuple #[.agg #[.bool false, .int .i64 0, .string ⟨#[]⟩], .int .i64 0, errF ef])) W from ⟨k, .inr ⟨hn, rfl⟩⟩)
        clear hn
        go_wp2_with (refine wpList_store_row _ rfl 25 _ _ rfl w.heap.size _ _ 25 rfl rfl hz1 (by kernel_rfl) rfl (part_one _ _ _) ?_)
        have hset := setRow_heap w1 w.heap.size _ #[.bool false, .int .i64 0, .string ⟨#[]⟩] 25 (0, 0) hz1
        have kf := Keeps.setRow (S := fun _ => False) (a := w) K1.out (g := w.heap.size) (fun h => absurd h (by omega)) #[.bool false, .int .i64 0, .string ⟨#[]⟩]
        generalize w1.setRow w.heap.size _ = W2 at *
        have d : ∀ j, W2.cell? ⟨w.heap.size, j, none⟩ = _ := fun j => cell_of_row _ _ _ _ _ _ hset
        have d0 := d 0
        have d1 := d 1
        have d2 := d 2
        have KF := Lib.hid (Fin.out W2 kf)
        clear d hset kf hz1
        go_wp2
        exact bodyPost_ret (v := .tuple #[.agg #[.bool false, .int .i64 0, .string ⟨#[]⟩], .int .i64 0, errF ef]) (by simp [results, Tryd.results31, go_sem, d0, d1, d2]) rfl KF.out
    · have b2' : ((s[0].toNat : Int) == 2) = false := by simpa [h2] using b2
      have hno := headB_other hh h1 h2
      have F := Lib.hid (fun W (k : Qt w W) => show FirstV ef s.data.toList w (.returned (.tuple #[.agg #[.bool false, .int .i64 0, .string ⟨#[]⟩], .int .i64 0, errF ef])) W from ⟨k, .inr ⟨hno, rfl⟩⟩)
      have hc := HE.out _ K0.out
      clear b1 b2 h1 h2 hh hno
      go_enter Tryd.func31, Tryd.ntmps31
      go_wp2
      go_region
      all_goals
        go_wp2
        exact bodyPost_ret (v := .tuple #[.agg #[.bool false, .int .i64 0, .string ⟨#[]⟩], .int .i64 0, errF ef]) (by simp [results, Tryd.results31, go_sem]) rfl (F.out _ (Keeps.drew K0.out))

/-! ### Split, plain -/
theorem splitN_fuel : ∀ (n : Nat) {m : Nat} {l : List UInt8}, l.length ≤ n → l.length ≤ m → K.splitN n l = K.splitN m l
  | 0, m, l, hn, _ => by
    obtain rfl : l = [] := List.eq_nil_of_length_eq_zero (Nat.le_zero.1 hn)
    cases m <;> simp [K.splitN]
  | n + 1, m, l, hn, hm => by
    by_cases e : l = []
    · subst e; cases m <;> simp [K.splitN]
    · have hl : 0 < l.length := List.length_pos_iff.2 e
      obtain ⟨m', rfl⟩ : ∃ m', m = m' + 1 := ⟨m - 1, by omega⟩
      rw [K.splitN, K.splitN, if_neg e, if_neg e]
      cases hh : K.headB l with
      | none => rfl
      | some z =>
        obtain ⟨p, r⟩ := z
        obtain ⟨_, hr⟩ := K.headB_inv hh
        obtain ⟨c, q, hc⟩ := K.formB_cons p
        have hlen : r.length < l.length := by rw [hr, hc]; simp; omega
        simp only
        rw [splitN_fuel n (by omega) (show r.length ≤ m' by omega)]
theorem splitB_nil : K.splitB [] = some [] := rfl
theorem splitB_some {l r : List UInt8} {p : K.PartD} (h : K.headB l = some (p, r)) : K.splitB l = (K.splitB r).map (p :: ·) := by
  obtain ⟨_, hr⟩ := K.headB_inv h
  obtain ⟨c, q, hc⟩ := K.formB_cons p
  have hlen : r.length < l.length := by rw [hr, hc]; simp; omega
  have hne : l ≠ [] := by rintro rfl; simp at hlen
  unfold K.splitB
  obtain ⟨n, hn⟩ : ∃ n, l.length = n + 1 := ⟨l.length - 1, by omega⟩
  rw [hn, K.splitN, if_neg hne, h]
  simp only
  rw [splitN_fuel n (by omega) (Nat.le_refl r.length)]
theorem splitB_none {l : List UInt8} (hne : l ≠ []) (h : K.headB l = none) : K.splitB l = none := by
  unfold K.splitB
  obtain ⟨n, hn⟩ : ∃ n, l.length = n + 1 := ⟨l.length - 1, by have := List.length_pos_iff.2 hne; omega⟩
  rw [hn, K.splitN, if_neg hne, h]
end Go.Proofs.YtfhfbpjhjigbnaaDoor
