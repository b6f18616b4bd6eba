/-
  The contracts of firstText, first.
-/
import Derived.Test.YtfhfbpjhjigbnaaDoorKFirst
import Derived.WalkSpells
import Derived.WalkLawsBesides
namespace Go.Proofs.YtfhfbpjhjigbnaaDoor
open Go.RowKit Go.WideShapes
set_option maxRecDepth 100000

theorem index_none_any (c : ByteArray) (h : ∀ x ∈ c.data.toList, x ≠ 0) (W : World) : Calls Tryd.prog 46 #[.string c, .string ⟨#[0]⟩] W fun e w' => e = .returned (.int .i64 (-1)) ∧ W = w' := by
  refine (Tryd.strings_Index_one c 0 W).mono ?_
  rintro e w' ⟨rfl, rfl⟩
  refine ⟨?_, rfl⟩
  rw [← Lib.index_one, show Lib.index c.data.toList [0] = -1 from K.index0_none h]
theorem index_at_any (c : ByteArray) (p q : List UInt8) (h : c.data.toList = p ++ 0 :: q) (hp : ∀ x ∈ p, x ≠ 0) (W : World) : Calls Tryd.prog 46 #[.string c, .string ⟨#[0]⟩] W fun e w' => e = .returned (.int .i64 (p.length : Nat)) ∧ W = w' := by
  refine (Tryd.strings_Index_one c 0 W).mono ?_
  rintro e w' ⟨rfl, rfl⟩
  refine ⟨?_, rfl⟩
  rw [h, ← Lib.index_one, show Lib.index (p ++ 0 :: q) [0] = (p.length : Nat) from K.index0_at q hp]
theorem hasPrefix_any (c x : ByteArray) (b : Bool) (h : Lib.hasPrefix c.data.toList x.data.toList = b) (W : World) : Calls Tryd.prog 47 #[.string c, .string x] W fun e w' => e = .returned (.bool b) ∧ W = w' := by
  refine (Tryd.strings_HasPrefix c x W).mono ?_
  rintro e w' ⟨rfl, rfl⟩
  exact ⟨by rw [h], rfl⟩

theorem headB_txt {l : List UInt8} (h : l.head? = some 2) : K.headB l = (K.unesc (l.drop 1)).map fun x => (.txt x.1, x.2) := by
  cases l with
  | nil => simp at h
  | cons c r =>
    simp at h
    subst h
    rw [K.headB, if_neg (by decide), if_pos rfl]
    rfl

/-- The place that firstText has reached. -/
structure TextAt (s : ByteArray) (a : Nat) (u : List UInt8) : Prop where
  le : a ≤ s.size
  at_ : a = 1 + (K.escB u).length
  eq : s.data.toList.drop 1 = K.escB u ++ s.data.toList.drop a

theorem TextAt.start {s : ByteArray} (h : s.data.toList.head? = some 2) : TextAt s 1 [] := by
  refine ⟨?_, rfl, rfl⟩
  rcases Nat.eq_zero_or_pos s.size with h0 | h0
  · have : s.data.toList = [] := List.eq_nil_of_length_eq_zero h0
    rw [this] at h; simp at h
  · exact h0

section
variable {s : ByteArray} {a : Nat} {u p q : List UInt8}
theorem TextAt.unesc (h : TextAt s a u) : K.unesc (s.data.toList.drop 1) = (K.unesc (s.data.toList.drop a)).map fun x => (u ++ x.1, x.2) := by
  rw [h.eq, K.unesc_app]
theorem TextAt.nul (h : TextAt s a u) (h2 : s.data.toList.head? = some 2) (hn : ∀ c ∈ s.data.toList.drop a, c ≠ 0) : K.headB s.data.toList = none := by
  rw [headB_txt h2, h.unesc, K.unesc_no hn]; rfl
theorem drop_p (hq : s.data.toList.drop a = p ++ 0 :: q) : s.data.toList.drop (a + p.length) = 0 :: q := by
  rw [← List.drop_drop, hq, List.drop_left]
theorem drop_p2 (hq : s.data.toList.drop a = p ++ 0 :: q) : s.data.toList.drop (a + p.length + 2) = q.drop 1 := by
  rw [← List.drop_drop, drop_p hq]; rfl
theorem drop_lt (hq : s.data.toList.drop a = p ++ 0 :: q) : a + p.length + 1 + q.length = s.size := by
  have h := congrArg List.length hq
  rw [List.length_drop, List.length_append, List.length_cons] at h
  have : s.data.toList.length = s.size := rfl
  omega
theorem TextAt.step (h : TextAt s a u) (hq : s.data.toList.drop a = p ++ 0 :: q) (hp : ∀ c ∈ p, c ≠ 0) : K.unesc (s.data.toList.drop 1) = (K.unesc (0 :: q)).map fun x => (u ++ p ++ x.1, x.2) := by
  rw [h.unesc, hq, K.unesc_plain hp, Option.map_map]
  congr 1
  funext x
  simp
theorem TextAt.done (h : TextAt s a u) (h2 : s.data.toList.head? = some 2) (hq : s.data.toList.drop a = p ++ 0 :: 1 :: q) (hp : ∀ c ∈ p, c ≠ 0) : K.headB s.data.toList = some (.txt (u ++ p), s.data.toList.drop (a + p.length + 2)) := by
  rw [headB_txt h2, h.step hq hp, K.unesc_end, drop_p2 hq]
  simp
theorem TextAt.bad (h : TextAt s a u) (h2 : s.data.toList.head? = some 2) (hq : s.data.toList.drop a = p ++ 0 :: q) (hp : ∀ c ∈ p, c ≠ 0) (h1 : q.head? ≠ some 1) (h3 : q.head? ≠ some 255) : K.headB s.data.toList = none := by
  rw [headB_txt h2, h.step hq hp]
  cases q with
  | nil => rfl
  | cons d r =>
    simp at h1 h3
    rw [K.unesc_bad h1 h3]; rfl
theorem TextAt.next (h : TextAt s a u) (hq : s.data.toList.drop a = p ++ 0 :: 255 :: q) (hp : ∀ c ∈ p, c ≠ 0) : TextAt s (a + p.length + 2) (u ++ p ++ [0]) := by
  have hl := drop_lt hq
  have he : K.escB (u ++ p ++ [0]) = K.escB u ++ p ++ [0, 255] := by rw [K.escB_append, K.escB_append, K.escB_plain hp]; rfl
  refine ⟨by simp at hl; omega, ?_, ?_⟩
  · rw [he, List.length_append, List.length_append]
    have := h.at_
    simp
    omega
  · rw [he, drop_p2 hq, h.eq, hq]; simp
theorem TextAt.text (h : TextAt s a u) (hq : s.data.toList.drop a = p ++ 0 :: q) (hp : ∀ c ∈ p, c ≠ 0) : (s.extract 1 (a + p.length)).data.toList = K.escB (u ++ p) := by
  rw [Lib.extract_data, h.eq, hq, K.escB_append, K.escB_plain hp, ← List.append_assoc]
  have := h.at_
  exact List.take_left' (by rw [List.length_append]; omega)
end

theorem prefix_1 (q : List UInt8) : Lib.hasPrefix (0 :: q) [0, 1] = decide (q.head? = some 1) := by
  cases q with
  | nil => rfl
  | cons d r => simp [Lib.hasPrefix, List.isPrefixOf, Bool.beq_eq_decide_eq, eq_comm]
theorem prefix_255 (q : List UInt8) : Lib.hasPrefix (0 :: q) [0, 255] = decide (q.head? = some 255) := by
  cases q with
  | nil => rfl
  | cons d r => simp [Lib.hasPrefix, List.isPrefixOf, Bool.beq_eq_decide_eq, eq_comm]

set_option maxHeartbeats 3200000 in
theorem firstText_any (ef : Addr) (m : Int) (s : ByteArray) (w : World) (hE : ErrF ef w) (hm : MaxL m w) (hs : s.size ≤ 4194304) (h2 : s.data.toList.head? = some 2) : Calls Tryd.prog 41 #[.string s] w (FirstV ef s.data.toList w) := by
  have hlen : s.data.toList.length = s.size := rfl
  have hgl : 0 < w.heap.size := World.block_lt_of_cell? w _ hE
  have HE := Lib.hid (fun W (k : Qt w W) => show ErrF ef W from k.cellv hE)
  have HM := Lib.hid (fun W (k : Qt w W) => show MaxL m W from k.cellv hm)
  have FinN := Lib.hid (fun (hn : K.headB s.data.toList = none) W (k : Qt w W) => show FirstV ef s.data.toList w (.returned (.tuple #[.agg #[.bool false, .int .i64 0, .string ⟨#[]⟩], .int .i64 0, errF ef])) W from ⟨k, .inr ⟨hn, rfl⟩⟩)
  have hz := heap_alloc_new w (.cells #[.bool false, .int .i64 0, .string ⟨#[]⟩] 25)
  have T0 := Lib.hid (TextAt.start h2)
  have H2 := Lib.hid h2
  clear hE hm h2 hlen
  go_enter Tryd.func41, Tryd.ntmps41
  go_wp2
  have K0 := Lib.hid (show Qt w (w.alloc (.cells #[.bool false, .int .i64 0, .string ⟨#[]⟩] 25)) from (Keeps.refl _ _).alloc _)
  have HZ := Lib.hid hz
  clear hz
  go_loop [5] (fun i => ∃ a u, i = .int .i64 (a : Nat) ∧ TextAt s a u) (fun i => s.size + 2 - (intOf i).toNat)
  case atStart => exact ⟨1, [], rfl, T0.out⟩
  case round =>
    obtain ⟨a, u, rfl, ht⟩ := hrel
    have hle := ht.le
    have HT := Lib.hid ht
    clear ht
    have hex := Lib.extract_to_end s a
    rcases K.zero_split (s.data.toList.drop a) with hn | ⟨p, q, hq, hp⟩
    · have Q := Lib.hid (fun W => index_none_any (s.extract a s.size) (by rw [hex]; exact hn) W)
      have F := Lib.hid (fun W (k : Qt w W) => FinN.out (HT.out.nul H2.out hn) W k)
      have hc := HE.out _ K0.out
      clear hn hex
      go_wp2_with fail
      refine (Q.out _).mono ?_
      rintro e w1 ⟨rfl, rfl⟩
      go_wp2
      go_region
      all_goals
        go_wp2
        exact bodyPost_ret (v := .tuple #[.agg #[.bool false, .int .i64 0, .string ⟨#[]⟩], .int .i64 0, errF ef]) (by simp [results, Tryd.results41, go_sem]) rfl (F.out _ (Keeps.drew K0.out))
    · have hdl := drop_lt hq
      have Q := Lib.hid (fun W => index_at_any (s.extract a s.size) p q (by rw [hex]; exact hq) hp W)
      have hex2 := Lib.extract_to_end s (a + p.length)
      rw [drop_p hq] at hex2
      have P1 := Lib.hid (fun W => hasPrefix_any (s.extract (a + p.length) s.size) ⟨#[0, 1]⟩ (decide (q.head? = some 1)) (by rw [hex2]; exact prefix_1 q) W)
      have P2 := Lib.hid (fun W => hasPrefix_any (s.extract (a + p.length) s.size) ⟨#[0, 255]⟩ (decide (q.head? = some 255)) (by rw [hex2]; exact prefix_255 q) W)
      have Hq := Lib.hid hq
      have Hp := Lib.hid hp
      have U1 := Lib.hid (fun W (k : Qt w W) => unesc_any (u ++ p) (s.extract 1 (a + p.length)) (HT.out.text hq hp) m W (HM.out W k) (by rw [ByteArray.size_extract]; omega))
      have ha1 : 1 ≤ a := by have := HT.out.at_; omega
      have hx : a + p.length < s.size := by omega
      have Hdl := Lib.hid hdl
      clear hex hex2 hq hp hdl
      generalize hN : p.length = n at *
      have HN := Lib.hid hN
      clear hN
      by_cases h1 : q.head? = some 1
      · rw [decide_eq_true h1] at P1
        obtain ⟨d, r, rfl⟩ : ∃ d r, q = d :: r := by cases q with
          | nil => simp at h1
          | cons d r => exact ⟨d, r, rfl⟩
        simp at h1
        subst h1
        have hd2 : a + n + 2 ≤ s.size := by have := Hdl.out; simp at this; omega
        have FinO := Lib.hid (fun W (k : Qt w W) => show FirstV ef s.data.toList w (.returned (.tuple #[.agg #[.bool false, .int .i64 0, .string ⟨(u ++ p).toArray⟩], .int .i64 ((a + n + 2 : Nat) : Int), .nilIface])) W from ⟨k, .inl ⟨.txt (u ++ p), a + n + 2, by rw [← HN.out]; exact HT.out.done H2.out Hq.out Hp.out, by omega, hd2, rfl⟩⟩)
        clear P2
        go_wp2_with fail
        refine (Q.out _).mono ?_
        rintro e w1 ⟨rfl, rfl⟩
        go_wp2_with fail
        refine (P1.out _).mono ?_
        rintro e w1 ⟨rfl, rfl⟩
        go_wp2_with fail
        refine (U1.out _ K0.out).mono ?_
        rintro e w1 ⟨rfl, k1⟩
        have K1 := Lib.hid k1
        clear k1
        generalize (⟨(u ++ p).toArray⟩ : ByteArray) = T at *
        go_wp2_with fail
        refine (text_any T _).mono ?_
        rintro e w2 ⟨rfl, k2⟩
        have hz1 : w2.heap[w.heap.size]? = some (.cells #[.bool false, .int .i64 0, .string ⟨#[]⟩] 25 (0, 0)) := (k2.block _ (Nat.lt_of_lt_of_le (lt_of_block HZ.out) K1.out.size) (fun e => e)).trans ((K1.out.block _ (lt_of_block HZ.out) (fun e => e)).trans HZ.out)
        have K2 := Lib.hid (Qt.trans (Qt.trans K0.out K1.out) k2)
        clear k2
        go_wp2_with (refine wpList_store_row _ rfl 25 _ _ rfl w.heap.size _ _ 25 rfl rfl hz1 (by kernel_rfl) rfl (part_one _ _ _) ?_)
        have hset := setRow_heap w2 w.heap.size _ #[.bool false, .int .i64 0, .string T] 25 (0, 0) hz1
        have kf := Keeps.setRow (S := fun _ => False) (a := w) K2.out (g := w.heap.size) (fun h => absurd h (by omega)) #[.bool false, .int .i64 0, .string T]
        generalize w2.setRow w.heap.size _ = W2 at *
        have d : ∀ j, W2.cell? ⟨w.heap.size, j, none⟩ = _ := fun j => cell_of_row _ _ _ _ _ _ hset
        have d0 := d 0
        have d1 := d 1
        have d2 := d 2
        have KF := Lib.hid (FinO.out W2 kf)
        clear d hset kf hz1
        go_wp2
        exact bodyPost_ret (v := .tuple #[.agg #[.bool false, .int .i64 0, .string T], .int .i64 ((a + n + 2 : Nat) : Int), .nilIface]) (by simp [results, Tryd.results41, go_sem, d0, d1, d2]) rfl KF.out
      · rw [decide_eq_false h1] at P1
        by_cases h3 : q.head? = some 255
        · rw [decide_eq_true h3] at P2
          obtain ⟨d, r, rfl⟩ : ∃ d r, q = d :: r := by cases q with
            | nil => simp at h3
            | cons d r => exact ⟨d, r, rfl⟩
          simp at h3
          subst h3
          have hT := HT.out.next Hq.out Hp.out
          rw [HN.out] at hT
          have HTn := Lib.hid hT
          clear h1 hT
          go_wp2_with fail
          refine (Q.out _).mono ?_
          rintro e w1 ⟨rfl, rfl⟩
          go_wp2_with fail
          refine (P1.out _).mono ?_
          rintro e w1 ⟨rfl, rfl⟩
          go_wp2_with fail
          refine (P2.out _).mono ?_
          rintro e w1 ⟨rfl, rfl⟩
          go_wp2
          go_round
          case rel => exact ⟨a + n + 2, _, by simp, HTn.out⟩
          case measure => simp [intOf]; omega
        · rw [decide_eq_false h3] at P2
          have F := Lib.hid (fun W (k : Qt w W) => FinN.out (HT.out.bad H2.out Hq.out Hp.out h1 h3) W k)
          have hc := HE.out _ K0.out
          clear h1 h3
          go_wp2_with fail
          refine (Q.out _).mono ?_
          rintro e w1 ⟨rfl, rfl⟩
          go_wp2_with fail
          refine (P1.out _).mono ?_
          rintro e w1 ⟨rfl, rfl⟩
          go_wp2_with fail
          refine (P2.out _).mono ?_
          rintro e w1 ⟨rfl, rfl⟩
          go_wp2
          go_region
          all_goals
            go_wp2
            exact bodyPost_ret (v := .tuple #[.agg #[.bool false, .int .i64 0, .string ⟨#[]⟩], .int .i64 0, errF ef]) (by simp [results, Tryd.results41, go_sem]) rfl (F.out _ (Keeps.drew K0.out))
end Go.Proofs.YtfhfbpjhjigbnaaDoor
