/-
  Layer 8, plain: a disk of an image, and the document's own answers over the image.
  The contract of remitlaw10.replayed over a disk beside the document's own; of remitlaw10.JournalReads: it answers true.
  All errors of package api, in whatever order they are listed.
-/
import Derived.Test.YtggogaaooacooaaDoorP05
import Derived.Test.YtggogaaooacooaaDoorP43
import Derived.Test.YtggogaaooacooaaDoorP42
import Derived.Test.YtggogaaooacooaaDoorP37
import Derived.Test.YtggogaaooacooaaDoorP32
import Derived.Test.YtggogaaooacooaaDoorP08
namespace Go.Proofs.YtggogaaooacooaaDoor
set_option maxRecDepth 100000

theorem flat_each {D : List (List UInt8)} (h : ∀ (i : Nat) (t : List UInt8), D[i]? = some t → t.length = 256) : D.flatten.length = D.length * 256 := by
  induction D with
  | nil => rfl
  | cons a r ih =>
    have ha : a.length = 256 := h 0 a rfl
    have hr := ih (fun i t ht => h (i + 1) t (by simpa using ht))
    rw [List.flatten_cons, List.length_append, ha, hr, List.length_cons, Nat.succ_mul]; omega
theorem flat_set {D : List (List UInt8)} (h : ∀ (i : Nat) (t : List UInt8), D[i]? = some t → t.length = 256) (s : List UInt8) : ∀ {i : Nat}, i < D.length → (D.set i s).flatten = D.flatten.take (i * 256) ++ s ++ D.flatten.drop (i * 256 + 256) := by
  induction D with
  | nil => intro i hi; simp at hi
  | cons a r ih =>
    intro i hi
    have ha : a.length = 256 := h 0 a rfl
    cases i with
    | zero => simp [ha]
    | succ i =>
      have hr := ih (fun i t ht => h (i + 1) t (by simpa using ht)) (i := i) (by simpa using hi)
      rw [List.set_cons_succ, List.flatten_cons, List.flatten_cons, hr]
      rw [List.take_append, List.drop_append, ha, List.take_of_length_le (l := a) (by omega), List.drop_eq_nil_of_le («as» := a) (by omega), List.nil_append]
      rw [show (i + 1) * 256 - 256 = i * 256 by omega, show (i + 1) * 256 + 256 - 256 = i * 256 + 256 by omega]
      simp only [List.append_assoc]
theorem cuts_length (l : List UInt8) (n : Nat) : (cuts l n).length = n := by simp [cuts]
theorem cuts_getD (l : List UInt8) {n i : Nat} (h : i < n) : (cuts l n).getD i [] = cutAt l i := by simp [cuts, List.getD, h]
theorem cuts_each {l : List UInt8} {n : Nat} (h : l.length = n * 256) : ∀ (i : Nat) (t : List UInt8), (cuts l n)[i]? = some t → t.length = 256 := by
  have := fromTo_each h (Nat.le_refl n)
  rw [fromTo_all] at this
  exact this
theorem cuts_flat : ∀ (n : Nat) {l : List UInt8}, l.length = n * 256 → (cuts l n).flatten = l
  | 0, l, h => by
    have : l = [] := List.eq_nil_of_length_eq_zero (by omega)
    rw [this]; rfl
  | n + 1, l, h => by
    have e : cuts l (n + 1) = cuts (l.take (n * 256)) n ++ [cutAt l n] := by
      unfold cuts
      rw [List.range_succ, List.map_append]
      congr 1
      apply List.map_congr_left
      intro k hk
      have hk := List.mem_range.1 hk
      unfold cutAt
      rw [List.drop_take, List.take_take]
      congr 1
      have : k * 256 + 256 ≤ n * 256 := by omega
      omega
    rw [e, List.flatten_append, cuts_flat n (by rw [List.length_take]; omega)]
    simp only [List.flatten_cons, List.flatten_nil, List.append_nil]
    unfold cutAt
    rw [List.take_of_length_le (l := l.drop (n * 256)) (by rw [List.length_drop]; omega), List.take_append_drop]

/-- The document's Read over an image. -/
def readI (l : List UInt8) (i : Int) : List UInt8 × Nat × Nat :=
  if ¬ (0 ≤ i ∧ i + 2 ≤ (l.length / 256 : Nat)) then ([], 0, 6) else tellS (G.best (G.slotV (cutAt l i.toNat) 0) (G.slotV (cutAt l (i.toNat + 1)) 1))
/-- The document's Write over an image: the image behind it, the error's number. -/
def writeI (l : List UInt8) (i v : Int) (p : List UInt8) : List UInt8 × Nat :=
  if ¬ (0 ≤ i ∧ i + 2 ≤ (l.length / 256 : Nat)) ∨ v < 1 ∨ 1099511627776 < v then (l, 6) else if 234 < p.length then (l, 3)
  else (l.take ((i.toNat + v.toNat % 2) * 256) ++ E.sct v.toNat p ++ l.drop ((i.toNat + v.toNat % 2) * 256 + 256), 0)

theorem fromD_calm (l : List UInt8) (n : Nat) : (DS.fromD l n).Calm := ⟨rfl, rfl⟩
theorem fromD_size (l : List UInt8) (n : Nat) : (DS.fromD l n).dur.length = n := cuts_length l n
theorem fromD_image {l : List UInt8} {n : Nat} (h : l.length = n * 256) : (DS.fromD l n).image = l := cuts_flat n h
theorem fromD_reads {l : List UInt8} {n : Nat} (h : l.length = n * 256) (i : Int) : (DS.fromD l n).slotsR i = readI l i := by
  have hn : l.length / 256 = n := by rw [h]; exact Nat.mul_div_cancel _ (by decide)
  unfold readI
  rw [hn]
  by_cases hf : 0 ≤ i ∧ i + 2 ≤ (n : Int)
  · obtain ⟨j, rfl⟩ := Int.eq_ofNat_of_zero_le hf.1
    have hj : j + 2 ≤ n := by omega
    rw [if_neg (fun k => k hf), (fromD_calm l n).tells (by rw [fromD_size]; exact hj)]
    unfold G.readS
    have h0 : (DS.fromD l n).dur.getD (j + 0) [] = cutAt l j := cuts_getD l (by omega)
    have h1 : (DS.fromD l n).dur.getD (j + 1) [] = cutAt l (j + 1) := cuts_getD l (by omega)
    simp only [h0, h1, Int.toNat_natCast]
  · rw [if_pos hf]
    unfold DS.slotsR
    rw [if_pos (fun k : DS.fitS _ _ => hf (by unfold DS.fitS at k; rw [fromD_size] at k; exact k))]
end Go.Proofs.YtggogaaooacooaaDoor
namespace Go.Proofs.YtggogaaooacooaaDoor
open Go.RowKit Go.WideShapes
set_option maxRecDepth 100000

theorem pairK_replayed {ad : Nat → Addr} {w0 w : World} {g b c : Nat} {d : DS} (hE : Errs ad w0) (hT : Tab w0) (h : Pair g w0 w b c d d) (hf : d.Few) (i n v : Int) (hn : n ≤ 9223372036854775807) :
    Calls Tryd.prog 17 #[.pointer (some ⟨b, 0, none⟩), .pointer (some ⟨c, 0, none⟩), .int .i64 i, .int .i64 n, .int .i64 v] w fun e w' => e = .returned (.bool true) ∧ Qt w w' := by
  have hs := h.since
  obtain ⟨S, T, h1, _⟩ := id h
  refine replayed_any (.pointer (some ⟨b, 0, none⟩)) (.pointer (some ⟨c, 0, none⟩)) i n v ad (J.replay d i n v) w (errs_since hE hs) (J.replay_le d i n v) (Nat.le_trans (J.replay_len d i n v) (by decide)) (fun W q => ?_) (fun W q => ?_) (fun W q => ?_)
  · exact jreplay_any ad ((errs_since hE hs).kept q (OffErrs.none ad)) ((hT.qt hs.qt).qt q) (DiskAt.qt h1 q) i n v hn
  · exact rreplay_any (h.qt q) hf i n v
  · exact each_any _ _ _ _ _ W (Nat.le_trans (J.replay_len d i n v) (by decide)) (fun W2 q2 => jeach_any ad ((errs_since hE hs).kept (Qt.trans q q2) (OffErrs.none ad)) ((hT.qt hs.qt).qt (Qt.trans q q2)) (DiskAt.qt h1 (Qt.trans q q2)) i n v hn)
theorem pair_newJ {w0 w1 w2 w3 : World} {b c : Nat} {d : DS} (q1 : Qt w0 w1) (hD : DiskAt w2 b d (Grow (fun _ => False) w1 w2)) (q2 : Qt w1 w2) (hR : RefAt w3 c d (Grow (fun _ => False) w2 w3)) (q3 : Qt w2 w3) : Pair w3.heap.size w0 w3 b c d d := by
  have z1 := q1.size
  have z2 := q2.size
  have z3 := q3.size
  refine ⟨_, _, DiskAt.qt hD q3, hR, ?_, ?_, ?_, Qt.since (Qt.trans (Qt.trans q1 q2) q3)⟩
  · rintro k (e | e) (f | f)
    · exact e
    · exact e
    · exact f
    · omega
  · rintro k (e | e)
    · exact e.elim
    · omega
  · rintro k (e | e)
    · exact e.elim
    · omega
theorem pairK_pending {w0 w : World} {g b c : Nat} {d u : DS} (h : Pair g w0 w b c d u) : Calls Tryd.prog 18 #[.pointer (some ⟨b, 0, none⟩)] w fun e w' => e = .returned (.int .i64 d.ways.length) ∧ w' = w := by
  obtain ⟨S, T, h1, h2, h3, h4, h5, h6⟩ := h
  exact (pending_any h1).mono fun _ _ ⟨h1, h2⟩ => ⟨h1, h2.symm⟩

set_option maxHeartbeats 1600000 in
theorem jreads_any (ad : Nat → Addr) (s : ByteArray) (i n v : Int) (w : World) (hs : s.size ≤ 4611686018427387904) (hn : n ≤ 9223372036854775807) (hE : Errs ad w) (hT : Tab w) :
    Calls Tryd.prog 4 #[.string s, .int .i64 i, .int .i64 n, .int .i64 v] w fun e w' => e = .returned (.bool true) ∧ Qt w w' := by
  have HE := Lib.hid hE
  have HT := Lib.hid hT
  have HN := Lib.hid hn
  have HS := Lib.hid hs
  have FX := fixedJ_any ad w hE hT
  clear hE hT hn hs
  go_enter Tryd.func4, Tryd.ntmps4
  go_wp2_with fail
  refine FX.mono ?_
  rintro e w1 ⟨rfl, q1⟩
  have K1 := Lib.hid q1
  clear q1 FX
  go_wp2_with fail
  refine (from_any ad s w1 (HE.out.kept K1.out (OffErrs.none ad)) HS.out).mono ?_
  rintro e w2 (⟨hf, rfl, q2⟩ | ⟨hf, hno, rfl, q2⟩ | ⟨hf, n1, n2, b, rfl, hD, q2⟩)
  · have K2 := Lib.hid (Qt.trans K1.out q2)
    clear q2
    go_wp2_with fail
    refine (ref_from s w2 HS.out).mono ?_
    rintro e w3 (⟨_, rfl, q3⟩ | ⟨hf2, _, rfl, q3⟩ | ⟨hf2, _, _, c, rfl, hR, q3⟩)
    · have K3 := Lib.hid (Qt.trans K2.out q3)
      clear q3
      go_wp2_with fail
      refine (num_any ad 7 w3 (HE.out.kept K3.out (OffErrs.none ad)) (by decide)).mono ?_
      rintro e w4 ⟨rfl, q4⟩
      have K4 := Lib.hid (Qt.trans K3.out q4)
      clear q4
      go_wp2
      go_ret
      exact ⟨rfl, K4.out⟩
    · exact absurd hf2 hf
    · exact absurd hf2 hf
  · have K2 := Lib.hid (Qt.trans K1.out q2)
    clear q2
    go_wp2_with fail
    refine (ref_from s w2 HS.out).mono ?_
    rintro e w3 (⟨hf2, rfl, q3⟩ | ⟨_, _, rfl, q3⟩ | ⟨_, n1, n2, c, rfl, hR, q3⟩)
    · exact absurd hf hf2
    · have K3 := Lib.hid (Qt.trans K2.out q3)
      clear q3
      go_wp2_with fail
      refine (num_any ad 6 w3 (HE.out.kept K3.out (OffErrs.none ad)) (by decide)).mono ?_
      rintro e w4 ⟨rfl, q4⟩
      have K4 := Lib.hid (Qt.trans K3.out q4)
      clear q4
      go_wp2
      go_ret
      exact ⟨rfl, K4.out⟩
    · exact absurd ⟨n1, n2⟩ hno
  · have K2 := Lib.hid q2
    have HD := Lib.hid hD
    clear q2 hD
    go_wp2_with fail
    refine (ref_from s w2 HS.out).mono ?_
    rintro e w3 (⟨hf2, rfl, q3⟩ | ⟨_, hno, rfl, q3⟩ | ⟨_, _, _, c, rfl, hR, q3⟩)
    · exact absurd hf hf2
    · exact absurd ⟨n1, n2⟩ hno
    · have HP := Lib.hid (pair_newJ K1.out HD.out K2.out hR q3)
      have IM : (⟨(DS.fromD (strL s) (s.size / 256)).image.toArray⟩ : ByteArray) = s := by
        rw [fromD_image (l := strL s) (n := s.size / 256) (by show s.data.toList.length = _; rw [dlen7]; omega)]
        rfl
      have FW := Lib.hid (show (DS.fromD (strL s) (s.size / 256)).Few from ⟨Nat.zero_le _, Nat.zero_le _, Nat.zero_le _, Nat.zero_le _⟩)
      have PN := Lib.hid (show (DS.fromD (strL s) (s.size / 256)).ways.length = 0 from rfl)
      have HIM := Lib.hid IM
      generalize DS.fromD (strL s) (s.size / 256) = d at *
      clear q3 hR HD K1 K2 IM
      go_wp2_with fail
      refine (num_any ad 0 w3 (errs_since HE.out HP.out.since) (by decide)).mono ?_
      rintro e w4 ⟨rfl, q4⟩
      have P4 := Lib.hid (HP.out.qt q4)
      clear q4
      go_wp2_with fail
      refine (pairK_replayed HE.out HT.out P4.out FW.out i n v HN.out).mono ?_
      rintro e w5 ⟨rfl, q5⟩
      have P5 := Lib.hid (P4.out.qt q5)
      clear q5
      go_wp2_with fail
      refine (pair_image P5.out).mono ?_
      rintro e w6 ⟨rfl, q6⟩
      rw [HIM.out]
      have P6 := Lib.hid (P5.out.qt q6)
      have zs : (s.toList == s.toList) = true := beq_self_eq_true _
      have PD := pairK_pending P6.out
      rw [PN.out] at PD
      clear q6
      go_wp2_with fail
      refine PD.mono ?_
      rintro e w7 ⟨rfl, rfl⟩
      have FIN := Lib.hid P6.out.since.qt
      go_wp2
      go_ret
      exact ⟨by simp, FIN.out⟩
end Go.Proofs.YtggogaaooacooaaDoor
namespace Go.Proofs.YtggogaaooacooaaDoor
open Go.ChangeShapes Go.WideShapes Go.ChangeAt Go.RowKit
set_option maxRecDepth 100000

/-- All the errors, in whatever order they are listed. -/
theorem errs_of_list {W : World} (L : List (String × List UInt8)) (gs : List Nat) (hg : L.map (fun x => Tryd.prog.globalNamed x.1) = gs.map some) (ht : (gs.all fun g => decide ((Tryd.prog.globals[g]?).map (·.type) = some 26)) = true)
    (hall : (gErrs.all fun g => gs.contains g) = true) (hnd0 : gErrs.Nodup) (h : laidMet Tryd.prog (L.map fun x => (x.1, errD x.2)) W) : ∃ ad, Errs ad W := by
  obtain ⟨ps, hv, hnd, hrows⟩ := h
  obtain ⟨al, hl, h1, _, h3⟩ := laid_errs hrows L gs ps (fun _ h => h) hnd hg (fun g hg => of_decide_eq_true (List.all_eq_true.1 ht g hg)) hv
  have hlen : gErrs.length = 37 := rfl
  have pos : ∀ i, i < 37 → gs[gs.idxOf (gErrs.getD i 0)]? = some (gErrs.getD i 0) ∧ al[gs.idxOf (gErrs.getD i 0)]? = some (al.getD (gs.idxOf (gErrs.getD i 0)) default) := by
    intro i hi
    have hm : gErrs.getD i 0 ∈ gErrs := by rw [List.getD_eq_getElem?_getD, List.getElem?_eq_getElem (by omega)]; exact List.getElem_mem _
    have hm2 : gErrs.getD i 0 ∈ gs := List.contains_iff_mem.1 (List.all_eq_true.1 hall _ hm)
    have hlt := List.idxOf_lt_length_of_mem hm2
    refine ⟨by rw [List.getElem?_eq_getElem hlt]; simp, ?_⟩
    generalize gs.idxOf (gErrs.getD i 0) = x at *
    rw [List.getD_eq_getElem?_getD, List.getElem?_eq_getElem (by omega)]; rfl
  refine ⟨fun n => al.getD (gs.idxOf (gErrs.getD (n - 1) 0)) default, fun i g hgi => ?_, fun i j hi hj he => ?_, fun i hi => ?_⟩
  · have hi : i < 37 := (List.getElem?_eq_some_iff.1 hgi).1
    have e : gErrs.getD i 0 = g := by rw [List.getD_eq_getElem?_getD, hgi]; rfl
    obtain ⟨p1, p2⟩ := pos i hi
    simp only [Nat.add_sub_cancel]
    rw [e] at p1 p2 ⊢
    exact (h1 _ g _ p1 p2).1
  · simp only [Nat.add_sub_cancel] at he
    obtain ⟨p1, p2⟩ := pos i hi
    obtain ⟨q1, q2⟩ := pos j hj
    rw [← he] at q2
    have hidx : gs.idxOf (gErrs.getD i 0) = gs.idxOf (gErrs.getD j 0) := by
      refine (List.getElem?_inj (by rw [List.length_map]; exact (List.getElem?_eq_some_iff.1 p2).1) h3).1 ?_
      rw [List.getElem?_map, List.getElem?_map, p2, q2]
    rw [hidx, q1] at p1
    have hv := Option.some.inj p1
    refine ((List.getElem?_inj (by omega) hnd0).1 ?_).symm
    rw [List.getElem?_eq_getElem (show j < gErrs.length by omega), List.getElem?_eq_getElem (show i < gErrs.length by omega)]
    rw [List.getD_eq_getElem?_getD, List.getD_eq_getElem?_getD, List.getElem?_eq_getElem (show j < gErrs.length by omega), List.getElem?_eq_getElem (show i < gErrs.length by omega)] at hv
    simpa using hv
  · obtain ⟨p1, p2⟩ := pos i hi
    simp only [Nat.add_sub_cancel]
    exact (h1 _ _ _ p1 p2).2
/-- The errors and their texts, by their numbers: rows list them so. -/
def errTexts : List (String × List UInt8) := [
  ("remit/api.ErrShort", [114, 101, 109, 105, 116, 58, 32, 116, 111, 111, 32, 115, 104, 111, 114, 116]),
  ("remit/api.ErrVarint", [114, 101, 109, 105, 116, 58, 32, 118, 97, 114, 105, 110, 116]),
  ("remit/api.ErrLimit", [114, 101, 109, 105, 116, 58, 32, 108, 105, 109, 105, 116]),
  ("remit/api.ErrOrder", [114, 101, 109, 105, 116, 58, 32, 111, 114, 100, 101, 114]),
  ("remit/api.ErrTail", [114, 101, 109, 105, 116, 58, 32, 116, 97, 105, 108]),
  ("remit/api.ErrRange", [114, 101, 109, 105, 116, 58, 32, 114, 97, 110, 103, 101]),
  ("remit/api.ErrForm", [114, 101, 109, 105, 116, 58, 32, 102, 111, 114, 109]),
  ("remit/api.ErrDigits", [114, 101, 109, 105, 116, 58, 32, 99, 104, 101, 99, 107, 32, 100, 105, 103, 105, 116, 115]),
  ("remit/api.ErrAmount", [114, 101, 109, 105, 116, 58, 32, 97, 109, 111, 117, 110, 116]),
  ("remit/api.ErrOverflow", [114, 101, 109, 105, 116, 58, 32, 111, 118, 101, 114, 102, 108, 111, 119]),
  ("remit/api.ErrCurrency", [114, 101, 109, 105, 116, 58, 32, 99, 117, 114, 114, 101, 110, 99, 121]),
  ("remit/api.ErrDown", [114, 101, 109, 105, 116, 58, 32, 100, 111, 119, 110]),
  ("remit/api.ErrSmall", [114, 101, 109, 105, 116, 58, 32, 115, 109, 97, 108, 108]),
  ("remit/api.ErrBlank", [114, 101, 109, 105, 116, 58, 32, 98, 108, 97, 110, 107]),
  ("remit/api.ErrCorrupt", [114, 101, 109, 105, 116, 58, 32, 99, 111, 114, 114, 117, 112, 116]),
  ("remit/api.ErrWorn", [114, 101, 109, 105, 116, 58, 32, 119, 111, 114, 110]),
  ("remit/api.ErrFull", [114, 101, 109, 105, 116, 58, 32, 102, 117, 108, 108]),
  ("remit/api.ErrLarge", [114, 101, 109, 105, 116, 58, 32, 108, 97, 114, 103, 101]),
  ("remit/api.ErrClosed", [114, 101, 109, 105, 116, 58, 32, 99, 108, 111, 115, 101, 100]),
  ("remit/api.ErrAccount", [114, 101, 109, 105, 116, 58, 32, 97, 99, 99, 111, 117, 110, 116]),
  ("remit/api.ErrExists", [114, 101, 109, 105, 116, 58, 32, 101, 120, 105, 115, 116, 115]),
  ("remit/api.ErrFrozen", [114, 101, 109, 105, 116, 58, 32, 102, 114, 111, 122, 101, 110]),
  ("remit/api.ErrFunds", [114, 101, 109, 105, 116, 58, 32, 102, 117, 110, 100, 115]),
  ("remit/api.ErrLegs", [114, 101, 109, 105, 116, 58, 32, 108, 101, 103, 115]),
  ("remit/api.ErrConflict", [114, 101, 109, 105, 116, 58, 32, 99, 111, 110, 102, 108, 105, 99, 116]),
  ("remit/api.ErrId", [114, 101, 109, 105, 116, 58, 32, 105, 100]),
  ("remit/api.ErrPayee", [114, 101, 109, 105, 116, 58, 32, 112, 97, 121, 101, 101]),
  ("remit/api.ErrRail", [114, 101, 109, 105, 116, 58, 32, 114, 97, 105, 108]),
  ("remit/api.ErrBusy", [114, 101, 109, 105, 116, 58, 32, 98, 117, 115, 121]),
  ("remit/api.ErrWindow", [114, 101, 109, 105, 116, 58, 32, 119, 105, 110, 100, 111, 119]),
  ("remit/api.ErrPhase", [114, 101, 109, 105, 116, 58, 32, 112, 104, 97, 115, 101]),
  ("remit/api.ErrToken", [114, 101, 109, 105, 116, 58, 32, 116, 111, 107, 101, 110]),
  ("remit/api.ErrTime", [114, 101, 109, 105, 116, 58, 32, 116, 105, 109, 101]),
  ("remit/api.ErrUnknown", [114, 101, 109, 105, 116, 58, 32, 117, 110, 107, 110, 111, 119, 110]),
  ("remit/api.ErrConfig", [114, 101, 109, 105, 116, 58, 32, 99, 111, 110, 102, 105, 103, 117, 114, 97, 116, 105, 111, 110]),
  ("remit/api.ErrCommand", [114, 101, 109, 105, 116, 58, 32, 99, 111, 109, 109, 97, 110, 100]),
  ("remit/api.ErrUse", [114, 101, 109, 105, 116, 58, 32, 105, 110, 32, 117, 115, 101])]
theorem errs_of_texts {W : World} (h : laidMet Tryd.prog (errTexts.map fun x => (x.1, errD x.2)) W) : ∃ ad, Errs ad W :=
  errs_of_list errTexts gErrs (by kernel_rfl) (by kernel_rfl) (by decide) (by decide) h
end Go.Proofs.YtggogaaooacooaaDoor
