/-
  Layer 8, plain: a disk of an image, and the document's own answers over the image.
  The contract of remitlaw10.replayed over a disk beside the document's own; of remitlaw10.JournalReads: it answers true.
  The contracts of remitref10's Journal: down, Sync, Fits.
-/
import Derived.Test.YtggogaaooacooaaDoorP05
import Derived.Test.YtggogaaooacooaaDoorP40
import Derived.Test.YtggogaaooacooaaDoorP39
import Derived.Test.YtggogaaooacooaaDoorP34
import Derived.Test.YtggogaaooacooaaDoorP37
namespace Go.Proofs.YtggogaaooacooaaDoor
set_option maxRecDepth 100000

theorem flat_each {D : List (List UInt8)} (h : ∀ (i : Nat) (t : List UInt8), D[i]? = some t → t.length = 256) : D.flatten.length = D.length * 256 := by
  induction D with
  | nil => rfl
  | cons a r ih =>
    have ha : a.length = 256 := h 0 a rfl
    have hr := ih (fun i t ht => h (i + 1) t (by simpa using ht))
    rw [List.flatten_cons, List.length_append, ha, hr, List.length_cons, Nat.succ_mul]; omega
theorem flat_set {D : List (List UInt8)} (h : ∀ (i : Nat) (t : List UInt8), D[i]? = some t → t.length = 256) (s : List UInt8) : ∀ {i : Nat}, i < D.length → (D.set i s).flatten = D.flatten.take (i * 256) ++ s ++ D.flatten.drop (i * 256 + 256) := by
  induction D with
  | nil => intro i hi; simp at hi
  | cons a r ih =>
    intro i hi
    have ha : a.length = 256 := h 0 a rfl
    cases i with
    | zero => simp [ha]
    | succ i =>
      have hr := ih (fun i t ht => h (i + 1) t (by simpa using ht)) (i := i) (by simpa using hi)
      rw [List.set_cons_succ, List.flatten_cons, List.flatten_cons, hr]
      rw [List.take_append, List.drop_append, ha, List.take_of_length_le (l := a) (by omega), List.drop_eq_nil_of_le («as» := a) (by omega), List.nil_append]
      rw [show (i + 1) * 256 - 256 = i * 256 by omega, show (i + 1) * 256 + 256 - 256 = i * 256 + 256 by omega]
      simp only [List.append_assoc]
theorem cuts_length (l : List UInt8) (n : Nat) : (cuts l n).length = n := by simp [cuts]
theorem cuts_getD (l : List UInt8) {n i : Nat} (h : i < n) : (cuts l n).getD i [] = cutAt l i := by simp [cuts, List.getD, h]
theorem cuts_each {l : List UInt8} {n : Nat} (h : l.length = n * 256) : ∀ (i : Nat) (t : List UInt8), (cuts l n)[i]? = some t → t.length = 256 := by
  have := fromTo_each h (Nat.le_refl n)
  rw [fromTo_all] at this
  exact this
theorem cuts_flat : ∀ (n : Nat) {l : List UInt8}, l.length = n * 256 → (cuts l n).flatten = l
  | 0, l, h => by
    have : l = [] := List.eq_nil_of_length_eq_zero (by omega)
    rw [this]; rfl
  | n + 1, l, h => by
    have e : cuts l (n + 1) = cuts (l.take (n * 256)) n ++ [cutAt l n] := by
      unfold cuts
      rw [List.range_succ, List.map_append]
      congr 1
      apply List.map_congr_left
      intro k hk
      have hk := List.mem_range.1 hk
      unfold cutAt
      rw [List.drop_take, List.take_take]
      congr 1
      have : k * 256 + 256 ≤ n * 256 := by omega
      omega
    rw [e, List.flatten_append, cuts_flat n (by rw [List.length_take]; omega)]
    simp only [List.flatten_cons, List.flatten_nil, List.append_nil]
    unfold cutAt
    rw [List.take_of_length_le (l := l.drop (n * 256)) (by rw [List.length_drop]; omega), List.take_append_drop]

/-- The document's Read over an image. -/
def readI (l : List UInt8) (i : Int) : List UInt8 × Nat × Nat :=
  if ¬ (0 ≤ i ∧ i + 2 ≤ (l.length / 256 : Nat)) then ([], 0, 6) else tellS (G.best (G.slotV (cutAt l i.toNat) 0) (G.slotV (cutAt l (i.toNat + 1)) 1))
/-- The document's Write over an image: the image behind it, the error's number. -/
def writeI (l : List UInt8) (i v : Int) (p : List UInt8) : List UInt8 × Nat :=
  if ¬ (0 ≤ i ∧ i + 2 ≤ (l.length / 256 : Nat)) ∨ v < 1 ∨ 1099511627776 < v then (l, 6) else if 234 < p.length then (l, 3)
  else (l.take ((i.toNat + v.toNat % 2) * 256) ++ E.sct v.toNat p ++ l.drop ((i.toNat + v.toNat % 2) * 256 + 256), 0)

theorem fromD_calm (l : List UInt8) (n : Nat) : (DS.fromD l n).Calm := ⟨rfl, rfl⟩
theorem fromD_size (l : List UInt8) (n : Nat) : (DS.fromD l n).dur.length = n := cuts_length l n
theorem fromD_image {l : List UInt8} {n : Nat} (h : l.length = n * 256) : (DS.fromD l n).image = l := cuts_flat n h
theorem fromD_reads {l : List UInt8} {n : Nat} (h : l.length = n * 256) (i : Int) : (DS.fromD l n).slotsR i = readI l i := by
  have hn : l.length / 256 = n := by rw [h]; exact Nat.mul_div_cancel _ (by decide)
  unfold readI
  rw [hn]
  by_cases hf : 0 ≤ i ∧ i + 2 ≤ (n : Int)
  · obtain ⟨j, rfl⟩ := Int.eq_ofNat_of_zero_le hf.1
    have hj : j + 2 ≤ n := by omega
    rw [if_neg (fun k => k hf), (fromD_calm l n).tells (by rw [fromD_size]; exact hj)]
    unfold G.readS
    have h0 : (DS.fromD l n).dur.getD (j + 0) [] = cutAt l j := cuts_getD l (by omega)
    have h1 : (DS.fromD l n).dur.getD (j + 1) [] = cutAt l (j + 1) := cuts_getD l (by omega)
    simp only [h0, h1, Int.toNat_natCast]
  · rw [if_pos hf]
    unfold DS.slotsR
    rw [if_pos (fun k : DS.fitS _ _ => hf (by unfold DS.fitS at k; rw [fromD_size] at k; exact k))]
end Go.Proofs.YtggogaaooacooaaDoor
namespace Go.Proofs.YtggogaaooacooaaDoor
open Go.RowKit Go.WideShapes
set_option maxRecDepth 100000

theorem pairK_replayed {ad : Nat → Addr} {w0 w : World} {g b c : Nat} {d : DS} (hE : Errs ad w0) (hT : Tab w0) (h : Pair g w0 w b c d d) (hf : d.Few) (i n v : Int) (hn : n ≤ 9223372036854775807) :
    Calls Tryd.prog 17 #[.pointer (some ⟨b, 0, none⟩), .pointer (some ⟨c, 0, none⟩), .int .i64 i, .int .i64 n, .int .i64 v] w fun e w' => e = .returned (.bool true) ∧ Qt w w' := by
  have hs := h.since
  obtain ⟨S, T, h1, _⟩ := id h
  refine replayed_any (.pointer (some ⟨b, 0, none⟩)) (.pointer (some ⟨c, 0, none⟩)) i n v ad (J.replay d i n v) w (errs_since hE hs) (J.replay_le d i n v) (Nat.le_trans (J.replay_len d i n v) (by decide)) (fun W q => ?_) (fun W q => ?_) (fun W q => ?_)
  · exact jreplay_any ad ((errs_since hE hs).kept q (OffErrs.none ad)) ((hT.qt hs.qt).qt q) (DiskAt.qt h1 q) i n v hn
  · exact rreplay_any (h.qt q) hf i n v
  · exact each_any _ _ _ _ _ W (Nat.le_trans (J.replay_len d i n v) (by decide)) (fun W2 q2 => jeach_any ad ((errs_since hE hs).kept (Qt.trans q q2) (OffErrs.none ad)) ((hT.qt hs.qt).qt (Qt.trans q q2)) (DiskAt.qt h1 (Qt.trans q q2)) i n v hn)
theorem pair_newJ {w0 w1 w2 w3 : World} {b c : Nat} {d : DS} (q1 : Qt w0 w1) (hD : DiskAt w2 b d (Grow (fun _ => False) w1 w2)) (q2 : Qt w1 w2) (hR : RefAt w3 c d (Grow (fun _ => False) w2 w3)) (q3 : Qt w2 w3) : Pair w3.heap.size w0 w3 b c d d := by
  have z1 := q1.size
  have z2 := q2.size
  have z3 := q3.size
  refine ⟨_, _, DiskAt.qt hD q3, hR, ?_, ?_, ?_, Qt.since (Qt.trans (Qt.trans q1 q2) q3)⟩
  · rintro k (e | e) (f | f)
    · exact e
    · exact e
    · exact f
    · omega
  · rintro k (e | e)
    · exact e.elim
    · omega
  · rintro k (e | e)
    · exact e.elim
    · omega
theorem pairK_pending {w0 w : World} {g b c : Nat} {d u : DS} (h : Pair g w0 w b c d u) : Calls Tryd.prog 18 #[.pointer (some ⟨b, 0, none⟩)] w fun e w' => e = .returned (.int .i64 d.ways.length) ∧ w' = w := by
  obtain ⟨S, T, h1, h2, h3, h4, h5, h6⟩ := h
  exact (pending_any h1).mono fun _ _ ⟨h1, h2⟩ => ⟨h1, h2.symm⟩

set_option maxHeartbeats 1600000 in
theorem jreads_any (ad : Nat → Addr) (s : ByteArray) (i n v : Int) (w : World) (hs : s.size ≤ 4611686018427387904) (hn : n ≤ 9223372036854775807) (hE : Errs ad w) (hT : Tab w) :
    Calls Tryd.prog 4 #[.string s, .int .i64 i, .int .i64 n, .int .i64 v] w fun e w' => e = .returned (.bool true) ∧ Qt w w' := by
  have HE := Lib.hid hE
  have HT := Lib.hid hT
  have HN := Lib.hid hn
  have HS := Lib.hid hs
  have FX := fixedJ_any ad w hE hT
  clear hE hT hn hs
  go_enter Tryd.func4, Tryd.ntmps4
  go_wp2_with fail
  refine FX.mono ?_
  rintro e w1 ⟨rfl, q1⟩
  have K1 := Lib.hid q1
  clear q1 FX
  go_wp2_with fail
  refine (from_any ad s w1 (HE.out.kept K1.out (OffErrs.none ad)) HS.out).mono ?_
  rintro e w2 (⟨hf, rfl, q2⟩ | ⟨hf, hno, rfl, q2⟩ | ⟨hf, n1, n2, b, rfl, hD, q2⟩)
  · have K2 := Lib.hid (Qt.trans K1.out q2)
    clear q2
    go_wp2_with fail
    refine (ref_from s w2 HS.out).mono ?_
    rintro e w3 (⟨_, rfl, q3⟩ | ⟨hf2, _, rfl, q3⟩ | ⟨hf2, _, _, c, rfl, hR, q3⟩)
    · have K3 := Lib.hid (Qt.trans K2.out q3)
      clear q3
      go_wp2_with fail
      refine (num_any ad 7 w3 (HE.out.kept K3.out (OffErrs.none ad)) (by decide)).mono ?_
      rintro e w4 ⟨rfl, q4⟩
      have K4 := Lib.hid (Qt.trans K3.out q4)
      clear q4
      go_wp2
      go_ret
      exact ⟨rfl, K4.out⟩
    · exact absurd hf2 hf
    · exact absurd hf2 hf
  · have K2 := Lib.hid (Qt.trans K1.out q2)
    clear q2
    go_wp2_with fail
    refine (ref_from s w2 HS.out).mono ?_
    rintro e w3 (⟨hf2, rfl, q3⟩ | ⟨_, _, rfl, q3⟩ | ⟨_, n1, n2, c, rfl, hR, q3⟩)
    · exact absurd hf hf2
    · have K3 := Lib.hid (Qt.trans K2.out q3)
      clear q3
      go_wp2_with fail
      refine (num_any ad 6 w3 (HE.out.kept K3.out (OffErrs.none ad)) (by decide)).mono ?_
      rintro e w4 ⟨rfl, q4⟩
      have K4 := Lib.hid (Qt.trans K3.out q4)
      clear q4
      go_wp2
      go_ret
      exact ⟨rfl, K4.out⟩
    · exact absurd ⟨n1, n2⟩ hno
  · have K2 := Lib.hid q2
    have HD := Lib.hid hD
    clear q2 hD
    go_wp2_with fail
    refine (ref_from s w2 HS.out).mono ?_
    rintro e w3 (⟨hf2, rfl, q3⟩ | ⟨_, hno, rfl, q3⟩ | ⟨_, _, _, c, rfl, hR, q3⟩)
    · exact absurd hf hf2
    · exact absurd ⟨n1, n2⟩ hno
    · have HP := Lib.hid (pair_newJ K1.out HD.out K2.out hR q3)
      have IM : (⟨(DS.fromD (strL s) (s.size / 256)).image.toArray⟩ : ByteArray) = s := by
        rw [fromD_image (l := strL s) (n := s.size / 256) (by show s.data.toList.length = _; rw [dlen7]; omega)]
        rfl
      have FW := Lib.hid (show (DS.fromD (strL s) (s.size / 256)).Few from ⟨Nat.zero_le _, Nat.zero_le _, Nat.zero_le _, Nat.zero_le _⟩)
      have PN := Lib.hid (show (DS.fromD (strL s) (s.size / 256)).ways.length = 0 from rfl)
      have HIM := Lib.hid IM
      generalize DS.fromD (strL s) (s.size / 256) = d at *
      clear q3 hR HD K1 K2 IM
      go_wp2_with fail
      refine (num_any ad 0 w3 (errs_since HE.out HP.out.since) (by decide)).mono ?_
      rintro e w4 ⟨rfl, q4⟩
      have P4 := Lib.hid (HP.out.qt q4)
      clear q4
      go_wp2_with fail
      refine (pairK_replayed HE.out HT.out P4.out FW.out i n v HN.out).mono ?_
      rintro e w5 ⟨rfl, q5⟩
      have P5 := Lib.hid (P4.out.qt q5)
      clear q5
      go_wp2_with fail
      refine (pair_image P5.out).mono ?_
      rintro e w6 ⟨rfl, q6⟩
      rw [HIM.out]
      have P6 := Lib.hid (P5.out.qt q6)
      have zs : (s.toList == s.toList) = true := beq_self_eq_true _
      have PD := pairK_pending P6.out
      rw [PN.out] at PD
      clear q6
      go_wp2_with fail
      refine PD.mono ?_
      rintro e w7 ⟨rfl, rfl⟩
      have FIN := Lib.hid P6.out.since.qt
      go_wp2
      go_ret
      exact ⟨by simp, FIN.out⟩
end Go.Proofs.YtggogaaooacooaaDoor
namespace Go.Proofs.YtggogaaooacooaaDoor
open Go.RowKit Go.WideShapes
set_option maxRecDepth 100000

/-- The document's own journal in block q. -/
def rjCells (c : Nat) (j : J.JS) : Array Value := #[.pointer (some ⟨c, 0, none⟩), .int .i64 j.pos, .int .i64 j.n, .int .i64 j.ver, .int .i64 j.used, .bool j.dead, .int .i64 j.life]
def RJ (w : World) (q c : Nat) (j : J.JS) : Prop := w.heap[q]? = some (.cells (rjCells c j) 95 (0, 0))
theorem RJ.cell {w : World} {q c : Nat} {j : J.JS} (h : RJ w q c j) (i : Nat) (v : Value) (hi : (rjCells c j)[i]? = some v) : w.cell? ⟨q, i, none⟩ = some v := by
  rw [cell_of_row _ _ _ _ _ _ h]; exact hi
theorem RJ.kept {w w' : World} {q c : Nat} {j : J.JS} {S : Nat → Prop} (h : RJ w q c j) (K : Keeps S w w') (hS : ¬ S q) : RJ w' q c j := (K.block q (lt_of_block h) hS).trans h
theorem RJ.lt {w : World} {q c : Nat} {j : J.JS} (h : RJ w q c j) : q < w.heap.size := lt_of_block h
theorem RJ.dead {w : World} {q c : Nat} {j : J.JS} (h : RJ w q c j) : RJ (w.setCell ⟨q, 5, none⟩ (.bool true)) q c { j with dead := true } := by
  unfold RJ at h ⊢
  simp only [World.setCell, Array.getElem?_modify, h, if_true, Option.map_some]
  rfl

/-- down: is it dead, or the power off? -/
theorem rdown_any {w0 w : World} {J' : Nat → Prop} {b c q : Nat} {d u : DS} {j : J.JS} (hJ0 : ∀ k, J' k → w0.heap.size ≤ k) (hq : J' q) (h : PairJ J' w0 w b c d u) (hR : RJ w q c j) :
    Calls Tryd.prog 65 #[.pointer (some ⟨q, 0, none⟩)] w fun e w' => e = .returned (.bool (j.down u)) ∧ PairJ J' w0 w' b c d u ∧ RJ w' q c { j with dead := j.down u } ∧ Keeps (fun k => k = q) w w' := by
  obtain ⟨c2, c7, _⟩ := h.ref
  have d0 : w.cell? ⟨q, 0, none⟩ = some (.pointer (some ⟨c, 0, none⟩)) := hR.cell 0 _ rfl
  have d5 : w.cell? ⟨q, 5, none⟩ = some (.bool j.dead) := hR.cell 5 _ rfl
  have d6 : w.cell? ⟨q, 6, none⟩ = some (.int .i64 j.life) := hR.cell 6 _ rfl
  have f5 : w.frozen? ⟨q, 5, none⟩ = false := Lib.frozen_of_heap hR 5
  have DEAD := Lib.hid (fun (hd : j.down u = true) (W : World) (k : Qt w W) => (show PairJ J' w0 (W.setCell ⟨q, 5, none⟩ (.bool true)) b c d u ∧ RJ (W.setCell ⟨q, 5, none⟩ (.bool true)) q c { j with dead := j.down u } ∧ Keeps (fun k => k = q) w (W.setCell ⟨q, 5, none⟩ (.bool true)) from by
    have K := (Keeps.mono k (fun _ _ e => e.elim) : Keeps (fun k => k = q) w W).setCell (p := ⟨q, 5, none⟩) (fun _ => rfl) (.bool true)
    exact ⟨h.turn hJ0 (K.mono (fun k _ e => e ▸ hq)), by rw [hd]; exact (hR.kept k (fun e => e)).dead, K⟩))
  have E5 := Lib.hid (fun (W : World) (k : Qt w W) => (show (W.setCell ⟨q, 5, none⟩ (.bool true)).cell? ⟨q, 5, none⟩ = some (.bool true) from (hR.kept k (fun e => e)).dead.cell 5 _ rfl))
  have LIVE := Lib.hid (fun (hd : j.down u = j.dead) (W : World) (k : Qt w W) => (show PairJ J' w0 W b c d u ∧ RJ W q c { j with dead := j.down u } ∧ Keeps (fun k => k = q) w W from ⟨h.qt k, by rw [hd]; exact hR.kept k (fun e => e), Keeps.mono k (fun _ _ e => e.elim)⟩))
  clear h hR hJ0 hq
  cases ho : u.off with
  | true =>
    rw [ho] at c2
    have hd : j.down u = true := by unfold J.JS.down; rw [ho]; simp
    have FIN := Lib.hid (DEAD.out hd)
    have HD := Lib.hid hd
    clear hd ho
    go_enter Tryd.func65, Tryd.ntmps65
    go_wp2
    go_quiet (fail)
    have e5 := E5.out _ (Keeps.drewN (Qt.refl w) nq)
    go_wp2
    go_ret
    exact ⟨by rw [HD.out]; rfl, FIN.out _ (Keeps.drewN (Qt.refl w) _)⟩
  | false =>
    rw [ho] at c2
    by_cases hc : u.cr = j.life
    · have hd : j.down u = j.dead := by unfold J.JS.down; rw [ho, hc]; simp
      have FIN := Lib.hid (LIVE.out hd)
      have HD := Lib.hid hd
      have zc : ((u.cr : Int) != (j.life : Int)) = false := by rw [bne_eq_false_iff_eq]; omega
      clear hd ho hc
      go_enter Tryd.func65, Tryd.ntmps65
      go_wp2
      go_quiet (fail)
      have e5 := E5.out _ (Keeps.drewN (Qt.refl w) nq)
      go_wp2
      go_ret
      exact ⟨by rw [HD.out]; rfl, FIN.out _ (Keeps.drewN (Qt.refl w) _)⟩
    · have hd : j.down u = true := by unfold J.JS.down; rw [decide_eq_true hc]; simp
      have FIN := Lib.hid (DEAD.out hd)
      have HD := Lib.hid hd
      have zc : ((u.cr : Int) != (j.life : Int)) = true := by rw [bne_iff_ne]; omega
      clear hd ho hc
      go_enter Tryd.func65, Tryd.ntmps65
      go_wp2
      go_quiet (fail)
      have e5 := E5.out _ (Keeps.drewN (Qt.refl w) nq)
      go_wp2
      go_ret
      exact ⟨by rw [HD.out]; rfl, FIN.out _ (Keeps.drewN (Qt.refl w) _)⟩

/-- Fits. -/
theorem rfits_any {w : World} {q c : Nat} {j : J.JS} (hR : RJ w q c j) (hu : j.used ≤ j.n) (hn : j.n ≤ 65536) (z : Int) (hz : z ≤ 9223372036854775807) :
    Calls Tryd.prog 44 #[.pointer (some ⟨q, 0, none⟩), .int .i64 z] w fun e w' => e = .returned (.bool (j.fits z)) ∧ Qt w w' := by
  have d2 : w.cell? ⟨q, 2, none⟩ = some (.int .i64 j.n) := hR.cell 2 _ rfl
  have d4 : w.cell? ⟨q, 4, none⟩ = some (.int .i64 j.used) := hR.cell 4 _ rfl
  clear hR
  by_cases h0 : 0 ≤ z
  · obtain ⟨k, rfl⟩ := Int.eq_ofNat_of_zero_le h0
    have y0 : decide (0 ≤ (k : Int)) = true := decide_eq_true h0
    have CO := fun W => refCost_any (k : Int) hz W
    rw [costZ_nat] at CO
    have wz : wrap64 ((j.n : Int) - (j.used : Int)) = (j.n : Int) - (j.used : Int) := by unfold wrap64; omega
    have FIN := Lib.hid (show decide (((J.cost k : Nat) : Int) ≤ (j.n : Int) - (j.used : Int)) = j.fits (k : Int) from by
      unfold J.JS.fits
      rw [Int.toNat_natCast]
      by_cases hc : j.used + J.cost k ≤ j.n
      · rw [decide_eq_true (show ((J.cost k : Nat) : Int) ≤ (j.n : Int) - (j.used : Int) by omega), decide_eq_true ⟨h0, hc⟩]
      · rw [decide_eq_false (show ¬ ((J.cost k : Nat) : Int) ≤ (j.n : Int) - (j.used : Int) by omega), decide_eq_false (fun k => hc k.2)])
    obtain ⟨B, hB⟩ : ∃ B, decide (((J.cost k : Nat) : Int) ≤ (j.n : Int) - (j.used : Int)) = B := ⟨_, rfl⟩
    rw [hB] at FIN
    generalize J.cost k = C at *
    clear hz hu hn
    go_enter Tryd.func44, Tryd.ntmps44
    go_wp2
    go_quiet ((go_at_call 20; with_reducible exact Calls.quiet_of_same (CO _)))
    go_wp2
    go_ret
    exact ⟨by rw [← FIN.out]; rfl, Keeps.drewN (Qt.refl w) _⟩
  · have y0 : decide (0 ≤ z) = false := decide_eq_false h0
    have FIN := Lib.hid (show j.fits z = false from decide_eq_false (fun k => h0 k.1))
    clear hz
    go_enter Tryd.func44, Tryd.ntmps44
    go_wp2
    go_quiet (fail)
    go_wp2
    go_ret
    exact ⟨by rw [FIN.out]; rfl, Keeps.drewN (Qt.refl w) _⟩
end Go.Proofs.YtggogaaooacooaaDoor
