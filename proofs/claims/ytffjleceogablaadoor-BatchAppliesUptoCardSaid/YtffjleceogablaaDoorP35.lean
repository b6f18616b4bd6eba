/-
  The landed table's tree: a row put in.
  The landed table's tree: a row taken out.
-/
import Derived.Test.YtffjleceogablaaDoorP34
import Derived.Test.YtffjleceogablaaDoorP30
import Derived.Laws.Cover1
namespace Go.Proofs.YtffjleceogablaaDoor
open Go.RowKit Go.WideShapes
set_option maxRecDepth 100000

set_option maxHeartbeats 3200000 in
theorem with_any {X : Nat → Prop} (k v : ByteArray) (T : Tb.Tr) : ∀ (p : Option Addr) (W : World), IsT X W p T → Tb.Sorted T.list → (Tb.put T.list k.data.toList v.data.toList).length ≤ 17592186044416 → (∀ k, W.heap.size ≤ k → X k) →
    Calls Tryd.prog 66 #[.pointer p, .string k, .string v] W (Made X W (Tb.put T.list k.data.toList v.data.toList)) := by
  induction T with
  | leaf =>
    rintro p W h _ _ hX
    obtain rfl : p = none := h
    have HX := Lib.hid hX
    clear hX
    go_enter Tryd.func66, Tryd.ntmps66
    go_wp2
    have NC := fun {j : Nat} {u : Value} (hv : (#[Value.string k, Value.string v, Value.pointer none, Value.pointer none, Value.int .i64 1] : Array Value)[j]? = some u) => node_cells (W := W) rfl hv
    generalize hW1 : W.alloc (.cells #[Value.string k, Value.string v, Value.pointer none, Value.pointer none, Value.int .i64 1] 122) = W1 at *
    have Q1 : Qt W W1 := hW1 ▸ (Qt.refl W).alloc _
    have FIN := Lib.hid (show IsT X W1 (some ⟨W.heap.size, 0, none⟩) (.node .leaf (k.data.toList, v.data.toList) .leaf) from
      ⟨W.heap.size, none, none, rfl, HX.out _ (Nat.le_refl _), by rw [strV_str]; exact NC (j := 0) rfl, by rw [strV_str]; exact NC (j := 1) rfl, NC (j := 2) rfl, NC (j := 3) rfl, NC (j := 4) rfl, rfl, rfl⟩)
    have Q1 := Lib.hid Q1
    clear NC hW1
    go_ret
    exact ⟨_, _, rfl, rfl, FIN.out, Q1.out⟩
  | node l r t ihl ihr =>
    rintro p W h hS hlen hX
    obtain ⟨b, pl, pr, rfl, _, x0, x1, x2, x3, x4, hl, hr⟩ := h
    have x0' := x0
    have x1' := x1
    obtain ⟨K, hK, hKl⟩ : ∃ K : ByteArray, strV r.1 = .string K ∧ K.data.toList = r.1 := ⟨⟨r.1.toArray⟩, rfl, rfl⟩
    rw [hK] at x0
    rw [Tb.Tr.list] at hS hlen ⊢
    by_cases hlt : Tb.lt k.data.toList r.1 = true
    · have zk : Op.bytesLess k.toList K.toList = true := by rw [ByteArray.toList_eq, ByteArray.toList_eq, hKl]; exact hlt
      have EQ := Lib.hid (show Tb.put (l.list ++ r :: t.list) k.data.toList v.data.toList = Tb.put l.list k.data.toList v.data.toList ++ r :: t.list from Tb.put_left hS hlt)
      have HS := Lib.hid (Tb.sorted_left hS)
      have HL := Lib.hid (show (Tb.put l.list k.data.toList v.data.toList).length ≤ 17592186044416 from by have h := hlen; rw [EQ.out, List.length_append, List.length_cons] at h; omega)
      have LB := Lib.hid (show (Tb.put l.list k.data.toList v.data.toList).length + (t.list.length + 1) ≤ 17592186044416 from by have h := hlen; rw [EQ.out, List.length_append, List.length_cons] at h; omega)
      have NR := Lib.hid (show NodeR W b r from ⟨x0', x1'⟩)
      have HO := Lib.hid hr
      have IH := Lib.hid (fun (w : World) (q : Qt W w) => ihl pl w (hl.qt q) HS.out HL.out (fun k hk => hX k (Nat.le_trans q.size hk)))
      have BL := Lib.hid (fun (w : World) (p1 : Option Addr) (T1 : Tb.Tr) (q : Qt W w) (e1 : T1.list = Tb.put l.list k.data.toList v.data.toList) (i : IsT X w p1 T1) => balanced_any (NR.out.qt q) i (HO.out.qt q) (by have h := LB.out; rw [← e1] at h; omega) (fun k hk => hX k (Nat.le_trans q.size hk)))
      have KC := Lib.hid (fun (w : World) (q : Qt W w) => (show w.cell? ⟨b, 2, none⟩ = some (.pointer pl) ∧ w.cell? ⟨b, 3, none⟩ = some (.pointer pr) from ⟨q.cellv x2, q.cellv x3⟩))
      have QD := Lib.hid (show Qt W W.drew from Keeps.drew (Qt.refl W))
      clear hK hKl hS hlen hl hr hX ihl ihr x0' x1' hlt
      go_enter Tryd.func66, Tryd.ntmps66
      go_wp2_with fail
      go_region_held3 (fun W' => W'.cell? ⟨b, 2, none⟩ = some (.pointer pl) ∧ W'.cell? ⟨b, 3, none⟩ = some (.pointer pr))
        (first | exact KC.out _ QD.out | exact KC.out _ (Hid.out (by assumption)))
        (first
          | (go_at_call 66; refine (IH.out _ QD.out).mono ?_; rintro e w3 ⟨p3, T3, rfl, e3, i3, q3⟩; have Q3 := Lib.hid (Qt.trans QD.out q3); have I3 := Lib.hid i3; have E3 := Lib.hid e3; clear IH i3 q3 e3)
          | (go_at_call 79; refine (BL.out _ _ _ Q3.out E3.out I3.out).mono ?_; rintro e w4 ⟨p4, T4, rfl, e4, i4, q4⟩; have Q4 := Lib.hid (Qt.trans Q3.out q4); have I4 := Lib.hid i4; have E4 := Lib.hid e4; clear BL i4 q4 e4))
      go_wp2
      go_ret
      exact ⟨_, _, rfl, by rw [E4.out, E3.out, EQ.out], I4.out, Q4.out⟩
    · by_cases hgt : Tb.lt r.1 k.data.toList = true
      · have zk : Op.bytesLess k.toList K.toList = false := by rw [ByteArray.toList_eq, ByteArray.toList_eq, hKl]; exact Bool.eq_false_iff.2 hlt
        have zg : (k.toList == K.toList) = false := by rw [ByteArray.toList_eq, ByteArray.toList_eq, hKl]; simpa using fun e => Tb.lt_ne hgt e.symm
        have EQ := Lib.hid (show Tb.put (l.list ++ r :: t.list) k.data.toList v.data.toList = l.list ++ r :: Tb.put t.list k.data.toList v.data.toList from Tb.put_right hS hgt)
        have HS := Lib.hid (Tb.sorted_right hS)
        have HL := Lib.hid (show (Tb.put t.list k.data.toList v.data.toList).length ≤ 17592186044416 from by have h := hlen; rw [EQ.out, List.length_append, List.length_cons] at h; omega)
        have LB := Lib.hid (show (Tb.put t.list k.data.toList v.data.toList).length + (l.list.length + 1) ≤ 17592186044416 from by have h := hlen; rw [EQ.out, List.length_append, List.length_cons] at h; omega)
        have NR := Lib.hid (show NodeR W b r from ⟨x0', x1'⟩)
        have HO := Lib.hid hl
        have IH := Lib.hid (fun (w : World) (q : Qt W w) => ihr pr w (hr.qt q) HS.out HL.out (fun k hk => hX k (Nat.le_trans q.size hk)))
        have BL := Lib.hid (fun (w : World) (p1 : Option Addr) (T1 : Tb.Tr) (q : Qt W w) (e1 : T1.list = Tb.put t.list k.data.toList v.data.toList) (i : IsT X w p1 T1) => balanced_any (NR.out.qt q) (HO.out.qt q) i (by have h := LB.out; rw [← e1] at h; omega) (fun k hk => hX k (Nat.le_trans q.size hk)))
        have KC := Lib.hid (fun (w : World) (q : Qt W w) => (show w.cell? ⟨b, 2, none⟩ = some (.pointer pl) ∧ w.cell? ⟨b, 3, none⟩ = some (.pointer pr) from ⟨q.cellv x2, q.cellv x3⟩))
        have QD := Lib.hid (show Qt W W.drew from Keeps.drew (Qt.refl W))
        clear hK hKl hS hlen hl hr hX ihl ihr x0' x1' hlt hgt
        go_enter Tryd.func66, Tryd.ntmps66
        go_wp2_with fail
        go_region_held3 (fun W' => W'.cell? ⟨b, 2, none⟩ = some (.pointer pl) ∧ W'.cell? ⟨b, 3, none⟩ = some (.pointer pr))
          (first | exact KC.out _ QD.out | exact KC.out _ (Hid.out (by assumption)))
          (first
            | (go_at_call 66; refine (IH.out _ QD.out).mono ?_; rintro e w3 ⟨p3, T3, rfl, e3, i3, q3⟩; have Q3 := Lib.hid (Qt.trans QD.out q3); have I3 := Lib.hid i3; have E3 := Lib.hid e3; clear IH i3 q3 e3)
            | (go_at_call 79; refine (BL.out _ _ _ Q3.out E3.out I3.out).mono ?_; rintro e w4 ⟨p4, T4, rfl, e4, i4, q4⟩; have Q4 := Lib.hid (Qt.trans Q3.out q4); have I4 := Lib.hid i4; have E4 := Lib.hid e4; clear BL i4 q4 e4))
        go_wp2
        go_ret
        exact ⟨_, _, rfl, by rw [E4.out, E3.out, EQ.out], I4.out, Q4.out⟩
      · have hke : r.1 = k.data.toList := (Tb.lt_total (Bool.eq_false_iff.2 hlt) (Bool.eq_false_iff.2 hgt)).symm
        have zk : Op.bytesLess k.toList K.toList = false := by rw [ByteArray.toList_eq, ByteArray.toList_eq, hKl]; exact Bool.eq_false_iff.2 hlt
        have zg : (k.toList == K.toList) = true := by rw [ByteArray.toList_eq, ByteArray.toList_eq, hKl]; simpa using hke.symm
        have EQ := Lib.hid (show (Tb.Tr.node l (k.data.toList, v.data.toList) t).list = Tb.put (l.list ++ r :: t.list) k.data.toList v.data.toList from by rw [Tb.Tr.list, ← hke]; exact (Tb.put_mid hS).symm)
        have HL := Lib.hid hl
        have HR := Lib.hid hr
        have HX := Lib.hid hX
        have QD := Lib.hid (show Qt W W.drew from Keeps.drew (Qt.refl W))
        generalize hn : l.list.length + (t.list.length + 1) = n at *
        have HN := Lib.hid hn
        clear hn
        have KC := Lib.hid (fun (w : World) (q : Qt W w) => (show w.cell? ⟨b, 2, none⟩ = some (.pointer pl) ∧ w.cell? ⟨b, 3, none⟩ = some (.pointer pr) ∧ w.cell? ⟨b, 4, none⟩ = some (.int .i64 (n : Int)) from ⟨q.cellv x2, q.cellv x3, q.cellv x4⟩))
        clear hK hKl hS hlen hl hr hX ihl ihr x0' x1' hlt hgt hke
        go_enter Tryd.func66, Tryd.ntmps66
        go_wp2_with fail
        go_region_held3 (fun W' => W'.cell? ⟨b, 2, none⟩ = some (.pointer pl) ∧ W'.cell? ⟨b, 3, none⟩ = some (.pointer pr) ∧ W'.cell? ⟨b, 4, none⟩ = some (.int .i64 (n : Int)))
          (first | exact KC.out _ QD.out | go_keep) (fail)
        have NC := fun {j : Nat} {u : Value} (hv : (#[Value.string k, Value.string v, Value.pointer pl, Value.pointer pr, Value.int .i64 (n : Int)] : Array Value)[j]? = some u) => node_cells (W := W) rfl hv
        generalize hW1 : W.alloc (.cells #[Value.string k, Value.string v, Value.pointer pl, Value.pointer pr, Value.int .i64 (n : Int)] 122) = W1 at *
        have Q1 : Qt W W1 := hW1 ▸ (Qt.refl W).alloc _
        have FIN := Lib.hid (show IsT X W1.drew (some ⟨W.heap.size, 0, none⟩) (.node l (k.data.toList, v.data.toList) t) from
          ⟨W.heap.size, pl, pr, rfl, HX.out _ (Nat.le_refl _), by rw [strV_str]; exact NC (j := 0) rfl, by rw [strV_str]; exact NC (j := 1) rfl, NC (j := 2) rfl, NC (j := 3) rfl, by rw [HN.out]; exact NC (j := 4) rfl, HL.out.qt (Keeps.drew Q1), HR.out.qt (Keeps.drew Q1)⟩)
        have Q1 := Lib.hid (show Qt W W1.drew from Keeps.drew Q1)
        clear NC hW1
        go_wp2
        go_ret
        exact ⟨_, _, rfl, EQ.out, FIN.out, Q1.out⟩
end Go.Proofs.YtffjleceogablaaDoor
namespace Go.Proofs.YtffjleceogablaaDoor
open Go.RowKit Go.WideShapes
set_option maxRecDepth 100000

set_option maxHeartbeats 3200000 in
theorem without_any {X : Nat → Prop} (T : Tb.Tr) : ∀ (k : ByteArray) (p : Option Addr) (W : World), IsT X W p T → Tb.Sorted T.list → T.list.length ≤ 17592186044416 → (∀ k, W.heap.size ≤ k → X k) →
    Calls Tryd.prog 65 #[.pointer p, .string k] W (Made X W (Tb.del T.list k.data.toList)) := by
  induction T with
  | leaf =>
    rintro k p W h _ _ hX
    obtain rfl : p = none := h
    have FIN := Lib.hid (show IsT X W none .leaf from rfl)
    clear hX
    go_enter Tryd.func65, Tryd.ntmps65
    go_wp2
    go_ret
    exact ⟨_, _, rfl, rfl, FIN.out, Qt.refl _⟩
  | node l r t ihl ihr =>
    rintro k p W h hS hlen0 hX
    obtain ⟨b, pl, pr, rfl, _, x0, x1, x2, x3, _, hl, hr⟩ := h
    have x0' := x0
    have x1' := x1
    obtain ⟨K, hK, hKl⟩ : ∃ K : ByteArray, strV r.1 = .string K ∧ K.data.toList = r.1 := ⟨⟨r.1.toArray⟩, rfl, rfl⟩
    rw [hK] at x0
    rw [Tb.Tr.list] at hS hlen0 ⊢
    have hlen : (Tb.del (l.list ++ r :: t.list) k.data.toList).length ≤ 17592186044416 := Nat.le_trans (List.length_filter_le _ _) hlen0
    by_cases hlt : Tb.lt k.data.toList r.1 = true
    · have zk : Op.bytesLess k.toList K.toList = true := by rw [ByteArray.toList_eq, ByteArray.toList_eq, hKl]; exact hlt
      have EQ := Lib.hid (show Tb.del (l.list ++ r :: t.list) k.data.toList = Tb.del l.list k.data.toList ++ r :: t.list from Tb.del_left hS hlt)
      have HS := Lib.hid (Tb.sorted_left hS)
      have HL := Lib.hid (show l.list.length ≤ 17592186044416 from by have h := hlen0; rw [List.length_append, List.length_cons] at h; omega)
      have LB := Lib.hid (show (Tb.del l.list k.data.toList).length + (t.list.length + 1) ≤ 17592186044416 from by have h := hlen; rw [EQ.out, List.length_append, List.length_cons] at h; omega)
      have NR := Lib.hid (show NodeR W b r from ⟨x0', x1'⟩)
      have HO := Lib.hid hr
      have IH := Lib.hid (fun (w : World) (q : Qt W w) => ihl k pl w (hl.qt q) HS.out HL.out (fun k hk => hX k (Nat.le_trans q.size hk)))
      have BL := Lib.hid (fun (w : World) (p1 : Option Addr) (T1 : Tb.Tr) (q : Qt W w) (e1 : T1.list = Tb.del l.list k.data.toList) (i : IsT X w p1 T1) => balanced_any (NR.out.qt q) i (HO.out.qt q) (by have h := LB.out; rw [← e1] at h; omega) (fun k hk => hX k (Nat.le_trans q.size hk)))
      have KC := Lib.hid (fun (w : World) (q : Qt W w) => (show w.cell? ⟨b, 2, none⟩ = some (.pointer pl) ∧ w.cell? ⟨b, 3, none⟩ = some (.pointer pr) from ⟨q.cellv x2, q.cellv x3⟩))
      have QD := Lib.hid (show Qt W W.drew from Keeps.drew (Qt.refl W))
      clear hK hKl hS hlen hl hr hX ihl ihr x0' x1' hlt
      go_enter Tryd.func65, Tryd.ntmps65
      go_wp2_with fail
      go_region_held3 (fun W' => W'.cell? ⟨b, 2, none⟩ = some (.pointer pl) ∧ W'.cell? ⟨b, 3, none⟩ = some (.pointer pr))
        (first | exact KC.out _ QD.out | exact KC.out _ (Hid.out (by assumption)))
        (first
          | (go_at_call 65; refine (IH.out _ QD.out).mono ?_; rintro e w3 ⟨p3, T3, rfl, e3, i3, q3⟩; have Q3 := Lib.hid (Qt.trans QD.out q3); have I3 := Lib.hid i3; have E3 := Lib.hid e3; clear IH i3 q3 e3)
          | (go_at_call 79; refine (BL.out _ _ _ Q3.out E3.out I3.out).mono ?_; rintro e w4 ⟨p4, T4, rfl, e4, i4, q4⟩; have Q4 := Lib.hid (Qt.trans Q3.out q4); have I4 := Lib.hid i4; have E4 := Lib.hid e4; clear BL i4 q4 e4))
      go_wp2
      go_ret
      exact ⟨_, _, rfl, by rw [E4.out, E3.out, EQ.out], I4.out, Q4.out⟩
    · by_cases hgt : Tb.lt r.1 k.data.toList = true
      · have zk : Op.bytesLess k.toList K.toList = false := by rw [ByteArray.toList_eq, ByteArray.toList_eq, hKl]; exact Bool.eq_false_iff.2 hlt
        have zg : (k.toList == K.toList) = false := by rw [ByteArray.toList_eq, ByteArray.toList_eq, hKl]; simpa using fun e => Tb.lt_ne hgt e.symm
        have EQ := Lib.hid (show Tb.del (l.list ++ r :: t.list) k.data.toList = l.list ++ r :: Tb.del t.list k.data.toList from Tb.del_right hS hgt)
        have HS := Lib.hid (Tb.sorted_right hS)
        have HL := Lib.hid (show t.list.length ≤ 17592186044416 from by have h := hlen0; rw [List.length_append, List.length_cons] at h; omega)
        have LB := Lib.hid (show (Tb.del t.list k.data.toList).length + (l.list.length + 1) ≤ 17592186044416 from by have h := hlen; rw [EQ.out, List.length_append, List.length_cons] at h; omega)
        have NR := Lib.hid (show NodeR W b r from ⟨x0', x1'⟩)
        have HO := Lib.hid hl
        have IH := Lib.hid (fun (w : World) (q : Qt W w) => ihr k pr w (hr.qt q) HS.out HL.out (fun k hk => hX k (Nat.le_trans q.size hk)))
        have BL := Lib.hid (fun (w : World) (p1 : Option Addr) (T1 : Tb.Tr) (q : Qt W w) (e1 : T1.list = Tb.del t.list k.data.toList) (i : IsT X w p1 T1) => balanced_any (NR.out.qt q) (HO.out.qt q) i (by have h := LB.out; rw [← e1] at h; omega) (fun k hk => hX k (Nat.le_trans q.size hk)))
        have KC := Lib.hid (fun (w : World) (q : Qt W w) => (show w.cell? ⟨b, 2, none⟩ = some (.pointer pl) ∧ w.cell? ⟨b, 3, none⟩ = some (.pointer pr) from ⟨q.cellv x2, q.cellv x3⟩))
        have QD := Lib.hid (show Qt W W.drew from Keeps.drew (Qt.refl W))
        clear hK hKl hS hlen hl hr hX ihl ihr x0' x1' hlt hgt
        go_enter Tryd.func65, Tryd.ntmps65
        go_wp2_with fail
        go_region_held3 (fun W' => W'.cell? ⟨b, 2, none⟩ = some (.pointer pl) ∧ W'.cell? ⟨b, 3, none⟩ = some (.pointer pr))
          (first | exact KC.out _ QD.out | exact KC.out _ (Hid.out (by assumption)))
          (first
            | (go_at_call 65; refine (IH.out _ QD.out).mono ?_; rintro e w3 ⟨p3, T3, rfl, e3, i3, q3⟩; have Q3 := Lib.hid (Qt.trans QD.out q3); have I3 := Lib.hid i3; have E3 := Lib.hid e3; clear IH i3 q3 e3)
            | (go_at_call 79; refine (BL.out _ _ _ Q3.out E3.out I3.out).mono ?_; rintro e w4 ⟨p4, T4, rfl, e4, i4, q4⟩; have Q4 := Lib.hid (Qt.trans Q3.out q4); have I4 := Lib.hid i4; have E4 := Lib.hid e4; clear BL i4 q4 e4))
        go_wp2
        go_ret
        exact ⟨_, _, rfl, by rw [E4.out, E3.out, EQ.out], I4.out, Q4.out⟩
      · have hke : r.1 = k.data.toList := (Tb.lt_total (Bool.eq_false_iff.2 hlt) (Bool.eq_false_iff.2 hgt)).symm
        have zk : Op.bytesLess k.toList K.toList = false := by rw [ByteArray.toList_eq, ByteArray.toList_eq, hKl]; exact Bool.eq_false_iff.2 hlt
        have zg : (k.toList == K.toList) = true := by rw [ByteArray.toList_eq, ByteArray.toList_eq, hKl]; simpa using hke.symm
        have hdel : Tb.del (l.list ++ r :: t.list) k.data.toList = l.list ++ t.list := by rw [← hke]; exact Tb.del_mid hS
        rw [hdel] at hlen ⊢
        cases l with
        | leaf =>
          obtain rfl : pl = none := hl
          have FIN := Lib.hid hr
          clear hK hKl hS hlen hlen0 hr hX ihl ihr x0' x1' hlt hgt hke hdel
          go_enter Tryd.func65, Tryd.ntmps65
          go_wp2
          go_ret
          exact ⟨_, _, rfl, rfl, FIN.out, Qt.refl _⟩
        | node l1 l2 l3 =>
          cases t with
          | leaf =>
            obtain rfl : pr = none := hr
            have FIN := Lib.hid hl
            obtain ⟨lb, _, _, rfl, _⟩ := hl
            clear hK hKl hS hlen hlen0 hX ihl ihr x0' x1' hlt hgt hke hdel
            go_enter Tryd.func65, Tryd.ntmps65
            go_wp2
            go_ret
            exact ⟨_, _, rfl, by simp [Tb.Tr.list], FIN.out, Qt.refl _⟩
          | node t1 t2 t3 =>
            have FS := first_any hr
            have HL := Lib.hid hl
            have HR := Lib.hid hr
            have HX := Lib.hid hX
            have HS := Lib.hid (Tb.sorted_right hS)
            have HLN := Lib.hid hlen
            have IHR := Lib.hid ihr
            obtain ⟨lb, _, _, rfl, _⟩ := hl
            obtain ⟨tb, _, _, rfl, _⟩ := hr
            clear hK hKl hS hlen hlen0 hX ihl ihr x0' x1' hlt hgt hke hdel
            generalize hA : (Tb.Tr.node l1 l2 l3) = A at *
            generalize hB : (Tb.Tr.node t1 t2 t3) = B at *
            clear hA hB
            go_enter Tryd.func65, Tryd.ntmps65
            go_wp2_with fail
            refine FS.mono ?_
            rintro e w1 ⟨⟨nb, x, rest, rfl, hn, hrest⟩, rfl⟩
            obtain ⟨N, hN, hNl⟩ : ∃ N : ByteArray, strV x.1 = .string N ∧ N.data.toList = x.1 := ⟨⟨x.1.toArray⟩, rfl, rfl⟩
            have n0 : w1.cell? ⟨nb, 0, none⟩ = some (.string N) := by rw [← hN]; exact hn.key
            have HD := Lib.hid (show Tb.del B.list N.data.toList = rest from by have h := HS.out; rw [hrest] at h; rw [hNl, hrest]; exact Tb.del_first h)
            have hbl : B.list.length ≤ 17592186044416 := by have h := HLN.out; rw [List.length_append] at h; omega
            have LB := Lib.hid (show A.list.length + (rest.length + 1) ≤ 17592186044416 from by have h := HLN.out; rw [List.length_append, hrest, List.length_cons] at h; omega)
            have EQ := Lib.hid (show A.list ++ x :: rest = A.list ++ B.list from by rw [hrest])
            have IH := Lib.hid (fun (w : World) (q : Qt w1 w) => IHR.out N _ w (HR.out.qt q) HS.out hbl (fun k hk => HX.out k (Nat.le_trans q.size hk)))
            have NR := Lib.hid hn
            have BL := Lib.hid (fun (w : World) (p1 : Option Addr) (T1 : Tb.Tr) (q : Qt w1 w) (e1 : T1.list = rest) (i : IsT X w p1 T1) => balanced_any (NR.out.qt q) (HL.out.qt q) i (by have h := LB.out; rw [← e1] at h; omega) (fun k hk => HX.out k (Nat.le_trans q.size hk)))
            have KC := Lib.hid (fun (w : World) (q : Qt w1 w) => (show w.cell? ⟨b, 2, none⟩ = some (.pointer (some ⟨lb, 0, none⟩)) ∧ w.cell? ⟨b, 3, none⟩ = some (.pointer (some ⟨tb, 0, none⟩)) ∧ w.cell? ⟨nb, 0, none⟩ = some (.string N) from ⟨q.cellv x2, q.cellv x3, q.cellv n0⟩))
            have QD := Lib.hid (show Qt w1 w1.drew from Keeps.drew (Qt.refl w1))
            clear hN hNl hrest hbl hn FS IHR
            go_wp2_with fail
            go_region_held3 (fun W' => W'.cell? ⟨b, 2, none⟩ = some (.pointer (some ⟨lb, 0, none⟩)) ∧ W'.cell? ⟨b, 3, none⟩ = some (.pointer (some ⟨tb, 0, none⟩)) ∧ W'.cell? ⟨nb, 0, none⟩ = some (.string N))
              (first | exact KC.out _ QD.out | exact KC.out _ (Hid.out (by assumption)))
              (first
                | (go_at_call 65; refine (IH.out _ QD.out).mono ?_; rintro e w3 ⟨p3, T3, rfl, e3, i3, q3⟩; have Q3 := Lib.hid (Qt.trans QD.out q3); have I3 := Lib.hid i3; have E3 := Lib.hid (e3.trans HD.out); clear IH i3 q3 e3)
                | (go_at_call 79; refine (BL.out _ _ _ Q3.out E3.out I3.out).mono ?_; rintro e w4 ⟨p4, T4, rfl, e4, i4, q4⟩; have Q4 := Lib.hid (Qt.trans Q3.out q4); have I4 := Lib.hid i4; have E4 := Lib.hid e4; clear BL i4 q4 e4))
            go_wp2
            go_ret
            exact ⟨_, _, rfl, by rw [E4.out, E3.out, EQ.out], I4.out, Q4.out⟩
end Go.Proofs.YtffjleceogablaaDoor
