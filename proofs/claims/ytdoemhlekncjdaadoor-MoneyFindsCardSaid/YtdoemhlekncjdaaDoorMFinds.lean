/-
  The law MoneyFinds.
-/
import Derived.Test.YtdoemhlekncjdaaDoorMFind
import Derived.Test.YtdoemhlekncjdaaDoorAppRows
import Derived.Test.YtdoemhlekncjdaaDoorMFixed
namespace Go.Proofs.YtdoemhlekncjdaaDoor
open Go.RowKit Go.WideShapes
set_option maxRecDepth 100000

abbrev curV (c : Cur) : Value := .agg #[.string c.1, .int .i64 c.2]
theorem infoCur : (Tryd.prog.info? 25).map (fun i => (i.zero, i.size, i.bytes)) = some (some (.agg #[.string ⟨#[]⟩, .int .i64 0]), 2, 24) := by kernel_rfl
theorem bytes_beqC (a b : ByteArray) : (a.toList == b.toList) = decide (a = b) := by
  by_cases h : a = b
  · subst h; simp
  · rw [toList_ne h, decide_eq_false h]
theorem run_equal_cur (p q : Cur) (w : World) : (Op.equalIn 10000 25 (curV p) (curV q)).run Tryd.prog w = .ok (decide (p = q)) w := by
  obtain ⟨s1, n1⟩ := p
  obtain ⟨s2, n2⟩ := q
  have hs : (decide (((s1, n1) : Cur) = (s2, n2))) = (decide (s1 = s2) && decide (n1 = n2)) := by
    rw [Bool.eq_iff_iff]
    simp
  have hp : Tryd.prog.stoodInHeld 25 = false := by kernel_rfl
  have ht : Tryd.prog.underlying 25 = some (.struct (Tryd.prog.fieldsOf 25)) := by kernel_rfl
  rw [hs, run_equalIn_struct w 9999 _ _ _ ht hp]
  have e2 := fun (a b : Int) => run_equalIn_int (P := Tryd.prog) w 9998 3 .i64 .i64 a b Tryd.underlying3
  have e9 := fun (a b : ByteArray) => run_equalIn_string (P := Tryd.prog) w 9998 9 a b Tryd.underlying9
  have hf : (Tryd.prog.fieldsOf 25).toList = [{ name := "Code", type := 9, offset := 0, embedded := false, tag := "", pkgPath := "", byteOffset := 0 }, { name := "Digits", type := 3, offset := 1, embedded := false, tag := "", pkgPath := "", byteOffset := 16 }] := by kernel_rfl
  have a9 : ∀ W, (isAgg 9).run Tryd.prog W = .ok false W := Tryd.isAgg9
  rw [hf]
  simp only [Op.eqFields, part, Sem.run_bind, a9, Result.andThen_ok, Bool.false_eq_true, if_false, Sem.run_pure, ne_eq, String.reduceEq, not_false_eq_true, if_true, List.getElem?_toArray, List.getElem?_cons_zero, List.getElem?_cons_succ, e9]
  by_cases h3 : s1 = s2
  · subst h3
    by_cases h2 : n1 = n2
    · simp [h2, e2, Sem.run_bind]
    · simp [h2, e2, Sem.run_bind]
  · simp [h3, bytes_beqC]
theorem run_neq_cur (p q : Cur) (w : World) : (binOp .neq 25 (curV p) (curV q)).run Tryd.prog w = .ok (.bool (!decide (p = q))) w := by
  rw [run_neq_struct, run_equal_cur]; rfl
theorem run_eql_cur (p q : Cur) (w : World) : (binOp .eql 25 (curV p) (curV q)).run Tryd.prog w = .ok (.bool (decide (p = q))) w := by
  rw [run_eql_struct, run_equal_cur]; rfl
theorem neqC (s : ByteArray) (n : Int) (w : World) : (binOp .neq 25 (.agg #[.string s, .int .i64 n]) (.agg #[.string s, .int .i64 n])).run Tryd.prog w = .ok (.bool false) w := by
  have := run_neq_cur (s, n) (s, n) w
  simpa using this
theorem eqlC (s : ByteArray) (n : Int) (w : World) : (binOp .eql 25 (.agg #[.string s, .int .i64 n]) (.agg #[.string s, .int .i64 n])).run Tryd.prog w = .ok (.bool true) w := by
  have := run_eql_cur (s, n) (s, n) w
  simpa using this

def curCells (cs : List Cur) : List Value := cs.flatMap fun c => [.string c.1, .int .i64 c.2]
theorem curCells_length : ∀ cs : List Cur, (curCells cs).length = cs.length * 2
  | [] => rfl
  | c :: cs => by
    have ih := curCells_length cs
    simp only [curCells, List.flatMap_cons, List.length_append, List.length_cons, List.length_nil] at ih ⊢
    omega
theorem curCells_get : ∀ {cs : List Cur} {k : Nat} {c : Cur}, cs[k]? = some c → (curCells cs)[k * 2]? = some (.string c.1) ∧ (curCells cs)[k * 2 + 1]? = some (.int .i64 c.2)
  | [], k, c, h => by simp at h
  | d :: cs, 0, c, h => by simp at h; subst h; exact ⟨rfl, rfl⟩
  | d :: cs, k + 1, c, h => by
    have ih := curCells_get (cs := cs) (k := k) (c := c) (by simpa using h)
    rw [show (k + 1) * 2 = k * 2 + 1 + 1 by omega, show curCells (d :: cs) = .string d.1 :: .int .i64 d.2 :: curCells cs from rfl]
    simpa using ih
theorem curCells_back : ∀ {cs : List Cur} {j : Nat} {u : Value}, (curCells cs)[j]? = some u → ∃ k c, cs[k]? = some c ∧ ((j = k * 2 ∧ u = .string c.1) ∨ (j = k * 2 + 1 ∧ u = .int .i64 c.2))
  | [], j, u, h => by simp [curCells] at h
  | d :: cs, 0, u, h => ⟨0, d, rfl, .inl ⟨rfl, by simpa [curCells] using h.symm⟩⟩
  | d :: cs, 1, u, h => ⟨0, d, rfl, .inr ⟨rfl, by simpa [curCells] using h.symm⟩⟩
  | d :: cs, j + 2, u, h => by
    obtain ⟨k, c, hk, hu⟩ := curCells_back (cs := cs) (j := j) (u := u) (by simpa [curCells] using h)
    refine ⟨k + 1, c, by simpa using hk, ?_⟩
    rcases hu with ⟨h1, h2⟩ | ⟨h1, h2⟩
    · exact .inl ⟨by omega, h2⟩
    · exact .inr ⟨by omega, h2⟩
theorem curCells_one (cs : List Cur) : ∀ u ∈ curCells cs, u.oneCell' = true := by
  intro u hu
  obtain ⟨p, _, hp⟩ := List.mem_flatMap.1 hu
  simp only [List.mem_cons, List.not_mem_nil, or_false] at hp
  rcases hp with rfl | rfl <;> rfl
theorem CursAt.news {w : World} {a : Option Addr} {cap g off : Nat} {cs : List Cur} (h : CursAt w (.slice a cs.length cap) g off cs) (hne : curCells cs ≠ []) :
    ∃ p, a = some p ∧ ∀ (j : Nat) u, (curCells cs)[j]? = some u → w.cell? (p.add j) = some u := by
  obtain ⟨a', cap', e, ha⟩ := h.val
  injection e with e1 e2 e3
  subst e1
  have hc : cs ≠ [] := by rintro rfl; exact hne rfl
  refine ⟨_, ha hc, fun j u hj => ?_⟩
  obtain ⟨k, c, hk, hu⟩ := curCells_back hj
  obtain ⟨c1, c2⟩ := h.cells k c hk
  rcases hu with ⟨rfl, rfl⟩ | ⟨rfl, rfl⟩
  · rw [add_plain]; exact c1
  · rw [add_plain, ← Nat.add_assoc]; exact c2
theorem curs_of_own {w : World} {v : Value} {n : Nat} {cs : List Cur} (h : w.ownsRow 0 25 2 v n (curCells cs)) (hn : cs.length = n) (hle : n ≤ 17592186044416) : ∃ g, CursAt w v g 0 cs := by
  subst hn
  have hcell : ∀ (g : Nat), v.ownBlock = some g → ∀ (j : Nat) (u : Value), (curCells cs)[j]? = some u → w.cell? ⟨g, j, none⟩ = some u := fun g hg j u hj => by
    have h1 := (World.ownsRowF_of h).cells (g := g) hg j u hj
    rwa [add_plain, Nat.zero_add] at h1
  rcases h.2 with ⟨rfl, h0⟩ | ⟨g, cap, cur, rfl, _⟩
  · have : cs = [] := List.eq_nil_of_length_eq_zero h0
    subst this
    exact ⟨0, ⟨none, 0, rfl, fun h => absurd rfl h⟩, hle, fun i c hc => by simp at hc⟩
  · refine ⟨g, ⟨_, cap, rfl, fun _ => rfl⟩, hle, fun i c hc => ?_⟩
    obtain ⟨h1, h2⟩ := curCells_get hc
    rw [Nat.zero_add]
    exact ⟨hcell g rfl _ _ h1, hcell g rfl _ _ h2⟩
theorem own_emptyC (W : World) : (W.alloc (.cells #[] 25)).ownsRow 0 25 2 (.slice (some ⟨W.heap.size, 0, none⟩) 0 0) 0 [] :=
  ⟨rfl, .inr ⟨W.heap.size, 0, #[], rfl, Nat.zero_le _, heap_alloc_new W _, Nat.le_refl _, Nat.zero_le _, rfl, rfl⟩⟩
abbrev eurB : ByteArray := ⟨#[69, 85, 82]⟩
theorem curs_two (W : World) : CursAt (W.alloc (.cells #[.string eurB, .int .i64 2, .string eurB, .int .i64 3] 25)) (.slice (some ⟨W.heap.size, 0, none⟩) 2 2) W.heap.size 0 [(eurB, 2), (eurB, 3)] := by
  have hb := heap_alloc_new W (.cells #[.string eurB, .int .i64 2, .string eurB, .int .i64 3] 25)
  have hc : ∀ j, (W.alloc (.cells #[.string eurB, .int .i64 2, .string eurB, .int .i64 3] 25)).cell? ⟨W.heap.size, j, none⟩ = _ := fun j => cell_of_row _ _ _ _ _ _ hb
  refine ⟨⟨_, 2, rfl, fun _ => rfl⟩, by simp, fun i c h => ?_⟩
  match i, h with
  | 0, h => simp at h; subst h; exact ⟨by rw [hc]; rfl, by rw [hc]; rfl⟩
  | 1, h => simp at h; subst h; exact ⟨by rw [hc]; rfl, by rw [hc]; rfl⟩
  | i + 2, h => simp at h
theorem findV_form (code : ByteArray) (cs : List Cur) : ∃ s n b, findV code cs = .tuple #[.agg #[.string s, .int .i64 n], .bool b] := by
  unfold findV
  cases findC code cs with
  | none => exact ⟨_, _, _, rfl⟩
  | some c => exact ⟨_, _, _, rfl⟩
theorem findV_eur : findV eurB [(eurB, 2), (eurB, 3)] = .tuple #[.agg #[.string eurB, .int .i64 2], .bool true] := by
  simp [findV, findC]

set_option maxHeartbeats 6400000 in
theorem finds_any (ad : Nat → Addr) (v : Value) (g off : Nat) (cs : List Cur) (code : ByteArray) (w : World) (hv : CursAt w v g off cs) (hlen : cs.length ≤ 5864062014634) (hE : Errs ad w) (htab : Tab10 w) :
    Calls Tryd.prog 3 #[v, .string code] w fun e w' => e = .returned (.bool true) ∧ Qt w w' := by
  obtain ⟨i0, hi, hz0, hz1, hz2⟩ := info_parts infoCur
  have FX := Lib.hid (fixed_any ad w hE htab)
  obtain ⟨a, cap, rfl, ha⟩ := hv.val
  have HV := Lib.hid (fun W (q : Qt w W) => hv.qt q)
  have HA := Lib.hid ha
  have FI := Lib.hid (fun W v gg (h : CursAt W v gg 0 cs) => find_any v gg 0 cs code W h)
  have RF := Lib.hid (fun W (q : Qt w W) => refFind_any (.slice a cs.length cap) g off cs code W (hv.qt q))
  obtain ⟨s, n, b, hfv⟩ := findV_form code cs
  rw [hfv] at FI RF
  have TW := Lib.hid (fun W => find_any (.slice (some ⟨W.heap.size, 0, none⟩) 2 2) W.heap.size 0 [(eurB, 2), (eurB, 3)] eurB _ (curs_two W))
  rw [findV_eur] at TW
  have NE := neqC
  have EQ := eqlC s n
  clear hv hE htab ha hfv
  go_enter Tryd.func3, Tryd.ntmps3
  go_wp2_with fail
  refine FX.out.mono ?_
  rintro e w1 ⟨rfl, k1⟩
  have K1 := Lib.hid k1
  have Oe := Lib.hid (own_emptyC w1)
  have N1 := Lib.hid (fun o => (HV.out _ (k1.alloc o)).news)
  clear k1 FX
  go_wp2_with (at_builtin; refine wpList_append_rows _ rfl _ _ 22 rfl 25 i0 _ 2 24 Tryd.underlying22 hi hz0 hz1 hz2 rfl (by decide) _ 0 [] rfl Oe.out a cs.length cap (curCells cs) rfl (curCells_length cs) (N1.out _) (curCells_one cs) (by unfold maxLen; omega) (by omega) ?_)
  intro v1 W2 hown2 hg2 hlat2
  have K2 := Lib.hid (show Qt w W2 from Since.qt (Keeps.grown (Qt.since (B := w.heap.size) (K1.out.alloc _)) hg2 (fun j hj e => by have := K1.out.size; simp [Value.ownBlock] at e; omega)))
  try simp only [Nat.zero_add, List.nil_append] at hown2
  obtain ⟨g1, hc1⟩ := curs_of_own hown2 rfl (by omega)
  obtain ⟨a1, cap1, rfl, ha1⟩ := hc1.val
  have HA1 := Lib.hid ha1
  have HC := Lib.hid (fun W (q : Qt W2 W) => hc1.qt q)
  clear hown2 hg2 hlat2 hc1 Oe N1 K1 ha1
  go_wp2_with fail
  refine (FI.out _ _ g1 (HC.out _ (Qt.refl _))).mono ?_
  rintro e w3 ⟨rfl, k3⟩
  have K3 := Lib.hid k3
  clear k3 FI
  go_wp2_with fail
  refine (RF.out _ (K2.out.trans (K3.out.alloc _))).mono ?_
  rintro e w4 ⟨rfl, k4⟩
  have H6 := Lib.hid (fun W (q : Qt w4 W) => (show W.cell? ⟨w3.heap.size, 0, none⟩ = some (.string s) ∧ W.cell? ⟨w3.heap.size, 1, none⟩ = some (.int .i64 n) from by
    have hb := heap_alloc_new w3 (curO s n)
    have q2 := Qt.trans k4 q
    exact ⟨q2.cellv (by rw [cell_of_row _ _ _ _ _ _ hb]; rfl), q2.cellv (by rw [cell_of_row _ _ _ _ _ _ hb]; rfl)⟩))
  have H8 := Lib.hid (fun W (q : Qt (w4.alloc (curO s n)) W) => (show W.cell? ⟨w4.heap.size, 0, none⟩ = some (.string s) ∧ W.cell? ⟨w4.heap.size, 1, none⟩ = some (.int .i64 n) from by
    have hb := heap_alloc_new w4 (curO s n)
    exact ⟨q.cellv (by rw [cell_of_row _ _ _ _ _ _ hb]; rfl), q.cellv (by rw [cell_of_row _ _ _ _ _ _ hb]; rfl)⟩))
  have K4 := Lib.hid (show Qt W2 (w4.alloc (curO s n)) from (Qt.trans (K3.out.alloc _) k4).alloc _)
  have K44 := Lib.hid (show Qt w4 (w4.alloc (curO s n)) from (Qt.refl w4).alloc _)
  clear k4 RF K3
  go_wp2_with fail
  go_loopw [32] (fun i wr => ∃ k : Nat, k ≤ cs.length ∧ i = .int .i64 k ∧ Qt (w4.alloc (curO s n)) wr) (fun i _ => cs.length - (intOf i).toNat)
  case atStart => exact ⟨0, Nat.zero_le _, rfl, Qt.refl _⟩
  case round =>
    obtain ⟨k, hk, rfl, hq⟩ := hrel
    rename_i wr
    by_cases hlt : k < cs.length
    · have hck : cs[k]? = some cs[k] := List.getElem?_eq_getElem hlt
      have hq2 := Qt.trans K4.out hq
      obtain ⟨c1, c2⟩ := (HV.out wr (Qt.trans K2.out hq2)).cells k _ hck
      obtain ⟨c3, c4⟩ := (HC.out wr hq2).cells k _ hck
      rw [Nat.zero_add] at c3 c4
      obtain rfl := HA.out (fun e => by rw [e] at hlt; simp at hlt)
      obtain rfl := HA1.out (fun e => by rw [e] at hlt; simp at hlt)
      have Q := Lib.hid hq
      have NE2 := NE cs[k].1 cs[k].2
      generalize cs[k] = c at *
      clear hck hq hq2 NE EQ
      go_wp2
      go_region
      all_goals
        go_wp2
        go_roundw
        case rel => exact ⟨k + 1, hlt, by go_num, Keeps.drew Q.out⟩
        case measure => simp [intOf]; omega
    · obtain rfl : k = cs.length := by omega
      have Q := Lib.hid hq
      clear hq NE
      go_wp2_with fail
      refine (TW.out _).mono ?_
      rintro e w5 ⟨rfl, k5⟩
      have q5 := Qt.trans (Q.out.alloc _) k5
      obtain ⟨x1, x2⟩ := H6.out _ ((Qt.trans K44.out q5).alloc (curO eurB 2))
      obtain ⟨x3, x4⟩ := H8.out _ (q5.alloc (curO eurB 2))
      have hb := heap_alloc_new w5 (curO eurB 2)
      have x5 : (w5.alloc (curO eurB 2)).cell? ⟨w5.heap.size, 0, none⟩ = some (.string eurB) := by rw [cell_of_row _ _ _ _ _ _ hb]; rfl
      have x6 : (w5.alloc (curO eurB 2)).cell? ⟨w5.heap.size, 1, none⟩ = some (.int .i64 2) := by rw [cell_of_row _ _ _ _ _ _ hb]; rfl
      have FIN := Lib.hid (show Qt w (w5.alloc (curO eurB 2)) from (Qt.trans (Qt.trans K2.out K4.out) q5).alloc _)
      clear k5 q5 hb
      go_wp2
      go_ret
      exact ⟨rfl, FIN.out⟩
end Go.Proofs.YtdoemhlekncjdaaDoor
