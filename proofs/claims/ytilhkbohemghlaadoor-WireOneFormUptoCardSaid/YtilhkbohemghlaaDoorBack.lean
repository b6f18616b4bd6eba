/-
  The contract of remitlaw01.WireBack: it answers true.
-/
import Derived.Test.YtilhkbohemghlaaDoorScript
import Derived.Test.YtilhkbohemghlaaDoorShort
import Derived.Deep.WholeRow
namespace Go.Proofs.YtilhkbohemghlaaDoor
open Go.ChangeShapes Go.WideShapes Go.ChangeAt Go.RowKit
set_option maxRecDepth 100000

theorem infoOp : (Tryd.prog.info? 30).map (fun i => (i.zero, i.size, i.bytes)) = some (some (.agg #[.int .i64 0, .bool false, .int .u64 0, .int .i64 0, .int .i64 0, .int .i64 0, .string ⟨#[]⟩, .slice none 0 0]), 8, 88) := by kernel_rfl

/-- The Ops that have a value. -/
def valued (os : List OpD) : List OpD := os.filter fun o => (o.enc).isSome
/-- The cells of Ops one behind the other. -/
def opCells (os : List OpD) : List Value := os.flatMap OpD.list
theorem opCells_length : ∀ os, (opCells os).length = os.length * 8
  | [] => rfl
  | o :: r => by
    have := opCells_length r
    simp only [opCells, List.flatMap_cons, List.length_append, List.length_cons] at this ⊢
    rw [this]
    simp [OpD.list]
    omega

/-- The first loop: k Ops done; the Writer in block b; 'put' owns a row of its own. -/
def PutAt (os : List OpD) (b : Nat) (w : World) (v i : Value) (wr : World) : Prop :=
  ∃ (k : Nat) (r : Option Nat), k ≤ os.length ∧ i = .int .i64 k ∧ Since w.heap.size w wr ∧ Wr b r (encs (os.take k)) wr ∧ (∀ g, r = some g → w.heap.size ≤ g) ∧
    wr.ownsRowF 0 30 8 v (valued (os.take k)).length (opCells (valued (os.take k))) ∧ (∀ g, v.ownBlock = some g → w.heap.size ≤ g ∧ g ≠ b ∧ some g ≠ r)

theorem encs_take_succ {os : List OpD} {k : Nat} {o : OpD} (h : os[k]? = some o) : encs (os.take (k + 1)) = encs (os.take k) ++ (o.enc).getD [] := by
  rw [List.take_add_one, h, encs_append]
  simp [encs]
theorem encs_take_le (os : List OpD) (k : Nat) : (encs (os.take k)).length ≤ (encs os).length := by
  conv => rhs; rw [← List.take_append_drop k os]
  rw [encs_append, List.length_append]
  omega
theorem valued_none {os : List OpD} {k : Nat} {o : OpD} (h : os[k]? = some o) (hy : o.enc = none) : valued (os.take (k + 1)) = valued (os.take k) := by
  rw [List.take_add_one, h]
  simp [valued, hy]
theorem valued_some {os : List OpD} {k : Nat} {o : OpD} {y : List UInt8} (h : os[k]? = some o) (hy : o.enc = some y) : valued (os.take (k + 1)) = valued (os.take k) ++ [o] := by
  rw [List.take_add_one, h]
  simp [valued, hy]
theorem valued_le (os : List OpD) (k : Nat) : (valued (os.take k)).length ≤ k := by
  have h1 : (valued (os.take k)).length ≤ (os.take k).length := List.length_filter_le _ _
  rw [List.length_take] at h1
  omega
theorem opCells_append (l m : List OpD) : opCells (l ++ m) = opCells l ++ opCells m := by simp [opCells]

/-- An Op without a value: nothing is written. -/
theorem PutAt.skip {os : List OpD} {b k : Nat} {r : Option Nat} {o : OpD} {w wr W W3 : World} {v : Value} (hlt : k < os.length) (ho : os[k]? = some o) (hy : o.enc = none) (hB : w.heap.size ≤ b) (hS : Since w.heap.size w wr)
    (hr : ∀ g, r = some g → w.heap.size ≤ g) (hown : wr.ownsRowF 0 30 8 v (valued (os.take k)).length (opCells (valued (os.take k)))) (hvb : ∀ g, v.ownBlock = some g → w.heap.size ≤ g ∧ g ≠ b ∧ some g ≠ r)
    (k1 : Keeps (fun _ => False) wr W) (h3 : Wrote b r (encs (os.take k)) W W3) : PutAt os b w v (.int .i64 ((k + 1 : Nat) : Int)) W3 := by
  obtain ⟨r3, hw3, k3⟩ := h3
  have h0 := hS.size
  have h1 := k1.size
  refine ⟨k + 1, r3, by omega, rfl, Kept.since (hS.step k1 (fun _ h => h.elim)) k3 hB hr, by rw [encs_take_succ ho, hy]; simpa using hw3, Kept.row k3 (by omega) hr, ?_, fun g hg => ?_⟩
  · rw [valued_none ho hy]
    exact ownsRowF_kept (ownsRowF_kept hown k1 (fun _ _ h => h)) k3.keeps (fun g hg h => by have := hvb g hg; rcases h with h | h; exact this.2.1 h; exact this.2.2 h)
  · obtain ⟨q1, q2, q3⟩ := hvb g hg
    have hgl := ownsRowF_lt hown hg
    refine ⟨q1, q2, fun e => ?_⟩
    rcases k3.later with e2 | ⟨g2, e2, hge⟩
    · exact q3 (by rw [e, e2])
    · rw [e2] at e; injection e with e; omega

/-- An Op with a value: it is written, and put behind the others. -/
theorem PutAt.more {os : List OpD} {b k : Nat} {r : Option Nat} {o : OpD} {y : List UInt8} {w wr W W3 W4 W5 : World} {v v' : Value} (hlt : k < os.length) (ho : os[k]? = some o) (hy : o.enc = some y) (hB : w.heap.size ≤ b) (hS : Since w.heap.size w wr)
    (hr : ∀ g, r = some g → w.heap.size ≤ g) (hown : wr.ownsRowF 0 30 8 v (valued (os.take k)).length (opCells (valued (os.take k)))) (hvb : ∀ g, v.ownBlock = some g → w.heap.size ≤ g ∧ g ≠ b ∧ some g ≠ r)
    (k1 : Keeps (fun _ => False) wr W) {r3 : Option Nat} (hw3 : Wr b r3 (encs (os.take k) ++ y) W3) (k3 : Kept b r r3 W W3) (k4 : Keeps (fun _ => False) W3 W4) (hg : W4.grownBy W5 v.ownBlock) (hl : Later W4 v.ownBlock v'.ownBlock)
    (hown' : W5.ownsRowF 0 30 8 v' ((valued (os.take k)).length + 1) (opCells (valued (os.take k)) ++ o.list)) : PutAt os b w v' (.int .i64 ((k + 1 : Nat) : Int)) W5 := by
  have h0 := hS.size
  have h1 := k1.size
  have h2 := k3.keeps.size
  have h3 := k4.size
  have hS3 : Since w.heap.size w W3 := Kept.since (hS.step k1 (fun _ h => h.elim)) k3 hB hr
  have hS4 := hS3.step k4 (fun _ h => h.elim)
  have hr3 := Kept.row k3 (by omega) hr
  have kG : Keeps (fun g => v.ownBlock = some g) W4 W5 := (Keeps.refl _ _).grown hg (fun g _ e => e.symm)
  have hrl : ∀ g, r3 = some g → g < W3.heap.size := fun g e => hw3.rlt e
  have hvr3 : ∀ g, v.ownBlock = some g → some g ≠ r3 := fun g e e3 => by
    obtain ⟨q1, q2, q3⟩ := hvb g e
    have hgl := ownsRowF_lt hown e
    rcases k3.later with e2 | ⟨g2, e2, hge⟩
    · exact q3 (by rw [e3, e2])
    · rw [e2] at e3; injection e3 with e3; omega
  refine ⟨k + 1, r3, by omega, rfl, hS4.step kG (fun g e => (hvb g e).1), ?_, hr3, ?_, fun g hg' => ?_⟩
  · rw [encs_take_succ ho, hy]
    exact (hw3.kept k4 (fun h => h) (fun _ _ h => h)).kept kG (fun e => (hvb b e).2.1 rfl) (fun g e e2 => hvr3 g e2 e.symm)
  · rw [valued_some ho hy, opCells_append, List.length_append]
    simpa [opCells] using hown'
  · rcases hl with e | ⟨g2, e, hge⟩
    · rw [e] at hg'
      exact ⟨(hvb g hg').1, (hvb g hg').2.1, hvr3 g hg'⟩
    · rw [e] at hg'
      injection hg' with hg'
      have := hw3.lt
      have h5 : ∀ g, r3 = .some g → g ≠ g2 := fun g e => by have := hrl g e; omega
      exact ⟨by omega, by omega, fun e3 => h5 g e3.symm hg'.symm⟩

theorem encs_valued : ∀ os, encs (valued os) = encs os
  | [] => rfl
  | o :: r => by
    have := encs_valued r
    unfold valued at this ⊢
    cases hy : o.enc with
    | none => simp [List.filter_cons, hy, encs, this]
    | some y => simp [List.filter_cons, hy, encs, this]
theorem opCells_get : ∀ {ps : List OpD} {k : Nat} {o : OpD} {j : Nat} {u : Value}, ps[k]? = some o → o.list[j]? = some u → (opCells ps)[k * 8 + j]? = some u
  | [], k, o, j, u, h, _ => by simp at h
  | q :: r, 0, o, j, u, h, hu => by
    simp at h
    subst h
    have hj : j < q.list.length := (List.getElem?_eq_some_iff.1 hu).1
    simp only [opCells, List.flatMap_cons, Nat.zero_mul, Nat.zero_add]
    rw [List.getElem?_append_left hj]
    exact hu
  | q :: r, k + 1, o, j, u, h, hu => by
    have hl : q.list.length = 8 := rfl
    have h1 := opCells_get (ps := r) (k := k) (by simpa using h) hu
    simp only [opCells, List.flatMap_cons] at h1 ⊢
    rw [List.getElem?_append_right (by omega), hl, show (k + 1) * 8 + j - 8 = k * 8 + j by omega]
    exact h1
theorem encs_split {ps : List OpD} {k : Nat} {o : OpD} {y : List UInt8} (h : ps[k]? = some o) (hy : o.enc = some y) : (encs ps).drop (encs (ps.take k)).length = y ++ encs (ps.drop (k + 1)) := by
  have hk := (List.getElem?_eq_some_iff.1 h).1
  have ho : ps[k] = o := (List.getElem?_eq_some_iff.1 h).2
  have e : encs ps = encs (ps.take k) ++ (y ++ encs (ps.drop (k + 1))) := by
    conv => lhs; rw [← List.take_append_drop k ps, List.drop_eq_getElem_cons hk, ho]
    rw [encs_append]
    simp [encs, hy]
  rw [e, List.drop_left]
theorem own_shape {W : World} {v : Value} {n : Nat} {xs : List Value} (h : W.ownsRowF 0 30 8 v n xs) :
    ∃ a cap gv, v = .slice a n cap ∧ (0 < n → a = some ⟨gv, 0, none⟩ ∧ v.ownBlock = some gv ∧ ∀ (j : Nat) (u : Value), xs[j]? = some u → W.cell? ⟨gv, j, none⟩ = some u) := by
  rcases h.2 with ⟨rfl, rfl⟩ | ⟨g, cap, cur, fz, rfl, _⟩
  · exact ⟨none, 0, 0, rfl, fun h => absurd h (by omega)⟩
  · refine ⟨_, cap, g, rfl, fun _ => ⟨rfl, rfl, fun j u hj => ?_⟩⟩
    have h1 := h.cells (g := g) rfl j u hj
    rw [add_plain, Nat.zero_add] at h1
    exact h1

/-- The second loop: k values read. -/
def BackAt (ps : List OpD) (b : Nat) (s : ByteArray) (w : World) (i : Value) (wr : World) : Prop :=
  ∃ k : Nat, k ≤ ps.length ∧ i = .int .i64 k ∧ Moved b s (encs (ps.take k)).length w wr

set_option maxHeartbeats 1600000 in
theorem back_any (ad : Nat → Addr) (v : Value) (g off : Nat) (os : List OpD) (w : World) (hE : Errs ad w) (hs : Script w v g off os) :
    Calls Tryd.prog 5 #[v] w fun e w' => e = .returned (.bool true) ∧ Keeps (fun _ => False) w w' := by
  obtain ⟨i0, hi, hz0, hz1, hz2⟩ := info_parts infoOp
  obtain ⟨a, cap, rfl, ha⟩ := hs.val
  have hle := hs.le
  have HS := Lib.hid hs
  have HE := Lib.hid hE
  clear hs ha
  go_enter Tryd.func5, Tryd.ntmps5
  go_wp2_with fail
  refine (fixed_any ad w HE.out).mono ?_
  rintro e W1 ⟨rfl, k1⟩
  go_wp2_with fail
  refine (wnew_any W1).mono ?_
  rintro e W2 ⟨rfl, h2, k2, s2⟩
  have hb1 := k1.size
  have S2 : Since w.heap.size w W2 := (k1.trans k2 (fun _ _ h => h)).mono (fun _ _ h => h.elim)
  have S2' := Lib.hid S2
  generalize W1.heap.size = b at *
  clear k1 k2 S2 hE
  go_wp2
  go_loopw [4, 18] (fun v i wr => PutAt os b w v i wr) (fun _ i _ => os.length - (intOf i).toNat)
  case atStart => exact ⟨0, none, Nat.zero_le _, rfl, S2'.out, by simpa [encs] using h2, (fun g h => by cases h), World.ownsRowF_nil _ _ _ _, (fun g h => by simp [Value.ownBlock] at h)⟩
  case round =>
    obtain ⟨k, r, hk, rfl, hS, hw, hr, hown, hvb⟩ := hrel
    by_cases hlt : k < os.length
    · obtain ⟨o, cap', hok, hv⟩ := HS.out.elem hlt
      injection hv with hv q1 q2
      clear q1 q2
      subst hv
      have hc := HS.out.cells k o hok
      obtain ⟨oOk, oSm, g', g0, hst⟩ := HS.out.each k o hok
      have hcell : ∀ (j : Nat) (u : Value), o.list[j]? = some u → wr.cell? ⟨g, off + k * 8 + j, none⟩ = some u := fun j u hj => by
        have h1 := hc j u hj
        have h2 := World.block_lt_of_cell? w _ h1
        rw [hS.cell h2 (fun e => by simp only at e h2; omega)]
        exact h1
      have hlen : (encs (os.take k)).length ≤ 70368744177664 := by have := encs_take_le os k; have := HS.out.sum; omega
      have hvl := valued_le os k
      have hstW := hst.since hS (Nat.le_refl _)
      have hd : o.ss ≠ [] → g' ≠ b ∧ some g' ≠ r := fun hne => ⟨fun e => by have := hst.lt hne; omega, fun e => by have := hst.lt hne; have := hr g' e.symm; omega⟩
      have H0 := Lib.hid (fun (hy : o.enc = none) (W : World) (k1 : Keeps (fun _ => False) wr W) => write_0 b r (encs (os.take k)) o W (hw.kept k1 (fun h => h) (fun _ _ h => h)) (o.enc_none hy))
      have H1 := Lib.hid (fun (y : List UInt8) (hy : o.enc = some y) (W : World) (k1 : Keeps (fun _ => False) wr W) => write_any b r (encs (os.take k)) o W y (hw.kept k1 (fun h => h) (fun _ _ h => h)) oOk oSm hy g' g0 (hstW.kept k1 (fun _ h => h)) hd hlen)
      have P0 := Lib.hid (fun (hy : o.enc = none) (W W3 : World) (k1 : Keeps (fun _ => False) wr W) (h3 : Wrote b r (encs (os.take k)) W W3) => PutAt.skip hlt hok hy hb1 hS hr hown hvb k1 h3)
      have P1 := Lib.hid (fun (y : List UInt8) (hy : o.enc = some y) (W W3 W4 W5 : World) (v' : Value) (k1 : Keeps (fun _ => False) wr W) (r3 : Option Nat) (hw3 : Wr b r3 (encs (os.take k) ++ y) W3) (k3 : Kept b r r3 W W3) (k4 : Keeps (fun _ => False) W3 W4) (hg : W4.grownBy W5 _) (hl : Later W4 _ v'.ownBlock) (hown' : W5.ownsRowF 0 30 8 v' _ _) => PutAt.more hlt hok hy hb1 hS hr hown hvb k1 hw3 k3 k4 hg hl hown')
      have Own := Lib.hid (fun (W W3 : World) (k1 : Keeps (fun _ => False) wr W) (r3 : Option Nat) (k3 : Kept b r r3 W W3) => (ownsRowF_kept (ownsRowF_kept hown k1 (fun _ _ h => h)) k3.keeps (fun g hg h => by have := hvb g hg; rcases h with h | h; exact this.2.1 h; exact this.2.2 h)))
      have HB := Lib.hid (fun g (hg : some g = r) => hw.rlt hg.symm)
      have hwb := hw.lt
      have hone : o.v.oneCell' = true := by obtain ⟨ta, tc, e, _⟩ := hst.val; rw [e]; rfl
      have hone8 : o.list.toArray.all (·.oneCell') = true := by simp only [OpD.list, List.all_toArray, List.all_cons, List.all_nil, hone]; rfl
      have Hone := Lib.hid hone8
      have Hen := Lib.hid (fun (h0 : o.enc = none → False) => Option.ne_none_iff_exists'.1 (fun e => h0 e))
      clear hstW hd hc hst oOk oSm hown hvb hr hw hS hone hone8 hlen
      obtain ⟨kind, sec, u, i, nn, m, s, tv, ss⟩ := o
      have c0 : wr.cell? ⟨g, off + k * 8, none⟩ = some (.int .i64 kind) := hcell 0 _ rfl
      have c1 := hcell 1 (.bool sec) rfl
      have c2 := hcell 2 (.int .u64 u) rfl
      have c3 := hcell 3 (.int .i64 i) rfl
      have c4 := hcell 4 (.int .i64 nn) rfl
      have c5 := hcell 5 (.int .i64 m) rfl
      have c6 := hcell 6 (.string s) rfl
      have c7 := hcell 7 tv rfl
      have cbox : ∀ C t j, (wr.alloc (.cells C t)).cell? ⟨wr.heap.size, j, none⟩ = C[j]? := fun C t j => cell_of_row _ _ _ _ _ _ (heap_alloc_new wr _)
      have hk0 : ∀ o, Keeps (fun _ => False) wr (wr.alloc o) := fun o => (Keeps.refl _ _).alloc o
      have hs0 : ∀ o, wr.heap.size < (wr.alloc o).heap.size := fun o => by simp
      have hk0' := Lib.hid hk0
      have hs0' := Lib.hid hs0
      clear hcell hok hk0 hs0
      go_wp2_with (refine wpList_store_row _ rfl 30 _ _ rfl wr.heap.size _ _ 30 rfl rfl (heap_alloc_new wr _) (by kernel_rfl) rfl Hone.out ?_; rw [World.setRow_alloc_new])
      generalize hW : wr.alloc _ = W
      have hcW : ∀ j, W.cell? ⟨wr.heap.size, j, none⟩ = (#[Value.int .i64 kind, .bool sec, .int .u64 u, .int .i64 i, .int .i64 nn, .int .i64 m, .string s, tv] : Array Value)[j]? := fun j => by rw [← hW, cbox]
      have hcW' := Lib.hid hcW
      have hKW := Lib.hid (hW ▸ hk0'.out _)
      have hSW := (hW ▸ hs0'.out _ : wr.heap.size < W.heap.size)
      clear cbox hk0' hs0' hW c0 c1 c2 c3 c4 c5 c6 c7 hcW
      cases hy : OpD.enc ⟨kind, sec, u, i, nn, m, s, tv, ss⟩ with
      | none =>
        refine (H0.out hy W hKW.out).mono ?_
        rintro e W3 ⟨rfl, h3⟩
        have fin := Lib.hid (P0.out hy W W3 hKW.out h3)
        clear h3 hy H0 H1 P1
        go_wp2
        go_roundw
        case rel => exact fin.out
        case measure => simp [intOf]; omega
      | some y =>
        refine (H1.out y hy W hKW.out).mono ?_
        rintro e W3 ⟨rfl, ⟨r3, hw3, k3⟩⟩
        have hB3 : ∀ j, W3.cell? ⟨wr.heap.size, j, none⟩ = (#[Value.int .i64 kind, .bool sec, .int .u64 u, .int .i64 i, .int .i64 nn, .int .i64 m, .string s, tv] : Array Value)[j]? := fun j => (k3.keeps.cell (by simp only; omega) (fun e => by rcases e with e | e; simp only at e; omega; have := HB.out _ e; simp only at this; omega)).trans (hcW'.out j)
        have c0 := hB3 0; have c1 := hB3 1; have c2 := hB3 2; have c3 := hB3 3; have c4 := hB3 4; have c5 := hB3 5; have c6 := hB3 6; have c7 := hB3 7
        have Fin := Lib.hid (P1.out y hy W W3)
        have K3 := Lib.hid k3
        have W3r := Lib.hid hw3
        have own3 := Own.out W W3 hKW.out r3 k3
        clear hB3 k3 hw3 hy H0 H1 P0 P1
        go_wp2_with (at_builtin; refine wpList_append_cellsF _ rfl _ _ 22 rfl 30 i0 _ 8 88 Tryd.underlying22 hi hz0 hz1 hz2 rfl (by decide) _ _ _ rfl (ownsRowF_kept own3 ((Keeps.refl (fun _ => False) _).alloc _) (fun _ _ h => h)) ⟨W3.heap.size, 0, none⟩ 1 1 [.int .i64 kind, .bool sec, .int .u64 u, .int .i64 i, .int .i64 nn, .int .i64 m, .string s, tv] rfl rfl ?c1 ?c2 ?c3 ?c4 ?_)
        case c1 =>
          intro j u' hj
          rw [add_plain, Nat.zero_add]
          exact (cell_of_row _ _ _ _ _ _ (heap_alloc_new W3 _)).trans (by simpa using hj)
        case c2 =>
          intro u' hu
          have q := Hone.out
          simp only [OpD.list, List.all_toArray, List.all_eq_true] at q
          exact q u' hu
        case c3 => unfold maxLen; omega
        case c4 => omega
        intro v' W5 hown' hgrow hlater _
        have fin := Lib.hid (Fin.out _ W5 v' hKW.out r3 W3r.out K3.out ((Keeps.refl _ _).alloc _) hgrow hlater hown')
        clear hown' hgrow hlater own3 c0 c1 c2 c3 c4 c5 c6 c7
        go_wp2
        go_roundw
        case rel => exact fin.out
        case measure => simp [intOf]; omega
    · obtain rfl : k = os.length := by omega
      rw [List.take_length] at hw hown
      have hsum := HS.out.sum
      have Hps := Lib.hid (fun (j : Nat) (o : OpD) (h : (valued os)[j]? = some o) => show o.Ok ∧ o.Small ∧ (∃ y, o.enc = some y) ∧ ∃ g' g0, Strs w o.v g' g0 o.ss from by
        have hm := List.mem_of_getElem? h
        unfold valued at hm
        rw [List.mem_filter] at hm
        obtain ⟨n, hn⟩ := List.mem_iff_getElem?.1 hm.1
        obtain ⟨q1, q2, q3⟩ := HS.out.each n o hn
        exact ⟨q1, q2, Option.isSome_iff_exists.1 hm.2, q3⟩)
      have hpl := valued_le os os.length
      rw [List.take_length] at hpl
      have hev := encs_valued os
      have hps0 : valued os = [] → True := fun _ => trivial
      generalize valued os = ps at *
      have Hev := Lib.hid hev
      obtain ⟨pa, pcap, gv, rfl, hsh⟩ := own_shape hown
      have Hsh := Lib.hid hsh
      have Hown := Lib.hid hown
      have Hvb := Lib.hid hvb
      have Hr := Lib.hid hr
      have HSr := Lib.hid hS
      have hsw := hS.size
      have hwl := hw.lt
      clear HS hev hps0 hown hvb hr hS hsh h2 S2' hlt
      go_wp2_with fail
      refine (wout_any b r (encs os) wr hw).mono ?_
      rintro e W4 ⟨rfl, h4, k4⟩
      have S4 := HSr.out.step k4 (fun i e => Hr.out i e.symm)
      have K4 := Lib.hid k4
      have H4 := Lib.hid h4
      have S4' := Lib.hid S4
      have hs4 := k4.size
      clear k4 h4 S4 hw
      go_wp2_with fail
      have hSz : (⟨(encs os).toArray⟩ : ByteArray).size = (encs os).length := rfl
      have hSr : rest (⟨(encs os).toArray⟩ : ByteArray) 0 = encs os := by simp [rest]
      have hSd : (⟨(encs os).toArray⟩ : ByteArray).data.toList = encs os := rfl
      generalize (⟨(encs os).toArray⟩ : ByteArray) = S at *
      have HSd := Lib.hid hSd
      clear hSr hSd
      refine (rread_any S W4 (by omega)).mono ?_
      rintro e W5 ⟨rfl, h5, k5⟩
      have S5 := Lib.hid (S4'.out.step k5 (fun i e => e.elim))
      have H5 := Lib.hid h5
      have K5 := Lib.hid k5
      have hs5 := k5.size
      have h5lt := h5.lt
      clear k5 h5 S4'
      go_wp2_with fail
      refine (wlen_any b r _ W5 (H4.out.kept K5.out (fun h => h) (fun _ _ h => h))).mono ?_
      rintro e W6 ⟨rfl, rfl⟩
      go_wp2
      have Hi := Lib.hid hi
      have hpb : ps.length ≤ 1048576 := by omega
      clear hi hz0 hz1 hz2 hpl hle hk
      go_loopw [45] (fun i wr => BackAt ps W4.heap.size S W5 i wr) (fun i _ => ps.length - (intOf i).toNat)
      case atStart => exact ⟨0, Nat.zero_le _, rfl, by simpa [encs] using (⟨H5.out, Keeps.refl _ _⟩ : Moved W4.heap.size S 0 W5 W5)⟩
      case round =>
        obtain ⟨k, hk, rfl, hm⟩ := hrel
        by_cases hlt : k < ps.length
        · obtain ⟨hpa, hpo, hpc⟩ := Hsh.out (by omega)
          subst hpa
          obtain ⟨o, hok⟩ : ∃ o, ps[k]? = some o := ⟨_, List.getElem?_eq_getElem hlt⟩
          obtain ⟨oOk, oSm, ⟨y, hy⟩, g', g0, hst⟩ := Hps.out k o hok
          obtain ⟨hg1, hg2, hg3⟩ := Hvb.out gv hpo
          have hgl := ownsRowF_lt Hown.out hpo
          have hcell : ∀ (j : Nat) (u : Value), o.list[j]? = some u → wr.cell? ⟨gv, k * 8 + j, none⟩ = some u := fun j u hj => by
            have h1 := hpc _ u (opCells_get hok hj)
            rw [hm.keeps.cell (by simp only; omega) (fun e => by simp only at e; omega), K5.out.cell (by simp only; omega) (fun e => e), K4.out.cell (by simp only; omega) (fun e => hg3 (by simpa using e))]
            exact h1
          have hMe := S5.out
          have hSk := Since.step S5.out hm.keeps (fun i e => by omega)
          have hEk := HE.out.since (Nat.le_refl _) hSk
          have hOk := OffErrs.of_ge HE.out (S := fun k => k = W4.heap.size) (fun k e => by omega)
          have hTk := hst.since hSk (Nat.le_refl _)
          have hgb : o.ss ≠ [] → g' ≠ W4.heap.size := fun hne e => by have := hst.lt hne; omega
          have hrest : rest S (encs (ps.take k)).length = y ++ encs (ps.drop (k + 1)) := by unfold rest; rw [HSd.out, ← Hev.out]; exact encs_split hok hy
          have H1 := Lib.hid (fun (W : World) (k1 : Keeps (fun _ => False) wr W) => reads_any ad W4.heap.size S _ o W y _ (hm.rd.kept k1 (fun h => h)) (hEk.kept k1 (OffErrs.none ad)) hOk oOk oSm hy hrest (by omega) g' g0 (hTk.kept k1 (fun _ h => h)) hgb)
          have P1 := Lib.hid (fun (W W3 : World) (k1 : Keeps (fun _ => False) wr W) (h3 : Moved W4.heap.size S ((encs (ps.take k)).length + y.length) W W3) => show BackAt ps W4.heap.size S W5 (.int .i64 ((k + 1 : Nat) : Int)) W3 from
            ⟨k + 1, by omega, rfl, by rw [encs_take_succ hok, hy, List.length_append]; exact (hm.quiet k1).trans h3⟩)
          have hone : o.v.oneCell' = true := by obtain ⟨ta, tc, e, _⟩ := hst.val; rw [e]; rfl
          have hone8 : o.list.toArray.all (·.oneCell') = true := by simp only [OpD.list, List.all_toArray, List.all_cons, List.all_nil, hone]; rfl
          have Hone := Lib.hid hone8
          clear hm hok oOk oSm hst hpc hMe hSk hEk hOk hTk hgb hrest hone hone8 hy
          obtain ⟨kind, sec, u, i, nn, m, s, tv, ss⟩ := o
          have c0 : wr.cell? ⟨gv, k * 8, none⟩ = some (.int .i64 kind) := hcell 0 _ rfl
          have c1 := hcell 1 (.bool sec) rfl
          have c2 := hcell 2 (.int .u64 u) rfl
          have c3 := hcell 3 (.int .i64 i) rfl
          have c4 := hcell 4 (.int .i64 nn) rfl
          have c5 := hcell 5 (.int .i64 m) rfl
          have c6 := hcell 6 (.string s) rfl
          have c7 := hcell 7 tv rfl
          have cbox : ∀ C t j, (wr.alloc (.cells C t)).cell? ⟨wr.heap.size, j, none⟩ = C[j]? := fun C t j => cell_of_row _ _ _ _ _ _ (heap_alloc_new wr _)
          have hk0' := Lib.hid (fun o => (Keeps.refl (fun _ => False) wr).alloc o)
          have hi := Hi.out
          clear hcell
          go_wp2_with (refine wpList_store_row _ rfl 30 _ _ rfl wr.heap.size _ _ 30 rfl rfl (heap_alloc_new wr _) (by kernel_rfl) rfl Hone.out ?_; rw [World.setRow_alloc_new])
          generalize hW : wr.alloc _ = W
          have hKW := Lib.hid (hW ▸ hk0'.out _)
          clear cbox hk0' hW c0 c1 c2 c3 c4 c5 c6 c7
          refine (H1.out W hKW.out).mono ?_
          rintro e W3 ⟨rfl, h3⟩
          have fin := Lib.hid (P1.out W W3 hKW.out h3)
          clear h3 H1 P1
          go_wp2
          go_roundw
          case rel => exact fin.out
          case measure => simp [intOf]; omega
        · obtain rfl : k = ps.length := by omega
          rw [List.take_length, Hev.out, ← hSz] at hm
          have hSk := Since.step S5.out hm.keeps (fun i e => by omega)
          have hEk := HE.out.since (Nat.le_refl _) hSk
          have HSk := Lib.hid hSk
          have hrd := hm.rd
          clear hm hSk hk hlt
          go_wp2_with fail
          have q := rdone_any ad W4.heap.size S S.size wr hrd hEk
          rw [if_neg (Nat.lt_irrefl _), errV_zero] at q
          refine q.mono ?_
          clear q hEk
          rintro e W7 ⟨rfl, n7, rfl⟩
          go_wp2_with fail
          refine (rleft_any _ _ _ _ (hrd.drewN n7)).mono ?_
          rintro e W8 ⟨rfl, n8, rfl⟩
          go_wp2_with fail
          refine (rat_any _ _ _ _ (hrd.drewN (n7 + n8))).mono ?_
          rintro e W9 ⟨rfl, rfl⟩
          go_wp2
          go_ret
          exact ⟨rfl, Keeps.fresh (HSk.out.drewN (n7 + n8))⟩
end Go.Proofs.YtilhkbohemghlaaDoor
