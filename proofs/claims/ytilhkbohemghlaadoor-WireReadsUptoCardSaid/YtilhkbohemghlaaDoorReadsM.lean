/-
  The contract of remitlaw01.WireReads: it answers true.
-/
import Derived.Test.YtilhkbohemghlaaDoorGet7
import Derived.Test.YtilhkbohemghlaaDoorScript
import Derived.Deep.WholeRow
namespace Go.Proofs.YtilhkbohemghlaaDoor
open Go.ChangeShapes Go.WideShapes Go.ChangeAt Go.RowKit
set_option maxRecDepth 100000

/-- The law's own blocks: two Readers, two places, the list of lists. -/
structure ReadsW (ba bb bp bq bl B : Nat) (s t : ByteArray) (p q : Nat) (lv : Value) (ls : List (Value × List (List UInt8))) (w : World) : Prop where
  ra : Rd ba s p w
  rb : Rd bb t q w
  hp : w.heap[bp]? = some (.cells #[.int .i64 p] 3 (0, 0))
  hq : w.heap[bq]? = some (.cells #[.int .i64 q] 3 (0, 0))
  hl : w.heap[bl]? = some (.cells #[lv] 39 (0, 0))
  lists : Lists B lv ls w

theorem ReadsW.kept {ba bb bp bq bl B : Nat} {s t : ByteArray} {p q : Nat} {lv : Value} {ls : List (Value × List (List UInt8))} {S : Nat → Prop} {w w' : World} (h : ReadsW ba bb bp bq bl B s t p q lv ls w) (k : Keeps S w w') (hS : ∀ j, ¬ S j) : ReadsW ba bb bp bq bl B s t p q lv ls w' :=
  ⟨h.ra.kept k (hS _), h.rb.kept k (hS _), by rw [k.block bp (lt_of_block h.hp) (hS _)]; exact h.hp, by rw [k.block bq (lt_of_block h.hq) (hS _)]; exact h.hq, by rw [k.block bl (lt_of_block h.hl) (hS _)]; exact h.hl, h.lists.kept k (fun j e _ => (hS j e).elim)⟩

/-- Six blocks, one behind the other. -/
structure Six (ba bb bp bq bl B : Nat) : Prop where
  h1 : ba < bb
  h2 : bb < bp
  h3 : bp < bq
  h4 : bq < bl
  h5 : bl < B

theorem ReadsW.left {ba bb bp bq bl B p q p' : Nat} {s t : ByteArray} {lv lv' : Value} {ls ls' : List (Value × List (List UInt8))} {w w' : World} (h6 : Six ba bb bp bq bl B) (h : ReadsW ba bb bp bq bl B s t p q lv ls w) (hr : Rd ba s p' w') (hl : w'.heap[bl]? = some (.cells #[lv'] 39 (0, 0))) (hL : Lists B lv' ls' w') (k : Keeps (fun k => k = ba ∨ k = bl ∨ lv.ownBlock = some k) w w') :
    (w'.cell? ⟨bp, 0, none⟩ = some (.int .i64 p) ∧ w'.frozen? ⟨bp, 0, none⟩ = false) ∧ ReadsW ba bb bp bq bl B s t p' q lv' ls' (w'.setCell ⟨bp, 0, none⟩ (.int .i64 p')) := by
  obtain ⟨h1, h2, h3, h4, h5⟩ := h6
  have hnv := fun j (e : lv.ownBlock = some j) => h.lists.newv j e
  have hne : ∀ j, j < B → j ≠ ba → j ≠ bl → ¬ (j = ba ∨ j = bl ∨ lv.ownBlock = some j) := fun j a b c e => by
    rcases e with e | e | e
    · exact b e
    · exact c e
    · have := hnv j e; omega
  have hp : w'.heap[bp]? = some (.cells #[.int .i64 p] 3 (0, 0)) := by rw [k.block bp (lt_of_block h.hp) (hne bp (by omega) (by omega) (by omega))]; exact h.hp
  have K : Keeps (fun k => k = bp) w' (w'.setCell ⟨bp, 0, none⟩ (.int .i64 p')) := (Keeps.refl (fun k => k = bp) w').setCell (p := ⟨bp, 0, none⟩) (fun _ => rfl) _
  refine ⟨⟨by rw [Lib.cell_of_heap hp]; rfl, Lib.frozen_of_heap hp 0⟩, hr.kept K (by omega), (h.rb.kept k (hne bb (by omega) (by omega) (by omega))).kept K (by omega), ?_, ?_, ?_, hL.kept K (fun j e _ => by omega)⟩
  · rw [setCell_eq_setRow w' bp 0 _ _ (0, 0) _ hp]
    exact setRow_heap w' bp _ _ _ _ hp
  · rw [K.block bq (by have := k.size; have := lt_of_block h.hq; omega) (by omega), k.block bq (lt_of_block h.hq) (hne bq (by omega) (by omega) (by omega))]; exact h.hq
  · rw [K.block bl (lt_of_block hl) (by omega)]; exact hl

theorem ReadsW.right {ba bb bp bq bl B p q q' : Nat} {s t : ByteArray} {lv lv' : Value} {ls ls' : List (Value × List (List UInt8))} {w w' : World} (h6 : Six ba bb bp bq bl B) (h : ReadsW ba bb bp bq bl B s t p q lv ls w) (hr : Rd bb t q' w') (hl : w'.heap[bl]? = some (.cells #[lv'] 39 (0, 0))) (hL : Lists B lv' ls' w') (k : Keeps (fun k => k = bb ∨ k = bl ∨ lv.ownBlock = some k) w w') :
    (w'.cell? ⟨bq, 0, none⟩ = some (.int .i64 q) ∧ w'.frozen? ⟨bq, 0, none⟩ = false) ∧ ReadsW ba bb bp bq bl B s t p q' lv' ls' (w'.setCell ⟨bq, 0, none⟩ (.int .i64 q')) := by
  obtain ⟨h1, h2, h3, h4, h5⟩ := h6
  have hnv := fun j (e : lv.ownBlock = some j) => h.lists.newv j e
  have hne : ∀ j, j < B → j ≠ bb → j ≠ bl → ¬ (j = bb ∨ j = bl ∨ lv.ownBlock = some j) := fun j a b c e => by
    rcases e with e | e | e
    · exact b e
    · exact c e
    · have := hnv j e; omega
  have hq : w'.heap[bq]? = some (.cells #[.int .i64 q] 3 (0, 0)) := by rw [k.block bq (lt_of_block h.hq) (hne bq (by omega) (by omega) (by omega))]; exact h.hq
  have K : Keeps (fun k => k = bq) w' (w'.setCell ⟨bq, 0, none⟩ (.int .i64 q')) := (Keeps.refl (fun k => k = bq) w').setCell (p := ⟨bq, 0, none⟩) (fun _ => rfl) _
  refine ⟨⟨by rw [Lib.cell_of_heap hq]; rfl, Lib.frozen_of_heap hq 0⟩, (h.ra.kept k (hne ba (by omega) (by omega) (by omega))).kept K (by omega), hr.kept K (by omega), ?_, ?_, ?_, hL.kept K (fun j e _ => by omega)⟩
  · rw [K.block bp (by have := k.size; have := lt_of_block h.hp; omega) (by omega), k.block bp (lt_of_block h.hp) (hne bp (by omega) (by omega) (by omega))]; exact h.hp
  · rw [setCell_eq_setRow w' bq 0 _ _ (0, 0) _ hq]
    exact setRow_heap w' bq _ _ _ _ hq
  · rw [K.block bl (lt_of_block hl) (by omega)]; exact hl

/-- The loop: k Ops done. -/
def ReadsAt (os : List OpD) (ba bb bp bq bl B : Nat) (s t : ByteArray) (w : World) (i : Value) (wr : World) : Prop :=
  ∃ (k p q : Nat) (lv : Value) (ls : List (Value × List (List UInt8))), k ≤ os.length ∧ i = .int .i64 k ∧ ReadsW ba bb bp bq bl B s t p q lv ls wr ∧ Since w.heap.size w wr ∧ B ≤ wr.heap.size ∧ ls.length ≤ k ∧ (∀ x ∈ ls, x.2.length ≤ 1073741824)

set_option maxHeartbeats 6400000 in
theorem readsM_any (ad : Nat → Addr) (s t : ByteArray) (v : Value) (g off : Nat) (os : List OpD) (w : World) (hE : Errs ad w) (hs : Script w v g off os) (hs40 : s.size ≤ 1073741824) (ht40 : t.size ≤ 1073741824) :
    Calls Tryd.prog 4 #[.string s, .string t, v] w fun e w' => e = .returned (.bool true) ∧ Keeps (fun _ => False) w w' := by
  obtain ⟨a, cap, rfl, ha⟩ := hs.val
  have hle := hs.le
  have HS := Lib.hid hs
  have HE := Lib.hid hE
  clear hs ha hE
  go_enter Tryd.func4, Tryd.ntmps4
  go_wp2_with fail
  refine (fixed_any ad w HE.out).mono ?_
  rintro e W1 ⟨rfl, k1⟩
  have hz1 := k1.size
  go_wp2_with fail
  refine (rread_any s W1 (by omega)).mono ?_
  rintro e W2 ⟨rfl, h2, k2⟩
  have K2 := Lib.hid (k1.trans k2 (fun _ _ h => h))
  have H2 := Lib.hid h2
  have s2 := h2.lt
  clear k1 k2 h2
  go_wp2_with fail
  refine (rread_any t W2 (by omega)).mono ?_
  rintro e W3 ⟨rfl, h3, k3⟩
  have K3 := Lib.hid (K2.out.trans k3 (fun _ _ h => h))
  have HA3 := Lib.hid (H2.out.kept k3 (fun h => h))
  have HB3 := Lib.hid h3
  have s3 := h3.lt
  clear k3 h3 H2 K2
  go_wp2
  have hst : ReadsAt os W1.heap.size W2.heap.size W3.heap.size (W3.heap.size + 1) (W3.heap.size + 1 + 1) (W3.heap.size + 1 + 1 + 1) s t w (.int .i64 0) (((W3.alloc (Obj.cells #[Value.int IntKind.i64 0] 3)).alloc (Obj.cells #[Value.int IntKind.i64 0] 3)).alloc (Obj.cells #[Value.slice none 0 0] 39)) := by
    have e1 := heap_alloc_new W3 (Obj.cells #[Value.int IntKind.i64 0] 3)
    have e2 := heap_alloc_new (W3.alloc (Obj.cells #[Value.int IntKind.i64 0] 3)) (Obj.cells #[Value.int IntKind.i64 0] 3)
    have e3 := heap_alloc_new ((W3.alloc (Obj.cells #[Value.int IntKind.i64 0] 3)).alloc (Obj.cells #[Value.int IntKind.i64 0] 3)) (Obj.cells #[Value.slice none 0 0] 39)
    simp only [World.size_alloc] at e2 e3
    refine ⟨0, 0, 0, .slice none 0 0, [], Nat.zero_le _, rfl, ⟨((HA3.out.alloc _).alloc _).alloc _, ((HB3.out.alloc _).alloc _).alloc _, ?_, ?_, e3, Lists.nil _ _⟩, (((K3.out.alloc _).alloc _).alloc _).mono (fun _ _ h => h.elim), by simp only [World.size_alloc]; omega, Nat.le_refl _, by simp⟩
    · rw [Below.heap_alloc _ _ _ (by simp only [World.size_alloc]; omega), Below.heap_alloc _ _ _ (by simp only [World.size_alloc]; omega)]; exact e1
    · rw [Below.heap_alloc _ _ _ (by simp only [World.size_alloc]; omega)]; exact e2
  have h6 : Six W1.heap.size W2.heap.size W3.heap.size (W3.heap.size + 1) (W3.heap.size + 1 + 1) (W3.heap.size + 1 + 1 + 1) := ⟨s2, s3, by omega, by omega, by omega⟩
  have H6 := Lib.hid h6
  have hba : w.heap.size ≤ W1.heap.size := hz1
  clear HA3 HB3 K3 h6 s2 s3 hz1
  generalize W1.heap.size = ba at *
  generalize W2.heap.size = bb at *
  generalize W3.heap.size + 1 + 1 + 1 = B at *
  generalize W3.heap.size + 1 + 1 = bl at *
  generalize W3.heap.size + 1 = bq at *
  generalize W3.heap.size = bp at *
  go_loopw [35] (fun i wr => ReadsAt os ba bb bp bq bl B s t w i wr) (fun i _ => os.length - (intOf i).toNat)
  case atStart => exact hst
  case round =>
    obtain ⟨k, p, q, lv, ls, hk, rfl, hR, hS, hBw, hln, hlx⟩ := hrel
    clear hst
    by_cases hlt : k < os.length
    · obtain ⟨o, cap', hok, hv⟩ := HS.out.elem hlt
      injection hv with hv q1 q2
      clear q1 q2
      subst hv
      have hc := HS.out.cells k o hok
      obtain ⟨oOk, oSm, g', g0, hst⟩ := HS.out.each k o hok
      have hcell : ∀ (j : Nat) (u : Value), o.list[j]? = some u → wr.cell? ⟨g, off + k * 8 + j, none⟩ = some u := fun j u hj => by
        have h1 := hc j u hj
        have h2 := World.block_lt_of_cell? w _ h1
        rw [hS.cell h2 (fun e => by simp only at e h2; omega)]
        exact h1
      have hone : o.v.oneCell' = true := by obtain ⟨ta, tc, e, _⟩ := hst.val; rw [e]; rfl
      have hone8 : o.list.toArray.all (·.oneCell') = true := by simp only [OpD.list, List.all_toArray, List.all_cons, List.all_nil, hone]; rfl
      have Hone := Lib.hid hone8
      have HSr := Lib.hid hS
      have hws := hS.size
      have HR := Lib.hid hR
      have Hlx := Lib.hid hlx
      have hEr := HE.out.since (Nat.le_refl _) hS
      have hOF := Lib.hid (fun (S : Nat → Prop) (hS : ∀ i, S i → w.heap.size ≤ i) => OffErrs.of_ge HE.out (S := S) hS)
      obtain ⟨q6, q7, q8, q9, q10⟩ := H6.out
      have HgA := Lib.hid (fun (W : World) (k1 : Keeps (fun _ => False) wr W) => get_any ad ba bl B s p o W lv ls (hR.ra.kept k1 (fun h => h)) (hEr.kept k1 (OffErrs.none ad)) (hOF.out _ (fun i e => by omega)) oOk hs40 (hR.lists.kept k1 (fun _ e _ => e.elim)) (by rw [k1.block bl (lt_of_block hR.hl) (fun e => e)]; exact hR.hl) (Nat.le_trans hBw k1.size) (by omega) (by omega) (by omega) (by omega))
      have HgB := Lib.hid (fun (W : World) (k1 : Keeps (fun _ => False) wr W) => get_any ad bb bl B t q o W lv ls (hR.rb.kept k1 (fun h => h)) (hEr.kept k1 (OffErrs.none ad)) (hOF.out _ (fun i e => by omega)) oOk ht40 (hR.lists.kept k1 (fun _ e _ => e.elim)) (by rw [k1.block bl (lt_of_block hR.hl) (fun e => e)]; exact hR.hl) (Nat.le_trans hBw k1.size) (by omega) (by omega) (by omega) (by omega))
      have hcp : wr.cell? ⟨bp, 0, none⟩ = some (.int .i64 p) := by rw [Lib.cell_of_heap hR.hp]; rfl
      have hcq : wr.cell? ⟨bq, 0, none⟩ = some (.int .i64 q) := by rw [Lib.cell_of_heap hR.hq]; rfl
      have hlb : bp < wr.heap.size ∧ bq < wr.heap.size := ⟨lt_of_block hR.hp, lt_of_block hR.hq⟩
      clear hc hst hone hone8 hS hok oOk oSm hR hlx hEr
      obtain ⟨kind, sec, u, i, nn, m, os1, tv, ss⟩ := o
      have c0 : wr.cell? ⟨g, off + k * 8, none⟩ = some (.int .i64 kind) := hcell 0 _ rfl
      have c1 := hcell 1 (.bool sec) rfl
      have c2 := hcell 2 (.int .u64 u) rfl
      have c3 := hcell 3 (.int .i64 i) rfl
      have c4 := hcell 4 (.int .i64 nn) rfl
      have c5 := hcell 5 (.int .i64 m) rfl
      have c6 := hcell 6 (.string os1) rfl
      have c7 := hcell 7 tv rfl
      have cbox : ∀ C t j, (wr.alloc (.cells C t)).cell? ⟨wr.heap.size, j, none⟩ = C[j]? := fun C t j => cell_of_row _ _ _ _ _ _ (heap_alloc_new wr _)
      have hk0' := Lib.hid (fun o => (Keeps.refl (fun _ => False) wr).alloc o)
      have hs0' := Lib.hid (fun o => show wr.heap.size < (wr.alloc o).heap.size by simp)
      clear hcell
      cases sec
      · go_wp2_with (refine wpList_store_row _ rfl 30 _ _ rfl wr.heap.size _ _ 30 rfl rfl (heap_alloc_new wr _) (by kernel_rfl) rfl Hone.out ?_; rw [World.setRow_alloc_new])
        generalize hW : wr.alloc _ = W
        have hcW : ∀ j, W.cell? ⟨wr.heap.size, j, none⟩ = (#[Value.int .i64 kind, .bool false, .int .u64 u, .int .i64 i, .int .i64 nn, .int .i64 m, .string os1, tv] : Array Value)[j]? := fun j => by rw [← hW, cbox]
        have HcW := Lib.hid hcW
        have hKW := Lib.hid (hW ▸ hk0'.out _)
        have hSW := (hW ▸ hs0'.out _ : wr.heap.size < W.heap.size)
        have hcpW : W.cell? ⟨bp, 0, none⟩ = some (.int .i64 p) := (hKW.out.cell hlb.1 (fun e => e)).trans hcp
        have HcpW := Lib.hid hcpW
        clear cbox hk0' hs0' hW c0 c1 c2 c3 c4 c5 c6 c7 hcW hcp hcq hcpW
        have c0 := HcW.out 0; have c1 := HcW.out 1; have c2 := HcW.out 2; have c3 := HcW.out 3; have c4 := HcW.out 4; have c5 := HcW.out 5; have c6 := HcW.out 6; have c7 := HcW.out 7
        have hcpW := HcpW.out
        have hCb : ∀ W', Keeps (fun k => k = ba ∨ k = bl ∨ lv.ownBlock = some k) W.drew W' → ∀ j, W'.cell? ⟨wr.heap.size, j, none⟩ = (#[Value.int .i64 kind, .bool false, .int .u64 u, .int .i64 i, .int .i64 nn, .int .i64 m, .string os1, tv] : Array Value)[j]? := fun W' kk j => by
          rw [kk.cell (show wr.heap.size < W.drew.heap.size from hSW) (fun e => by
            rcases e with e | e | e
            · simp only at e; omega
            · simp only at e; omega
            · have := ownsRow_lt HR.out.lists.row e; simp only at this; omega)]
          exact HcW.out j
        have HCb := Lib.hid hCb
        have HSk := Lib.hid (fun (W' : World) (kk : Keeps (fun k => k = ba ∨ k = bl ∨ lv.ownBlock = some k) W.drew W') => show W'.cell? ⟨bp, 0, none⟩ = some (.int .i64 p) ∧ W'.cell? ⟨wr.heap.size, 0, none⟩ = some (.int .i64 kind) ∧ W'.cell? ⟨wr.heap.size, 1, none⟩ = some (.bool false) ∧ W'.cell? ⟨wr.heap.size, 2, none⟩ = some (.int .u64 u) ∧ W'.cell? ⟨wr.heap.size, 3, none⟩ = some (.int .i64 i) ∧ W'.cell? ⟨wr.heap.size, 4, none⟩ = some (.int .i64 nn) ∧ W'.cell? ⟨wr.heap.size, 5, none⟩ = some (.int .i64 m) ∧ W'.cell? ⟨wr.heap.size, 6, none⟩ = some (.string os1) ∧ W'.cell? ⟨wr.heap.size, 7, none⟩ = some tv from
          ⟨(kk.cell (show bp < W.drew.heap.size by show bp < W.heap.size; omega) (fun e => by
            rcases e with e | e | e
            · simp only at e; omega
            · simp only at e; omega
            · have := HR.out.lists.newv _ e; simp only at this; omega)).trans HcpW.out, hCb W' kk 0, hCb W' kk 1, hCb W' kk 2, hCb W' kk 3, hCb W' kk 4, hCb W' kk 5, hCb W' kk 6, hCb W' kk 7⟩)
        clear hCb
        go_region_held3 (fun W' => W'.cell? ⟨bp, 0, none⟩ = some (.int .i64 p) ∧ W'.cell? ⟨wr.heap.size, 0, none⟩ = some (.int .i64 kind) ∧ W'.cell? ⟨wr.heap.size, 1, none⟩ = some (.bool false) ∧ W'.cell? ⟨wr.heap.size, 2, none⟩ = some (.int .u64 u) ∧ W'.cell? ⟨wr.heap.size, 3, none⟩ = some (.int .i64 i) ∧ W'.cell? ⟨wr.heap.size, 4, none⟩ = some (.int .i64 nn) ∧ W'.cell? ⟨wr.heap.size, 5, none⟩ = some (.int .i64 m) ∧ W'.cell? ⟨wr.heap.size, 6, none⟩ = some (.string os1) ∧ W'.cell? ⟨wr.heap.size, 7, none⟩ = some tv)
          (first | go_keep | exact HSk.out _ k')
          ((go_at_call 15; refine (HgA.out _ hKW.out.drew).mono ?_; rintro e w' ⟨p', lv', ls', rfl, hr', hl', hL', k', hn', hx'⟩))
        obtain ⟨⟨u1, u2⟩, hR'⟩ := ReadsW.left H6.out (HR.out.kept hKW.out.drew (fun _ e => e)) hr' hl' hL' k'
        have hp' := hr'.le
        have hb0 : w'.cell? ⟨wr.heap.size, 0, none⟩ = some (.int .i64 kind) := HCb.out w' k' 0
        have hKs : Keeps (fun k => k = bp) w' (w'.setCell ⟨bp, 0, none⟩ (.int .i64 p')) := (Keeps.refl (fun k => k = bp) w').setCell (p := ⟨bp, 0, none⟩) (fun _ => rfl) _
        have hb1 : (w'.setCell ⟨bp, 0, none⟩ (.int .i64 p')).cell? ⟨wr.heap.size, 0, none⟩ = some (.int .i64 kind) := (hKs.cell (World.block_lt_of_cell? _ _ hb0) (fun e => by simp only at e; omega)).trans hb0
        have hSn : Since w.heap.size w (w'.setCell ⟨bp, 0, none⟩ (.int .i64 p')) := Since.step (Since.step (Keeps.drew (Since.step HSr.out hKW.out (fun _ e => e.elim))) k' (fun j e => by
          rcases e with e | e | e
          · omega
          · omega
          · have := HR.out.lists.newv j e; omega)) hKs (fun j e => by omega)
        have hBn : B ≤ (w'.setCell ⟨bp, 0, none⟩ (.int .i64 p')).heap.size := Nat.le_trans hBw (Nat.le_trans hKW.out.size (Nat.le_trans k'.size hKs.size))
        have HFin := Lib.hid (fun (W' : World) (q : Keeps (fun _ => False) (w'.setCell ⟨bp, 0, none⟩ (.int .i64 p')) W') => show ReadsAt os ba bb bp bq bl B s t w (.int .i64 ((k + 1 : Nat) : Int)) W' from
          ⟨k + 1, p', _, lv', ls', hlt, rfl, hR'.kept q (fun _ e => e), Since.step hSn q (fun _ e => e.elim), Nat.le_trans hBn q.size, by omega, fun x hx => by
            rcases hx' x hx with h | h
            · exact Hlx.out x h
            · omega⟩)
        have HR0 := Lib.hid hR'.ra
        have HE0 := Lib.hid (HE.out.since (Nat.le_refl _) hSn)
        clear hR' hr' hl' hL' k' hn' hx' hb0 hKs hSn hBn c0 c1 c2 c3 c4 c5 c6 c7 hcpW
        by_cases hl2 : p' < s.size
        · have hl3 : (0 : Int) < (s.size : Int) - (p' : Int) := by omega
          by_cases hk9 : kind = 9
          · subst hk9
            have hD := fun (W' : World) (h : Rd ba s p' W') (hE : Errs ad W') => rdone_any ad ba s p' W' h hE
            rw [if_pos hl2] at hD
            have HD := Lib.hid hD
            clear hD
            go_wp2_with fail
            generalize w'.setCell ⟨bp, 0, none⟩ (.int .i64 p') = WN at *
            refine (rat_any _ _ _ _ HR0.out).mono ?_
            rintro e w8 ⟨rfl, rfl⟩
            go_wp2_with fail
            refine (rleft_any _ _ _ _ HR0.out).mono ?_
            rintro e w8 ⟨rfl, n8, rfl⟩
            go_wp2_with fail
            refine (HD.out _ (HR0.out.drewN n8) (HE0.out.drewN n8)).mono ?_
            rintro e w9 ⟨rfl, n9, rfl⟩
            go_wp2_with fail
            refine (num_any ad 5 _ (HE0.out.drewN _) (by omega)).mono ?_
            rintro e w9 ⟨rfl, k9⟩
            have fin := Lib.hid (HFin.out _ (((Keeps.refl _ _).drewN _).trans k9 (fun _ _ e => e)))
            clear k9
            go_wp2
            go_roundw
            case rel => exact fin.out
            case measure => simp [intOf]; omega
          · have t9 : (kind == 9) = false := beq_eq_false_iff_ne.2 hk9
            have fin := Lib.hid (HFin.out _ (Keeps.refl _ _))
            clear hk9
            go_wp2
            go_roundw
            case rel => exact fin.out
            case measure => simp [intOf]; omega
        · have hl3 : ¬ (0 : Int) < (s.size : Int) - (p' : Int) := by omega
          by_cases hk9 : kind = 9
          · subst hk9
            have hD := fun (W' : World) (h : Rd ba s p' W') (hE : Errs ad W') => rdone_any ad ba s p' W' h hE
            rw [if_neg hl2] at hD
            have HD := Lib.hid hD
            clear hD
            go_wp2_with fail
            generalize w'.setCell ⟨bp, 0, none⟩ (.int .i64 p') = WN at *
            refine (rat_any _ _ _ _ HR0.out).mono ?_
            rintro e w8 ⟨rfl, rfl⟩
            go_wp2_with fail
            refine (rleft_any _ _ _ _ HR0.out).mono ?_
            rintro e w8 ⟨rfl, n8, rfl⟩
            go_wp2_with fail
            refine (HD.out _ (HR0.out.drewN n8) (HE0.out.drewN n8)).mono ?_
            rintro e w9 ⟨rfl, n9, rfl⟩
            go_wp2_with fail
            refine (num_any ad 0 _ (HE0.out.drewN _) (by omega)).mono ?_
            rintro e w9 ⟨rfl, k9⟩
            have fin := Lib.hid (HFin.out _ (((Keeps.refl _ _).drewN _).trans k9 (fun _ _ e => e)))
            clear k9
            go_wp2
            go_roundw
            case rel => exact fin.out
            case measure => simp [intOf]; omega
          · have t9 : (kind == 9) = false := beq_eq_false_iff_ne.2 hk9
            have fin := Lib.hid (HFin.out _ (Keeps.refl _ _))
            clear hk9
            go_wp2
            go_roundw
            case rel => exact fin.out
            case measure => simp [intOf]; omega
      · go_wp2_with (refine wpList_store_row _ rfl 30 _ _ rfl wr.heap.size _ _ 30 rfl rfl (heap_alloc_new wr _) (by kernel_rfl) rfl Hone.out ?_; rw [World.setRow_alloc_new])
        generalize hW : wr.alloc _ = W
        have hcW : ∀ j, W.cell? ⟨wr.heap.size, j, none⟩ = (#[Value.int .i64 kind, .bool true, .int .u64 u, .int .i64 i, .int .i64 nn, .int .i64 m, .string os1, tv] : Array Value)[j]? := fun j => by rw [← hW, cbox]
        have HcW := Lib.hid hcW
        have hKW := Lib.hid (hW ▸ hk0'.out _)
        have hSW := (hW ▸ hs0'.out _ : wr.heap.size < W.heap.size)
        have hcpW : W.cell? ⟨bq, 0, none⟩ = some (.int .i64 q) := (hKW.out.cell hlb.2 (fun e => e)).trans hcq
        have HcpW := Lib.hid hcpW
        clear cbox hk0' hs0' hW c0 c1 c2 c3 c4 c5 c6 c7 hcW hcp hcq hcpW
        have c0 := HcW.out 0; have c1 := HcW.out 1; have c2 := HcW.out 2; have c3 := HcW.out 3; have c4 := HcW.out 4; have c5 := HcW.out 5; have c6 := HcW.out 6; have c7 := HcW.out 7
        have hcpW := HcpW.out
        have hCb : ∀ W', Keeps (fun k => k = bb ∨ k = bl ∨ lv.ownBlock = some k) W.drew W' → ∀ j, W'.cell? ⟨wr.heap.size, j, none⟩ = (#[Value.int .i64 kind, .bool true, .int .u64 u, .int .i64 i, .int .i64 nn, .int .i64 m, .string os1, tv] : Array Value)[j]? := fun W' kk j => by
          rw [kk.cell (show wr.heap.size < W.drew.heap.size from hSW) (fun e => by
            rcases e with e | e | e
            · simp only at e; omega
            · simp only at e; omega
            · have := ownsRow_lt HR.out.lists.row e; simp only at this; omega)]
          exact HcW.out j
        have HCb := Lib.hid hCb
        have HSk := Lib.hid (fun (W' : World) (kk : Keeps (fun k => k = bb ∨ k = bl ∨ lv.ownBlock = some k) W.drew W') => show W'.cell? ⟨bq, 0, none⟩ = some (.int .i64 q) ∧ W'.cell? ⟨wr.heap.size, 0, none⟩ = some (.int .i64 kind) ∧ W'.cell? ⟨wr.heap.size, 1, none⟩ = some (.bool true) ∧ W'.cell? ⟨wr.heap.size, 2, none⟩ = some (.int .u64 u) ∧ W'.cell? ⟨wr.heap.size, 3, none⟩ = some (.int .i64 i) ∧ W'.cell? ⟨wr.heap.size, 4, none⟩ = some (.int .i64 nn) ∧ W'.cell? ⟨wr.heap.size, 5, none⟩ = some (.int .i64 m) ∧ W'.cell? ⟨wr.heap.size, 6, none⟩ = some (.string os1) ∧ W'.cell? ⟨wr.heap.size, 7, none⟩ = some tv from
          ⟨(kk.cell (show bq < W.drew.heap.size by show bq < W.heap.size; omega) (fun e => by
            rcases e with e | e | e
            · simp only at e; omega
            · simp only at e; omega
            · have := HR.out.lists.newv _ e; simp only at this; omega)).trans HcpW.out, hCb W' kk 0, hCb W' kk 1, hCb W' kk 2, hCb W' kk 3, hCb W' kk 4, hCb W' kk 5, hCb W' kk 6, hCb W' kk 7⟩)
        clear hCb
        go_region_held3 (fun W' => W'.cell? ⟨bq, 0, none⟩ = some (.int .i64 q) ∧ W'.cell? ⟨wr.heap.size, 0, none⟩ = some (.int .i64 kind) ∧ W'.cell? ⟨wr.heap.size, 1, none⟩ = some (.bool true) ∧ W'.cell? ⟨wr.heap.size, 2, none⟩ = some (.int .u64 u) ∧ W'.cell? ⟨wr.heap.size, 3, none⟩ = some (.int .i64 i) ∧ W'.cell? ⟨wr.heap.size, 4, none⟩ = some (.int .i64 nn) ∧ W'.cell? ⟨wr.heap.size, 5, none⟩ = some (.int .i64 m) ∧ W'.cell? ⟨wr.heap.size, 6, none⟩ = some (.string os1) ∧ W'.cell? ⟨wr.heap.size, 7, none⟩ = some tv)
          (first | go_keep | exact HSk.out _ k')
          ((go_at_call 15; refine (HgB.out _ hKW.out.drew).mono ?_; rintro e w' ⟨p', lv', ls', rfl, hr', hl', hL', k', hn', hx'⟩))
        obtain ⟨⟨u1, u2⟩, hR'⟩ := ReadsW.right H6.out (HR.out.kept hKW.out.drew (fun _ e => e)) hr' hl' hL' k'
        have hp' := hr'.le
        have hb0 : w'.cell? ⟨wr.heap.size, 0, none⟩ = some (.int .i64 kind) := HCb.out w' k' 0
        have hKs : Keeps (fun k => k = bq) w' (w'.setCell ⟨bq, 0, none⟩ (.int .i64 p')) := (Keeps.refl (fun k => k = bq) w').setCell (p := ⟨bq, 0, none⟩) (fun _ => rfl) _
        have hb1 : (w'.setCell ⟨bq, 0, none⟩ (.int .i64 p')).cell? ⟨wr.heap.size, 0, none⟩ = some (.int .i64 kind) := (hKs.cell (World.block_lt_of_cell? _ _ hb0) (fun e => by simp only at e; omega)).trans hb0
        have hSn : Since w.heap.size w (w'.setCell ⟨bq, 0, none⟩ (.int .i64 p')) := Since.step (Since.step (Keeps.drew (Since.step HSr.out hKW.out (fun _ e => e.elim))) k' (fun j e => by
          rcases e with e | e | e
          · omega
          · omega
          · have := HR.out.lists.newv j e; omega)) hKs (fun j e => by omega)
        have hBn : B ≤ (w'.setCell ⟨bq, 0, none⟩ (.int .i64 p')).heap.size := Nat.le_trans hBw (Nat.le_trans hKW.out.size (Nat.le_trans k'.size hKs.size))
        have HFin := Lib.hid (fun (W' : World) (q : Keeps (fun _ => False) (w'.setCell ⟨bq, 0, none⟩ (.int .i64 p')) W') => show ReadsAt os ba bb bp bq bl B s t w (.int .i64 ((k + 1 : Nat) : Int)) W' from
          ⟨k + 1, _, p', lv', ls', hlt, rfl, hR'.kept q (fun _ e => e), Since.step hSn q (fun _ e => e.elim), Nat.le_trans hBn q.size, by omega, fun x hx => by
            rcases hx' x hx with h | h
            · exact Hlx.out x h
            · omega⟩)
        have HR0 := Lib.hid hR'.rb
        have HE0 := Lib.hid (HE.out.since (Nat.le_refl _) hSn)
        clear hR' hr' hl' hL' k' hn' hx' hb0 hKs hSn hBn c0 c1 c2 c3 c4 c5 c6 c7 hcpW
        by_cases hl2 : p' < t.size
        · have hl3 : (0 : Int) < (t.size : Int) - (p' : Int) := by omega
          by_cases hk9 : kind = 9
          · subst hk9
            have hD := fun (W' : World) (h : Rd bb t p' W') (hE : Errs ad W') => rdone_any ad bb t p' W' h hE
            rw [if_pos hl2] at hD
            have HD := Lib.hid hD
            clear hD
            go_wp2_with fail
            generalize w'.setCell ⟨bq, 0, none⟩ (.int .i64 p') = WN at *
            refine (rat_any _ _ _ _ HR0.out).mono ?_
            rintro e w8 ⟨rfl, rfl⟩
            go_wp2_with fail
            refine (rleft_any _ _ _ _ HR0.out).mono ?_
            rintro e w8 ⟨rfl, n8, rfl⟩
            go_wp2_with fail
            refine (HD.out _ (HR0.out.drewN n8) (HE0.out.drewN n8)).mono ?_
            rintro e w9 ⟨rfl, n9, rfl⟩
            go_wp2_with fail
            refine (num_any ad 5 _ (HE0.out.drewN _) (by omega)).mono ?_
            rintro e w9 ⟨rfl, k9⟩
            have fin := Lib.hid (HFin.out _ (((Keeps.refl _ _).drewN _).trans k9 (fun _ _ e => e)))
            clear k9
            go_wp2
            go_roundw
            case rel => exact fin.out
            case measure => simp [intOf]; omega
          · have t9 : (kind == 9) = false := beq_eq_false_iff_ne.2 hk9
            have fin := Lib.hid (HFin.out _ (Keeps.refl _ _))
            clear hk9
            go_wp2
            go_roundw
            case rel => exact fin.out
            case measure => simp [intOf]; omega
        · have hl3 : ¬ (0 : Int) < (t.size : Int) - (p' : Int) := by omega
          by_cases hk9 : kind = 9
          · subst hk9
            have hD := fun (W' : World) (h : Rd bb t p' W') (hE : Errs ad W') => rdone_any ad bb t p' W' h hE
            rw [if_neg hl2] at hD
            have HD := Lib.hid hD
            clear hD
            go_wp2_with fail
            generalize w'.setCell ⟨bq, 0, none⟩ (.int .i64 p') = WN at *
            refine (rat_any _ _ _ _ HR0.out).mono ?_
            rintro e w8 ⟨rfl, rfl⟩
            go_wp2_with fail
            refine (rleft_any _ _ _ _ HR0.out).mono ?_
            rintro e w8 ⟨rfl, n8, rfl⟩
            go_wp2_with fail
            refine (HD.out _ (HR0.out.drewN n8) (HE0.out.drewN n8)).mono ?_
            rintro e w9 ⟨rfl, n9, rfl⟩
            go_wp2_with fail
            refine (num_any ad 0 _ (HE0.out.drewN _) (by omega)).mono ?_
            rintro e w9 ⟨rfl, k9⟩
            have fin := Lib.hid (HFin.out _ (((Keeps.refl _ _).drewN _).trans k9 (fun _ _ e => e)))
            clear k9
            go_wp2
            go_roundw
            case rel => exact fin.out
            case measure => simp [intOf]; omega
          · have t9 : (kind == 9) = false := beq_eq_false_iff_ne.2 hk9
            have fin := Lib.hid (HFin.out _ (Keeps.refl _ _))
            clear hk9
            go_wp2
            go_roundw
            case rel => exact fin.out
            case measure => simp [intOf]; omega
    · obtain rfl : k = os.length := by omega
      have HR := Lib.hid hR
      have hclv : wr.cell? ⟨bl, 0, none⟩ = some lv := by rw [Lib.cell_of_heap hR.hl]; rfl
      have HSr := Lib.hid hS
      have Hlx := Lib.hid hlx
      obtain ⟨q6, q7, q8, q9, q10⟩ := H6.out
      clear hR hS hlx hlt HS
      go_wp2_with fail
      refine (HR.out.lists.own (by omega) (fun x hx => by have := Hlx.out x hx; omega)).mono ?_
      rintro e w1 ⟨rfl, k1⟩
      have hno : ∀ j', j' < B → ¬ (∃ (j : Nat) (x : Value × List (List UInt8)), ls[j]? = some x ∧ x.1.ownBlock = some j') := fun j' hj ⟨j, x, hx, e⟩ => by
        have := HR.out.lists.new j x hx j' e; omega
      have HA1 := Lib.hid (HR.out.ra.kept k1 (hno ba (by omega)))
      have HB1 := Lib.hid (HR.out.rb.kept k1 (hno bb (by omega)))
      have hcp : w1.cell? ⟨bp, 0, none⟩ = some (.int .i64 p) := by
        have e := HR.out.hp
        rw [← k1.block bp (lt_of_block e) (hno bp (by omega))] at e
        rw [Lib.cell_of_heap e]; rfl
      have hcq : w1.cell? ⟨bq, 0, none⟩ = some (.int .i64 q) := by
        have e := HR.out.hq
        rw [← k1.block bq (lt_of_block e) (hno bq (by omega))] at e
        rw [Lib.cell_of_heap e]; rfl
      have hS1 := Lib.hid (Since.step HSr.out k1 (fun i ⟨j, x, hx, e⟩ => by have := HR.out.lists.new j x hx i e; omega))
      have hpl := HA1.out.le
      have hql := HB1.out.le
      have hsub1 : IntKind.i64.wrap ((s.size : Int) - (p : Int)) = (s.size : Int) - p := IntWalk.i64_in _ (by omega)
      have hsub2 : IntKind.i64.wrap ((t.size : Int) - (q : Int)) = (t.size : Int) - q := IntWalk.i64_in _ (by omega)
      have hAt := fun (b : Nat) (s : ByteArray) (p : Nat) (W : World) (h : Rd b s p W) => (rat_any b s p W h).mono (R' := fun (e : Ending) (w' : World) => e = .returned (.int .i64 p) ∧ ∃ n, w' = W.drewN n) (fun (e : Ending) (w' : World) h => ⟨h.1, 0, h.2⟩)
      have H1 := Lib.hid (fun n => hAt ba s p (w1.drewN n) (HA1.out.drewN n))
      have H2 := Lib.hid (fun n => hAt bb t q (w1.drewN n) (HB1.out.drewN n))
      have H3 := Lib.hid (fun n => rleft_any ba s p (w1.drewN n) (HA1.out.drewN n))
      have H4 := Lib.hid (fun n => rleft_any bb t q (w1.drewN n) (HB1.out.drewN n))
      clear hAt hno k1 hclv
      go_wp2
      go_quiet ((first | (go_at_call 16; with_reducible exact Calls.quiet_of (H1.out _)) | (go_at_call 16; with_reducible exact Calls.quiet_of (H2.out _)) | (go_at_call 17; with_reducible exact Calls.quiet_of (H3.out _)) | (go_at_call 17; with_reducible exact Calls.quiet_of (H4.out _))))
      have fin := Lib.hid (fun n => Keeps.fresh (hS1.out.drewN n))
      clear hcp hcq
      go_wp2
      go_ret
      exact ⟨rfl, fin.out _⟩
end Go.Proofs.YtilhkbohemghlaaDoor
