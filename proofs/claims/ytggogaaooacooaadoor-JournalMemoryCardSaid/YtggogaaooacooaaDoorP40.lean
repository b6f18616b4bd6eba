/-
  The contract of journal.Each once more: whatever else turns, its function goes over just the records that were told then.
  'make([]byte, n)', of at most 65536.
  The remainder of an int taken as a uint.
-/
import Derived.Test.YtggogaaooacooaaDoorP11
import Derived.Test.YtggogaaooacooaaDoorP39
import Derived.Test.YtggogaaooacooaaDoorP22
import Derived.Test.YtggogaaooacooaaDoorP04
import Derived.IntWalk
namespace Go.Proofs.YtggogaaooacooaaDoor
open Go.RowKit Go.Shelf
attribute [local go_sem] Oper.semAt_some
set_option maxRecDepth 100000

/-- A function over just these, in every world in which the blocks from B on lie as they lay. -/
def EachW (B : Nat) (w : World) (fv : Value) (l : List (List UInt8)) : Prop :=
  ∃ gf lb, fv = .func (.func gf) #[] lb ∧ (∀ args W, (callFunc gf args).run Tryd.prog W = .ok (.enter gf args) W) ∧
    ∀ n, 1 ≤ n → ∀ W, Keeps (fun k => k < B) w W → SeqStopsK Fence.wide n Tryd.prog gf lb encT (Below w.heap.size) (fun ys => ys = enumT l) (fun pre => pre <+: enumT l) l.length W
theorem EachW.eachV {B : Nat} {w : World} {fv : Value} {l : List (List UInt8)} (h : EachW B w fv l) : EachV w fv l := by
  obtain ⟨gf, lb, e, h1, h2⟩ := h
  exact ⟨gf, lb, e, h1, fun n hn W q => h2 n hn W (q.mono (fun _ _ e => e.elim))⟩
theorem jeach_stopsW {w0 w : World} {v : Value} {ts : List (List UInt8)} {Bs B : Nat} (hN : NewT w0 w v ts) (hl : ts.length ≤ 70000) (hBs : w.cell? ⟨Bs, 0, none⟩ = some v) (hB1 : B ≤ w0.heap.size) (hB2 : B ≤ Bs) : EachW B w (.func (.func 58) #[] #[.pointer (some ⟨Bs, 0, none⟩)]) ts := by
  have hB := World.block_lt_of_cell? w _ hBs
  refine ⟨58, _, rfl, fun args W => enters_of Tryd.func58 (by kernel_rfl) rfl args W, fun n hn W q => ?_⟩
  intro l J Jx W2 hW _ _ hY h0
  have hz := q.size
  have qc : ∀ (g k : Nat) (x : Value), g < w.heap.size → B ≤ g → w.cell? ⟨g, k, none⟩ = some x → W.cell? ⟨g, k, none⟩ = some x := fun g k x hg hge h => by
    rw [World.cell?_of_block (q.block g hg (by omega))]; exact h
  have hc' : W2.cell? ⟨Bs, 0, none⟩ = some v := (hW.cell (p := ⟨Bs, 0, none⟩) (by simp only at hB ⊢; omega)).trans (qc Bs 0 v hB hB2 hBs)
  by_cases hne : ts = []
  · subst hne
    rcases hN.own.2 with ⟨e, _⟩ | ⟨g, cap, cur, e, _⟩
    · rw [e] at hc'
      exact (jeach0_in Fence.wide n trivial rfl l Bs J W2 hc' h0).mono fun e W' ⟨he, hj⟩ => ⟨he, .inl ⟨_, rfl, hj⟩⟩
    · rw [e] at hc'
      refine (jeach1_in Fence.wide n trivial rfl hn l Bs w.heap.size g cap [] hl ?_ J Jx hY W2 hc' (fun j hj => by simp at hj) h0).mono ?_
      · exact (ownsRow_lt hN.own (by rw [e]; rfl))
      · rintro e W' ⟨he, ⟨ys, rfl, hj⟩ | ⟨pre, ⟨k, hk, rfl⟩, hj⟩⟩
        · exact ⟨he, .inl ⟨_, rfl, hj⟩⟩
        · exact ⟨he, .inr ⟨_, enumTo_prefix [] hk, hj⟩⟩
  · obtain ⟨a, c, e⟩ := hN.shape
    subst e
    have hpos : 0 < ts.length := List.length_pos_iff.2 hne
    obtain ⟨g, rfl, _⟩ := newT_cell hN (show ts[0]? = some (ts.getD 0 []) by simp [List.getD, List.getElem?_eq_getElem hpos])
    have hg := ownsRow_lt hN.own (k := g) rfl
    have hgB := hN.new g rfl
    refine (jeach1_in Fence.wide n trivial rfl hn l Bs w.heap.size g c ts hl hg J Jx hY W2 hc' (fun j hj => ?_) h0).mono ?_
    · obtain ⟨g', e, hcell⟩ := newT_cell hN (show ts[j]? = some (ts.getD j []) by simp [List.getD, List.getElem?_eq_getElem hj])
      injection e with e
      injection e with e
      subst e
      exact (hW.cell (p := ⟨g, j, none⟩) (by simp only; omega)).trans (qc g j _ hg (by omega) hcell)
    · rintro e W' ⟨he, ⟨ys, rfl, hj⟩ | ⟨pre, ⟨k, hk, rfl⟩, hj⟩⟩
      · exact ⟨he, .inl ⟨_, rfl, hj⟩⟩
      · exact ⟨he, .inr ⟨_, enumTo_prefix ts hk, hj⟩⟩

theorem jeachW_any (ad : Nat → Addr) {w : World} {b : Nat} {d : DS} {S : Nat → Prop} (hE : Errs ad w) (hT : Tab w) (h : DiskAt w b d S) (i n v : Int) (hn : n ≤ 9223372036854775807) :
    Calls Tryd.prog 31 #[.pointer (some ⟨b, 0, none⟩), .int .i64 i, .int .i64 n, .int .i64 v] w fun e w' => ∃ fv, e = .returned fv ∧ EachW w.heap.size w' fv (J.replay d i n v).1 ∧ Qt w w' := by
  have RP := jreplay_any ad hE hT h i n v hn
  have HL := Lib.hid (show (J.replay d i n v).1.length ≤ 70000 from Nat.le_trans (J.replay_len d i n v) (by decide))
  generalize J.replay d i n v = r at *
  clear hE hT h hn
  go_enter Tryd.func31, Tryd.ntmps31
  go_wp2_with fail
  refine RP.mono ?_
  rintro e w1 ⟨l, rfl, hN⟩
  obtain ⟨la, lc, rfl⟩ := hN.shape
  have HN := Lib.hid hN
  obtain ⟨ev, hev⟩ : ∃ ev, errV ad r.2 = ev := ⟨_, rfl⟩
  rw [hev]
  clear hN RP hev
  go_wp2
  go_ret
  have q2 := (Qt.refl w1).alloc (.cells #[.slice la r.1.length lc] 66)
  exact ⟨_, rfl, jeach_stopsW (HN.out.quiet q2) HL.out (by rw [cell_of_row _ _ _ _ _ _ (heap_alloc_new w1 (.cells #[.slice la r.1.length lc] 66))]; rfl) (Nat.le_refl _) HN.out.qt.size, Qt.trans HN.out.qt q2⟩
theorem dk_eachW {ad : Nat → Addr} {w0 w : World} {G : Nat → Prop} {b : Nat} {d : DS} (hE : Errs ad w0) (hT : Tab w0) (h : DK G w0 w b d) (i n v : Int) (hn : n ≤ 9223372036854775807) :
    Calls Tryd.prog 31 #[.pointer (some ⟨b, 0, none⟩), .int .i64 i, .int .i64 n, .int .i64 v] w fun e w' => ∃ fv, e = .returned fv ∧ EachW w.heap.size w' fv (J.replay d i n v).1 ∧ Qt w w' := by
  obtain ⟨S, h1, h4, h6⟩ := h
  exact jeachW_any ad (errs_since hE h6) (hT.qt h6.qt) h1 i n v hn
end Go.Proofs.YtggogaaooacooaaDoor
namespace Go.Proofs.YtggogaaooacooaaDoor
open Go.RowKit Go.WideShapes
set_option maxRecDepth 100000

theorem make_zeros9 (w : World) (c : Nat) (hc : c ≤ 65536) : (Instr.makeSlice 75 (.int .i64 (c : Int)) (.int .i64 (c : Int))).run Tryd.prog w = .ok (.slice (some ⟨w.heap.size, 0, none⟩) c c) (w.alloc (.cells (madeCells #[Value.int .u8 0] c) 5)) := by
  obtain ⟨i0, hi, hz0, hz1, hz2⟩ := info_parts infoU8
  have h := run_make (P := Tryd.prog) w 75 5 i0 (.int .u8 0) Tryd.underlying75 hi hz0 .i64 .i64 c c (by omega) (by omega) (by rw [hz2]; omega) (by omega)
  rw [hz1, Nat.mul_one] at h
  exact h
end Go.Proofs.YtggogaaooacooaaDoor
namespace Go.Proofs.YtggogaaooacooaaDoor
open Go.RowKit Go.WideShapes

/-- 'uint(x) % m' of an int. -/
def modU (x : Int) (m : Nat) : Nat := (x % 18446744073709551616).toNat % m
theorem modU_wrap (x : Int) (m : Nat) (hm : 0 < m) (hm2 : m ≤ 1000000) : wrap64 ((IntKind.u64.wrap x).tmod (m : Int)) = (modU x m : Int) := by
  rw [IntKind.wrap_u64]
  unfold modU
  have h0 : 0 ≤ x % 18446744073709551616 := by omega
  obtain ⟨y, hy⟩ := Int.eq_ofNat_of_zero_le h0
  rw [hy, Int.toNat_natCast, show ((y : Int).tmod (m : Int)) = ((y % m : Nat) : Int) from by rw [Int.tmod_eq_emod_of_nonneg (by omega)]; exact (Int.natCast_emod y m).symm]
  have := Nat.mod_lt y hm
  unfold wrap64
  omega
end Go.Proofs.YtggogaaooacooaaDoor
