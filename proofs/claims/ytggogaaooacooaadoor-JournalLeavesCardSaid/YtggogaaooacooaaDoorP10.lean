/-
  Conversions: 'string([]byte{a})', 'string([]byte{a, b})'.
  The contract of Read.
  One cell appended at a step of a region that draws, in place or into a new block; a row's shape and its cells.
-/
import Derived.Test.YtggogaaooacooaaDoorP04
import Derived.Laws.BytesArg
import Derived.Laws.BytesString
import Derived.Laws.Rows
import Derived.Test.YtggogaaooacooaaDoorP09
import Derived.Test.YtggogaaooacooaaDoorP07
import Derived.Deep.RegionLaw
namespace Go.Proofs.YtggogaaooacooaaDoor
open Go.RowKit
set_option maxRecDepth 100000

/-- 'string([]byte{c})'. -/
theorem conv1 (W : World) (a : Int) : (convert 75 9 (.slice (some ⟨W.heap.size, 0, none⟩) 1 1)).run Tryd.prog (W.alloc (.cells #[.int .u8 a] 5)) = .ok (.string ⟨#[a.toNat.toUInt8]⟩) (W.alloc (.cells #[.int .u8 a] 5)) := by
  have h := run_convert_bytes_arg (P := Tryd.prog) (W.alloc (.cells #[.int .u8 a] 5)) 75 5 Tryd.underlying75 Tryd.underlying5 W.heap.size 0 1 1 [a] rfl (fun i hi => by
    have : i = 0 := by simpa using hi
    subst this
    rw [cell_of_row _ _ _ _ _ _ (heap_alloc_new W _)]; rfl) 9 Tryd.underlying9
  exact h
theorem conv1d (W : World) (a : Int) : (convert 75 9 (.slice (some ⟨W.heap.size, 0, none⟩) 1 1)).run Tryd.prog (W.alloc (.cells #[.int .u8 a] 5)).drew = .ok (.string ⟨#[a.toNat.toUInt8]⟩) (W.alloc (.cells #[.int .u8 a] 5)).drew := by
  have h := run_convert_bytes_arg (P := Tryd.prog) (W.alloc (.cells #[.int .u8 a] 5)).drew 75 5 Tryd.underlying75 Tryd.underlying5 W.heap.size 0 1 1 [a] rfl (fun i hi => by
    have : i = 0 := by simpa using hi
    subst this
    show (W.alloc (.cells #[.int .u8 a] 5)).cell? _ = _
    rw [cell_of_row _ _ _ _ _ _ (heap_alloc_new W _)]; rfl) 9 Tryd.underlying9
  exact h
/-- 'string([]byte{a, b})'. -/
theorem conv2 (W : World) (a b : Int) : (convert 75 9 (.slice (some ⟨W.heap.size, 0, none⟩) 2 2)).run Tryd.prog (W.alloc (.cells #[.int .u8 a, .int .u8 b] 5)) = .ok (.string ⟨#[a.toNat.toUInt8, b.toNat.toUInt8]⟩) (W.alloc (.cells #[.int .u8 a, .int .u8 b] 5)) := by
  have h := run_convert_bytes_arg (P := Tryd.prog) (W.alloc (.cells #[.int .u8 a, .int .u8 b] 5)) 75 5 Tryd.underlying75 Tryd.underlying5 W.heap.size 0 2 2 [a, b] rfl (fun i hi => by
    have : i = 0 ∨ i = 1 := by have h2 : i < 2 := hi; omega
    rcases this with rfl | rfl
    · rw [cell_of_row _ _ _ _ _ _ (heap_alloc_new W _)]; rfl
    · rw [cell_of_row _ _ _ _ _ _ (heap_alloc_new W _)]; rfl) 9 Tryd.underlying9
  exact h
theorem conv2d (W : World) (a b : Int) : (convert 75 9 (.slice (some ⟨W.heap.size, 0, none⟩) 2 2)).run Tryd.prog (W.alloc (.cells #[.int .u8 a, .int .u8 b] 5)).drew = .ok (.string ⟨#[a.toNat.toUInt8, b.toNat.toUInt8]⟩) (W.alloc (.cells #[.int .u8 a, .int .u8 b] 5)).drew := by
  have h := run_convert_bytes_arg (P := Tryd.prog) (W.alloc (.cells #[.int .u8 a, .int .u8 b] 5)).drew 75 5 Tryd.underlying75 Tryd.underlying5 W.heap.size 0 2 2 [a, b] rfl (fun i hi => by
    have : i = 0 ∨ i = 1 := by have h2 : i < 2 := hi; omega
    rcases this with rfl | rfl
    · show (W.alloc (.cells #[.int .u8 a, .int .u8 b] 5)).cell? _ = _
      rw [cell_of_row _ _ _ _ _ _ (heap_alloc_new W _)]; rfl
    · show (W.alloc (.cells #[.int .u8 a, .int .u8 b] 5)).cell? _ = _
      rw [cell_of_row _ _ _ _ _ _ (heap_alloc_new W _)]; rfl) 9 Tryd.underlying9
  exact h
end Go.Proofs.YtggogaaooacooaaDoor
namespace Go.Proofs.YtggogaaooacooaaDoor
open Go.RowKit Go.WideShapes
open Go.Maps (Keyed string_keyed int_keyed keyOf_int_mk)
set_option maxRecDepth 100000

theorem zeroInt (w : World) : (zeroValue 3).run Tryd.prog w = .ok (.int .i64 0) w := by kernel_rfl
theorem keyInt : Keyed Tryd.prog 3 := int_keyed Tryd.underlying3
theorem key_nat {i : Nat} (h : i ≤ 65536) : keyOf Tryd.prog 3 (.int .i64 i) = some (.int .i64 i) := keyOf_int_mk Tryd.underlying3 (WalkArith.wf_i64 ⟨by omega, by omega⟩)

theorem strOfNums_nat (l : List UInt8) : strOfNums (l.map fun b => ((b.toNat : Nat) : Int)) = ⟨l.toArray⟩ := by
  unfold strOfNums
  rw [List.map_map]
  congr 2
  conv => rhs; rw [← List.map_id l]
  apply List.map_congr_left
  intro b _
  simp

/-- 'string(b)' of cells that lie there. -/
theorem conv_at {w : World} {g o : Nat} {l : List UInt8} (h : w.rangeAt g o (Lib.byteCells l)) (n cap : Nat) (hn : l.length = n) : (convert 75 9 (.slice (some ⟨g, o, none⟩) n cap)).run Tryd.prog w = .ok (.string ⟨l.toArray⟩) w := by
  subst hn
  have h1 := run_convert_bytes_arg (P := Tryd.prog) w 75 5 Tryd.underlying75 Tryd.underlying5 g o l.length cap (l.map fun b => ((b.toNat : Nat) : Int)) (by simp) (fun i hi => by
    rw [h i (.int .u8 (l[i].toNat)) (by simp [Lib.byteCells, hi])]
    simp [List.getD, hi]) 9 Tryd.underlying9
  rw [strOfNums_nat] at h1
  exact h1

/-- The cells of a write under way. -/
theorem way_range {w : World} {g c : Nat} {ws : List (Nat × List UInt8)} {n : Nat} (h : w.ownsRow 0 117 257 (.slice (some ⟨g, 0, none⟩) n c) n (waysCells ws)) (hw : ∀ (k : Nat) (x : Nat × List UInt8), ws[k]? = some x → x.2.length = 256) {k : Nat} {x : Nat × List UInt8} (hk : ws[k]? = some x) : w.rangeAt g (k * 257) (wayCells x) := by
  intro j v hj
  have h1 := (World.ownsRowF_of h).cells (g := g) rfl (k * 257 + j) v (flatMap_get wayCells 257 ws (fun k x hx => wayCells_length (hw k x hx)) k x hk j v hj)
  rw [add_plain, Nat.zero_add] at h1
  exact h1
theorem range_tail {w : World} {g o : Nat} {v : Value} {l : List Value} (h : w.rangeAt g o (v :: l)) : w.rangeAt g (o + 1) l := fun j u hj => by
  have := h (j + 1) u (by simpa using hj)
  rwa [show o + (j + 1) = o + 1 + j by omega] at this

section
variable {w : World} {b gd mb : Nat} {uv : Value} {d : DS}

theorem read_none (ad : Nat → Addr) (hE : Errs ad w) (h : DiskP w b gd mb uv d) (i : Nat) (hr : d.reach i = 0) (hl : lastAt d.ways i = none) :
    Calls Tryd.prog 92 #[.pointer (some ⟨b, 0, none⟩), .int .i64 i] w fun e w' => e = .returned (.tuple #[.string ⟨(d.read i).toArray⟩, .nilIface]) ∧ w = w' := by
  have c0 : w.cell? ⟨b, 0, none⟩ = some (.slice (some ⟨gd, 0, none⟩) d.dur.length d.dur.length) := h.cell 0 _ rfl
  have c2 : w.cell? ⟨b, 2, none⟩ = some (.map (some mb)) := h.cell 2 _ rfl
  obtain ⟨D, hD, hm⟩ := h.map
  have hh := hm.has i
  rw [hl] at hh
  obtain ⟨_, _, hi⟩ := DS.reach_zero hr
  have hi : i < d.dur.length := by omega
  have hle := h.ok.le
  have hkey := key_nat (i := i) (by omega)
  have hrd : d.read i = d.dur.getD i [] := (readTo_last d.dur d.ways i).1 hl
  have hget : d.dur[i]? = some (d.read i) := by rw [hrd]; simp [List.getD, hi]
  have hcv := conv_at (h.dur.rng i _ hget) 256 256 (h.ok.each i _ hget)
  obtain ⟨s, hs⟩ : ∃ s, d.read i = s := ⟨_, rfl⟩
  have HS := Lib.hid hs
  rw [hs] at hcv
  go_enter Tryd.func92, Tryd.ntmps92
  go_wp2_with fail
  refine (reach_p ad hE h i).mono ?_
  rintro e w' ⟨rfl, rfl⟩
  rw [hr, errV_zero]
  have HH := Lib.hid hh
  have Hw := Lib.hid hD
  clear hh hr hl hE h hm hrd hget hD hs
  go_wp2_with (at_lookup; refine wpList_lookup_own_ok_int _ rfl _ _ 78 rfl 3 3 .i64 keyInt Tryd.underlying78 Tryd.underlying3 (zeroInt _) mb _ D rfl Hw.out _ _ rfl hkey ?_; intro c hat hwc; rw [HH.out]; clear hat hwc)
  go_ret2
  exact ⟨by rw [HS.out]; rfl, rfl⟩

theorem read_some (ad : Nat → Addr) (hE : Errs ad w) (h : DiskP w b gd mb uv d) (i k : Nat) (hr : d.reach i = 0) (hl : lastAt d.ways i = some k) :
    Calls Tryd.prog 92 #[.pointer (some ⟨b, 0, none⟩), .int .i64 i] w fun e w' => e = .returned (.tuple #[.string ⟨(d.read i).toArray⟩, .nilIface]) ∧ w = w' := by
  have hk := lastAt_lt hl
  obtain ⟨x, hx, hrd⟩ := (readTo_last d.dur d.ways i).2 k hl
  obtain ⟨g, cap, hv⟩ : ∃ g cap, uv = .slice (some ⟨g, 0, none⟩) d.ways.length cap := by
    rcases h.ways.2 with ⟨_, h0⟩ | ⟨g, cap, cur, e, _⟩
    · omega
    · exact ⟨g, cap, e⟩
  subst hv
  have c1 : w.cell? ⟨b, 1, none⟩ = some (.slice (some ⟨g, 0, none⟩) d.ways.length cap) := h.cell 1 _ rfl
  have c2 : w.cell? ⟨b, 2, none⟩ = some (.map (some mb)) := h.cell 2 _ rfl
  obtain ⟨D, hD, hm⟩ := h.map
  have hh := hm.has i
  have ha := hm.at' i k hl
  rw [hl] at hh
  obtain ⟨_, _, hi⟩ := DS.reach_zero hr
  have hi : i < d.dur.length := by omega
  have hle := h.ok.le
  have hkey := key_nat (i := i) (by omega)
  have hxl := (h.ok.way k x hx).2
  have hrd : d.read i = x.2 := hrd
  have hcv := conv_at (range_tail (way_range h.ways (fun k x hx => (h.ok.way k x hx).2) hx)) 256 256 hxl
  go_enter Tryd.func92, Tryd.ntmps92
  go_wp2_with fail
  refine (reach_p ad hE h i).mono ?_
  rintro e w' ⟨rfl, rfl⟩
  rw [hr, errV_zero]
  have HH := Lib.hid hh
  have HA := Lib.hid ha
  have Hw := Lib.hid hD
  have HR := Lib.hid hrd
  clear hh hr hl hE h hm hrd hx ha hD
  obtain ⟨s, hs⟩ : ∃ s, x.2 = s := ⟨_, rfl⟩
  rw [hs] at hcv
  have HS := Lib.hid hs
  clear hs
  go_wp2_with (at_lookup; refine wpList_lookup_own_ok_int _ rfl _ _ 78 rfl 3 3 .i64 keyInt Tryd.underlying78 Tryd.underlying3 (zeroInt _) mb _ D rfl Hw.out _ _ rfl hkey ?_; intro c hat hwc; rw [HA.out] at hat; injection hat with hat; injection hat with _ hat; subst hat; rw [HH.out]; clear hwc)
  go_ret2
  exact ⟨by rw [HR.out, HS.out]; rfl, rfl⟩

/-- What Read tells. -/
def DS.readE (d : DS) (i : Int) : List UInt8 := if d.reach i = 0 then d.read i.toNat else []

theorem errV_ne {ad : Nat → Addr} {n : Nat} (h : n ≠ 0) : errV ad n = .iface 168 (.pointer (some (ad n))) := errV_pos ad (by omega)

theorem read_err (ad : Nat → Addr) (hE : Errs ad w) (h : DiskP w b gd mb uv d) (i : Int) (hr : d.reach i ≠ 0) :
    Calls Tryd.prog 92 #[.pointer (some ⟨b, 0, none⟩), .int .i64 i] w fun e w' => e = .returned (.tuple #[.string ⟨#[]⟩, errV ad (d.reach i)]) ∧ w = w' := by
  have hv := errV_ne (ad := ad) hr
  go_enter Tryd.func92, Tryd.ntmps92
  go_wp2_with fail
  refine (reach_p ad hE h i).mono ?_
  rintro e w' ⟨rfl, rfl⟩
  have HV := Lib.hid hv
  rw [hv]
  clear hv hr hE h
  go_wp2
  go_ret2
  exact ⟨by rw [HV.out]; rfl, rfl⟩

theorem read_p (ad : Nat → Addr) (hE : Errs ad w) (h : DiskP w b gd mb uv d) (i : Int) :
    Calls Tryd.prog 92 #[.pointer (some ⟨b, 0, none⟩), .int .i64 i] w fun e w' => e = .returned (.tuple #[.string ⟨(d.readE i).toArray⟩, errV ad (d.reach i)]) ∧ w = w' := by
  by_cases hr : d.reach i = 0
  · obtain ⟨h1, h2, h3⟩ := DS.reach_zero hr
    obtain ⟨j, rfl⟩ := Int.eq_ofNat_of_zero_le h2
    have e1 : d.readE j = d.read j := by unfold DS.readE; rw [if_pos hr]; simp
    rw [e1, hr, errV_zero]
    cases hl : lastAt d.ways j with
    | none => exact read_none ad hE h j hr hl
    | some k => exact read_some ad hE h j k hr hl
  · have e1 : d.readE i = [] := if_neg hr
    rw [e1]
    exact read_err ad hE h i hr
end
end Go.Proofs.YtggogaaooacooaaDoor
namespace Go.Proofs.YtggogaaooacooaaDoor
open Go.RowKit Go.WideShapes
set_option maxRecDepth 100000

section
variable {P : Program} (w : World)
/-- APPEND OF CELLS to an owned row: in place (that row alone is written), or into a new block (nothing is written). -/
theorem run_append_cells1 (t ty e : TypeId) (i : TypeInfo) (z : Value) (size bytes : Nat) (ht : P.underlying t = some (.slice e)) (hi : P.info? e = some i) (hz : i.zero = some z)
    (hsize : i.size = size) (hby : i.bytes = bytes) (hzs : z.cells.size = size) (hsz : 0 < size)
    (v : Value) (n : Nat) (xs : List Value) (hown : w.ownsRow 0 e size v n xs)
    (a : Addr) (m c : Nat) (news : List Value) (hl : news.length = m * size) (hnews : ∀ j u, news[j]? = some u → w.cell? (a.add j) = some u) (h1 : ∀ u ∈ news, u.oneCell' = true)
    (h63 : n + m ≤ maxLen) (hbytes : (n + m) * bytes ≤ 140737488355328) :
    ∃ v' w', (Builtin.append_ #[t, t] ty #[v, .slice (some a) m c]).run P w = .ok v' w' ∧ w'.ownsRow 0 e size v' (n + m) (xs ++ news) ∧ ((v'.ownBlock = v.ownBlock ∧ w.grownBy w' v.ownBlock) ∨ (∃ g, v'.ownBlock = some g ∧ w.heap.size ≤ g ∧ w.grownBy w' none)) := by
  subst hsize
  subst hby
  have hsmall : n + m ≤ 9223372036854775807 := by simp only [maxLen] at h63; omega
  have hlen : (xs ++ news).length = (n + m) * i.size := by rw [List.length_append, hown.1, hl, Nat.add_mul]
  have grown : ∀ (old : Nat), old < n + m → ∀ (row : Option Nat),
      (w.drew.alloc (.cells (xs.toArray ++ news.toArray ++ Builtin.zeroCells z.cells (grownCap w (n + m) old e - (n + m))) e)).ownsRow 0 e i.size
        (.slice (some ⟨w.heap.size, 0, none⟩) (n + m) (grownCap w (n + m) old e)) (n + m) (xs ++ news) ∧
      w.grownBy (w.drew.alloc (.cells (xs.toArray ++ news.toArray ++ Builtin.zeroCells z.cells (grownCap w (n + m) old e - (n + m))) e)) row := by
    intro old ho row
    have hge := grownCap_ge w (n + m) old e
    have hcm : grownCap w (n + m) old e ≤ maxLen := grownCap_le_maxLen w (n + m) old e h63
    refine ⟨⟨hlen, .inr ⟨w.heap.size, _, _, rfl, Nat.zero_le _, heap_alloc_new w.drew _, hge, hcm, ?_, ?_⟩⟩, ⟨rfl, rfl, rfl, by simp, fun k hk _ => Below.heap_alloc w.drew _ k hk⟩⟩
    · simp only [Array.size_append, List.size_toArray, size_zeroCells, hzs, hown.1, hl, ← Nat.add_mul]
      congr 1
      omega
    · simp only [Array.toList_append, List.append_assoc]
      rw [← List.append_assoc, ← hlen]
      exact List.take_left
  rcases hown.2 with ⟨rfl, rfl⟩ | ⟨g, cap, cur, rfl, hbg, hg, hnc, hcm, hcs, htake⟩
  · have hx : xs = [] := List.eq_nil_of_length_eq_zero (by simpa using hown.1)
    subst hx
    by_cases hm : m = 0
    · subst hm
      have hn : news = [] := List.eq_nil_of_length_eq_zero (by simpa using hl)
      subst hn
      refine ⟨.slice none 0 0, w, ?_, World.ownsRow_nil w 0 e i.size, .inl ⟨rfl, ⟨rfl, rfl, rfl, Nat.le_refl _, fun _ _ _ => rfl⟩⟩⟩
      simp [Builtin.append_, run_underlying ht, sizeOf, typeInfo, hi, Builtin.lenOf, Builtin.firstCells, loadCells, loadCellsFrom]
    · have hr := run_append_nil (P := P) w t ty e i z ht hi hz a m c news hl hnews (by omega) (by omega) (by have hb := hbytes; simp only [Nat.zero_add] at hb; omega)
      have hgr := grown 0 (by omega) none
      simp only [Nat.zero_add, List.nil_append, Array.empty_append] at hgr ⊢
      exact ⟨_, _, hr, hgr.1, .inr ⟨_, rfl, Nat.le_refl _, hgr.2⟩⟩
  · by_cases hroom : n + m ≤ cap
    · have hfit : n * i.size + news.length ≤ cur.size := by rw [hl, hcs, ← Nat.add_mul]; exact Nat.mul_le_mul_right _ hroom
      have hr := run_append_roomF (P := P) w t ty e i ht hi g n cap cur (0, 0) hg (Nat.zero_le _) a m c news hl hnews h1 hroom hfit
      refine ⟨_, _, hr, ⟨hlen, .inr ⟨g, cap, _, rfl, hbg, setRow_heap w g cur _ e _ hg, hroom, hcm, ?_, ?_⟩⟩, .inl ⟨rfl, ⟨rfl, rfl, rfl, by simp, fun k _ hk => setRow_other w g k _ (fun e => hk (by simp [Value.ownBlock, e]))⟩⟩⟩
      · simp only [List.size_toArray, List.length_append, List.length_take, List.length_drop, Array.length_toList]
        omega
      · rw [htake, ← hlen]
        exact List.take_left
    · have holds : ∀ j u, xs[j]? = some u → w.cell? ((⟨g, 0, none⟩ : Addr).add j) = some u := (World.ownsRowF_of hown).cells (g := g) rfl
      have hr := run_append_grow (P := P) w t ty e i z ht hi hz ⟨g, 0, none⟩ n cap xs hown.1 holds a m c news hl hnews (by omega) (by omega) (growslice_fits (by omega) hbytes)
      have hgr := grown cap (by omega) none
      exact ⟨_, _, hr, hgr.1, .inr ⟨_, rfl, Nat.le_refl _, hgr.2⟩⟩


/-- One cell: at a step of a region that draws. -/
theorem step_append_one {ops : Array Oper} {o : Oper} {a : Act} {K : Act → World → Prop} {Q : Exit → Act → World → Prop} {E : Prop} (hgd : o.guard = none) (s x : Operand) (t : TypeId)
    (ho : o.op = .call { callee := .builtin .append, args := #[s, x], argTypes := #[t, t] })
    (e : TypeId) (i : TypeInfo) (z : Value) (bytes : Nat) (ht : P.underlying t = some (.slice e)) (hi : P.info? e = some i) (hz : i.zero = some z) (hsize : i.size = 1) (hby : i.bytes = bytes) (hzs : z.cells.size = 1)
    (v : Value) (n : Nat) (xs : List Value) (hs : a.eval s = v) (hown : w.ownsRow 0 e 1 v n xs)
    (ad : Addr) (c : Nat) (u : Value) (hx : a.eval x = .slice (some ad) 1 c) (hnews : ∀ (j : Nat) y, [u][j]? = some y → w.cell? (ad.add j) = some y) (h1 : u.oneCell' = true)
    (h63 : n + 1 ≤ maxLen) (hbytes : (n + 1) * bytes ≤ 140737488355328)
    (h : ∀ g' cap' w', w'.ownsRow 0 e 1 (.slice (some ⟨g', 0, none⟩) (n + 1) cap') (n + 1) (xs ++ [u]) → ((some g' = v.ownBlock ∧ w.grownBy w' v.ownBlock) ∨ (w.heap.size ≤ g' ∧ w.grownBy w' none)) → K (a.put o.dst (.slice (some ⟨g', 0, none⟩) (n + 1) cap')) w') :
    if Region.wanted o (yielded ops a.tmps) = true then Oper.wp P o a w K Q else E := by
  have hw : Region.wanted o (yielded ops a.tmps) = true := by simp [Region.wanted, hgd]
  rw [if_pos hw]
  obtain ⟨v', w', hr, h2, h3⟩ := run_append_cells1 (P := P) w t o.type e i z 1 bytes ht hi hz hsize hby hzs (by decide) v n xs hown ad 1 c [u] rfl hnews (by intro y hy; rw [List.mem_singleton.1 hy]; exact h1) h63 hbytes
  have hform : ∃ g cap, v' = .slice (some ⟨g, 0, none⟩) (n + 1) cap := by
    rcases h2.2 with ⟨_, h0⟩ | ⟨g, cap, cur, e', _⟩
    · omega
    · exact ⟨g, cap, e'⟩
  obtain ⟨g', cap', rfl⟩ := hform
  unfold Oper.wp execOp
  simp only [ho, resolve, invoke, builtin, Sem.run_bind, Sem.run_pure, Result.andThen_ok, List.map_toArray, List.map_cons, List.map_nil, hs, hx, hr]
  refine h g' cap' w' h2 ?_
  rcases h3 with ⟨q, h3⟩ | ⟨g, q, hg, h3⟩
  · exact .inl ⟨q, h3⟩
  · simp [Value.ownBlock] at q
    subst q
    exact .inr ⟨hg, h3⟩
end

theorem own_shape1 {w : World} {e : TypeId} {v : Value} {n : Nat} {xs : List Value} (h : w.ownsRow 0 e 1 v n xs) : ∃ a c, v = .slice a n c ∧ (0 < n → ∃ b, a = some ⟨b, 0, none⟩) := by
  rcases h.2 with ⟨rfl, rfl⟩ | ⟨g, cap, cur, rfl, _⟩
  · exact ⟨none, 0, rfl, fun h => absurd h (by omega)⟩
  · exact ⟨_, cap, rfl, fun _ => ⟨g, rfl⟩⟩

theorem own_cell {w : World} {e : TypeId} {b n c : Nat} {xs : List Value} (h : w.ownsRow 0 e 1 (.slice (some ⟨b, 0, none⟩) n c) n xs) {i : Nat} {u : Value} (hi : xs[i]? = some u) : w.cell? ⟨b, i, none⟩ = some u ∧ w.frozen? ⟨b, i, none⟩ = false := by
  have h1 := h.cells (g := b) rfl i u hi
  rw [add_plain, Nat.zero_add] at h1
  refine ⟨h1, ?_⟩
  rcases h.2 with ⟨e, _⟩ | ⟨g', cap', cur, e, _, hg, _⟩
  · cases e
  · injection e with e _ _
    injection e with e
    injection e with e
    subst e
    exact Lib.frozen_of_heap hg i
end Go.Proofs.YtggogaaooacooaaDoor
