/-
  The contract of Read.
-/
import Derived.Test.YtnnkibhlildojaaDoorDSmall
import Derived.Test.YtnnkibhlildojaaDoorConv
namespace Go.Proofs.YtnnkibhlildojaaDoor
open Go.RowKit Go.WideShapes
open Go.Maps (Keyed string_keyed int_keyed keyOf_int_mk)
set_option maxRecDepth 100000

theorem zeroInt (w : World) : (zeroValue 3).run Tryd.prog w = .ok (.int .i64 0) w := by kernel_rfl
theorem keyInt : Keyed Tryd.prog 3 := int_keyed Tryd.underlying3
theorem key_nat {i : Nat} (h : i ≤ 65536) : keyOf Tryd.prog 3 (.int .i64 i) = some (.int .i64 i) := keyOf_int_mk Tryd.underlying3 (WalkArith.wf_i64 ⟨by omega, by omega⟩)

theorem strOfNums_nat (l : List UInt8) : strOfNums (l.map fun b => ((b.toNat : Nat) : Int)) = ⟨l.toArray⟩ := by
  unfold strOfNums
  rw [List.map_map]
  congr 2
  conv => rhs; rw [← List.map_id l]
  apply List.map_congr_left
  intro b _
  simp

/-- 'string(b)' of cells that lie there. -/
theorem conv_at {w : World} {g o : Nat} {l : List UInt8} (h : w.rangeAt g o (Lib.byteCells l)) (n cap : Nat) (hn : l.length = n) : (convert 64 9 (.slice (some ⟨g, o, none⟩) n cap)).run Tryd.prog w = .ok (.string ⟨l.toArray⟩) w := by
  subst hn
  have h1 := run_convert_bytes_arg (P := Tryd.prog) w 64 5 Tryd.underlying64 Tryd.underlying5 g o l.length cap (l.map fun b => ((b.toNat : Nat) : Int)) (by simp) (fun i hi => by
    rw [h i (.int .u8 (l[i].toNat)) (by simp [Lib.byteCells, hi])]
    simp [List.getD, hi]) 9 Tryd.underlying9
  rw [strOfNums_nat] at h1
  exact h1

/-- The cells of a write under way. -/
theorem way_range {w : World} {g c : Nat} {ws : List (Nat × List UInt8)} {n : Nat} (h : w.ownsRow 0 82 257 (.slice (some ⟨g, 0, none⟩) n c) n (waysCells ws)) (hw : ∀ (k : Nat) (x : Nat × List UInt8), ws[k]? = some x → x.2.length = 256) {k : Nat} {x : Nat × List UInt8} (hk : ws[k]? = some x) : w.rangeAt g (k * 257) (wayCells x) := by
  intro j v hj
  have h1 := (World.ownsRowF_of h).cells (g := g) rfl (k * 257 + j) v (flatMap_get wayCells 257 ws (fun k x hx => wayCells_length (hw k x hx)) k x hk j v hj)
  rw [add_plain, Nat.zero_add] at h1
  exact h1
theorem range_tail {w : World} {g o : Nat} {v : Value} {l : List Value} (h : w.rangeAt g o (v :: l)) : w.rangeAt g (o + 1) l := fun j u hj => by
  have := h (j + 1) u (by simpa using hj)
  rwa [show o + (j + 1) = o + 1 + j by omega] at this

section
variable {w : World} {b gd mb : Nat} {uv : Value} {d : DS}

theorem read_none (ad : Nat → Addr) (hE : Errs ad w) (h : DiskP w b gd mb uv d) (i : Nat) (hr : d.reach i = 0) (hl : lastAt d.ways i = none) :
    Calls Tryd.prog 22 #[.pointer (some ⟨b, 0, none⟩), .int .i64 i] w fun e w' => e = .returned (.tuple #[.string ⟨(d.read i).toArray⟩, .nilIface]) ∧ w = w' := by
  have c0 : w.cell? ⟨b, 0, none⟩ = some (.slice (some ⟨gd, 0, none⟩) d.dur.length d.dur.length) := h.cell 0 _ rfl
  have c2 : w.cell? ⟨b, 2, none⟩ = some (.map (some mb)) := h.cell 2 _ rfl
  obtain ⟨D, hD, hm⟩ := h.map
  have hh := hm.has i
  rw [hl] at hh
  obtain ⟨_, _, hi⟩ := DS.reach_zero hr
  have hi : i < d.dur.length := by omega
  have hle := h.ok.le
  have hkey := key_nat (i := i) (by omega)
  have hrd : d.read i = d.dur.getD i [] := (readTo_last d.dur d.ways i).1 hl
  have hget : d.dur[i]? = some (d.read i) := by rw [hrd]; simp [List.getD, hi]
  have hcv := conv_at (h.dur.rng i _ hget) 256 256 (h.ok.each i _ hget)
  obtain ⟨s, hs⟩ : ∃ s, d.read i = s := ⟨_, rfl⟩
  have HS := Lib.hid hs
  rw [hs] at hcv
  go_enter Tryd.func22, Tryd.ntmps22
  go_wp2_with fail
  refine (reach_p ad hE h i).mono ?_
  rintro e w' ⟨rfl, rfl⟩
  rw [hr, errV_zero]
  have HH := Lib.hid hh
  have Hw := Lib.hid hD
  clear hh hr hl hE h hm hrd hget hD hs
  go_wp2_with (at_lookup; refine wpList_lookup_own_ok_int _ rfl _ _ 61 rfl 3 3 .i64 keyInt Tryd.underlying61 Tryd.underlying3 (zeroInt _) mb _ D rfl Hw.out _ _ rfl hkey ?_; intro c hat hwc; rw [HH.out]; clear hat hwc)
  go_ret2
  exact ⟨by rw [HS.out]; rfl, rfl⟩

theorem read_some (ad : Nat → Addr) (hE : Errs ad w) (h : DiskP w b gd mb uv d) (i k : Nat) (hr : d.reach i = 0) (hl : lastAt d.ways i = some k) :
    Calls Tryd.prog 22 #[.pointer (some ⟨b, 0, none⟩), .int .i64 i] w fun e w' => e = .returned (.tuple #[.string ⟨(d.read i).toArray⟩, .nilIface]) ∧ w = w' := by
  have hk := lastAt_lt hl
  obtain ⟨x, hx, hrd⟩ := (readTo_last d.dur d.ways i).2 k hl
  obtain ⟨g, cap, hv⟩ : ∃ g cap, uv = .slice (some ⟨g, 0, none⟩) d.ways.length cap := by
    rcases h.ways.2 with ⟨_, h0⟩ | ⟨g, cap, cur, e, _⟩
    · omega
    · exact ⟨g, cap, e⟩
  subst hv
  have c1 : w.cell? ⟨b, 1, none⟩ = some (.slice (some ⟨g, 0, none⟩) d.ways.length cap) := h.cell 1 _ rfl
  have c2 : w.cell? ⟨b, 2, none⟩ = some (.map (some mb)) := h.cell 2 _ rfl
  obtain ⟨D, hD, hm⟩ := h.map
  have hh := hm.has i
  have ha := hm.at' i k hl
  rw [hl] at hh
  obtain ⟨_, _, hi⟩ := DS.reach_zero hr
  have hi : i < d.dur.length := by omega
  have hle := h.ok.le
  have hkey := key_nat (i := i) (by omega)
  have hxl := (h.ok.way k x hx).2
  have hrd : d.read i = x.2 := hrd
  have hcv := conv_at (range_tail (way_range h.ways (fun k x hx => (h.ok.way k x hx).2) hx)) 256 256 hxl
  go_enter Tryd.func22, Tryd.ntmps22
  go_wp2_with fail
  refine (reach_p ad hE h i).mono ?_
  rintro e w' ⟨rfl, rfl⟩
  rw [hr, errV_zero]
  have HH := Lib.hid hh
  have HA := Lib.hid ha
  have Hw := Lib.hid hD
  have HR := Lib.hid hrd
  clear hh hr hl hE h hm hrd hx ha hD
  obtain ⟨s, hs⟩ : ∃ s, x.2 = s := ⟨_, rfl⟩
  rw [hs] at hcv
  have HS := Lib.hid hs
  clear hs
  go_wp2_with (at_lookup; refine wpList_lookup_own_ok_int _ rfl _ _ 61 rfl 3 3 .i64 keyInt Tryd.underlying61 Tryd.underlying3 (zeroInt _) mb _ D rfl Hw.out _ _ rfl hkey ?_; intro c hat hwc; rw [HA.out] at hat; injection hat with hat; injection hat with _ hat; subst hat; rw [HH.out]; clear hwc)
  go_ret2
  exact ⟨by rw [HR.out, HS.out]; rfl, rfl⟩

/-- What Read tells. -/
def DS.readE (d : DS) (i : Int) : List UInt8 := if d.reach i = 0 then d.read i.toNat else []

theorem errV_ne {ad : Nat → Addr} {n : Nat} (h : n ≠ 0) : errV ad n = .iface 104 (.pointer (some (ad n))) := errV_pos ad (by omega)

theorem read_err (ad : Nat → Addr) (hE : Errs ad w) (h : DiskP w b gd mb uv d) (i : Int) (hr : d.reach i ≠ 0) :
    Calls Tryd.prog 22 #[.pointer (some ⟨b, 0, none⟩), .int .i64 i] w fun e w' => e = .returned (.tuple #[.string ⟨#[]⟩, errV ad (d.reach i)]) ∧ w = w' := by
  have hv := errV_ne (ad := ad) hr
  go_enter Tryd.func22, Tryd.ntmps22
  go_wp2_with fail
  refine (reach_p ad hE h i).mono ?_
  rintro e w' ⟨rfl, rfl⟩
  have HV := Lib.hid hv
  rw [hv]
  clear hv hr hE h
  go_wp2
  go_ret2
  exact ⟨by rw [HV.out]; rfl, rfl⟩

theorem read_p (ad : Nat → Addr) (hE : Errs ad w) (h : DiskP w b gd mb uv d) (i : Int) :
    Calls Tryd.prog 22 #[.pointer (some ⟨b, 0, none⟩), .int .i64 i] w fun e w' => e = .returned (.tuple #[.string ⟨(d.readE i).toArray⟩, errV ad (d.reach i)]) ∧ w = w' := by
  by_cases hr : d.reach i = 0
  · obtain ⟨h1, h2, h3⟩ := DS.reach_zero hr
    obtain ⟨j, rfl⟩ := Int.eq_ofNat_of_zero_le h2
    have e1 : d.readE j = d.read j := by unfold DS.readE; rw [if_pos hr]; simp
    rw [e1, hr, errV_zero]
    cases hl : lastAt d.ways j with
    | none => exact read_none ad hE h j hr hl
    | some k => exact read_some ad hE h j k hr hl
  · have e1 : d.readE i = [] := if_neg hr
    rw [e1]
    exact read_err ad hE h i hr
end
end Go.Proofs.YtnnkibhlildojaaDoor
