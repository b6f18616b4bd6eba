/-
  The contract of the reference's sorted: places merged by their rests.
  The contract of the document's sorted.
  The contract of the document's byRest; rows of numbers of any kind that the call has made.
  The contract of the document's Split.
-/
import Derived.Test.YtjjlpjfojgkpkaaGreatDoorMSpec
import Derived.Test.YtjjlpjfojgkpkaaGreatDoorSpareInts
import Derived.RegionTactic
import Derived.ChangeAlike
import Derived.IntWalk
import Derived.StillTailTactics
import Derived.Deep.CutBlock
import Derived.Deep.DeepCutAuto
import Derived.Test.YtjjlpjfojgkpkaaGreatDoorNewL
import Derived.Test.YtjjlpjfojgkpkaaGreatDoorMAllNum
import Derived.Test.YtjjlpjfojgkpkaaGreatDoorMNew
import Derived.Outline
namespace Go.Proofs.YtjjlpjfojgkpkaaGreatDoor
open Go.RowKit Go.WideShapes
set_option maxRecDepth 100000

def natI (l : List Nat) : List Int := l.map Int.ofNat
theorem natI_get {l : List Nat} {k i : Nat} (h : l[k]? = some i) : (natI l)[k]? = some (i : Int) := by unfold natI; rw [List.getElem?_map, h]; rfl
theorem natI_length (l : List Nat) : (natI l).length = l.length := by simp [natI]

/-- The merge's loop. -/
def MergeAt (r : Nat → Nat) (a b : List Nat) (w0 : World) (vo vi vj : Value) (wr : World) : Prop :=
  ∃ (i j : Nat) (out : List Nat), i ≤ a.length ∧ j ≤ b.length ∧ vi = .int .i64 i ∧ vj = .int .i64 j ∧ out.length = i + j ∧ NewInts w0.heap.size wr vo (natI out) ∧ Since w0.heap.size w0 wr ∧ out ++ M.merge r (a.drop i) (b.drop j) = M.merge r a b

/-- What sorted answers. -/
def SortedV (r : Nat → Nat) (l : List Nat) (gi : Nat) (w : World) (e : Ending) (w' : World) : Prop :=
  ∃ v g off o, e = .returned v ∧ IntsAt .i64 w' v g off (natI o) ∧ M.Sorts r l o ∧ Qt w w' ∧ (g = gi ∨ w.heap.size ≤ g)

theorem sorted_short (r : Nat → Nat) (vr : Value) (l : List Nat) (v : Value) (g off : Nat) (w : World) (h2 : l.length < 2) (hl : IntsAt .i64 w v g off (natI l)) : Calls Tryz.prog 69 #[v, vr] w (SortedV r l g w) := by
  have Fin := Lib.hid (show SortedV r l g w (.returned v) w from ⟨v, g, off, l, rfl, hl, M.Sorts.short h2, Qt.refl w, .inl rfl⟩)
  obtain ⟨a, cap, rfl, _⟩ := hl.val
  rw [natI_length] at Fin ⊢
  clear hl
  go_enter Tryz.func69, Tryz.ntmps69
  go_wp2_with fail
  go_ret
  exact Fin.out

theorem new_more {w0 wr W3 W4 : World} {v v' : Value} {out : List Nat} {x : Nat} (hn : NewInts w0.heap.size wr v (natI out)) (hS : Since w0.heap.size w0 wr) (k1 : Qt wr W3) (hg : W3.grownBy W4 v.ownBlock) (hl : Later W3 v.ownBlock v'.ownBlock)
    (hown : W4.ownsRow 0 3 1 v' (out.length + 1) ((natI out).map intV ++ [intV (x : Nat)])) : NewInts w0.heap.size W4 v' (natI (out ++ [x])) ∧ Since w0.heap.size w0 W4 := by
  have h0 := hS.size
  have h1 := k1.size
  refine ⟨⟨?_, fun g hg' => ?_⟩, ?_⟩
  · rw [natI_length, natI, List.map_append, List.map_append, List.length_append]
    exact hown
  · rcases hl with e | ⟨g', e, hge⟩
    · exact hn.new g (e ▸ hg')
    · rw [e] at hg'; injection hg' with hg'; omega
  · exact Keeps.grown (hS.step k1 (fun _ h => h.elim)) hg (fun j hj e => hn.new j e.symm)

theorem merge_left {r : Nat → Nat} {a b out : List Nat} {i j x y : Nat} (h : out ++ M.merge r (a.drop i) (b.drop j) = M.merge r a b) (hx : a[i]? = some x) (hy : b[j]? = some y) (hc : r y ≤ r x) : (out ++ [x]) ++ M.merge r (a.drop (i + 1)) (b.drop j) = M.merge r a b := by
  obtain ⟨h1, rfl⟩ := List.getElem?_eq_some_iff.1 hx
  obtain ⟨h2, rfl⟩ := List.getElem?_eq_some_iff.1 hy
  rw [← h, List.drop_eq_getElem_cons h1, List.drop_eq_getElem_cons h2, M.merge_yes _ _ hc]; simp
theorem merge_right {r : Nat → Nat} {a b out : List Nat} {i j x y : Nat} (h : out ++ M.merge r (a.drop i) (b.drop j) = M.merge r a b) (hx : a[i]? = some x) (hy : b[j]? = some y) (hc : ¬ r y ≤ r x) : (out ++ [y]) ++ M.merge r (a.drop i) (b.drop (j + 1)) = M.merge r a b := by
  obtain ⟨h1, rfl⟩ := List.getElem?_eq_some_iff.1 hx
  obtain ⟨h2, rfl⟩ := List.getElem?_eq_some_iff.1 hy
  rw [← h, List.drop_eq_getElem_cons h1, List.drop_eq_getElem_cons h2, M.merge_no _ _ hc]; simp
theorem merge_over {r : Nat → Nat} {a b out : List Nat} {i j y : Nat} (h : out ++ M.merge r (a.drop i) (b.drop j) = M.merge r a b) (hi : a.length ≤ i) (hy : b[j]? = some y) : (out ++ [y]) ++ M.merge r (a.drop i) (b.drop (j + 1)) = M.merge r a b := by
  obtain ⟨h2, rfl⟩ := List.getElem?_eq_some_iff.1 hy
  rw [← h, List.drop_eq_nil_of_le hi, List.drop_eq_getElem_cons h2, M.nil_merge, M.nil_merge]; simp
theorem merge_under {r : Nat → Nat} {a b out : List Nat} {i x : Nat} (h : out ++ M.merge r (a.drop i) (b.drop b.length) = M.merge r a b) (hx : a[i]? = some x) : (out ++ [x]) ++ M.merge r (a.drop (i + 1)) (b.drop b.length) = M.merge r a b := by
  obtain ⟨h1, rfl⟩ := List.getElem?_eq_some_iff.1 hx
  rw [← h, List.drop_length, List.drop_eq_getElem_cons h1, M.merge_nil, M.merge_nil]; simp
theorem merge_end {r : Nat → Nat} {a b out : List Nat} (h : out ++ M.merge r (a.drop a.length) (b.drop b.length) = M.merge r a b) : out = M.merge r a b := by
  rw [← h, List.drop_length, List.drop_length, M.nil_merge, List.append_nil]
theorem NewInts.ints {B : Nat} {w : World} {v : Value} {ss : List Int} (h : NewInts B w v ss) (hl : ss.length ≤ 17592186044416) : ∃ g, B ≤ g ∧ IntsAt .i64 w v g 0 ss := by
  rcases h.own.2 with ⟨rfl, h0⟩ | ⟨g, cap, cur, rfl, _, hg, hnc, _⟩
  · obtain rfl : ss = [] := List.eq_nil_of_length_eq_zero h0
    exact ⟨B, Nat.le_refl _, ⟨none, 0, rfl, fun h => absurd rfl h⟩, by simp, fun a n c e => by injection e with _ e1 e2; omega, fun j s hj => by simp at hj⟩
  · refine ⟨g, h.new g rfl, ⟨_, cap, rfl, fun _ => rfl⟩, hl, fun a n c e => by injection e with _ e1 e2; omega, fun i x hx => ?_⟩
    have h2 := h.own.cells (g := g) rfl i (intV x) (by rw [List.getElem?_map, hx]; rfl)
    rw [add_plain, Nat.zero_add] at h2
    rw [Nat.zero_add]; exact h2
theorem sorted_end {r : Nat → Nat} {l la lb out : List Nat} {w w2 wr : World} {v : Value} (hp : l.Pairwise (· < ·)) (ha : M.Sorts r (l.take (l.length / 2)) la) (hb : M.Sorts r (l.drop (l.length / 2)) lb) (ho : out = M.merge r la lb) (hn : NewInts w2.heap.size wr v (natI out)) {gi : Nat} (hl : out.length ≤ 17592186044416) (k : Qt w wr) (hs : w.heap.size ≤ w2.heap.size) : SortedV r l gi w (.returned v) wr := by
  obtain ⟨g, hg, h⟩ := hn.ints (by rw [natI_length]; exact hl)
  exact ⟨v, g, 0, out, rfl, h, by rw [ho]; exact M.Sorts.merge hp ha hb, k, .inr (Nat.le_trans hs hg)⟩
end Go.Proofs.YtjjlpjfojgkpkaaGreatDoor
namespace Go.Proofs.YtjjlpjfojgkpkaaGreatDoor
open Go.RowKit Go.WideShapes
set_option maxRecDepth 100000

set_option maxHeartbeats 6400000 in
theorem sorted_any (r : Nat → Nat) (rs : List Int) (vr : Value) (gr offr : Nat) (hr : Hid (∀ i, i < rs.length → rs[i]? = some (r i : Int))) (hrb : Hid (∀ i, i < rs.length → r i < 18446744073709551616)) : ∀ (N : Nat) (l : List Nat) (v : Value) (g off : Nat) (w : World), l.length ≤ N → IntsAt .i64 w v g off (natI l) → IntsAt .u64 w vr gr offr rs → (∀ i ∈ l, i < rs.length) → l.Pairwise (· < ·) →
    Calls Tryz.prog 69 #[v, vr] w (SortedV r l g w)
  | 0, l, v, g, off, w, hN, hl, _, _, _ => sorted_short r vr l v g off w (by omega) hl
  | N + 1, l, v, g, off, w, hN, hl, hrs, hi, hp => by
    by_cases h2 : l.length < 2
    · exact sorted_short r vr l v g off w h2 hl
    · have h2' : 2 ≤ l.length := by omega
      obtain ⟨a, cap, rfl, ha⟩ := hl.val
      obtain rfl := ha (fun e => by have := congrArg List.length e; rw [natI_length, List.length_nil] at this; omega)
      rw [natI_length] at hl ⊢
      have hcap := hl.room _ _ _ rfl
      have hle := hl.le
      rw [natI_length] at hle
      have q1 : (l.take (l.length / 2)).length ≤ N := by rw [List.length_take]; omega
      have q2 : (l.drop (l.length / 2)).length ≤ N := by rw [List.length_drop]; omega
      have q3 : l.length / 2 ≤ l.length := by omega
      have IH1 := Lib.hid (sorted_any r rs vr gr offr hr hrb N (l.take (l.length / 2)) _ g off w q1 (by have := hl.take (n := l.length / 2) q3; rw [natI, ← List.map_take] at this; exact this) hrs (fun i hm => hi i (List.mem_of_mem_take hm)) (hp.sublist (List.take_sublist _ _)))
      have HL := Lib.hid (fun W (k : Qt w W) => hl.qt k)
      have HRS := Lib.hid (fun W (k : Qt w W) => hrs.qt k)
      have IH2 := Lib.hid (fun W (k : Qt w W) => sorted_any r rs vr gr offr hr hrb N (l.drop (l.length / 2)) _ g (off + l.length / 2) W q2 (by have := (hl.qt k).drop (n := l.length / 2) q3; rw [natI, ← List.map_drop] at this; exact this) (hrs.qt k) (fun i hm => hi i (List.mem_of_mem_drop hm)) (hp.sublist (List.drop_sublist _ _)))
      have HI := Lib.hid hi
      have HP := Lib.hid hp
      clear hl hrs ha hi hp q1 q2 q3
      go_enter Tryz.func69, Tryz.ntmps69
      go_wp2_with fail
      refine IH1.out.mono ?_
      rintro e w1 ⟨va, ga, oa, la, rfl, hva, hsa, k1, _⟩
      have K1 := Lib.hid k1
      have VA := Lib.hid hva
      have SA := Lib.hid hsa
      clear k1 hva hsa
      go_wp2_with fail
      refine (IH2.out _ K1.out).mono ?_
      rintro e w2 ⟨vb, gb, ob, lb, rfl, hvb, hsb, k2, _⟩
      have K2 := Lib.hid (Qt.trans K1.out k2)
      have VA2 := Lib.hid (VA.out.qt k2)
      have VB := Lib.hid hvb
      have SB := Lib.hid hsb
      clear k2 hvb hsb
      obtain ⟨i0, hi0, hz0, hz1, hz2⟩ := info_parts infoInt
      have HA := Lib.hid (fun W (k : Since w2.heap.size w2 W) => VA2.out.since k)
      have HB := Lib.hid (fun W (k : Since w2.heap.size w2 W) => VB.out.since k)
      have HR := Lib.hid (fun W (k : Since w2.heap.size w2 W) => (HRS.out w2 K2.out).since k)
      obtain ⟨aa, ca, rfl, haa⟩ := VA.out.val
      obtain ⟨ab, cb, rfl, hab⟩ := VB.out.val
      obtain ⟨ar, cr, rfl, har⟩ := (HRS.out w2 K2.out).val
      have hla := VA.out.le
      have hlb := VB.out.le
      have HAA := Lib.hid haa
      have HAB := Lib.hid hab
      have HAR := Lib.hid har
      rw [natI_length] at hla hlb HA HB ⊢
      rw [natI_length]
      clear haa hab har
      have HLL := Lib.hid (show la.length + lb.length ≤ 17592186044416 by
        have e1 := SA.out.perm.length_eq; have e2 := SB.out.perm.length_eq; rw [List.length_take] at e1; rw [List.length_drop] at e2; omega)
      go_wp2
      go_loopw [7, 8, 9] (fun vo vi vj wr => MergeAt r la lb w2 vo vi vj wr) (fun _ vi vj _ => la.length + lb.length - ((intOf vi).toNat + (intOf vj).toNat))
      case atStart => exact ⟨0, 0, [], Nat.zero_le _, Nat.zero_le _, rfl, rfl, rfl, ⟨World.ownsRow_nil _ _ _ _, fun g h => by simp [Value.ownBlock] at h⟩, Keeps.refl _ _, rfl⟩
      case round =>
        obtain ⟨i, j, out, hil, hjl, rfl, rfl, hol, hn, hS, hm⟩ := hrel
        have HN := Lib.hid hn
        have HS := Lib.hid hS
        have HM := Lib.hid hm
        have own3 := hn.own
        rw [natI_length] at own3
        have OWN := Lib.hid own3
        have HOL := Lib.hid hol
        clear hn hS hm own3 hol
        by_cases hj : j < lb.length
        · have hnj : ¬ lb.length ≤ j := by omega
          obtain ⟨y, hy⟩ : ∃ y, lb[j]? = some y := ⟨lb[j], List.getElem?_eq_getElem hj⟩
          have hyr := HI.out y (List.mem_of_mem_drop ((SB.out.perm.mem_iff).1 (List.mem_of_getElem? hy)))
          obtain rfl := HAB.out (fun e => by have := congrArg List.length e; rw [natI_length, List.length_nil] at this; omega)
          have cy := (HB.out wr HS.out).cells j y (natI_get hy)
          by_cases hi : i < la.length
          · obtain ⟨x, hx⟩ : ∃ x, la[i]? = some x := ⟨la[i], List.getElem?_eq_getElem hi⟩
            have hxr := HI.out x (List.mem_of_mem_take ((SA.out.perm.mem_iff).1 (List.mem_of_getElem? hx)))
            obtain rfl := HAA.out (fun e => by have := congrArg List.length e; rw [natI_length, List.length_nil] at this; omega)
            have cx := (HA.out wr HS.out).cells i x (natI_get hx)
            have HIJ := Lib.hid (show out.length + 1 ≤ 17592186044416 by have := HOL.out; have := HLL.out; omega)
            have HIL := Lib.hid (show i < la.length by omega)
            have HJL := Lib.hid (show j ≤ lb.length by omega)
            have HIJ2 := Lib.hid (show i < la.length ∧ j ≤ lb.length by omega)
            have rx := (HR.out wr HS.out).cells x _ (hr.out x hxr)
            have ry := (HR.out wr HS.out).cells y _ (hr.out y hyr)
            obtain rfl := HAR.out (fun e => by have := congrArg List.length e; rw [List.length_nil] at this; omega)
            have b1 := hrb.out x hxr
            have b2 := hrb.out y hyr
            have n1 : (x : Int) < (rs.length : Int) := by omega
            have n2 : (y : Int) < (rs.length : Int) := by omega
            have n3 : (i : Int) < (la.length : Int) := by omega
            have n4 : (j : Int) < (lb.length : Int) := by omega
            by_cases hc : r y ≤ r x
            · have HX := Lib.hid (merge_left HM.out hx hy hc)
              clear hx hy hxr hyr b1 b2
              go_upto_region 8 with (fail)
              go_cut [64] from 38 to 64 (fun t wx => (∃ n, wx = wr.drewN n) ∧ t = .bool true)
              case first =>
                go_quiet (fail)
                go_wp2
                go_meet
                exact ⟨⟨_, rfl⟩, rfl⟩
              case rest =>
                obtain ⟨⟨n8, rfl⟩, rfl⟩ := hcut
                have c3 := ((Qt.refl wr).drewN n8).cellv cx
                have OW := Lib.hid (ownsRow_kept OWN.out (Keeps.drewN (Keeps.refl (fun _ => False) wr) n8) (fun _ _ h => h))
                have KQ := Lib.hid ((Qt.refl wr).drewN n8)
                clear cy rx ry cx OWN hnj hc hj hi n1 n2 n4
                generalize wr.drewN n8 = w3 at *
                go_wp2_with (at_builtin; refine wpList_append_cells0 _ rfl _ _ 25 rfl 3 i0 (.int .i64 0) 1 8 Tryz.underlying25 hi0 hz0 hz1 hz2 rfl (by decide) _ out.length _ rfl (OW.out.alloc _) ⟨w3.heap.size, 0, none⟩ 1 1 [intV (x : Nat)] rfl rfl (World.news_of_block (cs := #[intV (x : Nat)]) (heap_alloc_new _ _)) (intV_one [_]) (by have := HIJ.out; unfold maxLen; omega) (by have := HIJ.out; omega) ?_)
                intro v' W4 hown4 hgrow4 hlat4 _
                have fin := Lib.hid (new_more HN.out HS.out (KQ.out.alloc _) hgrow4 hlat4 hown4)
                clear hown4 hgrow4 hlat4
                go_wp2
                go_roundw
                case rel => exact ⟨i + 1, j, out ++ [x], by have := HIL.out; omega, HJL.out, by go_num, rfl, by have := HOL.out; simp; omega, fin.out.1, fin.out.2, HX.out⟩
                case measure => have := HIJ2.out; simp [intOf]; omega
            · have HX := Lib.hid (merge_right HM.out hx hy hc)
              have HIL := Lib.hid (show i ≤ la.length by omega)
              have HJL := Lib.hid (show j < lb.length by omega)
              have HIJ2 := Lib.hid (show i ≤ la.length ∧ j < lb.length by omega)
              clear hx hy hxr hyr b1 b2
              go_upto_region 8 with (fail)
              go_cut [64] from 38 to 64 (fun t wx => (∃ n, wx = wr.drewN n) ∧ t = .bool false)
              case first =>
                go_quiet (fail)
                go_wp2
                go_meet
                exact ⟨⟨_, rfl⟩, rfl⟩
              case rest =>
                obtain ⟨⟨n8, rfl⟩, rfl⟩ := hcut
                have c3 := ((Qt.refl wr).drewN n8).cellv cy
                have OW := Lib.hid (ownsRow_kept OWN.out (Keeps.drewN (Keeps.refl (fun _ => False) wr) n8) (fun _ _ h => h))
                have KQ := Lib.hid ((Qt.refl wr).drewN n8)
                clear cy rx ry cx OWN hnj hc hj hi n1 n2 n3
                generalize wr.drewN n8 = w3 at *
                go_wp2_with (at_builtin; refine wpList_append_cells0 _ rfl _ _ 25 rfl 3 i0 (.int .i64 0) 1 8 Tryz.underlying25 hi0 hz0 hz1 hz2 rfl (by decide) _ out.length _ rfl (OW.out.alloc _) ⟨w3.heap.size, 0, none⟩ 1 1 [intV (y : Nat)] rfl rfl (World.news_of_block (cs := #[intV (y : Nat)]) (heap_alloc_new _ _)) (intV_one [_]) (by have := HIJ.out; unfold maxLen; omega) (by have := HIJ.out; omega) ?_)
                intro v' W4 hown4 hgrow4 hlat4 _
                have fin := Lib.hid (new_more HN.out HS.out (KQ.out.alloc _) hgrow4 hlat4 hown4)
                clear hown4 hgrow4 hlat4
                go_wp2
                go_roundw
                case rel => exact ⟨i, j + 1, out ++ [y], HIL.out, by have := HJL.out; omega, rfl, by go_num, by have := HOL.out; simp; omega, fin.out.1, fin.out.2, HX.out⟩
                case measure => have := HIJ2.out; simp [intOf]; omega
          · have HX := Lib.hid (merge_over HM.out (by omega) hy)
            have HIJ := Lib.hid (show out.length + 1 ≤ 17592186044416 by have := HOL.out; have := HLL.out; omega)
            have HIL := Lib.hid (show i ≤ la.length by omega)
            have HJL := Lib.hid (show j < lb.length by omega)
            have HIJ2 := Lib.hid (show i ≤ la.length ∧ j < lb.length by omega)
            have n4 : (j : Int) < (lb.length : Int) := by omega
            clear hy hyr
            go_upto_region 8 with (fail)
            go_cut [64] from 38 to 64 (fun t wx => (∃ n, wx = wr.drewN n) ∧ t = .bool false)
            case first =>
              go_quiet (fail)
              go_wp2
              go_meet
              exact ⟨⟨_, rfl⟩, rfl⟩
            case rest =>
              obtain ⟨⟨n8, rfl⟩, rfl⟩ := hcut
              have c3 := ((Qt.refl wr).drewN n8).cellv cy
              have OW := Lib.hid (ownsRow_kept OWN.out (Keeps.drewN (Keeps.refl (fun _ => False) wr) n8) (fun _ _ h => h))
              have KQ := Lib.hid ((Qt.refl wr).drewN n8)
              clear cy OWN hnj hj hi
              generalize wr.drewN n8 = w3 at *
              go_wp2_with (at_builtin; refine wpList_append_cells0 _ rfl _ _ 25 rfl 3 i0 (.int .i64 0) 1 8 Tryz.underlying25 hi0 hz0 hz1 hz2 rfl (by decide) _ out.length _ rfl (OW.out.alloc _) ⟨w3.heap.size, 0, none⟩ 1 1 [intV (y : Nat)] rfl rfl (World.news_of_block (cs := #[intV (y : Nat)]) (heap_alloc_new _ _)) (intV_one [_]) (by have := HIJ.out; unfold maxLen; omega) (by have := HIJ.out; omega) ?_)
              intro v' W4 hown4 hgrow4 hlat4 _
              have fin := Lib.hid (new_more HN.out HS.out (KQ.out.alloc _) hgrow4 hlat4 hown4)
              clear hown4 hgrow4 hlat4
              go_wp2
              go_roundw
              case rel => exact ⟨i, j + 1, out ++ [y], HIL.out, by have := HJL.out; omega, rfl, by go_num, by have := HOL.out; simp; omega, fin.out.1, fin.out.2, HX.out⟩
              case measure => have := HIJ2.out; simp [intOf]; omega
        · obtain rfl : j = lb.length := by omega
          by_cases hi : i < la.length
          · obtain ⟨x, hx⟩ : ∃ x, la[i]? = some x := ⟨la[i], List.getElem?_eq_getElem hi⟩
            have hxr := HI.out x (List.mem_of_mem_take ((SA.out.perm.mem_iff).1 (List.mem_of_getElem? hx)))
            obtain rfl := HAA.out (fun e => by have := congrArg List.length e; rw [natI_length, List.length_nil] at this; omega)
            have cx := (HA.out wr HS.out).cells i x (natI_get hx)
            have HIJ := Lib.hid (show out.length + 1 ≤ 17592186044416 by have := HOL.out; have := HLL.out; omega)
            have HIL := Lib.hid (show i < la.length by omega)
            have HJL := Lib.hid (show lb.length ≤ lb.length by omega)
            have HIJ2 := Lib.hid (show i < la.length ∧ lb.length ≤ lb.length by omega)
            have HX := Lib.hid (merge_under HM.out hx)
            have n3 : (i : Int) < (la.length : Int) := by omega
            clear hx hxr
            go_upto_region 8 with (fail)
            go_cut [64] from 38 to 64 (fun t wx => (∃ n, wx = wr.drewN n) ∧ t = .bool true)
            case first =>
              go_quiet (fail)
              go_wp2
              go_meet
              exact ⟨⟨_, rfl⟩, rfl⟩
            case rest =>
              obtain ⟨⟨n8, rfl⟩, rfl⟩ := hcut
              have c3 := ((Qt.refl wr).drewN n8).cellv cx
              have OW := Lib.hid (ownsRow_kept OWN.out (Keeps.drewN (Keeps.refl (fun _ => False) wr) n8) (fun _ _ h => h))
              have KQ := Lib.hid ((Qt.refl wr).drewN n8)
              clear cx OWN hj hi
              generalize wr.drewN n8 = w3 at *
              go_wp2_with (at_builtin; refine wpList_append_cells0 _ rfl _ _ 25 rfl 3 i0 (.int .i64 0) 1 8 Tryz.underlying25 hi0 hz0 hz1 hz2 rfl (by decide) _ out.length _ rfl (OW.out.alloc _) ⟨w3.heap.size, 0, none⟩ 1 1 [intV (x : Nat)] rfl rfl (World.news_of_block (cs := #[intV (x : Nat)]) (heap_alloc_new _ _)) (intV_one [_]) (by have := HIJ.out; unfold maxLen; omega) (by have := HIJ.out; omega) ?_)
              intro v' W4 hown4 hgrow4 hlat4 _
              have fin := Lib.hid (new_more HN.out HS.out (KQ.out.alloc _) hgrow4 hlat4 hown4)
              clear hown4 hgrow4 hlat4
              go_wp2
              go_roundw
              case rel => exact ⟨i + 1, lb.length, out ++ [x], by have := HIL.out; omega, HJL.out, by go_num, rfl, by have := HOL.out; simp; omega, fin.out.1, fin.out.2, HX.out⟩
              case measure => have := HIJ2.out; simp [intOf]; omega
          · obtain rfl : i = la.length := by omega
            have HX := Lib.hid (merge_end HM.out)
            have HF := Lib.hid (sorted_end (gi := g) HP.out SA.out SB.out HX.out HN.out (by have e1 := SA.out.perm.length_eq; have e2 := SB.out.perm.length_eq; rw [List.length_take] at e1; rw [List.length_drop] at e2; have := HOL.out; omega) (Qt.trans K2.out HS.out.qt) K2.out.size)
            clear hi hj
            go_wp2
            go_ret
            exact HF.out
end Go.Proofs.YtjjlpjfojgkpkaaGreatDoor
namespace Go.Proofs.YtjjlpjfojgkpkaaGreatDoor
open Go.RowKit Go.WideShapes
set_option maxRecDepth 100000

set_option maxHeartbeats 1600000 in
theorem byRest_any (r : Nat → Nat) (rs : List Int) (v : Value) (gr offr : Nat) (w : World) (hr : Hid (∀ i, i < rs.length → rs[i]? = some (r i : Int))) (hrb : Hid (∀ i, i < rs.length → r i < 18446744073709551616)) (hrs : IntsAt .u64 w v gr offr rs) :
    Calls Tryz.prog 44 #[v] w fun e w' => ∃ v' g' off' o, e = .returned v' ∧ IntsAt .i64 w' v' g' off' (natI o) ∧ M.Sorted r rs.length o ∧ Qt w w' ∧ w.heap.size ≤ g' := by
  have hle := hrs.le
  have HR := Lib.hid (fun W (q : Qt w W) => hrs.qt q)
  obtain ⟨a, cap, rfl, ha⟩ := hrs.val
  obtain ⟨i0, hi, hz0, hz1, hz2⟩ := info_parts infoInt
  clear hrs ha
  go_enter Tryz.func44, Tryz.ntmps44
  go_wp2
  go_loopw [3, 4] (fun va i wr => ∃ k : Nat, k ≤ rs.length ∧ i = .int .i64 k ∧ NewInts w.heap.size wr va (natI (List.range k)) ∧ Since w.heap.size w wr) (fun _ i _ => rs.length - (intOf i).toNat)
  case atStart => exact ⟨0, Nat.zero_le _, rfl, ⟨World.ownsRow_nil _ _ _ _, fun g h => by cases h⟩, Keeps.refl _ _⟩
  case round =>
    obtain ⟨k, hk, rfl, hn, hS⟩ := hrel
    have HN := Lib.hid hn
    have HS := Lib.hid hS
    by_cases hlt : k < rs.length
    · have OW := Lib.hid (show wr.ownsRow 0 3 1 _ k ((natI (List.range k)).map intV) from by have := hn.own; rw [natI_length, List.length_range] at this; exact this)
      clear hn hS
      go_wp2_with (at_builtin; refine wpList_append_cells0 _ rfl _ _ 25 rfl 3 i0 (.int .i64 0) 1 8 Tryz.underlying25 hi hz0 hz1 hz2 rfl (by decide) _ k _ rfl (OW.out.alloc _) ⟨wr.heap.size, 0, none⟩ 1 1 [intV (k : Nat)] rfl rfl (World.news_of_block (cs := #[intV (k : Nat)]) (heap_alloc_new _ _)) (intV_one [_]) (by unfold maxLen; omega) (by omega) ?_)
      intro v' W4 hown4 hgrow4 hlat4 _
      have fin := Lib.hid (new_more HN.out HS.out ((Qt.refl wr).alloc _) hgrow4 hlat4 (by rw [List.length_range]; exact hown4))
      rw [← List.range_succ] at fin
      clear hown4 hgrow4 hlat4
      go_wp2
      go_roundw
      case rel => exact ⟨k + 1, hlt, by go_num, fin.out.1, fin.out.2⟩
      case measure => simp [intOf]; omega
    · obtain rfl : k = rs.length := by omega
      obtain ⟨g1, hg1, I1⟩ := hn.ints (by rw [natI_length, List.length_range]; exact hle)
      have SO := Lib.hid (sorted_any r rs _ gr offr hr hrb rs.length (List.range rs.length) _ g1 0 wr (by rw [List.length_range]; exact Nat.le_refl _) I1 (HR.out wr HS.out.qt) (fun i hm => List.mem_range.1 hm) (List.pairwise_lt_range (n := rs.length)))
      have HG := Lib.hid hg1
      clear hn hS I1 hg1 hlt
      go_wp2_with fail
      refine (SO.out).mono ?_
      rintro e w2 ⟨v', g', off', o, rfl, h1, h2, h3, h4⟩
      have F := Lib.hid (show ∃ v'' g' off' o, Ending.returned v' = .returned v'' ∧ IntsAt .i64 w2 v'' g' off' (natI o) ∧ M.Sorted r rs.length o ∧ Qt w w2 ∧ w.heap.size ≤ g' from
        ⟨v', g', off', o, rfl, h1, h2.row, Qt.trans HS.out.qt h3, by
          have e1 := HG.out
          have e2 := HS.out.size
          rcases h4 with rfl | h4 <;> omega⟩)
      clear h1 h2 h3 h4
      go_wp2
      go_ret
      exact F.out
end Go.Proofs.YtjjlpjfojgkpkaaGreatDoor
namespace Go.Proofs.YtjjlpjfojgkpkaaGreatDoor
open Go.RowKit Go.WideShapes
set_option maxRecDepth 100000

abbrev uintV (x : Int) : Value := .int .u64 x
/-- A row of numbers without a sign that the call has made. -/
structure NewU (B : Nat) (w : World) (v : Value) (xs : List Int) : Prop where
  own : w.ownsRow 0 56 1 v xs.length (xs.map uintV)
  new : ∀ g, v.ownBlock = some g → B ≤ g
theorem NewU.at {B : Nat} {w : World} {v : Value} {xs : List Int} (h : NewU B w v xs) (hl : xs.length ≤ 17592186044416) : ∃ g, IntsAt .u64 w v g 0 xs := by
  rcases h.own.2 with ⟨rfl, h0⟩ | ⟨g, cap, cur, rfl, _, hg, hn, _⟩
  · obtain rfl := List.eq_nil_of_length_eq_zero h0
    exact ⟨0, ⟨none, 0, rfl, fun e => absurd rfl e⟩, by simp, fun a n c e => by injection e with _ e2 e3; omega, fun i x hx => by simp at hx⟩
  · refine ⟨g, ⟨some ⟨g, 0, none⟩, cap, rfl, fun _ => rfl⟩, hl, fun a n c e => by injection e with _ e2 e3; omega, fun i x hx => ?_⟩
    have := h.own.cells (g := g) rfl i (.int .u64 x) (by rw [List.getElem?_map, hx]; rfl)
    rw [add_plain] at this
    exact this

/-- The second loop: the shares and the rests of the first k places. -/
def RLay (A W : Nat) (ws : List Int) (w : World) (vo vr vl vi : Value) (wr : World) : Prop :=
  ∃ k : Nat, k ≤ ws.length ∧ vi = .int .i64 k ∧ vl = .int .i64 ((A - M.sumTo (M.quo A W (M.wAt ws)) k : Nat) : Int) ∧
    NewL 2 w.heap.size wr vo (M.quos A W ws k) ∧ NewU w.heap.size wr vr (M.rems A W ws k) ∧ (∀ g, vo.ownBlock = some g → vr.ownBlock ≠ some g) ∧ Since w.heap.size w wr
theorem quos_succ (A W : Nat) (ws : List Int) (k : Nat) : M.quos A W ws (k + 1) = M.quos A W ws k ++ [(M.quo A W (M.wAt ws) k : Int)] := by simp [M.quos, List.range_succ]
theorem rems_succ (A W : Nat) (ws : List Int) (k : Nat) : M.rems A W ws (k + 1) = M.rems A W ws k ++ [(M.rem A W (M.wAt ws) k : Int)] := by simp [M.rems, List.range_succ]
theorem quos_len (A W : Nat) (ws : List Int) (k : Nat) : (M.quos A W ws k).length = k := by simp [M.quos]
theorem rems_len (A W : Nat) (ws : List Int) (k : Nat) : (M.rems A W ws k).length = k := by simp [M.rems]
theorem later_old {w : World} {r r' : Option Nat} (h : Later w r r') {g : Nat} (hg : r' = some g) : r = some g ∨ w.heap.size ≤ g := by
  rcases h with e | ⟨g', e, he⟩
  · left; rw [← e]; exact hg
  · right; rw [e] at hg; injection hg with hg; omega
/-- A share appended. -/
theorem lay_one {A W k : Nat} {ws : List Int} {w wr W1 : World} {vo v1 vr : Value} {o : Obj} (h : NewL 2 w.heap.size wr vo (M.quos A W ws k)) (u : NewU w.heap.size wr vr (M.rems A W ws k)) (ha : ∀ g, vo.ownBlock = some g → vr.ownBlock ≠ some g) (hS : Since w.heap.size w wr)
    (hown : W1.ownsRow 0 2 1 v1 (k + 1) ((M.quos A W ws k).map intV ++ [intV (M.quo A W (M.wAt ws) k : Nat)])) (hg : (wr.alloc o).grownBy W1 vo.ownBlock) (hl : Later (wr.alloc o) vo.ownBlock v1.ownBlock) :
    NewL 2 w.heap.size W1 v1 (M.quos A W ws (k + 1)) ∧ NewU w.heap.size W1 vr (M.rems A W ws k) ∧ (∀ g, v1.ownBlock = some g → vr.ownBlock ≠ some g) ∧ Since w.heap.size w W1 := by
  have hs := hS.size
  refine ⟨⟨?_, fun g e => ?_⟩, ⟨ownsRow_kept u.own (Keeps.grown (S := fun j => some j = vo.ownBlock) ((Keeps.refl _ wr).alloc o) hg (fun j _ e => e)) (fun g e s => ha g s.symm e), u.new⟩, fun g e e2 => ?_, Keeps.grown (hS.alloc o) hg (fun j hj e => h.new j e.symm)⟩
  · rw [quos_len, quos_succ, List.map_append]
    exact hown
  · rcases later_old hl e with e | e
    · exact h.new g e
    · rw [World.size_alloc] at e; omega
  · rcases later_old hl e with e | e
    · exact ha g e e2
    · have := ownsRow_lt u.own e2
      rw [World.size_alloc] at e; omega
/-- .. and a rest. -/
theorem lay_two {A W k : Nat} {ws : List Int} {w wr W1 : World} {vo v1 vr : Value} {o : Obj} (h : NewL 2 w.heap.size wr vo (M.quos A W ws (k + 1))) (u : NewU w.heap.size wr vr (M.rems A W ws k)) (ha : ∀ g, vo.ownBlock = some g → vr.ownBlock ≠ some g) (hS : Since w.heap.size w wr)
    (hown : W1.ownsRow 0 56 1 v1 (k + 1) ((M.rems A W ws k).map uintV ++ [uintV (M.rem A W (M.wAt ws) k : Nat)])) (hg : (wr.alloc o).grownBy W1 vr.ownBlock) (hl : Later (wr.alloc o) vr.ownBlock v1.ownBlock) :
    NewL 2 w.heap.size W1 vo (M.quos A W ws (k + 1)) ∧ NewU w.heap.size W1 v1 (M.rems A W ws (k + 1)) ∧ (∀ g, vo.ownBlock = some g → v1.ownBlock ≠ some g) ∧ Since w.heap.size w W1 := by
  have hs := hS.size
  refine ⟨h.kept (Keeps.grown (S := fun j => some j = vr.ownBlock) ((Keeps.refl _ wr).alloc o) hg (fun j _ e => e)) (fun g e s => ha g e s.symm), ⟨?_, fun g e => ?_⟩, fun g e e2 => ?_, Keeps.grown (hS.alloc o) hg (fun j hj e => u.new j e.symm)⟩
  · rw [rems_len, rems_succ, List.map_append]
    exact hown
  · rcases later_old hl e with e | e
    · exact u.new g e
    · rw [World.size_alloc] at e; omega
  · rcases later_old hl e2 with e2 | e2
    · exact ha g e e2
    · have := ownsRow_lt h.own e
      rw [World.size_alloc] at e2; omega
/-- The third loop. -/
def RGive (f : Nat → Nat) (n : Nat) (o : List Nat) (w : World) (vo vp : Value) (g' off' : Nat) (j : Value) (lf : Nat) (wr : World) : Prop :=
  ∃ m : Nat, m ≤ lf ∧ j = .int .i64 m ∧ NewL 2 w.heap.size wr vo (M.given f n o m) ∧ IntsAt .i64 wr vp g' off' (natI o) ∧ Since w.heap.size w wr
/-- What the document's Split answers. -/
def RSplitV (a : Int) (ws : List Int) (w : World) (e : Ending) (w' : World) : Prop :=
  ∃ v, e = .returned (.tuple #[v, .int .i64 (M.splitE a ws : Nat)]) ∧ Qt w w' ∧ NewL 2 w.heap.size w' v (ansS a ws)
theorem rsplit_no {a : Int} {ws : List Int} {w w' : World} {n : Nat} (h : M.splitE a ws = n) (h0 : n ≠ 0) (q : Qt w w') : RSplitV a ws w (.returned (.tuple #[.slice none 0 0, .int .i64 (n : Nat)])) w' := by
  refine ⟨_, by rw [h], q, ?_⟩
  unfold ansS
  rw [if_neg (by rw [h]; exact h0)]
  exact ⟨World.ownsRow_nil _ _ _ _, fun g e => by cases e⟩
set_option maxHeartbeats 6400000 in
theorem refSplit_any (a : Int) (v : Value) (g off : Nat) (ws : List Int) (w : World) (a0 : -9223372036854775808 ≤ a) (a1 : a < 9223372036854775808) (hv : IntsAt .i64 w v g off ws) (hl : ws.length ≤ 1099511627776) :
    Calls Tryz.prog 21 #[.int .i64 a, v] w (RSplitV a ws w) := by
  by_cases ha : a < 0
  · have FN := Lib.hid (rsplit_no (a := a) (ws := ws) (w := w) (n := 9) (if_pos ha) (by decide) (Qt.refl w))
    obtain ⟨p, cap, rfl, hp⟩ := hv.val
    clear hv hp
    go_enter Tryz.func21, Tryz.ntmps21
    go_wp2
    go_ret2
    exact FN.out
  · obtain ⟨A, rfl⟩ := Int.eq_ofNat_of_zero_le (show 0 ≤ a by omega)
    obtain ⟨p, cap, rfl, hp⟩ := hv.val
    have HV := Lib.hid hv
    have HP := Lib.hid hp
    obtain ⟨i0, hi, hz0, hz1, hz2⟩ := info_parts infoI64
    obtain ⟨j0, hj, hj0, hj1, hj2⟩ := info_parts infoU64
    have hA9 : ¬ (A : Int) < 0 := by omega
    have HA1 := Lib.hid a1
    clear hv hp a0 ha a1
    go_enter Tryz.func21, Tryz.ntmps21
    go_wp2
    go_loop [6, 7] (fun s i => ∃ k : Nat, k ≤ ws.length ∧ i = .int .i64 k ∧ s = .int .u64 (M.total ws k : Nat) ∧ ∀ x ∈ ws.take k, 0 ≤ x ∧ x ≤ 1000000) (fun _ i => ws.length - (intOf i).toNat)
    case atStart => exact ⟨0, Nat.zero_le _, rfl, rfl, fun x hx => by simp at hx⟩
    case round =>
      obtain ⟨k, hk, rfl, rfl, hg⟩ := hrel
      by_cases hlt : k < ws.length
      · have hxk : ws[k]? = some ws[k] := List.getElem?_eq_getElem hlt
        have hcx := HV.out.cells k _ hxk
        obtain rfl := HP.out (fun e => by rw [e] at hlt; simp at hlt)
        have hmem : ws[k] ∈ ws := List.getElem_mem _
        have hw := M.wAt_get hlt
        have hts := M.total_succ ws k
        have htk : ws.take (k + 1) = ws.take k ++ [ws[k]] := List.take_succ_eq_append_getElem hlt
        by_cases hbad : ws[k] < 0 ∨ 1000000 < ws[k]
        · have hany : ws.any M.badW = true := List.any_eq_true.2 ⟨_, hmem, by simpa [M.badW] using hbad⟩
          have FN := Lib.hid (rsplit_no (a := (A : Int)) (ws := ws) (w := w) (n := 6) (by unfold M.splitE; rw [if_neg (by omega), if_pos (.inl hany)]) (by decide) (Qt.refl w))
          generalize ws[k] = x at *
          clear hany hmem hw hts htk hg hxk
          rcases hbad with hb | hb
          · go_wp2
            go_ret2
            exact FN.out
          · have hb0 : 0 ≤ x := by omega
            go_wp2
            go_ret2
            exact FN.out
        · have hb0 : 0 ≤ ws[k] := by omega
          have hb1 : ws[k] ≤ 1000000 := by omega
          have hbd : M.total ws k ≤ 1099511627776000000 := by
            have h1 : ∀ j, j ≤ k → M.total ws j ≤ 1000000 * j := by
              intro j
              induction j with
              | zero => intro _; exact Nat.le_refl _
              | succ j ih =>
                intro hj
                have := ih (by omega)
                have hx := hg ws[j] (by rw [List.mem_iff_getElem]; exact ⟨j, by rw [List.length_take]; omega, by rw [List.getElem_take]⟩)
                rw [M.total_succ, M.wAt_get (by omega)]
                omega
            have := h1 k (Nat.le_refl _)
            omega
          have hw2 : (M.wAt ws k : Int) = ws[k] := by rw [hw]; omega
          have HG := Lib.hid (show ∀ x ∈ ws.take (k + 1), 0 ≤ x ∧ x ≤ 1000000 by
            intro x hx
            rw [htk] at hx
            rcases List.mem_append.1 hx with h | h
            · exact hg x h
            · rw [List.mem_singleton.1 h]; exact ⟨hb0, hb1⟩)
          have HT := Lib.hid (show (M.total ws k : Int) + ws[k] = (M.total ws (k + 1) : Nat) by rw [hts]; omega)
          generalize ws[k] = x at *
          generalize M.total ws k = t0 at *
          clear hbad hmem hw hts htk hg hxk hw2
          have d1 : decide (x < 0) = false := decide_eq_false (by omega)
          have d2 : decide (1000000 < x) = false := decide_eq_false (by omega)
          have HB0 := Lib.hid hb0
          have HB1 := Lib.hid hb1
          have HBD := Lib.hid hbd
          clear hb0 hb1 hbd
          go_upto_region 7 with (fail)
          go_upto_region 9 with (fail)
          have hb0 := HB0.out
          have hb1 := HB1.out
          have hbd := HBD.out
          go_wp2
          go_round
          case rel => exact ⟨k + 1, hlt, by go_num, by rw [HT.out], HG.out⟩
          case measure => simp [intOf]; omega
      · obtain rfl : k = ws.length := by omega
        rw [List.take_length] at hg
        have hany : ¬ ws.any M.badW = true := by
          intro h
          obtain ⟨x, hx, hbx⟩ := List.any_eq_true.1 h
          have := hg x hx
          simp only [M.badW, Bool.or_eq_true, decide_eq_true_eq] at hbx
          omega
        have hbd := M.total_bound ws hg ws.length (Nat.le_refl _)
        by_cases h0 : M.total ws ws.length = 0
        · have FN := Lib.hid (rsplit_no (a := (A : Int)) (ws := ws) (w := w) (n := 6) (by unfold M.splitE; rw [if_neg (by omega), if_pos (.inr h0)]) (by decide) (Qt.refl w))
          rw [h0]
          clear hany hg hbd h0
          go_wp2
          go_ret2
          exact FN.out
        · have b0 : ((M.total ws ws.length : Int) == 0) = false := by rw [beq_eq_false_iff_ne]; omega
          have e0 : M.splitE (A : Int) ws = 0 := by unfold M.splitE; rw [if_neg (by omega), if_neg (fun h => h.elim hany h0)]
          have hn0 : 0 < ws.length := by
            rcases Nat.eq_zero_or_pos ws.length with h | h
            · rw [h] at h0; exact absurd rfl h0
            · exact h
          obtain ⟨n, hn⟩ : ∃ n, ws.length = n := ⟨_, rfl⟩
          obtain ⟨W, hW⟩ : ∃ W, M.total ws ws.length = W := ⟨_, rfl⟩
          have HSP := Lib.hid (show M.Split A n W (M.wAt ws) from ⟨by rw [← hn]; exact hW, by omega⟩)
          have hnb : n ≤ 1099511627776 := by omega
          have HG := Lib.hid hg
          have HWb := Lib.hid (show W ≤ 1099511627776000000 by omega)
          have FN := Lib.hid (fun w' vo (q : Qt w w') (h : NewL 2 w.heap.size w' vo (M.shares A W ws)) => show RSplitV (A : Int) ws w (.returned (.tuple #[vo, .int .i64 0])) w' from
            ⟨_, by rw [e0]; rfl, q, by unfold ansS; rw [if_pos e0, hW]; exact h⟩)
          obtain rfl := HP.out (fun e => by rw [e] at hn0; simp at hn0)
          rw [hW] at b0 ⊢
          clear hany hbd h0 hg e0 hlt hW hk
          go_wp2_with fail
          go_loopw [8, 9, 10, 11] (fun vo vr vl vi wr => RLay A W ws w vo vr vl vi wr) (fun _ _ _ vi _ => n - (intOf vi).toNat)
          case atStart => exact ⟨0, Nat.zero_le _, rfl, rfl, ⟨World.ownsRow_nil _ _ _ _, fun g e => by cases e⟩, ⟨World.ownsRow_nil _ _ _ _, fun g e => by cases e⟩, (fun g e => by cases e), Keeps.refl _ _⟩
          case round =>
            obtain ⟨k, hk, rfl, rfl, hL, hU, hap, hS⟩ := hrel
            have HNL := Lib.hid hL
            have HNU := Lib.hid hU
            have HAP := Lib.hid hap
            have HS := Lib.hid hS
            rw [hn] at hk
            have HN := Lib.hid hn
            by_cases hlt : k < n
            · have hlt' : k < ws.length := by omega
              have hcx := (HV.out.since hS).cells k _ (List.getElem?_eq_getElem hlt')
              have hmem : ws[k] ∈ ws := List.getElem_mem _
              have hgx := HG.out _ hmem
              have hw : (M.wAt ws k : Int) = ws[k] := by rw [M.wAt_get hlt']; omega
              rw [← hw] at hcx hgx
              have hwW : M.wAt ws k ≤ W := by rw [← HSP.out.sum]; exact M.sumTo_le _ n k hlt
              have hqA := M.quo_left HSP.out hlt
              have hA1 := HA1.out
              have hAW : A < 9223372036854775808 := by omega
              have hWb := HWb.out
              have hpos := HSP.out.pos
              have hqx : A * M.wAt ws k / W ≤ A := Nat.div_le_of_le_mul (by rw [Nat.mul_comm W A]; exact Nat.mul_le_mul_left _ hwW)
              have TI := Lib.hid (fun Wd => times_any A (M.wAt ws k) W Wd (by omega) (by omega) hpos (by omega) (by omega))
              have HLF := Lib.hid (show A - M.sumTo (M.quo A W (M.wAt ws)) (k + 1) = A - M.sumTo (M.quo A W (M.wAt ws)) k - A * M.wAt ws k / W from M.left_step)
              have ow1 := hL.own
              rw [quos_len] at ow1
              have OW1 := Lib.hid ow1
              have LO := Lib.hid (fun (o : Obj) (v1 : Value) (W1 : World) (h1 : W1.ownsRow 0 2 1 v1 (k + 1) ((M.quos A W ws k).map intV ++ [intV (A * M.wAt ws k / W : Nat)])) (h2 : (wr.alloc o).grownBy W1 _) (h3 : Later (wr.alloc o) _ v1.ownBlock) => lay_one (o := o) HNL.out HNU.out HAP.out HS.out h1 h2 h3)
              obtain ⟨q0, hq0⟩ : ∃ q0, A * M.wAt ws k / W = q0 := ⟨_, rfl⟩
              obtain ⟨r0, hr0⟩ : ∃ r0, A * M.wAt ws k % W = r0 := ⟨_, rfl⟩
              obtain ⟨l0, hl0⟩ : ∃ l0, A - M.sumTo (M.quo A W (M.wAt ws)) k = l0 := ⟨_, rfl⟩
              have hl0A : l0 ≤ A := by omega
              rw [hq0, hr0] at TI
              rw [hq0] at LO hqx
              rw [hq0, hl0] at HLF hqA
              rw [hl0]
              have HQ0 := Lib.hid hq0
              have HR0 := Lib.hid hr0
              obtain ⟨x, hx⟩ : ∃ x, M.wAt ws k = x := ⟨_, rfl⟩
              rw [hx] at hcx hgx TI
              have hx1 : (x : Int) ≤ 1000000 := hgx.2
              have hq0A : q0 < 9223372036854775808 := Nat.lt_of_le_of_lt (Nat.le_trans hqA hl0A) hAW
              have W1 := wrapU_nat hAW
              have W2 := wrap64_nat hq0A
              have W3 := wrap64_nat (a := l0 - q0) (Nat.lt_of_le_of_lt (Nat.le_trans (Nat.sub_le _ _) hl0A) hAW)
              have W3' := sub_nat hqA
              clear hmem hgx hw hwW hqA hq0A hq0 hr0 hl0 hl0A hx hAW hk hlt' hL hU hap hS hA1 hWb hpos hqx ow1 hn
              go_wp2_with fail
              refine (TI.out _).mono ?_
              rintro e w2 ⟨rfl, rfl⟩
              go_wp2_with (at_builtin; refine wpList_append_cells0 _ rfl _ _ 24 rfl 2 i0 (.int .i64 0) 1 8 Tryz.underlying24 hi hz0 hz1 hz2 rfl (by decide) _ k _ rfl (OW1.out.alloc _) ⟨wr.heap.size, 0, none⟩ 1 1 [intV (q0 : Nat)] rfl rfl (World.news_of_block (cs := #[intV (q0 : Nat)]) (heap_alloc_new _ _)) (intV_one [_]) (by unfold maxLen; omega) (by omega) ?_)
              intro v1 w3 hown3 hgrow3 hlat3 _
              obtain ⟨n1, u1, ap1, s1⟩ := LO.out _ _ _ hown3 hgrow3 hlat3
              have ow2 := u1.own
              rw [rems_len] at ow2
              have OW2 := Lib.hid ow2
              have LT := Lib.hid (fun (o : Obj) (v2 : Value) (W2 : World) (h1 : W2.ownsRow 0 56 1 v2 (k + 1) ((M.rems A W ws k).map uintV ++ [uintV (A * M.wAt ws k % W : Nat)])) (h2 : (w3.alloc o).grownBy W2 _) (h3 : Later (w3.alloc o) _ v2.ownBlock) => lay_two (o := o) n1 u1 ap1 s1 h1 h2 h3)
              rw [HR0.out] at LT
              clear hown3 hgrow3 hlat3 n1 u1 ap1 s1 ow2 OW1 LO
              go_wp2_with (at_builtin; refine wpList_append_cells0 _ rfl _ _ 68 rfl 56 j0 (.int .u64 0) 1 8 Tryz.underlying68 hj hj0 hj1 hj2 rfl (by decide) _ k _ rfl (OW2.out.alloc _) ⟨w3.heap.size, 0, none⟩ 1 1 [uintV (r0 : Nat)] rfl rfl (World.news_of_block (cs := #[uintV (r0 : Nat)]) (heap_alloc_new _ _)) (by intro u hu; rw [List.mem_singleton.1 hu]; rfl) (by unfold maxLen; omega) (by omega) ?_)
              intro v2 w4 hown4 hgrow4 hlat4 _
              have FIN := Lib.hid (LT.out _ _ _ hown4 hgrow4 hlat4)
              clear hown4 hgrow4 hlat4 LT OW2
              go_wp2
              go_roundw
              case rel => exact ⟨k + 1, by rw [HN.out]; exact hlt, by go_num, by rw [HLF.out]; exact congrArg (Value.int .i64) W3, FIN.out.1, FIN.out.2.1, FIN.out.2.2.1, FIN.out.2.2.2⟩
              case measure => simp [intOf]; omega
            · obtain rfl : k = n := by omega
              rw [← hn] at hL hU
              obtain ⟨gr, hIr⟩ := hU.at (by rw [rems_len]; omega)
              have BR := Lib.hid (byRest_any (M.rem A W (M.wAt ws)) (M.rems A W ws ws.length) _ gr 0 wr (Lib.hid (fun i hi => by rw [rems_len] at hi; unfold M.rems; rw [List.getElem?_map, List.getElem?_range hi]; rfl)) (Lib.hid (fun i hi => by have h1 : M.rem A W (M.wAt ws) i < W := M.rem_lt HSP.out i; have := HWb.out; omega)) hIr)
              obtain ⟨ao, co, rfl, hco, hao⟩ := hL.shape
              obtain ⟨go, rfl⟩ := hao (fun e => by have := congrArg List.length e; rw [quos_len, List.length_nil] at this; omega)
              rw [quos_len] at HNL hL hco ⊢
              have HLN := Lib.hid hL
              have hlk := M.left_le HSP.out
              have hleft : A - M.sumTo (M.quo A W (M.wAt ws)) k = M.left A k W (M.wAt ws) := rfl
              rw [hleft]
              obtain ⟨lf, hlf⟩ : ∃ lf, M.left A k W (M.wAt ws) = lf := ⟨_, rfl⟩
              have HLF := Lib.hid hlf
              rw [hlf] at hlk ⊢
              have HGO := Lib.hid (hL.lt rfl)
              clear hL hU hap hS hIr hao hleft hlf hlt hk HNL HNU HAP
              rw [hn] at hco ⊢
              clear hn
              go_wp2_with fail
              refine (BR.out).mono ?_
              rintro e w2 ⟨vp, g', off', o, rfl, hIo, hso, k2, hg'⟩
              rw [rems_len, HN.out] at hso
              have hlo : o.length = k := hso.length
              obtain ⟨ap, cp, rfl, hap2⟩ := hIo.val
              obtain rfl := hap2 (fun e => by have := congrArg List.length e; rw [natI_length, hlo, List.length_nil] at this; have := HN.out; omega)
              rw [natI_length, hlo]
              have QW2 : Since w.heap.size w w2 := HS.out.step k2 (fun _ e => e.elim)
              have G0 := Lib.hid (show RGive (M.quo A W (M.wAt ws)) k o w (.slice (some ⟨go, 0, none⟩) k co) (.slice (some ⟨g', off', none⟩) (natI o).length cp) g' off' (.int .i64 0) lf w2 from
                ⟨0, Nat.zero_le _, rfl, by
                  have h := HLN.out.qt k2
                  rw [M.given_zero]
                  rw [HN.out] at h
                  exact h, hIo, QW2⟩)
              have HSO := Lib.hid hso
              have HLO := Lib.hid hlo
              have HGG := Lib.hid (show go < g' from Nat.lt_of_lt_of_le HGO.out.2 hg')
              clear hIo hso hlo hap2 k2 hg' QW2
              go_wp2
              go_loopw [15] (fun j wr => RGive (M.quo A W (M.wAt ws)) k o w (.slice (some ⟨go, 0, none⟩) k co) (.slice (some ⟨g', off', none⟩) (natI o).length cp) g' off' j lf wr) (fun j _ => lf - (intOf j).toNat)
              case atStart => exact G0.out
              case round =>
                obtain ⟨m, hm, rfl, hN, hI, hS⟩ := hrel
                clear G0
                by_cases hlt : m < lf
                · have hmo : m < o.length := by rw [HLO.out]; omega
                  have hon : o[m] < k := HSO.out.mem.1 (List.getElem_mem hmo)
                  have hst := (M.given_step (f := M.quo A W (M.wAt ws)) hmo HSO.out.nodup hon)
                  have c1 := hI.cells m _ (natI_get (List.getElem?_eq_getElem hmo))
                  have c2 := hN.cell hst.1
                  have c3 := hN.frozen o[m]
                  have FINR := Lib.hid (show RGive (M.quo A W (M.wAt ws)) k o w (.slice (some ⟨go, 0, none⟩) k co) (.slice (some ⟨g', off', none⟩) (natI o).length cp) g' off' (.int .i64 ((m : Int) + 1)) lf (wr.setCell ⟨go, o[m], none⟩ (.int .i64 ((M.quo A W (M.wAt ws) o[m] : Int) + 1))) from
                    ⟨m + 1, hlt, rfl, by
                      have h := hN.store (i := o[m]) hon ((M.quo A W (M.wAt ws) o[m] : Int) + 1)
                      rw [hst.2] at h
                      exact h, hI.keeps (Keeps.setCell (S := fun j => j = go) (p := ⟨go, o[m], none⟩) (Keeps.refl _ wr) (fun _ => rfl) _) (fun _ e => by have := HGG.out; omega), hS.setCell (p := ⟨go, o[m], none⟩) (fun _ => hN.new go rfl) _⟩)
                  have hqs : M.quo A W (M.wAt ws) o[m] + 1 ≤ A := by
                    have h1 := M.share_le HSP.out hon
                    have h2 : o[m] ∈ o.take lf := List.mem_iff_getElem.2 ⟨m, by rw [List.length_take]; omega, by rw [List.getElem_take]⟩
                    have h3 := (HSO.out.take lf hon).1 h2
                    unfold M.share at h1
                    rw [HLF.out, if_pos h3] at h1
                    exact h1
                  have hqA2 : A < 9223372036854775808 := by have := HA1.out; omega
                  obtain ⟨at', hat⟩ : ∃ x, o[m] = x := ⟨_, rfl⟩
                  rw [hat] at hon c1 c2 c3 hqs FINR
                  obtain ⟨qa, hqa⟩ : ∃ x, M.quo A W (M.wAt ws) at' = x := ⟨_, rfl⟩
                  rw [hqa] at c2 hqs FINR
                  have W5 := wrap64_succ (Nat.lt_of_le_of_lt hqs hqA2)
                  clear hst hat hqa hN hI hS hmo hqA2 hqs
                  go_wp2
                  go_roundw
                  case rel => exact FINR.out
                  case measure => simp [intOf]; omega
                · obtain rfl : m = lf := by omega
                  have FIN := Lib.hid (FN.out wr (.slice (some ⟨go, 0, none⟩) k co) (Since.qt hS) (by
                    have e2 := M.given_end (a := A) (W := W) (ws := ws) (o := o) (by rw [HN.out]; exact HSO.out)
                    rw [HN.out, HLF.out] at e2
                    rw [← e2]
                    exact hN))
                  clear hN hI hS hlt hm
                  go_wp2
                  go_ret2
                  exact FIN.out
end Go.Proofs.YtjjlpjfojgkpkaaGreatDoor
